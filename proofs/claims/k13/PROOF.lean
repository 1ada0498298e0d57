import PyProof.Rows.All
import Wide.All
import OpenK.AllK
import Wide.FinOn
import Lean
import PyProof.EqAt
import PyProof.EqKinds
import PyProof.TupleCall
import KE.KRevIter
import KE.KIntText
import PyProof.Rows.StrNews
import KE.KSortTup
import PyProof.Rows.SetFrom
import PyProof.WalksMore
import KE.KRevSl
import PyProof.ZipIter
import PyProof.TupleIter
import PyProof.Rows.SortRuns
import PyProof.WalksEnum
import PyProof.EnumMake
import PyProof.SetRoads
import PySem.Challenge.RW_pathask_k13_webs_written_and_read
open List renaming eq_nil_of_length_eq_zero→zaa,getElem?_append_right→zab,getD_eq_getElem?_getD→zac,getElem?_eq_some_iff→zaf,getElem?_append_left→zag,drop_eq_getElem_cons→zah,pairwise_iff_getElem→zai,extract_eq_take_drop→zaj,getElem?_eq_getElem→zam,getElem?_cons_succ→zan,getElem?_cons_zero→zao,eraseIdx_cons_succ→zap,drop_eq_nil_of_le→zaq,take_of_length_le→zar,mem_append_right→zau,getElem?_eq_none→zav,take_append_drop→zaw,perm_append_comm→zax,length_filter_le→zay,filterMap_append→zaz,mem_cons_of_mem→zaC,mem_append_left→zaD,getElem?_set_ne→zaE,pairwise_append→zaF,mem_of_mem_take→zaG,mem_of_mem_drop→zaH,replicate_succ→zaK,getElem_of_mem→zaL,map_congr_left→zaM,length_reverse→zaN,filter_sublist→zaO,mem_cons_self→zaS,mem_filterMap→zaT,length_append→zaU,zip_cons_cons→zaV,mem_singleton→zaW,pairwise_cons→zaX,set_cons_zero→zaY,size_toArray→zbf,any_eq_false→zbg,getElem?_map→zbh,take_sublist→zbi,flatten_cons→zbj,append_assoc→zbk,getElem?_set→zbl,nodup_append→zbm,getElem_drop→zbn,getElem_take→zbo,pairwise_map→zbp,length_range→zbq,length_cons→zbx,length_take→zby,length_drop→zbz,lookup_cons→zbA,all_eq_true→zbB,take_length→zbC,getElem_mem→zbD,not_mem_nil→zbE,cons_append→zbF,map_fst_zip→zbG,map_snd_zip→zbH,any_eq_true→zbI,mem_filter→zbN,mem_append→zbO,length_map→zbP,append_nil→zbQ,nodup_cons→zbR,find?_cons→zbS,length_nil→zbT,nil_append→zbU,map_append→zbV,length_set→zbW,length_zip→zbX,mem_range→zcb,replicate→zcc,lt_irrefl→zcd,mem_cons→zci,map_cons→zcj,any_cons→zck,all_cons→zcl,lt_trans→zcm,map_nil→zcp,any_map→zcq,set_set→zcr,mem_map→zcs,map_map→zct,lookup→zcE,length→zcF,not_lt→zcG,range→zcM,cons→zcN,getD→zcO
open Array renaming perm_iff_toList_perm→zad,toList_setIfInBounds→zae,getElem?_eq_getElem→zak,getElem?_toList→zaA,toList_extract→zaJ,length_toList→zaP,toList_append→zaQ,toList_push→zbs,toList_inj→zbK
open PySem.Calls renaming call_function_entry→zal,spliced_cons→zbe,spliced_nil→zbw
open PySem.Heap renaming get?_push_of_some→zas,get?_update_other→zat,get?_update_self→zaB,get?_push_size→zaR,size_push→zch,lt_size→zcD
open Nat renaming mul_le_mul_right→zaI,lt_of_lt_of_le→zaZ,lt_succ_of_lt→zbr,lt_irrefl→zcn,ne_of_lt→zcu,le_trans→zcv,ne_of_gt→zcw,lt_or_ge→zcx,le_refl→zcH,zero_le→zcI,le_succ→zcJ
open Int renaming emod_lt_of_pos→zba,emod_nonneg→zbY,le_trans→zcy,le_of_lt→zcz,le_refl→zcK
open Bool renaming false_ne_true→zbb,false_eq_true→zbc,and_eq_true→zbJ
open PySem.W renaming mg_none_of→zbd,hasDictIn→zbt,emptyDict→zbu,plainGet→zbL,instObj→zbZ,kia_one→zca,findIn→zce,keepIn→zcf,codeIn→zcg,mg_of→zco,isFn→zcA,fnOf→zcB,nsIn→zcC
open Option renaming isSome_map→zbv,getD_some→zbM,some→zcL
set_option Elab.async false
set_option linter.all false
set_option maxRecDepth 100000
namespace L2
open PySem PySem.Spec PyProof.Rows
noncomputable abbrev Key:=Sum Int Str
noncomputable def nC:Key→Value→Bool
 | .inl k,v=>Value.isInt k v
 | .inr x,v=>Value.isStrOf x v
noncomputable def Ox (w:World):Key→Int
 | .inl k=>hashInt k
 | .inr x=>hashStr w x
theorem bF:∀ {k:Key}{v:Value},nC k v=true→(∃ i t,k=Sum.inl i∧v=Value.int i t)∨(∃ x t,k=Sum.inr x∧v=Value.str x t)
 | .inl i,v,h=>by
  obtain ⟨t,e⟩:=Value.isInt_shape (k:=i) (v:=v) h
  exact .inl ⟨i,t,rfl,e⟩
 | .inr x,v,h=>by
  obtain ⟨t,e⟩:=Value.isStrOf_shape (x:=x) (v:=v) h
  exact .inr ⟨x,t,rfl,e⟩
theorem zV (i:Int) (t:Tok):nC (.inl i) (.int i t)=true:=by simp [nC,Value.isInt]
theorem zU (x:Str) (t:Tok):nC (.inr x) (.str x t)=true:=by simp [nC,Value.isStrOf]
theorem JN (a b:Int):decide ((Sum.inl a:Key)=Sum.inl b)=(a==b):=by
 by_cases e:a=b
 ·subst e;simp
 ·have h : ¬ (Sum.inl a:Key)=Sum.inl b:=fun q=>e (Sum.inl.inj q)
  rw [decide_eq_false h]
  exact (beq_eq_false_iff_ne.mpr e).symm
theorem JK (a b:Str):decide ((Sum.inr a:Key)=Sum.inr b)=decide (a=b):=by
 by_cases e:a=b
 ·subst e;simp
 ·have h : ¬ (Sum.inr a:Key)=Sum.inr b:=fun q=>e (Sum.inr.inj q)
  rw [decide_eq_false h,decide_eq_false e]
theorem JM (a:Int) (b:Str):decide ((Sum.inl a:Key)=Sum.inr b)=false:=decide_eq_false (fun q=>nomatch q)
theorem JL (a:Str) (b:Int):decide ((Sum.inr a:Key)=Sum.inl b)=false:=decide_eq_false (fun q=>nomatch q)
noncomputable def bA (prog:Program) (w:World):PySem.KeyKind prog w Key where
 is:=nC
 hash:=Ox w
 inj:=fun v a b ha hb=>by
  rcases bF ha with ⟨i,t,rfl,rfl⟩ | ⟨x,t,rfl,rfl⟩
  ·rcases bF hb with ⟨j,u,rfl,e⟩ | ⟨y,u,rfl,e⟩
   ·injection e with e1 _;rw [e1]
   ·exact nomatch e
  ·rcases bF hb with ⟨j,u,rfl,e⟩ | ⟨y,u,rfl,e⟩
   ·exact nomatch e
   ·injection e with e1 _;rw [e1]
 byValue:=fun k v h=>by
  rcases bF h with ⟨i,t,rfl,rfl⟩ | ⟨x,t,rfl,rfl⟩ <;> rfl
 pyHash:=fun hv h=>by
  rcases bF hv with ⟨i,t,rfl,rfl⟩ | ⟨x,t,rfl,rfl⟩
  ·exact wpAny_pyHash_int h
  ·exact wpAny_pyHash_str h
 eqBool:=fun hu hv h=>by
  rcases bF hu with ⟨i,t,rfl,rfl⟩ | ⟨x,t,rfl,rfl⟩
  ·rcases bF hv with ⟨j,u,rfl,rfl⟩ | ⟨y,u,rfl,rfl⟩
   ·rw [JN] at h;exact wpAny_eqBool_int h
   ·rw [JM] at h;exact SeqAt.EqAt.int_str i t y u _ _ _ _ h
  ·rcases bF hv with ⟨j,u,rfl,rfl⟩ | ⟨y,u,rfl,rfl⟩
   ·rw [JL] at h;exact SeqAt.EqAt.str_int x t j u _ _ _ _ h
   ·rw [JK] at h;exact wpAny_eqBool_str h
 «strs» := fun k x t v h=>by
  rcases bF h with ⟨i,u,rfl,e⟩ | ⟨y,u,rfl,e⟩
  ·exact nomatch e
  ·injection e with e1 _
   subst e1
   cases v <;> rfl
theorem sW (prog:Program) (w:World) (i:Int) (t:Tok):(bA prog w).is (.inl i) (.int i t)=true:=zV i t
theorem sV (prog:Program) (w:World) (x:Str) (t:Tok):(bA prog w).is (.inr x) (.str x t)=true:=zU x t
inductive V where
 | bH | bl (b:Bool) | int (i:Int) | str (x:Str) | uP (b:Array UInt8) | JW (b:UInt64) | ref (a:Addr) | ty (n:String)
 deriving DecidableEq
noncomputable def RelV:V→Value→Prop
 | .bH,u=>u=Value.none
 | .bl b,u=>u=Value.bool b
 | .int i,u=>∃ t,u=Value.int i t
 | .str x,u=>∃ t,u=Value.str x t
 | .uP b,u=>∃ t,u=Value.bytes b t
 | .JW b,u=>∃ t,u=Value.float b t
 | .ref a,u=>u=Value.ref a
 | .ty n,u=>u=Value.type n
noncomputable abbrev Vals:List V→List Value→Prop:=Paired RelV
theorem Vals.length {xs:List V}{us:List Value} (r:Vals xs us):xs.length=us.length:=Paired.length r
theorem Vals.get:∀ {xs:List V}{us:List Value}{i:Nat}{x:V},Vals xs us→xs[i]? = some x→∃ u,us[i]? = some u∧RelV x u
 | _,_,_,_,.nil,e=>by simp at e
 | _,_,0,_,.cons r _,e=>by simp at e;subst e;exact ⟨_,rfl,r⟩
 | _,_,i+1,x,.cons _ t,e=>by
  obtain ⟨u,h1,h2⟩:=Vals.get (i:=i) (x:=x) t (by simpa using e)
  exact ⟨u,by simpa using h1,h2⟩
theorem Vals.append:∀ {xs ys:List V}{us ws:List Value},Vals xs us→Vals ys ws→Vals (xs++ys) (us++ws)
 | _,_,_,_,.nil,s=>s
 | _,_,_,_,.cons r t,s=>.cons r (Vals.append t s)
theorem Vals.take:∀ {xs:List V}{us:List Value} (n:Nat),Vals xs us→Vals (xs.take n) (us.take n)
 | _,_,0,_=>.nil
 | _,_,_+1,.nil=>.nil
 | _,_,n+1,.cons r t=>.cons r (Vals.take n t)
theorem Vals.drop:∀ {xs:List V}{us:List Value} (n:Nat),Vals xs us→Vals (xs.drop n) (us.drop n)
 | _,_,0,r=>r
 | _,_,_+1,.nil=>.nil
 | _,_,n+1,.cons _ t=>Vals.drop n t
noncomputable def iA:Option V→Option Value→Prop
 | some v,some u=>RelV v u
 | none,none=>True
 | _,_=>False
noncomputable def KV {κ:Type}:List (κ×V)→List (κ×Value)→Prop:=Paired fun (p:κ×V) (q:κ×Value)=>p.1=q.1∧RelV p.2 q.2
noncomputable def kV:Key→V
 | .inl i=>.int i
 | .inr x=>.str x
inductive HO where
 | lst (xs:List V)
 | tup (xs:List V)
 | dK (kvs:List (Key×V)) | dT (kvs:List (List Key×V))
 | set (S:Int→Bool) (n:Nat)
 | ins (C dx:Addr) (fs:List (Str×V))
 | own (x:Addr)
 | xd (fs:List (Str×V))
 | met (f x:Addr)
 | Ob (lo hi:Int)
 | yy (o:Obj) (u:HO)
 | Ij (ps:Array Value)
 | ext (φ:Heap→Prop)
noncomputable abbrev Hp:=Addr→Option HO
noncomputable def upd (H:Hp) (a:Addr) (o:HO):Hp:=fun b=>if b=a then some o else H b
theorem aG {H:Hp}{a:Addr}{o:HO}:upd H a o a=some o:=by unfold upd;rw [if_pos rfl]
theorem aA {H:Hp}{a b:Addr}{o:HO} (h:b≠a):upd H a o b=H b:=by unfold upd;rw [if_neg h]
theorem Mc {H:Hp}{a b:Addr}{o u:HO} (h:H a=some o) (h':H b=some u) (d:o≠u):a≠b:=by
 intro e;subst e;rw [h] at h';exact d (zcL.inj h')
theorem aP {H:Hp}{a b:Addr}{o:HO} (h:H a=some o) (h':H b=none):a≠b:=by
 intro e;subst e;rw [h] at h';cases h'
section
variable (P:Program) (w:World)
noncomputable def aW (H:Hp) (h:Heap) (a:Addr):HO→Prop
 | .lst xs=>xs.length≤sizeLine∧∃ (its:List Value) (n:Nat),Vals xs its∧h.get? a=some { cls:=.type "list",data:=.seq its.toArray n }
 | .tup xs=>xs.length≤sizeLine∧∃ its:List Value,Vals xs its∧IsTup h a its.toArray
 | .dK kvs=>kvs.length≤sizeLine∧(a==sysModules)=false∧∃ vs,KV kvs vs∧h.DictOf (bA P w) a vs
 | .dT kvs=>kvs.length≤sizeLine∧(a==sysModules)=false∧∃ xs:List (List Key×Addr×Value),
   Paired (fun (p:List Key×V) (q:List Key×Addr×Value)=>p.1=q.1∧H q.2.1=some (.tup (p.1.map kV))∧RelV p.2 q.2.2) kvs xs ∧
   ∃ o es ep,h.get? a=some o∧o.ExactDict∧o.data = .dict es ep∧es.toList=xs.map (entryOfKey (tupleKind (bA P w)))∧(xs.map (·.1)).Nodup
 | .set S n=>h.SetOf (intKind P w) a S n
 | .ins C dx fs=>H dx=some (.own a)∧fs.length≤1000∧dx≠a∧h.get? a=some (zbZ C dx) ∧
   ∃ mA,h.Ns1 dx mA∧(∀ f,iA (fs.lookup f) (mA f))∧PySem.Within mA (fs.map (·.1))
 | .own _=>∃ o,h.get? a=some o
 | .xd fs=>∃ mA,h.Ns1 a mA∧∀ f,iA (fs.lookup f) (mA f)
 | .Ob lo hi=>∃ t u v,h.get? a=some { cls:=.type "range",data:=.fields #[.int lo t,.int hi u,.int 1 v] }
 | .yy o u=>h.get? a=some o∧aW H h a u
 | .Ij ps=>h.get? a=some { cls:=.none,data:=.fields ps }
 | .met f x=>h.get? a=some (PySem.W.methodObj (.ref f) (.ref x))
 | .ext φ=>φ h∧(∃ o,h.get? a=some o)∧∀ h1 h2:Heap,φ h1→(∀ o,h1.get? a=some o→h2.get? a=some o)→φ h2
noncomputable def iB (H:Hp) (h:Heap):Prop:=∀ a o,H a=some o→aW P w H h a o
end
section
variable {P:Program}{w:World}{H H':Hp}{h h':Heap}{a:Addr}{o:HO}
theorem aW.lt (x:aW P w H h a o):a<h.objs.size:=by
 cases o with
 | lst xs=>obtain ⟨_,_,_,_,e⟩:=x;exact zcD e
 | tup xs=>obtain ⟨_,_,_,p⟩:=x;exact p.lt
 | dK kvs=>obtain ⟨_,_,_,_,o,_,_,e,_⟩:=x;exact zcD e
 | dT kvs=>obtain ⟨_,_,_,_,o,_,_,e,_⟩:=x;exact zcD e
 | set S n=>obtain ⟨o,_,_,_,e,_⟩:=x;exact zcD e
 | ins C dx fs=>obtain ⟨_,_,_,e,_⟩:=x;exact zcD e
 | own y=>obtain ⟨_,e⟩:=x;exact zcD e
 | xd fs=>obtain ⟨_,⟨_,_,_,e,_⟩,_⟩:=x;exact zcD e
 | Ob lo hi=>obtain ⟨_,_,_,e⟩:=x;exact zcD e
 | yy ob u=>obtain ⟨e,_⟩:=x;exact zcD e
 | Ij ps=>exact zcD (show h.get? a=some _ from x)
 | met f y=>exact zcD (show h.get? a=some _ from x)
 | ext φ=>obtain ⟨_,⟨_,e⟩,_⟩:=x;exact zcD e
theorem Paired.JC {α β:Type}{F G:α→β→Prop}:∀ {l₁:List α}{l₂:List β},Paired F l₁ l₂→(∀ a b,F a b→G a b)→Paired G l₁ l₂
 | _,_,.nil,_=>.nil
 | _,_,.cons r t,f=>.cons (f _ _ r) (Paired.JC t f)
theorem aW.stay (x:aW P w H h a o) (k:∀ b u,(b=a∨H b=some (.own a))→h.get? b=some u→h'.get? b=some u)
  (ho:∀ b,H b=some (.own a)→H' b=some (.own a)) (ht:∀ b xs,H b=some (.tup xs)→H' b=some (.tup xs)):aW P w H' h' a o:=by
 induction o with
 | lst xs=>obtain ⟨z,its,n,r,e⟩:=x;exact ⟨z,its,n,r,k _ _ (.inl rfl) e⟩
 | tup xs=>obtain ⟨z,its,r,ob,e,c⟩:=x;exact ⟨z,its,r,ob,k _ _ (.inl rfl) e,c⟩
 | dK kvs=>obtain ⟨z,y,vs,r,ob,es,ep,e,c⟩:=x;exact ⟨z,y,vs,r,ob,es,ep,k _ _ (.inl rfl) e,c⟩
 | dT kvs =>
  obtain ⟨z,y,xs,r,ob,es,ep,e,c⟩:=x
  exact ⟨z,y,xs,Paired.JC r fun p q z=>⟨z.1,ht _ _ z.2.1,z.2.2⟩,ob,es,ep,k _ _ (.inl rfl) e,c⟩
 | set S n=>obtain ⟨ob,es,ep,t,e,c⟩:=x;exact ⟨ob,es,ep,t,k _ _ (.inl rfl) e,c⟩
 | ins C dx fs =>
  obtain ⟨d,z,ne,e,mA,⟨od,es,ep,e2,c⟩,r⟩:=x
  exact ⟨ho _ d,z,ne,k _ _ (.inl rfl) e,mA,⟨od,es,ep,k _ _ (.inr d) e2,c⟩,r⟩
 | own y=>obtain ⟨ob,e⟩:=x;exact ⟨ob,k _ _ (.inl rfl) e⟩
 | xd fs=>obtain ⟨mA,⟨od,es,ep,e,c⟩,r⟩:=x;exact ⟨mA,⟨od,es,ep,k _ _ (.inl rfl) e,c⟩,r⟩
 | Ob lo hi=>obtain ⟨t,u,v,e⟩:=x;exact ⟨t,u,v,k _ _ (.inl rfl) e⟩
 | yy ob u ih=>obtain ⟨e,q⟩:=x;exact ⟨k _ _ (.inl rfl) e,ih q⟩
 | Ij ps =>
  have e:h.get? a=some { cls:=.none,data:=.fields ps }:=x
  show h'.get? a=some { cls:=.none,data:=.fields ps }
  exact k a _ (.inl rfl) e
 | met f y =>
  have e:h.get? a=some (PySem.W.methodObj (.ref f) (.ref y)):=x
  show h'.get? a=some (PySem.W.methodObj (.ref f) (.ref y))
  exact k a _ (.inl rfl) e
 | ext φ=>obtain ⟨p,⟨o,e⟩,st⟩:=x;exact ⟨st _ _ p fun o q=>k _ _ (.inl rfl) q,⟨o,k _ _ (.inl rfl) e⟩,st⟩
theorem iB.lt (x:iB P w H h) (e:H a=some o):a<h.objs.size:=(x a o e).lt
theorem iB.fresh (x:iB P w H h) (e:h.objs.size≤a):H a=none:=by
 cases q:H a with
 | none=>rfl
 | some u=>exact absurd (zaZ (x.lt q) e) (zcn _)
theorem iB.kept (x:iB P w H h) (k:∀ b u,h.get? b=some u→h'.get? b=some u):iB P w H h':=fun a o e =>
 (x a o e).stay (fun b u _ q=>k b u q) (fun _ q=>q) fun _ _ q=>q
theorem iB.laid (x:iB P w H h) (k:∀ b u,h.get? b=some u→h'.get? b=some u) (hp:h.objs.size≤a) (new:aW P w (upd H a o) h' a o):iB P w (upd H a o) h':=fun b u e=>by
 have hn:=x.fresh hp
 by_cases hb:b=a
 ·subst hb;rw [aG] at e;cases e;exact new
 ·rw [aA hb] at e
  exact (x b u e).stay (fun c v _ q=>k c v q) (fun c q=>by rw [aA (aP q hn)];exact q) fun c xs q=>by rw [aA (aP q hn)];exact q
end
noncomputable def Rd (H:Hp) (a:Addr) (u:HO):Prop:=H a=some u∨∃ o,H a=some (.yy o u)
theorem Rd.ok {P:Program}{w:World}{H:Hp}{h:Heap}{a:Addr}{u:HO} (r:Rd H a u) (x:iB P w H h):aW P w H h a u:=by
 rcases r with r | ⟨o,r⟩
 ·exact x a u r
 ·obtain ⟨_,q⟩:=x a _ r
  exact q
noncomputable def Nb:Option HO→Prop
 | some (.lst _)=>True
 | some (.dK _)=>True
 | some (.dT _)=>True
 | some (.set _ _)=>True
 | some (.ins _ _ _)=>True
 | some (.ext _)=>True
 | _=>False
section
variable {P:Program}{w:World}{H:Hp}{h h':Heap}{x e:Addr}{o':HO}
theorem iB.write (ok:iB P w H h) (mu:Nb (H x)) (he:e=x∨H e=some (.own x)) (k:∀ b u,b≠e→h.get? b=some u→h'.get? b=some u) (heo:∃ u,h'.get? e=some u)
  (new:aW P w (upd H x o') h' x o'):iB P w (upd H x o') h':=fun b u q=>by
 have L4:∀ c y,H c=some (.own y)→c≠x:=fun c y r z=>by subst z;rw [r] at mu;exact mu
 have Ot:∀ c xs,H c=some (.tup xs)→c≠x:=fun c xs r z=>by subst z;rw [r] at mu;exact mu
 by_cases hb:b=x
 ·subst hb;rw [aG] at q;cases q;exact new
 ·rw [aA hb] at q
  by_cases hbe:b=e
  ·have q':H b=some (.own x):=by
    rcases he with z | z
    ·exact absurd (hbe.trans z) hb
    ·rw [hbe];exact z
   rw [q] at q';cases q'
   obtain ⟨v,hv⟩:=heo
   exact ⟨v,by rw [hbe];exact hv⟩
  ·refine (ok b u q).stay (fun c v hc r=>k c v ?_ r) (fun c r=>by rw [aA (L4 c b r)];exact r) fun c xs r=>by rw [aA (Ot c xs r)];exact r
   rcases hc with rfl | hc
   ·exact hbe
   ·rintro rfl
    rcases he with z | z
    ·exact L4 c b hc z
    ·rw [hc] at z;cases z;exact hb rfl
end
structure Un (fs ex:List Addr) (H H':Hp) (h h':Heap):Prop where
 keep:∀ b o,h.get? b=some o→H b=none→b ∉ fs→b ∉ ex→h'.get? b=some o
 slot:∀ b o,h.get? b=some o→H b=none→b∈fs→b ∉ ex→∃ sl,h'.get? b=some { o with slots:=sl }
 free:∀ b o,h.get? b=some o→H b=none→b ∉ ex→H' b=none
 there:∀ b o,h.get? b=some o→b ∉ ex→∃ o',h'.get? b=some o'
 tups:∀ b xs,H b=some (.tup xs)→H' b=some (.tup xs)
 oE:∀ b o u,H b=some (.yy o u)→H' b=some (.yy o u)
 qe:∀ b ps,H b=some (.Ij ps)→∃ more,H' b=some (.Ij (ps++more))
section
variable {fs fs' ex ex':List Addr}{H H1 H2:Hp}{h h1 h2 h':Heap}{a x e:Addr}{o:HO}
theorem Un.any (u:Un fs ex H H1 h h1) {b:Addr}{ob:Obj} (q:h.get? b=some ob) (n:H b=none) (hx:b ∉ ex):∃ sl,h1.get? b=some { ob with slots:=sl }:=by
 by_cases hb:b∈fs
 ·exact u.slot b ob q n hb hx
 ·exact ⟨ob.slots,u.keep b ob q n hb hx⟩
theorem Un.kept (k:∀ b u,h.get? b=some u→h'.get? b=some u):Un fs ex H H h h' :=
 ⟨fun b ob q _ _ _=>k b ob q,fun b ob q _ _ _=>⟨ob.slots,k b ob q⟩,fun _ _ _ n _=>n,fun b ob q _=>⟨ob,k b ob q⟩,fun _ _ q=>q,fun _ _ _ q=>q,fun _ ps q=>⟨#[],by rw [q];simp⟩⟩
theorem Un.refl:Un fs ex H H h h:=Un.kept fun _ _ q=>q
theorem Un.laid (k:∀ b u,h.get? b=some u→h'.get? b=some u) (hp:h.objs.size≤a) (hn:H a=none):Un fs ex H (upd H a o) h h' where
 keep:=fun b u q _ _ _=>k b u q
 slot:=fun b u q _ _ _=>⟨u.slots,k b u q⟩
 free:=fun b u q n _=>by rw [aA (zcu (zaZ (zcD q) hp))];exact n
 there:=fun b u q _=>⟨u,k b u q⟩
 tups:=fun b xs q=>by rw [aA (aP q hn)];exact q
 oE:=fun b u xs q=>by rw [aA (aP q hn)];exact q
 qe:=fun b ps q=>⟨#[],by rw [aA (aP q hn),q];simp⟩
theorem Un.write (mu:Nb (H x)) (he:e=x∨H e=some (.own x)) (k:∀ b u,b≠e→h.get? b=some u→h'.get? b=some u) (heo:∃ u,h'.get? e=some u):Un fs ex H (upd H x o) h h':=by
 have hx:∀ b,H b=none→b≠x:=fun b n z=>by subst z;rw [n] at mu;exact mu
 have hb:∀ b,H b=none→b≠e:=fun b n z=>by
  subst z
  rcases he with r | r
  ·exact hx b n r
  ·rw [n] at r;cases r
 have hm:∀ b u,H b=some u → ¬ Nb (some u)→b≠x:=fun b u q nm z=>by subst z;rw [q] at mu;exact nm mu
 refine ⟨fun b u q n _ _=>k b u (hb b n) q,fun b u q n _ _=>⟨u.slots,k b u (hb b n) q⟩,fun b u q n _=>by rw [aA (hx b n)];exact n,fun b u q _ => ?_,
  fun b xs q=>by rw [aA (hm b _ q fun z=>z)];exact q,fun b u xs q=>by rw [aA (hm b _ q fun z=>z)];exact q,fun b ps q=>⟨#[],by rw [aA (hm b _ q fun z=>z),q];simp⟩⟩
 by_cases hbe:b=e
 ·subst hbe;exact heo
 ·exact ⟨u,k b u hbe q⟩
end
noncomputable def Nl (h:Heap) (H:Hp):List Addr:=(zcM h.objs.size).filter fun a=>(H a).isSome
noncomputable def qY (h:Heap) (H:Hp):Heap:=PySem.W.hideAll h (Nl h H)
theorem z4 (h:Heap) (H:Hp):(qY h H).objs.size=h.objs.size:=PySem.W.hideAll_size _ _
theorem CY {h:Heap}{H:Hp}{b:Addr}{o:Obj} (e:h.get? b=some o) (n:H b=none):(qY h H).get? b=some o :=
 PySem.W.hideAll_get _ e fun hm=>by
  have q:(H b).isSome=true:=(zbN.mp hm).2
  rw [n] at q;simp at q
theorem FA {h:Heap}{H:Hp}{b:Addr}{o:Obj} (e:(qY h H).get? b=some o):h.get? b=some o∧H b=none:=by
 have e':h.get? b=some o:=PySem.W.of_hideAll (Nl h H) e
 refine ⟨e',?_⟩
 cases q:H b with
 | none=>rfl
 | some x =>
  have hm:b∈Nl h H:=zbN.mpr ⟨zcb.mpr (zcD e'),by simp [q]⟩
  have z:(qY h H).get? b=none:=PySem.W.hideAll_none (Nl h H) hm
  rw [z] at e;cases e
noncomputable def Gx (g h:Heap) (L:Addr):List (Addr×Obj):=(zcM h.objs.size).filterMap fun a=>if a=L∨(g.get? a).isSome=true then none else (h.get? a).map fun o=>(a,o)
noncomputable def rest (g h:Heap) (L d:Addr):List (Addr×Obj):=(Gx g h L).filter fun p=>decide (p.1≠d)
structure Mod (K:PySem.W.Frag) (mg:Str→Option Value) (base:Heap):Prop where
 Nv:K.In base
 glob:base.Ns mainGlobals mg
 blt:∃ mb,base.Ns builtinsNs mb∧∀ x:Str,x ≠ "__name__" → mb x=bootBuiltins x
 nolimit:base.NoLimit
structure Cx where
 prog:Program
 w:World
 K:PySem.W.Frag
 mg:Str→Option Value
 base:Heap
 A:Around
 N:List Str
 s₀:Shared
 H₀:Hp
 env:Env
 outer:List Env
 stack:List Env
 ex:List Addr
 fn:Str→Bool
 calm:Bool
 pn:List (Addr×Obj)
 xe:Value→Shared→Prop
noncomputable def frs (l:List Env):List Addr:=l.filterMap (·.frame)
noncomputable abbrev Cx.fs (X:Cx):List Addr:=frs X.outer
noncomputable def MZ (sc:Scope) (x:Str):Prop:=sc.names.lookup x=some .local∨sc.names.lookup x=some .cell∨sc.names.lookup x=some .free
noncomputable def Loc (sc:Scope) (x:Str):Prop:=sc.names.lookup x=some .local∨sc.names.lookup x=some .cell
noncomputable def Look (env:Env) (h:Heap) (m:Str→Option Value) (x:Str) (u:Value):Prop :=
 (env.kindOf x=some .local∧m x=some u)∨((env.kindOf x=some .cell∨env.kindOf x=some .free)∧∃ c,env.cells.lookup x=some c∧h.IsCell c (some u))
structure Cx.Ok (X:Cx):Prop where
 mod:Mod X.K X.mg X.base
 kind:X.env.scope.kind = .function
 glob:X.env.globals=mainGlobals
 blt:X.env.builtins=builtinsNs
 above:X.s₀.heap.objs.size≤X.env.locals
 inj:∀ x y c,X.env.cells.lookup x=some c→X.env.cells.lookup y=some c→x=y
 has:∀ x,(X.env.kindOf x=some .cell∨X.env.kindOf x=some .free)→∃ c,X.env.cells.lookup x=some c
 ML:∀ x c,X.fn x=true→X.env.cells.lookup x=some c→X.s₀.heap.objs.size≤c
 hd:X.calm=true→X.A.handled=none
 frames:X.A.frames=some X.stack
 stk:X.stack=X.outer∨(X.stack=X.env::X.outer∧X.env.frame=some X.env.locals)
 OI:∀ b∈X.ex,b≠X.env.locals∧∀ x c,X.env.cells.lookup x=some c→c≠b
 bs:∀ b o,X.base.get? b=some o→X.s₀.heap.get? b=some o∧X.H₀ b=none
 Gs:X.base.objs.size≤X.s₀.heap.objs.size
 Ck:∀ b o,X.base.get? b=some o→b ∉ X.ex
 F7:∀ b∈X.ex,b ∉ X.fs
 kY:X.s₀.heap.FunFrames X.base X.outer
 JV:∀ b∈X.fs,X.H₀ b=none
structure Inv (X:Cx) (pins:List (Addr×Obj)) (σ:List (Option V)) (H:Hp) (s:Shared):Prop where
 ok:X.Ok
 os:s.os=X.s₀.os
 bare:AllBare s.gens
 base:Un X.fs X.ex X.H₀ H X.s₀.heap s.heap
 loc:∃ m,s.heap.Ns X.env.locals m∧∀ (i:Nat) (x:Str) (v:V),X.N[i]? = some x→σ[i]? = some (some v)→MZ X.env.scope x→∃ u,RelV v u∧Look X.env s.heap m x u
 cell:∀ x c,X.env.cells.lookup x=some c→∃ v,s.heap.IsCell c v
 free:H X.env.locals=none
 gC:∀ x c,X.env.cells.lookup x=some c→H c=none
 pin:∀ p∈X.pn++pins,s.heap.get? p.1=some p.2∧H p.1=none∧p.1≠X.env.locals∧p.1 ∉ X.fs∧∀ v,p.2.data ≠ .cell v
 hok:iB X.prog X.w H s.heap
 len:σ.length=X.N.length
section
variable {X:Cx}{pins:List (Addr×Obj)}{σ:List (Option V)}{H H':Hp}{s:Shared}{h':Heap}
theorem Cx.Ok.Ou (ok:X.Ok) {b:Addr}{o:Obj} (e:X.base.get? b=some o):b ∉ X.fs:=fun hb=>by
 have:=(ok.kY.mem hb).1
 rw [e] at this;cases this
theorem Inv.bs (I:Inv X pins σ H s):∀ b o,X.base.get? b=some o→s.heap.get? b=some o∧H b=none:=fun b o e =>
 ⟨I.base.keep b o (I.ok.bs b o e).1 (I.ok.bs b o e).2 (I.ok.Ou e) (I.ok.Ck b o e),I.base.free b o (I.ok.bs b o e).1 (I.ok.bs b o e).2 (I.ok.Ck b o e)⟩
theorem Inv.bk (I:Inv X pins σ H s):∀ b o,X.base.get? b=some o→s.heap.get? b=some o:=fun b o e=>(I.bs b o e).1
theorem Inv.mod (I:Inv X pins σ H s):Mod X.K X.mg X.base:=I.ok.mod
theorem Inv.kW (I:Inv X pins σ H s):X.K.In s.heap:=I.ok.mod.Nv.keeps I.bk
theorem Inv.lt (I:Inv X pins σ H s):X.env.locals<s.heap.objs.size:=let ⟨_,hn,_⟩:=I.loc;hn.lt
theorem Inv.sz (I:Inv X pins σ H s):X.s₀.heap.objs.size≤s.heap.objs.size:=zcv I.ok.above (Nat.le_of_lt I.lt)
theorem Inv.L5 (I:Inv X pins σ H s) {a:Addr} (h:s.heap.objs.size≤a):a ∉ X.fs:=fun hb=>by
 obtain ⟨_,o,ho,_⟩:=I.ok.kY.mem hb
 exact absurd (zaZ (zcD ho) (zcv I.sz h)) (zcn _)
theorem Inv.Ko (I:Inv X pins σ H s):∀ x c,X.env.cells.lookup x=some c→c≠X.env.locals:=fun x c e z=>by
 obtain ⟨v,o,ho,hd⟩:=I.cell x c e
 obtain ⟨m,⟨o',es,ep,ho',hd',_⟩,_⟩:=I.loc
 rw [z,ho'] at ho;cases ho;rw [hd'] at hd;cases hd
theorem Inv.kY (I:Inv X pins σ H s):s.heap.FunFrames X.base X.outer:=by
 have all:∀ (l:List Env),(∀ b∈frs l,b∈X.fs)→X.s₀.heap.FunFrames X.base l→s.heap.FunFrames X.base l:=by
  intro l
  induction l with
  | nil=>intro _ _;trivial
  | cons env r ih =>
   intro hs hl
   obtain ⟨hk,⟨L,o,hf,hn,ho,hd⟩,hr⟩:=hl
   have hL:L∈X.fs:=hs L (by unfold frs;rw [List.filterMap_cons,hf];exact zaS)
   obtain ⟨sl,e⟩:=I.base.slot L o ho (I.ok.JV L hL) hL fun z=>I.ok.F7 L z hL
   exact ⟨hk,⟨L,_,hf,hn,e,hd⟩,ih (fun b hb=>hs b (by unfold frs;rw [List.filterMap_cons,hf];exact zaC _ hb)) hr⟩
 exact all X.outer (fun _ hb=>hb) I.ok.kY
theorem Inv.stack (I:Inv X pins σ H s):s.heap.FunFrames X.base X.stack:=by
 rcases I.ok.stk with e | ⟨e,hf⟩
 ·rw [e];exact I.kY
 ·rw [e]
  obtain ⟨m,hn,_⟩:=I.loc
  refine .cons (by rw [I.ok.kind];decide) hf hn ?_ I.kY
  exact Heap.get?_none_of_le (zcv I.ok.Gs I.ok.above)
theorem Inv.mh (I:Inv X pins σ H s):∀ b∈frs X.stack,b∈X.env.locals::X.fs:=fun b hb=>by
 rcases I.ok.stk with e | ⟨e,hf⟩
 ·rw [e] at hb;exact zaC _ hb
 ·rw [e] at hb
  unfold frs at hb
  rw [List.filterMap_cons,hf] at hb
  exact hb
theorem Inv.w9 (I:Inv X pins σ H s):∀ b∈frs X.stack,H b=none:=fun b hb=>by
 rcases zci.mp (I.mh b hb) with e | hb
 ·rw [e];exact I.free
 ·obtain ⟨_,o,ho,_⟩:=I.ok.kY.mem hb
  exact I.base.free b o ho (I.ok.JV b hb) fun z=>I.ok.F7 b z hb
theorem Inv.step {g':Array GenState}{t':Nat}{d':Drawn}{ch:List Addr} (I:Inv X pins σ H s)
  (hch:∀ b∈ch,(b∈X.ex∨X.s₀.heap.objs.size≤b)∧b≠X.env.locals∧(∀ x c,X.env.cells.lookup x=some c→c≠b)∧∀ p∈X.pn++pins,p.1≠b)
  (keep:∀ b o,b≠X.env.locals→b ∉ X.fs→b ∉ ch→s.heap.get? b=some o→H b=none→h'.get? b=some o)
  (slot:∀ b o,b≠X.env.locals→b∈X.fs→b ∉ ch→s.heap.get? b=some o→H b=none→∃ sl,h'.get? b=some { o with slots:=sl }) (free:∀ b o,b ∉ ch→s.heap.get? b=some o→H b=none→H' b=none)
  (there:∀ b o,b ∉ ch→s.heap.get? b=some o→∃ o',h'.get? b=some o')
  (tups:∀ b xs,H b=some (.tup xs)→H' b=some (.tup xs)) (oE:∀ b o u,H b=some (.yy o u)→H' b=some (.yy o u)) (qe:∀ b ps,H b=some (.Ij ps)→∃ more,H' b=some (.Ij (ps++more)))
  (ns:∀ m,s.heap.Ns X.env.locals m→h'.Ns X.env.locals m) (hok:iB X.prog X.w H' h') (hg:AllBare g') :
  Inv X pins σ H' { s with heap:=h',gens:=g',drawn:=d',toks:=t' }:=by
 have neL:∀ b o,X.s₀.heap.get? b=some o→b≠X.env.locals:=fun b o e=>zcu (zaZ (zcD e) I.ok.above)
 have neC:∀ b o,X.s₀.heap.get? b=some o→b ∉ X.ex→b ∉ ch:=fun b o e hx hb=>by
  rcases (hch b hb).1 with z | z
  ·exact hx z
  ·exact absurd (zaZ (zcD e) z) (zcn _)
 have cellK:∀ x c,X.env.cells.lookup x=some c→∀ v,s.heap.IsCell c v→h'.IsCell c v:=fun x c e v ⟨o,ho,hd⟩=>by
  have nch:c ∉ ch:=fun z=>(hch c z).2.2.1 x c e rfl
  by_cases hc:c∈X.fs
  ·obtain ⟨sl,q⟩:=slot c o (I.Ko x c e) hc nch ho (I.gC x c e)
   exact ⟨_,q,hd⟩
  ·exact ⟨o,keep c o (I.Ko x c e) hc nch ho (I.gC x c e),hd⟩
 refine ⟨I.ok,I.os,hg,⟨fun b o e n hb hx => ?_,fun b o e n hb hx => ?_,fun b o e n hx => ?_,fun b o e hx => ?_,fun b xs e=>tups b xs (I.base.tups b xs e),fun b o xs e=>oE b o xs (I.base.oE b o xs e),fun b ps e => ?_⟩,?_,fun x c e => ?_,?_,fun x c e => ?_,fun p hp => ?_,hok,I.len⟩
 ·exact keep b o (neL b o e) hb (neC b o e hx) (I.base.keep b o e n hb hx) (I.base.free b o e n hx)
 ·obtain ⟨sl,e1⟩:=I.base.slot b o e n hb hx
  obtain ⟨sl',e2⟩:=slot b _ (neL b o e) hb (neC b o e hx) e1 (I.base.free b o e n hx)
  exact ⟨sl',e2⟩
 ·obtain ⟨o',e1⟩:=I.base.there b o e hx
  exact free b o' (neC b o e hx) e1 (I.base.free b o e n hx)
 ·obtain ⟨o',e1⟩:=I.base.there b o e hx
  exact there b o' (neC b o e hx) e1
 ·obtain ⟨m1,e1⟩:=I.base.qe b ps e
  obtain ⟨m2,e2⟩:=qe b _ e1
  exact ⟨m1++m2,by rw [e2,Array.append_assoc]⟩
 ·obtain ⟨m,hn,hl⟩:=I.loc
  refine ⟨m,ns m hn,fun i x v e1 e2 e3 => ?_⟩
  obtain ⟨u,r,l⟩:=hl i x v e1 e2 e3
  refine ⟨u,r,?_⟩
  rcases l with l | ⟨k,c,e,z⟩
  ·exact .inl l
  ·exact .inr ⟨k,c,e,cellK x c e _ z⟩
 ·obtain ⟨v,z⟩:=I.cell x c e
  exact ⟨v,cellK x c e v z⟩
 ·obtain ⟨m,⟨o,_,_,ho,_⟩,_⟩:=I.loc
  exact free _ o (fun z=>(hch _ z).2.1 rfl) ho I.free
 ·obtain ⟨v,o,ho,hd⟩:=I.cell x c e
  exact free c o (fun z=>(hch c z).2.2.1 x c e rfl) ho (I.gC x c e)
 ·obtain ⟨e,n,ne,nf,d⟩:=I.pin p hp
  have nch:p.1 ∉ ch:=fun z=>(hch p.1 z).2.2.2 p hp rfl
  exact ⟨keep p.1 p.2 ne nf nch e n,free p.1 p.2 nch e n,ne,nf,d⟩
theorem Inv.un {t':Nat} (I:Inv X pins σ H s) (u:Un X.fs [] H H' s.heap h') (hok:iB X.prog X.w H' h'):Inv X pins σ H' { s with heap:=h',toks:=t' }:=by
 obtain ⟨m,⟨o,es,ep,ho,r⟩,_⟩:=id I.loc
 obtain ⟨sl,hL⟩:=u.any ho I.free (by simp)
 exact I.step (g':=s.gens) (d':=s.drawn) (ch:=[]) (fun _ z=>nomatch z) (fun b o _ hb _ e n=>u.keep b o e n hb (by simp)) (fun b o _ hb _ e n=>u.slot b o e n hb (by simp)) (fun b o _ e n=>u.free b o e n (by simp)) (fun b o _ e=>u.there b o e (by simp)) u.tups u.oE u.qe (fun m' hm=>by
  obtain ⟨o',es',ep',ho',r'⟩:=hm
  rw [ho] at ho';cases ho'
  exact ⟨_,es',ep',hL,r'⟩) hok I.bare
theorem Inv.call {g':Array GenState}{t':Nat}{d':Drawn}{ch:List Addr} (I:Inv X pins σ H s) (u:Un (frs X.stack) ch H H' s.heap h') (hok:iB X.prog X.w H' h') (hg:AllBare g')
  (hch:∀ b∈ch,(b∈X.ex∨X.s₀.heap.objs.size≤b)∧b≠X.env.locals∧(∀ x c,X.env.cells.lookup x=some c→c≠b)∧∀ p∈X.pn++pins,p.1≠b) :
  Inv X pins σ H' { s with heap:=h',gens:=g',drawn:=d',toks:=t' }:=by
 obtain ⟨m,⟨o,es,ep,ho,r⟩,_⟩:=id I.loc
 obtain ⟨sl,hL⟩:=u.any ho I.free fun z=>(hch _ z).2.1 rfl
 exact I.step (ch:=ch) hch (fun b o hL hb hc e n=>u.keep b o e n (fun z=>(zci.mp (I.mh b z)).elim hL hb) hc) (fun b o _ _ hc e n=>u.any e n hc) (fun b o hc e n=>u.free b o e n hc) (fun b o hc e=>u.there b o e hc) u.tups u.oE u.qe (fun m' hm=>by
  obtain ⟨o',es',ep',ho',r'⟩:=hm
  rw [ho] at ho';cases ho'
  exact ⟨_,es',ep',hL,r'⟩) hok hg
theorem Inv.turned {t':Nat}{it:Addr} (I:Inv X pins σ H s) (k:∀ b o,b≠it→s.heap.get? b=some o→h'.get? b=some o) (hn:H it=none) (hL:it≠X.env.locals)
  (h1:it∈X.ex∨X.s₀.heap.objs.size≤it) (h2:∀ x c,X.env.cells.lookup x=some c→c≠it) (h3:∀ p∈X.pn++pins,p.1≠it):Inv X pins σ H { s with heap:=h',toks:=t' }:=by
 have nit:∀ b u,H b=some u→b≠it:=fun b u e z=>by rw [z,hn] at e;cases e
 refine I.step (g':=s.gens) (d':=s.drawn) (ch:=[it]) (fun b hb => ?_) (fun b o _ _ hc e _=>k b o (fun z=>hc (by simp [z])) e) (fun b o _ _ hc e _=>⟨o.slots,k b o (fun z=>hc (by simp [z])) e⟩) (fun _ _ _ _ n=>n)
  (fun b o hc e=>⟨o,k b o (fun z=>hc (by simp [z])) e⟩) (fun _ _ e=>e) (fun _ _ _ e=>e) (fun b ps e=>⟨#[],by rw [e];simp⟩) (fun m hm => ?_) (fun b u e => ?_) I.bare
 ·have e:b=it:=by simpa using hb
  subst e
  exact ⟨h1,hL,h2,h3⟩
 ·obtain ⟨o,es,ep,ho,r⟩:=hm
  exact ⟨o,es,ep,k _ o (Ne.symm hL) ho,r⟩
 ·refine (I.hok b u e).stay (fun c v hc q=>k c v ?_ q) (fun _ q=>q) fun _ _ q=>q
  rcases hc with z | z
  ·rw [z];exact nit b u e
  ·exact nit c _ z
theorem Inv.tok (I:Inv X pins σ H s) (t:Nat):Inv X pins σ H { s with toks:=t }:=I.un (h':=s.heap) (t':=t) Un.refl I.hok
theorem Inv.kept {t':Nat} (I:Inv X pins σ H s) (k:∀ b u,s.heap.get? b=some u→h'.get? b=some u):Inv X pins σ H { s with heap:=h',toks:=t' }:=I.un (Un.kept k) (I.hok.kept k)
theorem Inv.laid {a:Addr}{o:HO}{t':Nat} (I:Inv X pins σ H s) (k:∀ b u,s.heap.get? b=some u→h'.get? b=some u) (hp:s.heap.objs.size≤a) (new:aW X.prog X.w (upd H a o) h' a o) :
  Inv X pins σ (upd H a o) { s with heap:=h',toks:=t' }:=I.un (Un.laid k hp (I.hok.fresh hp)) (I.hok.laid k hp new)
theorem Inv.write {x e:Addr}{o:HO}{t':Nat} (I:Inv X pins σ H s) (mu:Nb (H x)) (he:e=x∨H e=some (.own x)) (k:∀ b u,b≠e→s.heap.get? b=some u→h'.get? b=some u) (heo:∃ u,h'.get? e=some u)
  (new:aW X.prog X.w (upd H x o) h' x o):Inv X pins σ (upd H x o) { s with heap:=h',toks:=t' }:=I.un (Un.write mu he k heo) (I.hok.write mu he k heo new)
theorem Inv.jt {pins':List (Addr×Obj)} (I:Inv X pins σ H s) (h:∀ p∈pins',s.heap.get? p.1=some p.2∧H p.1=none∧p.1≠X.env.locals∧p.1 ∉ X.fs∧∀ v,p.2.data ≠ .cell v):Inv X pins' σ H s :=
 ⟨I.ok,I.os,I.bare,I.base,I.loc,I.cell,I.free,I.gC,fun p hp=>(zbO.mp hp).elim (fun z=>I.pin p (zaD _ z)) (h p),I.hok,I.len⟩
theorem sU {N:List Str} (hN:N.Nodup) {i j:Nat}{x:Str} (a:N[i]? = some x) (b:N[j]? = some x):i=j:=by
 obtain ⟨h1,e1⟩:=zaf.mp a
 obtain ⟨h2,e2⟩:=zaf.mp b
 exact (List.getElem_inj hN).mp (e1.trans e2.symm)
theorem zu {M:Model}{A:Around}{E:Value→Shared→Prop}{i:Nat}{x:Str}{v:V}{u:Value}{Q:Unit→Shared→Prop} (I:Inv X pins σ H s) (hN:X.N.Nodup) (hi:X.N[i]? = some x) (hx:Loc X.env.scope x) (r:RelV v u)
  (h:∀ s',Inv X pins (σ.set i (some v)) H s'→(∃ a,Heap.SameBut a s.heap s'.heap∧(a=X.env.locals∨X.env.cells.lookup x=some a))→Q () s') (hf:X.fn x=true∨X.env.scope.names.lookup x=some .local:=by first | exact .inl rfl | exact .inr rfl | assumption):wpAny M A (storeName X.env x u) Q E s:=by
 obtain ⟨m,hn,hl⟩:=id I.loc
 have hcls:(X.env.scope.kind == .class||(X.env.scope.kind == .module&&X.env.locals != X.env.globals))=false:=by rw [I.ok.kind];rfl
 have hiσ:i<σ.length:=by rw [I.len];exact (zaf.mp hi).1
 have Ko:=I.Ko
 have tracked:∀ {a:Addr}{h':Heap},(∃ o,s.heap.get? a=some o∧H a=none)→Heap.SameBut a s.heap h'→iB X.prog X.w H h':=fun {a h'} ha hs b ob e=>by
  obtain ⟨_,_,hfree⟩:=ha
  refine (I.hok b ob e).stay (fun c w' hc q=>(hs.2 c ?_).trans q) (fun _ q=>q) fun _ _ q=>q
  rintro rfl
  rcases hc with rfl | hc
  ·rw [hfree] at e;cases e
  ·rw [hfree] at hc;cases hc
 rcases hx with hk | hk
 ·refine wpAny_storeName_local hk hn (fun h' hn' hs => ?_) hcls
  obtain ⟨oL,_,_,hoL,_⟩:=id hn
  refine h _ ⟨I.ok,I.os,I.bare,⟨fun b o e n hb hx => ?_,fun b o e n hb hx => ?_,I.base.free,fun b o e hx => ?_,I.base.tups,I.base.oE,I.base.qe⟩,⟨_,hn',fun j y v' e1 e2 e3 => ?_⟩,fun y c e => ?_,I.free,I.gC,fun p hp => ?_,tracked ⟨oL,hoL,I.free⟩ hs,by simpa using I.len⟩ ⟨_,hs,.inl rfl⟩
  ·exact (hs.2 b (zcu (zaZ (zcD e) I.ok.above))).trans (I.base.keep b o e n hb hx)
  ·obtain ⟨sl,e1⟩:=I.base.slot b o e n hb hx
   exact ⟨sl,(hs.2 b (zcu (zaZ (zcD e) I.ok.above))).trans e1⟩
  ·obtain ⟨o',e1⟩:=I.base.there b o e hx
   exact ⟨o',(hs.2 b (zcu (zaZ (zcD e) I.ok.above))).trans e1⟩
  ·by_cases hj:j=i
   ·subst hj
    rw [hi] at e1;cases e1
    rw [List.getElem?_set_self hiσ] at e2
    cases e2
    exact ⟨u,r,.inl ⟨hk,by simp⟩⟩
   ·rw [zaE (Ne.symm hj)] at e2
    obtain ⟨u',r',q⟩:=hl j y v' e1 e2 e3
    refine ⟨u',r',?_⟩
    rcases q with ⟨k,e⟩ | ⟨k,c,e,z⟩
    ·refine .inl ⟨k,?_⟩
     have:y≠x:=fun e=>hj (sU hN e1 (e ▸ hi))
     simp [this,e]
    ·exact .inr ⟨k,c,e,z.sameBut hs (Ko y c e)⟩
  ·obtain ⟨w',z⟩:=I.cell y c e
   exact ⟨w',z.sameBut hs (Ko y c e)⟩
  ·obtain ⟨e,n,ne,nf,d⟩:=I.pin p hp
   exact ⟨(hs.2 p.1 ne).trans e,n,ne,nf,d⟩
 ·have hfn:X.fn x=true:=by
   rcases hf with z | z
   ·exact z
   ·rw [z] at hk;cases hk
  obtain ⟨c,hc⟩:=I.ok.has x (.inl hk)
  obtain ⟨w',z⟩:=I.cell x c hc
  refine wpAny_storeName_cell I.ok.kind hk hc z (fun h' hc' hs => ?_)
  obtain ⟨oc,hoc,hocd⟩:=id z
  refine h { s with heap:=h' } ⟨I.ok,I.os,I.bare,⟨fun b o e n hb hx => ?_,fun b o e n hb hx => ?_,I.base.free,fun b o e hx => ?_,I.base.tups,I.base.oE,I.base.qe⟩,⟨m,hn.sameBut hs (Ne.symm (Ko x c hc)),fun j y v' e1 e2 e3 => ?_⟩,fun y c' e => ?_,I.free,I.gC,fun p hp => ?_,tracked ⟨oc,hoc,I.gC x c hc⟩ hs,by simpa using I.len⟩ ⟨c,hs,.inr hc⟩
  ·exact (hs.2 b (zcu (zaZ (zcD e) (I.ok.ML x c hfn hc)))).trans (I.base.keep b o e n hb hx)
  ·obtain ⟨sl,e1⟩:=I.base.slot b o e n hb hx
   exact ⟨sl,(hs.2 b (zcu (zaZ (zcD e) (I.ok.ML x c hfn hc)))).trans e1⟩
  ·obtain ⟨o',e1⟩:=I.base.there b o e hx
   exact ⟨o',(hs.2 b (zcu (zaZ (zcD e) (I.ok.ML x c hfn hc)))).trans e1⟩
  ·by_cases hj:j=i
   ·subst hj
    rw [hi] at e1;cases e1
    rw [List.getElem?_set_self hiσ] at e2
    cases e2
    exact ⟨u,r,.inr ⟨.inl hk,c,hc,hc'⟩⟩
   ·rw [zaE (Ne.symm hj)] at e2
    obtain ⟨u',r',q⟩:=hl j y v' e1 e2 e3
    refine ⟨u',r',?_⟩
    rcases q with q | ⟨k,c',e,z'⟩
    ·exact .inl q
    ·refine .inr ⟨k,c',e,z'.sameBut hs ?_⟩
     rintro rfl
     exact hj (sU hN e1 (I.ok.inj _ _ _ e hc ▸ hi))
  ·by_cases hcc:c'=c
   ·subst hcc;exact ⟨_,hc'⟩
   ·obtain ⟨w2,z2⟩:=I.cell y c' e
    exact ⟨w2,z2.sameBut hs hcc⟩
  ·obtain ⟨e,n,ne,nf,d⟩:=I.pin p hp
   refine ⟨(hs.2 p.1 ?_).trans e,n,ne,nf,d⟩
   intro q
   rw [q,hoc] at e
   have q':oc=p.2:=zcL.inj e
   exact d w' (by rw [← q'];exact hocd)
theorem l8 {M:Model}{A:Around}{E:Value→Shared→Prop}{i:Nat}{x:Str}{v:V}{u:Value}{Q:Unit→Shared→Prop} (I:Inv X pins σ H s) (hN:X.N.Nodup) (hi:X.N[i]? = some x) (hx:Loc X.env.scope x) (r:RelV v u)
  (h:∀ s',Inv X pins (σ.set i (some v)) H s'→Q () s') (hf:X.fn x=true∨X.env.scope.names.lookup x=some .local:=by first | exact .inl rfl | exact .inr rfl | assumption):wpAny M A (storeName X.env x u) Q E s :=
 zu I hN hi hx r (fun s' I' _=>h s' I') hf
theorem Inv.MJ {s':Shared}{ch:List Addr} (I:Inv X pins σ H s) (ho:s'.os=s.os) (u:Un (frs X.stack) ch H H' s.heap s'.heap) (hok:iB X.prog X.w H' s'.heap) (hg:AllBare s'.gens)
  (hch:∀ b∈ch,(b∈X.ex∨X.s₀.heap.objs.size≤b)∧b≠X.env.locals∧(∀ x c,X.env.cells.lookup x=some c→c≠b)∧∀ p∈X.pn++pins,p.1≠b):Inv X pins σ H' s':=by
 obtain ⟨h',g',d',t',o'⟩:=s'
 have e:o'=s.os:=ho
 subst e
 exact I.call (g':=g') (t':=t') (d':=d') u hok hg hch
end
noncomputable abbrev XK:=Value→Option Addr→Hp→Prop
noncomputable abbrev St:=List (Option V)
noncomputable abbrev VK:=V→Hp→Prop
noncomputable abbrev TE:=St→Hp→VK→Prop
noncomputable abbrev TT:=St→Hp→(Bool→Hp→Prop)→Prop
noncomputable abbrev TA:=St→Hp→(List V→Hp→Prop)→Prop
structure Ends where
 nx:St→Hp→Prop
 rt:VK
 bk:St→Hp→Prop:=fun _ _=>False
 ct:St→Hp→Prop:=fun _ _=>False
noncomputable abbrev TS:=Ends→St→Hp→Prop
noncomputable def EP (X:Cx) (pins:List (Addr×Obj)) (σ:St) (Q:VK) (u:Value) (s':Shared):Prop:=∃ v H',Inv X pins σ H' s'∧RelV v u∧Q v H'
noncomputable def TP (X:Cx) (pins:List (Addr×Obj)) (σ:St) (Q:Bool→Hp→Prop) (b:Bool) (s':Shared):Prop:=∃ H',Inv X pins σ H' s'∧Q b H'
noncomputable def AP (X:Cx) (pins:List (Addr×Obj)) (σ:St) (Q:List V→Hp→Prop) (us:List Value) (s':Shared):Prop:=∃ vs H',Inv X pins σ H' s'∧Vals vs us∧Q vs H'
noncomputable def SP (X:Cx) (pins:List (Addr×Obj)) (D:Ends) (f:Flow) (s':Shared):Prop :=
 match f with
 | .next=>∃ σ' H',Inv X pins σ' H' s'∧D.nx σ' H'
 | .brk=>∃ σ' H',Inv X pins σ' H' s'∧D.bk σ' H'
 | .cont=>∃ σ' H',Inv X pins σ' H' s'∧D.ct σ' H'
 | .ret u=>∃ v σ' H',Inv X pins σ' H' s'∧RelV v u∧D.rt v H'
noncomputable def PE (X:Cx) (e:Expr) (t:TE):Prop :=
 ∀ (pins:List (Addr×Obj)) (s:Shared) (σ:St) (H:Hp) (Q:VK),Inv X pins σ H s→t σ H Q→wpAny (model X.prog X.w) X.A (eval e X.env) (EP X pins σ Q) X.xe s
noncomputable def PT (X:Cx) (e:Expr) (t:TT):Prop :=
 ∀ (pins:List (Addr×Obj)) (s:Shared) (σ:St) (H:Hp) (Q:Bool→Hp→Prop),Inv X pins σ H s→t σ H Q→wpAny (model X.prog X.w) X.A (isTrue e X.env (eval e X.env)) (TP X pins σ Q) X.xe s
noncomputable def PW (X:Cx) (e:Expr) (t:TT):Prop :=
 ∀ (whole:Sem Value) (pins:List (Addr×Obj)) (s:Shared) (σ:St) (H:Hp) (Q:Bool→Hp→Prop),Inv X pins σ H s→t σ H Q→wpAny (model X.prog X.w) X.A (isTrue e X.env whole) (TP X pins σ Q) X.xe s
theorem PW.pt {X:Cx}{e:Expr}{t:TT} (h:PW X e t):PT X e t:=h _
noncomputable def PA (X:Cx) (es:List Expr) (t:TA):Prop :=
 ∀ (pos:Pos) (pins:List (Addr×Obj)) (s:Shared) (σ:St) (H:Hp) (Q:List V→Hp→Prop),Inv X pins σ H s→t σ H Q→wpAny (model X.prog X.w) X.A (spliced (backTo pos (starEach es X.env))) (AP X pins σ Q) X.xe s
noncomputable def PS (X:Cx) (st:Stmt) (t:TS):Prop :=
 ∀ (pins:List (Addr×Obj)) (s:Shared) (σ:St) (H:Hp) (D:Ends),Inv X pins σ H s→t D σ H→wpAny (model X.prog X.w) X.A (exec st X.env) (SP X pins D) X.xe s
noncomputable def rM (X:Cx) (st:List Stmt) (t:TS):Prop :=
 ∀ (pins:List (Addr×Obj)) (s:Shared) (σ:St) (H:Hp) (D:Ends),Inv X pins σ H s→t D σ H→wpAny (model X.prog X.w) X.A (execs st X.env) (SP X pins D) X.xe s
theorem cA {α:Type}{t:Sem α}{Q Q':α→Shared→Prop}{M:Model}{A:Around}{E:Value→Shared→Prop}{s:Shared} (h:wpAny M A t Q E s) (hQ:∀ a s,Q a s→Q' a s):wpAny M A t Q' E s:=wpAny_mono h hQ fun _ _ x=>x
section
variable {X:Cx}
noncomputable def l6 (i:Nat):TE:=fun σ H Q=>∃ v,σ[i]? = some (some v)∧Q v H
noncomputable def tC (v:V):TE:=fun _ H Q=>Q v H
theorem B8 {i:Nat}{x:Str}{pos:Pos} (hN:X.N[i]? = some x) (hv:MZ X.env.scope x) (hd:(x==("__debug__" : Str))=false:=by decide) (hcd:(x==("__classdict__" : Str))=false:=by decide):PE X (.Name x pos) (l6 i):=by
 intro pins s σ H Q I h
 obtain ⟨v,e,h⟩:=h
 obtain ⟨m,hn,hl⟩:=I.loc
 obtain ⟨u,r,l⟩:=hl i x v hN e hv
 have fin:EP X pins σ Q u s:=⟨v,H,I,r,h⟩
 rcases l with ⟨hk,hm⟩ | ⟨hk,c,hc,hcell⟩
 ·exact wpAny_Name (wpAny_loadName_local I.ok.kind hk hn hm fin) hd
 ·rcases hk with hk | hk
  ·exact wpAny_Name (wpAny_loadName_cell I.ok.kind hk hc hcell fin) hd
  ·exact wpAny_Name (wpAny_loadName_free I.ok.kind hk hc hcell fin hcd) hd
theorem ah {i j pos}:PE X (.Constant (.int i) j pos) (tC (.int i)):=fun _ _ _ H _ I h=>wpAny_Constant_int ⟨.int i,H,I.tok _,⟨_,rfl⟩,h⟩
theorem fz {b j pos}:PE X (.Constant (.bool b) j pos) (tC (.bl b)):=fun _ _ _ H _ I h=>Constant_bool ⟨.bl b,H,I,rfl,h⟩
theorem au {x j pos}:PE X (.Constant (.str x) j pos) (tC (.str x)):=fun _ _ _ H _ I h=>Calls.Constant_str ⟨.str x,H,I.tok _,⟨_,rfl⟩,h⟩
noncomputable def Gl (X:Cx) (x:Str):Prop:=X.env.kindOf x=some .globalImplicit
theorem qV {E:Value→Shared→Prop}{pins:List (Addr×Obj)}{s:Shared}{σ:St}{H:Hp}{x:Str}{u:Value}{pos:Pos}{Q:Value→Shared→Prop} (I:Inv X pins σ H s) (hg:Gl X x) (hm:X.mg x=some u) (h:Q u s)
  (hd:(x==("__debug__" : Str))=false:=by decide):wpAny (model X.prog X.w) X.A (eval (.Name x pos) X.env) Q E s :=
 Calls.Name_function_global I.ok.kind hg (Calls.loadGlobal_global (by rw [I.ok.glob];exact I.mod.glob.keeps I.bk) hm h) hd
theorem fX {E:Value→Shared→Prop}{pins:List (Addr×Obj)}{s:Shared}{σ:St}{H:Hp}{x:Str}{u:Value}{pos:Pos}{Q:Value→Shared→Prop} (I:Inv X pins σ H s) (hg:Gl X x) (hm:X.mg x=none) (hv:bootBuiltins x=some u) (h:Q u s)
  (hn:x ≠ "__name__" := by decide) (hd:(x==("__debug__" : Str))=false:=by decide):wpAny (model X.prog X.w) X.A (eval (.Name x pos) X.env) Q E s:=by
 obtain ⟨mb,h1,h2⟩:=I.mod.blt
 exact Calls.Name_function_global I.ok.kind hg (Calls.loadGlobal_builtin (by rw [I.ok.glob];exact I.mod.glob.keeps I.bk) hm (by rw [I.ok.blt];exact h1.keeps I.bk) ((h2 x hn).trans hv) h) hd
theorem qI {x:Str}{v:V}{u:Value}{pos:Pos} (hg:Gl X x) (hm:X.mg x=some u) (r:RelV v u) (hd:(x==("__debug__" : Str))=false:=by decide):PE X (.Name x pos) (tC v) :=
 fun _ _ _ H _ I h=>qV I hg hm ⟨v,H,I,r,h⟩ hd
theorem Ft {x:Str}{v:V}{u:Value}{pos:Pos} (hg:Gl X x) (hm:X.mg x=none) (hv:bootBuiltins x=some u) (r:RelV v u) (hn:x ≠ "__name__" := by decide) (hd:(x==("__debug__" : Str))=false:=by decide):PE X (.Name x pos) (tC v) :=
 fun _ _ _ H _ I h=>fX I hg hm hv ⟨v,H,I,r,h⟩ hn hd
variable {a b:Expr}{ta tb:TE}{pos:Pos}
noncomputable def tB (t:TE):TT:=fun σ H Q=>t σ H fun x H1=>∃ c,x = .bl c∧Q c H1
variable {tA tB':TT}{rest:List Expr}
noncomputable def Lf (t u:TT):TT:=fun σ H Q=>t σ H fun c H1=>if c=true then u σ H1 Q else Q false H1
noncomputable def O7 (t u:TT):TT:=fun σ H Q=>t σ H fun c H1=>if c=true then Q true H1 else u σ H1 Q
noncomputable def Ld (t:TT):TT:=fun σ H Q=>t σ H fun c H1=>Q (!c) H1
theorem pw_and1 (ha:PT X a tA):PW X (.BoolOp .And [a] pos) tA:=by
 intro wh pins s σ H Q I h
 refine isTrue_and (cA (ha pins s σ H Q I h) fun c s1 e => ?_)
 cases c with
 | true=>exact isTrue_and_nil e
 | false=>exact e
theorem pw_or1 (ha:PT X a tA):PW X (.BoolOp .Or [a] pos) tA:=by
 intro wh pins s σ H Q I h
 refine isTrue_or (cA (ha pins s σ H Q I h) fun c s1 e => ?_)
 cases c with
 | false=>exact isTrue_or_nil e
 | true=>exact e
theorem pw_and (ha:PT X a tA) (hb:PW X (.BoolOp .And (b::rest) pos) tB'):PW X (.BoolOp .And (a::b::rest) pos) (Lf tA tB'):=by
 intro wh pins s σ H Q I h
 refine isTrue_and (cA (ha pins s σ H _ I h) fun c s1 ⟨H1,I1,q1⟩ => ?_)
 cases c with
 | true=>exact hb wh pins s1 σ H1 Q I1 q1
 | false=>exact ⟨H1,I1,q1⟩
theorem pw_or (ha:PT X a tA) (hb:PW X (.BoolOp .Or (b::rest) pos) tB'):PW X (.BoolOp .Or (a::b::rest) pos) (O7 tA tB'):=by
 intro wh pins s σ H Q I h
 refine isTrue_or (cA (ha pins s σ H _ I h) fun c s1 ⟨H1,I1,q1⟩ => ?_)
 cases c with
 | true=>exact ⟨H1,I1,q1⟩
 | false=>exact hb wh pins s1 σ H1 Q I1 q1
theorem vn (ha:PT X a tA):PT X (.UnaryOp .Not a pos) (Ld tA):=by
 intro pins s σ H Q I h
 exact isTrue_not (ha pins s σ H (fun c H1=>Q (!c) H1) I h)
noncomputable def G4 (ta tb:TE):TE:=fun σ H Q=>ta σ H fun x H1=>∃ c,x = .bl c∧if c=true then tb σ H1 Q else Q (.bl false) H1
theorem m6 {op}{t:TE} (h:PE X a t):PE X (.BoolOp op [a] pos) t:=fun pins s σ H Q I hw=>BoolOp_one (h pins s σ H Q I hw)
theorem iS (ha:PE X a ta) (hb:PE X (.BoolOp .And (b::rest) pos) tb):PE X (.BoolOp .And (a::b::rest) pos) (G4 ta tb):=by
 intro pins s σ H Q I h
 refine BoolOp_and (cA (ha pins s σ H _ I h) fun v s1 ⟨x,H1,I1,r1,q1⟩ => ?_)
 obtain ⟨c,rfl,q1⟩:=q1
 cases r1
 refine wpAny_truthy_bool ?_
 cases c with
 | true=>exact hb pins s1 σ H1 Q I1 q1
 | false=>exact ⟨.bl false,H1,I1,rfl,q1⟩
end
noncomputable def b9 (K:PySem.W.Frag) (H:Hp) (a:Addr) (xs:List V):Prop :=
 Rd H a (.lst xs) ∨
  ∃ (o:Obj) (its:Array Value) (n:Nat),K.lookup a=some o∧o.cls = .type "list" ∧ o.dict=none∧o.data = .seq its n∧its.size≤sizeLine∧Vals xs its.toList
noncomputable def eg (K:PySem.W.Frag) (H:Hp) (a:Addr) (xs:List V):Prop :=
 Rd H a (.tup xs) ∨
  ∃ (o:Obj) (its:Array Value) (n:Nat),K.lookup a=some o∧o.cls = .type "tuple" ∧ o.data = .seq its n∧its.size≤sizeLine∧Vals xs its.toList
noncomputable def OV:Value→Option V
 | .none=>some .bH
 | .bool b=>some (.bl b)
 | .int i _=>some (.int i)
 | .str x _=>some (.str x)
 | .bytes b _=>some (.uP b)
 | .float b _=>some (.JW b)
 | .ref a=>some (.ref a)
 | .type n=>some (.ty n)
 | _=>none
theorem RelV.abs {x:V}{u:Value} (r:RelV x u):OV u=some x:=by
 cases x with
 | bH=>cases r;rfl
 | bl _=>cases r;rfl
 | int _=>obtain ⟨t,rfl⟩:=r;rfl
 | str _=>obtain ⟨t,rfl⟩:=r;rfl
 | uP _=>obtain ⟨t,rfl⟩:=r;rfl
 | JW _=>obtain ⟨t,rfl⟩:=r;rfl
 | ref _=>cases r;rfl
 | ty _=>cases r;rfl
theorem RelV.inj {x y:V}{u:Value} (r:RelV x u) (q:RelV y u):x=y:=zcL.inj (r.abs.symm.trans q.abs)
theorem Vals.inj:∀ {xs ys:List V}{us:List Value},Vals xs us→Vals ys us→xs=ys
 | _,_,_,.nil,.nil=>rfl
 | _,_,_,.cons r t,.cons r' t'=>by rw [r.inj r',Vals.inj t t']
section
variable {X:Cx}{pins:List (Addr×Obj)}{σ:St}{H:Hp}{s:Shared}{a:Addr}{xs ys:List V}
theorem b9.of {K:PySem.W.Frag} (h:H a=some (.lst xs)):b9 K H a xs:=.inl (.inl h)
theorem eg.of {K:PySem.W.Frag} (h:H a=some (.tup xs)):eg K H a xs:=.inl (.inl h)
theorem Inv.list (I:Inv X pins σ H s) (h:b9 X.K H a xs):∃ its:List Value,Vals xs its∧PlainL s.heap a its.toArray∧xs.length≤sizeLine:=by
 rcases h with h | ⟨o,its,n,hk,hc,hd,hs,hz,r⟩
 ·obtain ⟨z,its,n,r,e⟩:=h.ok I.hok
  exact ⟨its,r,⟨_,n,e,rfl,rfl,rfl⟩,z⟩
 ·refine ⟨its.toList,r,⟨o,n,I.kW a o hk,hc,hd,by simpa using hs⟩,?_⟩
  have e:=r.length
  simp only [zaP] at e
  omega
theorem Inv.tuple (I:Inv X pins σ H s) (h:eg X.K H a xs):∃ its:List Value,Vals xs its∧IsTup s.heap a its.toArray∧xs.length≤sizeLine:=by
 rcases h with h | ⟨o,its,n,hk,hc,hs,hz,r⟩
 ·obtain ⟨z,its,r,p⟩:=h.ok I.hok
  exact ⟨its,r,p,z⟩
 ·refine ⟨its.toList,r,⟨o,I.kW a o hk,hc,n,by simpa using hs⟩,?_⟩
  have e:=r.length
  simp only [zaP] at e
  omega
theorem Inv.tE (I:Inv X pins σ H s) (h:b9 X.K H a xs) (h':b9 X.K H a ys):xs=ys:=by
 obtain ⟨its,r,⟨o,n,e,_,_,d⟩,_⟩:=I.list h
 obtain ⟨its',r',⟨o',n',e',_,_,d'⟩,_⟩:=I.list h'
 rw [e] at e';cases e'
 rw [d] at d'
 injection d' with d1 _
 have:its=its':=by simpa using congrArg Array.toList d1
 subst this
 exact r.inj r'
theorem Inv.zo (I:Inv X pins σ H s) (h:eg X.K H a xs) (h':eg X.K H a ys):xs=ys:=by
 obtain ⟨its,r,⟨o,e,_,n,d⟩,_⟩:=I.tuple h
 obtain ⟨its',r',⟨o',e',_,n',d'⟩,_⟩:=I.tuple h'
 rw [e] at e';cases e'
 rw [d] at d'
 injection d' with d1 _
 have:its=its':=by simpa using congrArg Array.toList d1
 subst this
 exact r.inj r'
end
noncomputable abbrev Cx.n9 (X:Cx) (E:Value→Shared→Prop):Cx:={ X with xe:=E }
noncomputable abbrev Cx.Eu (X:Cx):Cx:=X.n9 fun _ _=>False
theorem Cx.Ok.n9 {X:Cx} (ok:X.Ok) (E:Value→Shared→Prop):(X.n9 E).Ok :=
 ⟨ok.mod,ok.kind,ok.glob,ok.blt,ok.above,ok.inj,ok.has,ok.ML,ok.hd,ok.frames,ok.stk,ok.OI,ok.bs,ok.Gs,ok.Ck,ok.F7,ok.kY,ok.JV⟩
theorem Cx.Ok.gi {X:Cx}{E:Value→Shared→Prop} (ok:(X.n9 E).Ok):X.Ok :=
 ⟨ok.mod,ok.kind,ok.glob,ok.blt,ok.above,ok.inj,ok.has,ok.ML,ok.hd,ok.frames,ok.stk,ok.OI,ok.bs,ok.Gs,ok.Ck,ok.F7,ok.kY,ok.JV⟩
section
variable {X:Cx}{pins:List (Addr×Obj)}{σ:St}{H:Hp}{s:Shared}{E:Value→Shared→Prop}
theorem Inv.n9 (I:Inv X pins σ H s) (E:Value→Shared→Prop):Inv (X.n9 E) pins σ H s:=⟨I.ok.n9 E,I.os,I.bare,I.base,I.loc,I.cell,I.free,I.gC,I.pin,I.hok,I.len⟩
theorem Inv.gi (I:Inv (X.n9 E) pins σ H s):Inv X pins σ H s:=⟨I.ok.gi,I.os,I.bare,I.base,I.loc,I.cell,I.free,I.gC,I.pin,I.hok,I.len⟩
theorem SP.gi {D:Ends}{f:Flow}{s':Shared} (h:SP (X.n9 E) pins D f s'):SP X pins D f s':=by
 cases f with
 | next=>obtain ⟨σ',H',I,q⟩:=h;exact ⟨σ',H',I.gi,q⟩
 | brk=>obtain ⟨σ',H',I,q⟩:=h;exact ⟨σ',H',I.gi,q⟩
 | cont=>obtain ⟨σ',H',I,q⟩:=h;exact ⟨σ',H',I.gi,q⟩
 | ret u=>obtain ⟨v,σ',H',I,r,q⟩:=h;exact ⟨v,σ',H',I.gi,r,q⟩
theorem rM.Eu {st:List Stmt}{t:TS} (h:rM X.Eu st t):rM X st t:=fun pins s σ H D I hw =>
 wpAny_mono (h pins s σ H D (I.n9 _) hw) (fun _ _ q=>q.gi) fun _ _ z=>False.elim z
end
section
variable {X:Cx}{st:Stmt}{rest:List Stmt}{t u:TS}{e:Expr}{te:TE}{pos:Pos}
noncomputable def A0:TS:=fun D σ H=>D.nx σ H
noncomputable def EI (t u:TS):TS:=fun D σ H=>t { D with nx:=u D } σ H
theorem bz:rM X [] A0:=fun _ _ σ H _ I h=>wpAny_execs_nil ⟨σ,H,I,h⟩
theorem af (h1:PS X st t) (h2:rM X rest u):rM X (st::rest) (EI t u):=by
 intro pins s σ H D I h
 refine wpAny_execs_cons (cA (h1 pins s σ H { D with nx:=u D } I h) fun f s1 q => ?_)
 cases f with
 | next =>
  obtain ⟨σ',H',I',q⟩:=q
  exact h2 pins s1 σ' H' D I' q
 | ret v=>exact q
 | brk=>exact q
 | cont=>exact q
theorem aj (h1:PS X st t):rM X [st] t:=by
 intro pins s σ H D I h
 refine wpAny_execs_cons (cA (h1 pins s σ H D I h) fun f s1 q => ?_)
 cases f with
 | next=>exact wpAny_execs_nil q
 | ret v=>exact q
 | brk=>exact q
 | cont=>exact q
theorem Inv.quiet {pins:List (Addr×Obj)}{σ:St}{H:Hp}{s:Shared} (I:Inv X pins σ H s):interactive X.env=false:=by simp [interactive,I.ok.kind]
noncomputable def A6 (te:TE):TS:=fun D σ H=>te σ H fun _ H1=>D.nx σ H1
theorem aZ (he:PE X e te) (hs:swapsWith e none pos.line X.env=pure false:=by rfl):PS X (.Expr e pos) (A6 te):=by
 intro pins s σ H D I h
 exact wpAny_Expr_any (cA (he pins s σ H _ I h) fun v s1 ⟨x,H1,I1,r1,q1⟩=>⟨σ,H1,I1,q1⟩) I.quiet hs
noncomputable def AY (te:TE):TS:=fun D σ H=>te σ H D.rt
theorem aO (he:PE X e te):PS X (.Return (some e) pos) (AY te):=by
 intro pins s σ H D I h
 exact wpAny_Return_some (cA (he pins s σ H _ I h) fun v s1 ⟨x,H1,I1,r1,q1⟩=>⟨x,σ,H1,I1,r1,q1⟩)
noncomputable def Im (c:TT) (t u:TS):TS:=fun D σ H=>c σ H fun b H1=>if b=true then t D σ H1 else u D σ H1
theorem cu {c:Expr}{a b:List Stmt}{tc:TT} (hc:PT X c tc) (ha:rM X a t) (hb:rM X b u):PS X (.If c a b pos) (Im tc t u):=by
 intro pins s σ H D I h
 refine wpAny_If (cA (hc pins s σ H _ I h) fun d s1 ⟨H1,I1,q1⟩ => ?_)
 cases d with
 | true=>exact ha pins s1 σ H1 D I1 q1
 | false=>exact hb pins s1 σ H1 D I1 q1
noncomputable def Ik:TS:=fun _ _ _=>False
theorem dM:PS X st Ik:=fun _ _ _ _ _ _ h=>h.elim
end
noncomputable abbrev TG:=V→St→Hp→(St→Hp→Prop)→Prop
noncomputable abbrev GQ:=List V→St→Hp→(St→Hp→Prop)→Prop
noncomputable def PG (X:Cx) (target:Expr) (t:TG):Prop :=
 ∀ (pins:List (Addr×Obj)) (s:Shared) (σ:St) (H:Hp) (v:V) (u:Value) (Q:St→Hp→Prop),Inv X pins σ H s→RelV v u→t v σ H Q →
  wpAny (model X.prog X.w) X.A (assign target X.env u) (fun _ s'=>∃ σ' H',Inv X pins σ' H' s'∧Q σ' H') X.xe s
noncomputable def KQ (X:Cx) (ts:List Expr) (t:GQ):Prop :=
 ∀ (pins:List (Addr×Obj)) (s:Shared) (σ:St) (H:Hp) (vs:List V) (us:List Value) (Q:St→Hp→Prop),Inv X pins σ H s→Vals vs us→t vs σ H Q →
  wpAny (model X.prog X.w) X.A (assignInOrder ((assignEach ts X.env).map (·.2)) us) (fun _ s'=>∃ σ' H',Inv X pins σ' H' s'∧Q σ' H') X.xe s
section
variable {X:Cx}{pos:Pos}
noncomputable def kM (i:Nat):TG:=fun v σ H Q=>Q (σ.set i (some v)) H
theorem aq {i:Nat}{x:Str} (hN:X.N.Nodup) (hi:X.N[i]? = some x) (hx:Loc X.env.scope x) (hf:X.fn x=true∨X.env.scope.names.lookup x=some .local:=by first | exact .inl rfl | exact .inr rfl | assumption):PG X (.Name x pos) (kM i):=by
 intro pins s σ H v u Q I r h
 exact wpAny_assign_Name (l8 I hN hi hx r (fun s' I'=>⟨_,H,I',h⟩) hf)
noncomputable def Mu:GQ:=fun vs σ H Q=>vs=[]∧Q σ H
noncomputable def HH (t:TG) (u:GQ):GQ:=fun vs σ H Q=>∃ v r,vs=v::r∧t v σ H fun σ' H'=>u r σ' H' Q
theorem dX:KQ X [] Mu:=by
 intro pins s σ H vs us Q I r h
 obtain ⟨e,h⟩:=h
 subst e
 cases r
 exact assignInOrder_nil ⟨σ,H,I,h⟩
theorem br {e:Expr}{es:List Expr}{t:TG}{u:GQ} (h1:PG X e t) (h2:KQ X es u)
  (hs:(assignEach (e::es) X.env).map (·.2)=assign e X.env::(assignEach es X.env).map (·.2):=by rfl):KQ X (e::es) (HH t u):=by
 intro pins s σ H vs us Q I r h
 obtain ⟨v,vr,e1,h⟩:=h
 subst e1
 cases r with
 | cons r rr =>
  rw [hs]
  refine assignInOrder_cons (cA (h1 pins s σ H _ _ _ I r h) fun _ s1 ⟨σ1,H1,I1,q1⟩ => ?_)
  exact h2 pins s1 σ1 H1 _ _ Q I1 rr q1
noncomputable def Mt (K:PySem.W.Frag) (n:Nat) (t:GQ):TG:=fun v σ H Q=>∃ a xs,v = .ref a∧eg K H a xs∧xs.length=n∧t xs σ H Q
theorem fS {es:List Expr}{k:Nat}{t:GQ}{n:Nat} (hc:X.calm=true) (h:KQ X es t)
  (hn:(assignEach es X.env).length=n:=by rfl) (hst:(assignEach es X.env).findIdx? (·.1)=none:=by rfl):PG X (.Tuple es k pos) (Mt X.K n t):=by
 intro pins s σ H v u Q I r hw
 obtain ⟨a,xs,e1,hq,hl,hw⟩:=hw
 subst e1
 cases r
 obtain ⟨its,rv,ht,hz⟩:=I.tuple hq
 refine assign_Tuple_tuple (I.ok.hd hc) ht (by simp [hn,← hl,rv.length]) hst fun h' hx => ?_
 have I1:Inv X pins σ H { s with heap:=h' }:=I.kept (t':=s.toks) fun b o e=>hx b o (zcu (zcD e)) e
 exact h pins _ σ H xs _ Q I1 (by simpa using rv) hw
noncomputable def zq (te:TE) (g:TG):TS:=fun D σ H=>te σ H fun x H1=>g x σ H1 D.nx
theorem vo {tg e:Expr}{te:TE}{g:TG} (he:PE X e te) (hg:PG X tg g) (hs:swapsWithSole [tg] e pos.line X.env=pure false:=by rfl) (hw:swappedStores [tg] e X.env=pure none:=by rfl)
  (h1:(assignEach [tg] X.env).map (·.2)=[assign tg X.env]:=by rfl):PS X (.Assign [tg] e pos) (zq te g):=by
 intro pins s σ H D I h
 refine wpAny_Assign_stores (cA (he pins s σ H _ I h) fun v s1 ⟨x,H1,I1,r1,q1⟩ => ?_) hs hw
 rw [h1]
 exact cA (hg pins s1 σ H1 x v _ I1 r1 q1) fun _ s2 q=>q
theorem aD {i:Nat}{x:Str}{e:Expr}{te:TE}{pos':Pos} (hN:X.N.Nodup) (hi:X.N[i]? = some x) (hx:Loc X.env.scope x) (he:PE X e te) (hs:swapsWith e (some (.Name x pos')) pos.line X.env=pure false:=by rfl) (hf:X.fn x=true∨X.env.scope.names.lookup x=some .local:=by first | exact .inl rfl | exact .inr rfl | assumption) :
  PS X (.Assign [.Name x pos'] e pos) (zq te (kM i)):=by
 intro pins s σ H D I h
 refine wpAny_Assign_Name (cA (he pins s σ H _ I h) fun v s1 ⟨y,H1,I1,r1,q1⟩ => ?_) hs
 exact l8 I1 hN hi hx r1 (fun s2 I2=>⟨_,H1,I2,q1⟩) hf
noncomputable def AX (c:TT) (tb:TS):TS:=fun D σ H=>∃ W:Nat→St→Hp→Prop,(∃ m,W m σ H)∧∀ m σ H,W m σ H →
 c σ H fun b H1=>if b=true then ∃ N:St→Hp→Prop,(∀ σ' H',N σ' H'→∃ m',m'<m∧W m' σ' H')∧tb { D with nx:=N,ct:=N,bk:=D.nx } σ H1 else D.nx σ H1
theorem mY {c:Expr}{body:List Stmt}{tc:TT}{tb:TS} (hp:PassesOwn (model X.prog X.w) X.A X.env X.xe) (hc:PT X c tc) (hb:rM X body tb):PS X (.While c body [] pos) (AX tc tb):=by
 intro pins s σ H D I h
 obtain ⟨W,⟨m0,w0⟩,turn⟩:=h
 refine wpAny_While (codeAny_whileLoop (fun n s'=>∃ σ' H',Inv X pins σ' H' s'∧W n σ' H') ?_ m0 ⟨σ,H,I,w0⟩)
 rintro n s1 ⟨σ1,H1,I1,w1⟩
 refine wpAny_passesOwn hp (cA (hc pins s1 σ1 H1 _ I1 (turn n σ1 H1 w1)) fun b s2 ⟨H2,I2,q2⟩ => ?_)
 cases b with
 | true =>
  obtain ⟨N,hN,q2⟩:=q2
  rw [if_pos rfl]
  refine wpAny_passesOwn hp (cA (hb pins s2 σ1 H2 _ I2 q2) fun f s3 q3 => ?_)
  cases f with
  | next =>
   obtain ⟨σ3,H3,I3,n3⟩:=q3
   obtain ⟨m',hm,w3⟩:=hN σ3 H3 n3
   exact ⟨m',hm,σ3,H3,I3,w3⟩
  | cont =>
   obtain ⟨σ3,H3,I3,n3⟩:=q3
   obtain ⟨m',hm,w3⟩:=hN σ3 H3 n3
   exact ⟨m',hm,σ3,H3,I3,w3⟩
  | brk=>exact q3
  | ret v=>exact q3
 | false =>
  rw [if_neg zbb]
  exact wpAny_execs_nil ⟨σ1,H2,I2,q2⟩
end
structure It where
 go:Nat→Hp→Prop
 Az:Nat→Hp→V→Hp→Prop
 stop:Nat→Hp→Prop
noncomputable def kH (X:Cx) (pins:List (Addr×Obj)) (H:Hp) (b:Addr):Prop :=
 H b=none∧b≠X.env.locals∧b ∉ X.fs∧(b∈X.ex∨X.s₀.heap.objs.size≤b)∧(∀ x c,X.env.cells.lookup x=some c→c≠b)∧∀ p∈X.pn++pins,p.1≠b
theorem Inv.tR {X:Cx}{pins:List (Addr×Obj)}{σ:St}{H H':Hp}{s:Shared}{b:Addr} (I:Inv X pins σ H s) (hb:s.heap.objs.size≤b) (hn:H' b=none):kH X pins H' b:=by
 refine ⟨hn,zcw (zaZ I.lt hb),I.L5 hb,.inr (zcv I.sz hb),fun x c e z => ?_,fun p hp z => ?_⟩
 ·obtain ⟨v,q⟩:=I.cell x c e
  exact absurd (zaZ q.lt (by rw [z];exact hb)) (zcn _)
 ·exact absurd (zaZ (zcD (I.pin p hp).1) (by rw [z];exact hb)) (zcn _)
structure Turn (P:Program) (w:World) (K:PySem.W.Frag) (tg:Expr) (J:It) (fp:List Addr) (it:Addr) (tn:Nat→Heap→Prop):Prop where
 mem:it∈fp
 obj:∀ i h,tn i h→∀ b∈fp,∃ o,h.get? b=some o∧∀ v,o.data ≠ .cell v
 keep:∀ i h h',tn i h→(∀ b∈fp,∀ o,h.get? b=some o→h'.get? b=some o)→tn i h'
 item:∀ (X:Cx),X.prog=P→X.w=w→X.K=K→X.calm=true→∀ (i:Nat) (pins:List (Addr×Obj)) (s:Shared) (σ:St) (H:Hp) (E:Value→Shared→Prop),Inv X pins σ H s→(∀ b∈fp,kH X pins H b)→tn i s.heap→J.go i H →
  wpAny (model P w) X.A (pyNext (.ref it)) (fun r s1=>∃ u,r=some u ∧
   wpAny (model P w) X.A (letOwnedTupleGo tg (.ref it) u) (fun _ s2=>∃ x H',Inv X pins σ H' s2∧RelV x u∧J.Az i H x H'∧tn (i+1) s2.heap∧∀ b∈fp,H' b=none) E s1) E s
 done:∀ (X:Cx),X.prog=P→X.w=w→X.K=K→X.calm=true→∀ (i:Nat) (pins:List (Addr×Obj)) (s:Shared) (σ:St) (H:Hp) (E:Value→Shared→Prop),Inv X pins σ H s→(∀ b∈fp,kH X pins H b)→tn i s.heap→J.stop i H →
  wpAny (model P w) X.A (pyNext (.ref it)) (fun r s1=>r=none∧Inv X pins σ H s1) E s
 self:∀ (A:Around) (i:Nat) (s:Shared) (Q:Value→Shared→Prop) (E:Value→Shared→Prop),tn i s.heap→Q (.ref it) s→wpAny (model P w) A (pyIter (.ref it)) Q E s
noncomputable abbrev TI:=St→Hp→(It→Hp→Prop)→Prop
noncomputable def Pk (X:Cx) (pins:List (Addr×Obj)) (σ:St) (tg:Expr) (R:It→Hp→Prop) (itv:Value) (s2:Shared):Prop :=
 ∃ (it:Addr) (fp:List Addr) (tn:Nat→Heap→Prop) (J:It) (H':Hp),itv = .ref it∧Inv X pins σ H' s2∧Turn X.prog X.w X.K tg J fp it tn∧tn 0 s2.heap∧(∀ b∈fp,kH X pins H' b)∧R J H'
noncomputable def PI (X:Cx) (tg iter:Expr) (wi:TI):Prop :=
 ∀ (pins:List (Addr×Obj)) (s:Shared) (σ:St) (H:Hp) (R:It→Hp→Prop),Inv X pins σ H s→wi σ H R →
  wpAny (model X.prog X.w) X.A (eval iter X.env) (fun v s1=>wpAny (model X.prog X.w) X.A (pyIter v) (Pk X pins σ tg R) X.xe s1) X.xe s
theorem yu {M:Model}{A:Around}{E:Value→Shared→Prop}{s:Shared}{tg:Expr}{it:Addr}{u:Value}{o:Obj}{n:String}{vs:Array Value}{Q:Unit→Shared→Prop} (ho:s.heap.get? it=some o) (hc:o.cls = .type n) (hd:o.data = .fields vs)
  (hn:["enumerate","zip","dict_itemiterator","dict_reverseitemiterator","odict_iterator","itertools.zip_longest","itertools.pairwise"].contains n=false) (hQ:Q () s):wpAny M A (letOwnedTupleGo tg (.ref it) u) Q E s:=by
 unfold letOwnedTupleGo
 cases tg <;> first
  | exact wpAny_pure hQ
  | (cases u <;> first
    | exact wpAny_pure hQ
    | (refine wpAny_bind (wpAny_load ho ?_);rw [hc,hd];show wpAny M A (if (["enumerate","zip","dict_itemiterator","dict_reverseitemiterator","odict_iterator","itertools.zip_longest","itertools.pairwise"].contains n&&vs[0]? == some (rawInt _))=true then _ else _) Q E s;rw [if_neg (by intro h;rw [hn,Bool.false_and] at h;cases h)];exact wpAny_pure hQ))
noncomputable def Nd (K:PySem.W.Frag) (a:Addr):It :=
 ⟨fun i H=>∃ xs x,b9 K H a xs∧xs[i]? = some x,fun i H x H'=>H'=H∧∀ xs,b9 K H a xs→xs[i]? = some x,fun i H=>∃ xs,b9 K H a xs∧xs.length≤i⟩
noncomputable def NG (K:PySem.W.Frag) (a:Addr):It :=
 ⟨fun i H=>∃ xs x,eg K H a xs∧xs[i]? = some x,fun i H x H'=>H'=H∧∀ xs,eg K H a xs→xs[i]? = some x,fun i H=>∃ xs,eg K H a xs∧xs.length≤i⟩
noncomputable def KY (lo:Int) (n:Nat):It:=⟨fun i _=>i<n,fun i H x H'=>H'=H∧x = .int (lo+i),fun i _=>n≤i⟩
theorem zk {P:Program}{w:World}{K:PySem.W.Frag}{tg:Expr} (a it:Addr):Turn P w K tg (Nd K a) [it] it (fun i h=>h.IsListIter it a i) where
 mem:=by simp
 obj:=fun i h st b hb=>by
  have e:b=it:=by simpa using hb
  subst e
  obtain ⟨o,e,c,d⟩:=st
  exact ⟨o,e,fun v z=>by rw [d] at z;cases z⟩
 keep:=fun i h h' st k=>st.at fun o e=>k it (by simp) o e
 item:=by
  intro X hP hw hK hc i pins s σ H E I hf st hg
  subst hP hw hK
  obtain ⟨xs,x,hq,hx⟩:=hg
  obtain ⟨its,rv,p,hz⟩:=I.list hq
  obtain ⟨u,hu,ru⟩:=rv.get hx
  obtain ⟨f0,f1,f2,f3,f4,f5⟩:=hf it (by simp)
  refine wpAny_pyNext_list_item st p.isList (x:=u) (by simpa using hu) fun h' st' sb => ?_
  have I1:Inv X pins σ H { s with heap:=h' }:=I.turned (t':=s.toks) (fun b o hb e=>(sb.2 b hb).trans e) f0 f1 f3 f4 f5
  obtain ⟨o,e,c,d⟩:=id st'
  exact ⟨u,rfl,yu (s:={ s with heap:=h' }) e c d (by decide) ⟨x,H,I1,ru,⟨rfl,fun ys hy=>by rw [I.tE hy hq];exact hx⟩,st',fun b hb=>(hf b hb).1⟩⟩
 done:=by
  intro X hP hw hK hc i pins s σ H E I hf st hg
  subst hP hw hK
  obtain ⟨xs,hq,hx⟩:=hg
  obtain ⟨its,rv,p,hz⟩:=I.list hq
  obtain ⟨f0,f1,f2,f3,f4,f5⟩:=hf it (by simp)
  have hl:=rv.length
  exact wpAny_pyNext_list_end (I.ok.hd hc) st p.isList (by simp;omega) fun h' eb=>⟨rfl,I.turned (t':=s.toks) (fun b o hb e=>eb b o hb e) f0 f1 f3 f4 f5⟩
 self:=fun _ _ _ _ _ st h=>wpAny_pyIter_listiter st h
theorem uU {P:Program}{w:World}{K:PySem.W.Frag}{tg:Expr} (a it:Addr):Turn P w K tg (NG K a) [it] it (fun i h=>h.IsTupleIter it a i) where
 mem:=by simp
 obj:=fun i h st b hb=>by
  have e:b=it:=by simpa using hb
  subst e
  obtain ⟨o,e,c,d⟩:=st
  exact ⟨o,e,fun v z=>by rw [d] at z;cases z⟩
 keep:=fun i h h' st k=>st.at fun o e=>k it (by simp) o e
 item:=by
  intro X hP hw hK hc i pins s σ H E I hf st hg
  subst hP hw hK
  obtain ⟨xs,x,hq,hx⟩:=hg
  obtain ⟨its,rv,p,hz⟩:=I.tuple hq
  obtain ⟨u,hu,ru⟩:=rv.get hx
  obtain ⟨f0,f1,f2,f3,f4,f5⟩:=hf it (by simp)
  refine wpAny_pyNext_tuple_item st (show s.heap.IsTuple a its.toArray from p) (x:=u) (by simpa using hu) fun h' st' sb => ?_
  have I1:Inv X pins σ H { s with heap:=h' }:=I.turned (t':=s.toks) (fun b o hb e=>(sb.2 b hb).trans e) f0 f1 f3 f4 f5
  obtain ⟨o,e,c,d⟩:=id st'
  exact ⟨u,rfl,yu (s:={ s with heap:=h' }) e c d (by decide) ⟨x,H,I1,ru,⟨rfl,fun ys hy=>by rw [I.zo hy hq];exact hx⟩,st',fun b hb=>(hf b hb).1⟩⟩
 done:=by
  intro X hP hw hK hc i pins s σ H E I hf st hg
  subst hP hw hK
  obtain ⟨xs,hq,hx⟩:=hg
  obtain ⟨its,rv,p,hz⟩:=I.tuple hq
  obtain ⟨f0,f1,f2,f3,f4,f5⟩:=hf it (by simp)
  have hl:=rv.length
  exact wpAny_pyNext_tuple_end (I.ok.hd hc) st (show s.heap.IsTuple a its.toArray from p) (by simp;omega) fun h' eb=>⟨rfl,I.turned (t':=s.toks) (fun b o hb e=>eb b o hb e) f0 f1 f3 f4 f5⟩
 self:=fun _ _ _ _ _ st h=>wpAny_pyIter_tupleiter st h
theorem uV {P:Program}{w:World}{K:PySem.W.Frag}{tg:Expr} (it:Addr) (lo:Int) (n:Nat):Turn P w K tg (KY lo n) [it] it (fun i h=>IsRangeIter h it (lo+(i:Nat)*1) ((n:Int) - (i:Nat)) 1) where
 mem:=by simp
 obj:=fun i h st b hb=>by
  have e:b=it:=by simpa using hb
  subst e
  exact ⟨_,st,fun v z=>by
   have z':Data.fields _=Data.cell v:=z
   cases z'⟩
 keep:=fun i h h' st k=>k it (by simp) _ st
 item:=by
  intro X hP hw hK hc i pins s σ H E I hf st hg
  subst hP hw hK
  obtain ⟨f0,f1,f2,f3,f4,f5⟩:=hf it (by simp)
  have W:=Walks.range (prog:=X.prog) (w:=X.w) (I.ok.hd hc) it lo 1 n
  refine W.item i s _ _ hg st fun v h' tk hv st' kk => ?_
  obtain ⟨t,rfl⟩:=hv
  have I1:Inv X pins σ H { s with heap:=h',toks:=tk }:=I.turned (fun b o hb e=>kk b o (by simpa using hb) e) f0 f1 f3 f4 f5
  refine ⟨_,rfl,yu (s:={ s with heap:=h',toks:=tk }) (n := "range_iterator") st' rfl rfl (by decide) ⟨.int (lo+i),H,I1,⟨t,?_⟩,⟨rfl,rfl⟩,st',fun b hb=>(hf b hb).1⟩⟩
  rw [Int.mul_one]
 done:=by
  intro X hP hw hK hc i pins s σ H E I hf st hg
  subst hP hw hK
  obtain ⟨f0,f1,f2,f3,f4,f5⟩:=hf it (by simp)
  exact wpAny_pyNext_range_end (I.ok.hd hc) st (by have:n≤i:=hg;omega) fun h' eb=>⟨rfl,I.turned (t':=s.toks) (fun b o hb e=>eb b o hb e) f0 f1 f3 f4 f5⟩
 self:=fun _ _ _ _ _ st h=>wpAny_pyIter_rangeiter st h
section
variable {X:Cx}{tg:Expr}
theorem BU {pins:List (Addr×Obj)}{σ:St}{H:Hp}{s:Shared}{R:It→Hp→Prop}{E:Value→Shared→Prop}{lo hi:Int}{t u v:Tok}{tk:Nat} (I:Inv X pins σ H s) (h1 : -(2 ^ 62)≤lo) (h2:lo<2 ^ 62) (h3 : -(2 ^ 62)≤hi) (h4:hi<2 ^ 62)
  (q:R (KY lo (hi - lo).toNat) H):wpAny (model X.prog X.w) X.A (pyIter (.ref s.heap.objs.size)) (Pk X pins σ tg R) E { s with heap:=s.heap.push { cls:=.type "range",data:=.fields #[.int lo t,.int hi u,.int 1 v] },toks:=tk }:=by
 refine wpAny_pyIter_range (IsRange.new ..) (small_one h1 h2 h3 h4) ?_
 have I1:Inv X pins σ H { s with heap:=s.heap.push { cls:=.type "range",data:=.fields #[.int lo t,.int hi u,.int 1 v] },toks:=tk }:=I.kept fun b o e=>zas _ e
 refine ⟨(s.heap.push { cls:=.type "range",data:=.fields #[.int lo t,.int hi u,.int 1 v] }).objs.size,[(s.heap.push { cls:=.type "range",data:=.fields #[.int lo t,.int hi u,.int 1 v] }).objs.size],_,_,H,rfl,
  I1.kept (t':=tk) fun b o e=>zas _ e,uV _ lo (hi - lo).toNat,?_,fun b hb => ?_,q⟩
 ·have e1:lo+((0:Nat):Int)*1=lo:=by simp
  have e2:(((hi - lo).toNat:Nat):Int) - ((0:Nat):Int)=Builtin.Range.rangeSize lo hi 1:=by rw [rangeSize_one];split <;> omega
  show IsRangeIter _ _ (lo+((0:Nat):Int)*1) ((((hi - lo).toNat:Nat):Int) - ((0:Nat):Int)) 1
  rw [e1,e2]
  exact zaR _ rfl
 ·have e:b=(s.heap.push { cls:=.type "range",data:=.fields #[.int lo t,.int hi u,.int 1 v] }).objs.size:=by simpa using hb
  subst e
  exact I1.tR (zcH _) (I1.hok.fresh (zcH _))
noncomputable def CT (ta:TA):TI:=fun σ H R=>ta σ H fun vs H1=>∃ j:Int,vs=[.int j] ∧ -(2 ^ 62)≤j∧j<2 ^ 62∧R (KY 0 j.toNat) H1
theorem bG {a:Expr}{ta:TA}{p pos:Pos} (hg:Gl X "range") (hm:X.mg "range" = none) (ha:PA X [a] ta) (hs:starEach [a] X.env=[(false,eval a X.env)]:=by rfl):PI X tg (.Call (.Name "range" p) [a] [] pos) (CT ta):=by
 intro pins s σ H R I h
 refine Call_ (fX I hg hm boot_range (PyProof.Rows.callWith_type1 (cA (ha pos pins s σ H _ I h) fun us s1 ⟨vs,H1,I1,r1,q1⟩ => ?_) hs rfl))
 obtain ⟨j,e,q1,q2,q⟩:=q1
 subst e
 cases r1 with
 | cons r rr =>
  cases rr
  obtain ⟨t,rfl⟩:=r
  exact call_range_1 (BU I1 (by omega) (by omega) q1 q2 (by simpa using q))
noncomputable def Io (wi:TI) (g:TG) (tb:TS):TS:=fun D σ H=>wi σ H fun J H1=>∃ W:Nat→Nat→St→Hp→Prop,(∃ m,W 0 m σ H1)∧∀ i m σ H,W i m σ H →
 (J.stop i H∧D.nx σ H)∨(J.go i H∧∃ N:St→Hp→Prop,(∀ σ' H',N σ' H'→∃ m',m'<m∧W (i+1) m' σ' H')∧∀ x H',J.Az i H x H'→g x σ H' fun σ2 H2=>tb { D with nx:=N,ct:=N,bk:=D.nx } σ2 H2)
noncomputable def m5 (fp:List Addr) (h:Heap):List (Addr×Obj):=fp.filterMap fun b=>(h.get? b).map fun o=>(b,o)
theorem fU {fp:List Addr}{h:Heap}{b:Addr}{o:Obj} (hb:b∈fp) (e:h.get? b=some o):(b,o)∈m5 fp h:=zaT.mpr ⟨b,hb,by rw [e];rfl⟩
theorem zK {fp:List Addr}{h:Heap}{p:Addr×Obj} (hp:p∈m5 fp h):p.1∈fp∧h.get? p.1=some p.2:=by
 obtain ⟨b,hb,e⟩:=zaT.mp hp
 cases q:h.get? b with
 | none=>rw [q] at e;cases e
 | some o =>
  rw [q] at e
  have e':(b,o)=p:=zcL.inj e
  subst e'
  exact ⟨hb,q⟩
theorem Inv.pinned {pins:List (Addr×Obj)}{σ:St}{H:Hp}{s:Shared}{fp:List Addr} (I:Inv X pins σ H s) (hf:∀ b∈fp,kH X pins H b) (ho:∀ b∈fp,∃ o,s.heap.get? b=some o∧∀ v,o.data ≠ .cell v):Inv X (pins++m5 fp s.heap) σ H s :=
 I.jt fun p hp=>(zbO.mp hp).elim (fun z=>I.pin p (zau _ z)) fun z=>by
  obtain ⟨hb,e⟩:=zK z
  obtain ⟨f0,f1,f2,_⟩:=hf p.1 hb
  obtain ⟨o,e',d⟩:=ho p.1 hb
  rw [e] at e';cases e'
  exact ⟨e,f0,f1,f2,d⟩
theorem Inv.gj {pins pl:List (Addr×Obj)}{σ:St}{H:Hp}{s:Shared} (I:Inv X (pins++pl) σ H s):Inv X pins σ H s:=I.jt fun p hp=>I.pin p (zau _ (zaD _ hp))
theorem cU {iter:Expr}{body:List Stmt}{wi:TI}{g:TG}{tb:TS}{pos:Pos} (hp:PassesOwn (model X.prog X.w) X.A X.env X.xe) (hc:X.calm=true) (hi:PI X tg iter wi) (hg:PG X tg g) (hb:rM X body tb)
  (hs:∀ x,foldedSetIterable iter X.env x=pure x:=by intro _;rfl):PS X (.For tg iter body [] pos) (Io wi g tb):=by
 intro pins s σ H D I h
 refine wpAny_For (cA (hi pins s σ H _ I h) fun v s1 h1=>cA h1 fun itv s2 h2 => ?_) hs
 obtain ⟨it,fp,tn,J,H2,e,I2,T,st2,f2,W,⟨m0,w0⟩,turn⟩:=h2
 subst e
 have Ip:∀ {H':Hp},(∀ b∈fp,H' b=none)→∀ b∈fp,kH X pins H' b:=fun hn b hb=>⟨hn b hb,(f2 b hb).2⟩
 refine codeAny_forLoop_any (fun n s'=>∃ i σ' H',Inv X pins σ' H' s'∧tn i s'.heap∧(∀ b∈fp,H' b=none)∧W i n σ' H') ?_ m0 ⟨0,σ,H2,I2,st2,fun b hb=>(f2 b hb).1,w0⟩
 rintro n s3 ⟨i,σ3,H3,I3,st3,fr3,w3⟩
 rcases turn i n σ3 H3 w3 with ⟨stop,qn⟩ | ⟨go,N,hN,step⟩
 ·refine wpAny_passesOwn hp (cA (T.done X rfl rfl rfl hc i pins s3 σ3 H3 X.xe I3 (Ip fr3) st3 stop) fun r s4 ⟨hr,I4⟩ => ?_)
  subst hr
  exact wpAny_execs_nil ⟨σ3,H3,I4,qn⟩
 ·refine wpAny_passesOwn hp (cA (T.item X rfl rfl rfl hc i pins s3 σ3 H3 X.xe I3 (Ip fr3) st3 go) fun r s4 ⟨u,hr,h4⟩ => ?_)
  subst hr
  refine wpAny_passesOwn hp (cA h4 fun _ s5 ⟨x,H5,I5,r5,y5,st5,fr5⟩ => ?_)
  have I5':=I5.pinned (Ip fr5) (T.obj _ _ st5)
  refine wpAny_passesOwn hp (cA (hg _ s5 σ3 H5 x u _ I5' r5 (step x H5 y5)) fun _ s6 ⟨σ6,H6,I6,q6⟩ => ?_)
  refine wpAny_passesOwn hp (cA (hb _ s6 σ6 H6 _ I6 q6) fun f s7 q7 => ?_)
  have again:∀ {σ7:St}{H7:Hp},Inv X (pins++m5 fp s5.heap) σ7 H7 s7→N σ7 H7→∃ m,m<n∧∃ i σ' H',Inv X pins σ' H' s7∧tn i s7.heap∧(∀ b∈fp,H' b=none)∧W i m σ' H':=fun {σ7 H7} I7 n7=>by
   obtain ⟨m',hm,w7⟩:=hN σ7 H7 n7
   refine ⟨m',hm,i+1,σ7,H7,I7.gj,T.keep _ _ _ st5 fun b hb o e=>(I7.pin (b,o) (zau _ (zau _ (fU hb e)))).1,fun b hb => ?_,w7⟩
   obtain ⟨o,e,d⟩:=T.obj _ _ st5 b hb
   exact (I7.pin (b,o) (zau _ (zau _ (fU hb e)))).2.1
  cases f with
  | next=>obtain ⟨σ7,H7,I7,n7⟩:=q7;exact again I7 n7
  | cont=>obtain ⟨σ7,H7,I7,n7⟩:=q7;exact again I7 n7
  | brk=>obtain ⟨σ7,H7,I7,q7⟩:=q7;exact ⟨σ7,H7,I7.gj,q7⟩
  | ret v=>obtain ⟨x7,σ7,H7,I7,r7,q7⟩:=q7;exact ⟨x7,σ7,H7,I7.gj,r7,q7⟩
end
theorem z9 {lo:Int}{n:Nat}{g:TG}{tb:TS}{D:Ends}{σ:St}{H:Hp} (Pv:Nat→St→Hp→Prop) (h0:Pv 0 σ H)
  (hs:∀ i σ H,i<n→Pv i σ H→g (.int (lo+i)) σ H fun σ2 H2=>tb { D with nx:=Pv (i+1),ct:=Pv (i+1),bk:=D.nx } σ2 H2) (hd:∀ σ H,Pv n σ H→D.nx σ H) :
  ∃ W:Nat→Nat→St→Hp→Prop,(∃ m,W 0 m σ H)∧∀ i m σ H,W i m σ H →
   ((KY lo n).stop i H∧D.nx σ H)∨((KY lo n).go i H∧∃ N:St→Hp→Prop,(∀ σ' H',N σ' H'→∃ m',m'<m∧W (i+1) m' σ' H')∧∀ x H',(KY lo n).Az i H x H'→g x σ H' fun σ2 H2=>tb { D with nx:=N,ct:=N,bk:=D.nx } σ2 H2):=by
 refine ⟨fun i m σ H=>m=n - i∧i≤n∧Pv i σ H,⟨n,by simp,zcI _,h0⟩,?_⟩
 rintro i m σ H ⟨rfl,hi,p⟩
 by_cases hlt:i<n
 ·refine .inr ⟨hlt,Pv (i+1),fun σ' H' p'=>⟨n - (i+1),by omega,rfl,hlt,p'⟩,fun x H' y => ?_⟩
  obtain ⟨e,y⟩:=y
  subst e y
  exact hs i σ _ hlt p
 ·have e:i=n:=by omega
  subst e
  exact .inl ⟨zcH _,hd σ H p⟩
noncomputable abbrev R2:=V→V→Hp→VK→Prop
noncomputable def fj (X:Cx) (f:Value→Value→Sem Value) (r:R2):Prop :=
 ∀ (pins:List (Addr×Obj)) (s:Shared) (σ:St) (H:Hp) (x y:V) (v u:Value) (Q:VK),Inv X pins σ H s→RelV x v→RelV y u→r x y H Q →
  wpAny (model X.prog X.w) X.A (f v u) (EP X pins σ Q) X.xe s
noncomputable def bS (X:Cx) (f:Value) (r:List V→Hp→VK→Prop):Prop :=
 ∀ (pins:List (Addr×Obj)) (s:Shared) (σ:St) (H:Hp) (xs:List V) (us:List Value) (Q:VK),Inv X pins σ H s→Vals xs us→r xs H Q →
  wpAny (model X.prog X.w) X.A (call f us) (EP X pins σ Q) X.xe s
noncomputable def O1 (X:Cx) (r:V→Hp→(Bool→Hp→Prop)→Prop):Prop :=
 ∀ (pins:List (Addr×Obj)) (s:Shared) (σ:St) (H:Hp) (x:V) (v:Value) (Q:Bool→Hp→Prop),Inv X pins σ H s→RelV x v→r x H Q →
  wpAny (model X.prog X.w) X.A (truthy v) (TP X pins σ Q) X.xe s
noncomputable def wU (r:R2) (ta tb:TE):TE:=fun σ H Q=>ta σ H fun x H1=>tb σ H1 fun y H2=>r x y H2 Q
noncomputable def rI (C:Int→Int→Prop) (g:Int→Int→V):R2:=fun x y H Q=>∃ i j,x = .int i∧y = .int j∧C i j∧Q (g i j) H
noncomputable def BY (g:Int→Int→V):R2:=fun x y H Q=>∃ i j,x = .int i∧y = .int j∧Q (g i j) H
section
variable {X:Cx}{a b c:Expr}{ta tb tc:TE}{pos:Pos}
theorem Kq (ha:PE X a ta) (hb:PE X b tb) {pins:List (Addr×Obj)}{s:Shared}{σ:St}{H:Hp}{R:V→V→Hp→Prop} (I:Inv X pins σ H s)
  (h:ta σ H fun x H1=>tb σ H1 fun y H2=>R x y H2) {Q:Value→Shared→Prop}{f:Value→Value→Sem Value}
  (hf:∀ v u s2 x y H2,Inv X pins σ H2 s2→RelV x v→RelV y u→R x y H2→wpAny (model X.prog X.w) X.A (f v u) Q X.xe s2) :
  wpAny (model X.prog X.w) X.A (eval a X.env) (fun v s₁=>wpAny (model X.prog X.w) X.A (eval b X.env) (fun u s₂=>wpAny (model X.prog X.w) X.A (f v u) Q X.xe s₂) X.xe s₁) X.xe s:=by
 refine cA (ha pins s σ H _ I h) fun v s1 ⟨x,H1,I1,r1,q1⟩ => ?_
 refine cA (hb pins s1 σ H1 _ I1 q1) fun u s2 ⟨y,H2,I2,r2,q2⟩ => ?_
 exact hf v u s2 x y H2 I2 r1 r2 q2
theorem aE {op:Operator}{r:R2} (ho:fj X (binaryOp op) r) (ha:PE X a ta) (hb:PE X b tb):PE X (.BinOp a op b pos) (wU r ta tb):=by
 intro pins s σ H Q I h
 exact wpAny_BinOp (Kq ha hb I h fun v u s2 x y H2 I2 rx ry q=>ho pins s2 σ H2 x y v u Q I2 rx ry q)
theorem Nt {f:Value→Value→Sem Value}{C:Int→Int→Prop}{g:Int→Int→Int}
  (rule:∀ (i j:Int) (t u:Tok) (s:Shared) (Q:Value→Shared→Prop) (E:Value→Shared→Prop),C i j→Q (.int (g i j) s.toks) { s with toks:=s.toks+1 }→wpAny (model X.prog X.w) X.A (f (.int i t) (.int j u)) Q E s) :
  fj X f (rI C fun i j=>.int (g i j)):=by
 intro pins s σ H x y v u Q I rx ry h
 obtain ⟨i,j,rfl,rfl,hc,q⟩:=h
 obtain ⟨t,rfl⟩:=rx
 obtain ⟨t',rfl⟩:=ry
 exact rule i j t t' s _ _ hc ⟨.int (g i j),H,I.tok _,⟨_,rfl⟩,q⟩
theorem LV {f:Value→Value→Sem Value}{g:Int→Int→Int}
  (rule:∀ (i j:Int) (t u:Tok) (s:Shared) (Q:Value→Shared→Prop) (E:Value→Shared→Prop),Q (.int (g i j) s.toks) { s with toks:=s.toks+1 }→wpAny (model X.prog X.w) X.A (f (.int i t) (.int j u)) Q E s) :
  fj X f (BY fun i j=>.int (g i j)):=by
 intro pins s σ H x y v u Q I rx ry h
 obtain ⟨i,j,rfl,rfl,q⟩:=h
 obtain ⟨t,rfl⟩:=rx
 obtain ⟨t',rfl⟩:=ry
 exact rule i j t t' s _ _ ⟨.int (g i j),H,I.tok _,⟨_,rfl⟩,q⟩
theorem Fz {f:Value→Value→Sem Value}{g:Int→Int→Bool}
  (rule:∀ (i j:Int) (t u:Tok) (s:Shared) (Q:Value→Shared→Prop) (E:Value→Shared→Prop),Q (.bool (g i j)) s→wpAny (model X.prog X.w) X.A (f (.int i t) (.int j u)) Q E s) :
  fj X f (BY fun i j=>.bl (g i j)):=by
 intro pins s σ H x y v u Q I rx ry h
 obtain ⟨i,j,rfl,rfl,q⟩:=h
 obtain ⟨t,rfl⟩:=rx
 obtain ⟨t',rfl⟩:=ry
 exact rule i j t t' s _ _ ⟨.bl (g i j),H,I,rfl,q⟩
noncomputable def Er (i j:Int):Prop:=0<j∧j<1073741824
noncomputable def O5 (i j:Int):Prop:=0≤j∧j≤1000000∧i.natAbs<2 ^ 64
noncomputable def Ay (i j:Int):Prop:=(-(2 ^ 64)<i∧i<2 ^ 64)∨(-(2 ^ 64)<j∧j<2 ^ 64)
theorem Ay.ok {i j:Int} (h:Ay i j):IntMulOk i j:=by
 rcases h with ⟨h1,h2⟩ | ⟨h1,h2⟩
 ·exact .of_left (intBits_le_64 h1 h2)
 ·exact .of_right (intBits_le_64 h1 h2)
theorem dc:fj X (binaryOp .Add) (BY fun i j=>.int (i+j)):=LV fun _ _ _ _ _ _ _ q=>add_int q
theorem Jl:fj X (binaryOp .Sub) (BY fun i j=>.int (i - j)):=LV fun _ _ _ _ _ _ _ q=>sub_int q
theorem eY:fj X (binaryOp .Mult) (rI Ay fun i j=>.int (i*j)):=Nt fun _ _ _ _ _ _ _ hc q=>mul_int q hc.ok
theorem x9:fj X (binaryOp .FloorDiv) (rI Er fun i j=>.int (i / j)):=Nt fun i j _ _ _ _ _ hc q=>by
 have h1:(0:Int)<j:=hc.1
 have h2:j<1073741824:=hc.2
 exact floordiv_int (by omega) (by rw [Int.fdiv_eq_ediv_of_nonneg i (by omega)];exact q) (.inl (PyProof.noPylong_small (by omega)))
theorem eZ:fj X (binaryOp .Mod) (rI (fun _ j=>0<j) fun i j=>.int (i % j)):=Nt fun i j _ _ _ _ _ hc q=>by
 have h1:(0:Int)<j:=hc
 exact mod_int' (by omega) (by rw [Int.fmod_eq_emod_of_nonneg i (by omega)];exact q)
theorem Jo:fj X (binaryOp .Pow) (rI O5 fun i j=>.int (i ^ j.toNat)):=Nt fun _ _ _ _ _ _ _ hc q=>pow_int_small hc.1 hc.2.1 hc.2.2 q
end
noncomputable def Ll:V→V→Bool
 | .bH,.bH=>true | .bH,.int _=>true | .int _,.bH=>true | .bH,.bl _=>true | .bl _,.bH=>true | .bH,.str _=>true | .str _,.bH=>true
 | .int _,.int _=>true | .bl _,.bl _=>true | .str _,.str _=>true | .uP _,.uP _=>true
 | .int _,.str _=>true | .str _,.int _=>true | .bl _,.str _=>true | .str _,.bl _=>true
 | _,_=>false
noncomputable def rEq:R2:=fun x y H Q=>Ll x y=true∧Q (.bl (decide (x=y))) H
noncomputable def rNe:R2:=fun x y H Q=>Ll x y=true∧Q (.bl (!decide (x=y))) H
theorem yJ {i j:Int}:decide (V.int i=V.int j)=(i==j):=by
 rw [Bool.eq_iff_iff]
 simp
theorem Df {i j:Bool}:decide (V.bl i=V.bl j)=(i==j):=by
 rw [Bool.eq_iff_iff]
 simp
theorem yI {i j:Str}:decide (V.str i=V.str j)=(i==j):=by
 rw [Bool.eq_iff_iff]
 simp
theorem yK {i j:Array UInt8}:decide (V.uP i=V.uP j)=(i.toList==j.toList):=by
 rw [Bool.eq_iff_iff]
 cases i
 cases j
 simp
section
variable {X:Cx}{a b c:Expr}{ta tb tc:TE}{pos:Pos}
theorem aR {pins:List (Addr×Obj)}{σ:St}{H:Hp}{s:Shared}{Q:VK}{k k':Bool} (I:Inv X pins σ H s) (q:Q (.bl k) H) (e:k=k'):EP X pins σ Q (.bool k') s:=by
 subst e
 exact ⟨.bl k,H,I,rfl,q⟩
theorem Cc:fj X (compareOp .Eq) rEq:=by
 intro pins s σ H x y v u Q I rx ry h
 obtain ⟨hs,q⟩:=h
 cases x with
 | bH =>
  cases rx
  cases y with
  | bH=>cases ry;exact PySem.EqNone.eq_none_none (aR I q (by simp))
  | bl j=>cases ry;exact PySem.EqNone.eq_none_bool (aR I q (by simp))
  | int j=>obtain ⟨t',rfl⟩:=ry;exact PySem.EqNone.eq_none_int (aR I q (by simp))
  | str j=>obtain ⟨t',rfl⟩:=ry;exact PySem.EqNone.eq_none_str (aR I q (by simp))
  | _=>exact absurd (show false=true from hs) zbb
 | bl i =>
  cases rx
  cases y with
  | bH=>cases ry;exact PySem.EqNone.eq_bool_none (aR I q (by simp))
  | bl j=>cases ry;exact eq_bool (aR I q Df)
  | str j=>obtain ⟨t',rfl⟩:=ry;exact PySem.EqMixed.eq_bool_str (aR I q (by simp))
  | _=>exact absurd (show false=true from hs) zbb
 | int i =>
  obtain ⟨t,rfl⟩:=rx
  cases y with
  | bH=>cases ry;exact PySem.EqNone.eq_int_none (aR I q (by simp))
  | int j=>obtain ⟨t',rfl⟩:=ry;exact eq_int (aR I q yJ)
  | str j=>obtain ⟨t',rfl⟩:=ry;exact PySem.EqMixed.eq_int_str (aR I q (by simp))
  | _=>exact absurd (show false=true from hs) zbb
 | str i =>
  obtain ⟨t,rfl⟩:=rx
  cases y with
  | bH=>cases ry;exact PySem.EqNone.eq_str_none (aR I q (by simp))
  | bl j=>cases ry;exact PySem.EqMixed.eq_str_bool (aR I q (by simp))
  | int j=>obtain ⟨t',rfl⟩:=ry;exact PySem.EqMixed.eq_str_int (aR I q (by simp))
  | str j=>obtain ⟨t',rfl⟩:=ry;exact eq_str (aR I q yI)
  | _=>exact absurd (show false=true from hs) zbb
 | uP i =>
  obtain ⟨t,rfl⟩:=rx
  cases y with
  | uP j=>obtain ⟨t',rfl⟩:=ry;exact PySem.W.eq_bytes (aR I q yK)
  | _=>exact absurd (show false=true from hs) zbb
 | _=>cases y <;> exact absurd (show false=true from hs) zbb
theorem LQ:fj X (compareOp .NotEq) rNe:=by
 intro pins s σ H x y v u Q I rx ry h
 obtain ⟨hs,q⟩:=h
 cases x with
 | bH =>
  cases rx
  cases y with
  | bH=>cases ry;exact PySem.EqNone.ne_none_none (aR I q (by simp))
  | bl j=>cases ry;exact PySem.EqNone.ne_none_bool (aR I q (by simp))
  | int j=>obtain ⟨t',rfl⟩:=ry;exact PySem.EqNone.ne_none_int (aR I q (by simp))
  | str j=>obtain ⟨t',rfl⟩:=ry;exact PySem.EqNone.ne_none_str (aR I q (by simp))
  | _=>exact absurd (show false=true from hs) zbb
 | bl i =>
  cases rx
  cases y with
  | bH=>cases ry;exact PySem.EqNone.ne_bool_none (aR I q (by simp))
  | bl j=>cases ry;exact ne_bool (aR I q (congrArg not Df))
  | str j=>obtain ⟨t',rfl⟩:=ry;exact PySem.EqMixed.ne_bool_str (aR I q (by simp))
  | _=>exact absurd (show false=true from hs) zbb
 | int i =>
  obtain ⟨t,rfl⟩:=rx
  cases y with
  | bH=>cases ry;exact PySem.EqNone.ne_int_none (aR I q (by simp))
  | int j=>obtain ⟨t',rfl⟩:=ry;exact ne_int (aR I q (congrArg not yJ))
  | str j=>obtain ⟨t',rfl⟩:=ry;exact PySem.EqMixed.ne_int_str (aR I q (by simp))
  | _=>exact absurd (show false=true from hs) zbb
 | str i =>
  obtain ⟨t,rfl⟩:=rx
  cases y with
  | bH=>cases ry;exact PySem.EqNone.ne_str_none (aR I q (by simp))
  | bl j=>cases ry;exact PySem.EqMixed.ne_str_bool (aR I q (by simp))
  | int j=>obtain ⟨t',rfl⟩:=ry;exact PySem.EqMixed.ne_str_int (aR I q (by simp))
  | str j=>obtain ⟨t',rfl⟩:=ry;exact ne_str (aR I q (congrArg not yI))
  | _=>exact absurd (show false=true from hs) zbb
 | uP i =>
  obtain ⟨t,rfl⟩:=rx
  cases y with
  | uP j=>obtain ⟨t',rfl⟩:=ry;exact PySem.W.ne_bytes (aR I q (congrArg not yK))
  | _=>exact absurd (show false=true from hs) zbb
 | _=>cases y <;> exact absurd (show false=true from hs) zbb
theorem Hy:fj X (compareOp .Lt) (BY fun i j=>.bl (decide (i<j))):=Fz fun _ _ _ _ _ _ _ q=>lt_int q
theorem LR:fj X (compareOp .LtE) (BY fun i j=>.bl (decide (i≤j))):=Fz fun _ _ _ _ _ _ _ q=>le_int q
theorem Cb:fj X (compareOp .Gt) (BY fun i j=>.bl (decide (j<i))):=Fz fun _ _ _ _ _ _ _ q=>gt_int q
theorem LU:fj X (compareOp .GtE) (BY fun i j=>.bl (decide (j≤i))):=Fz fun _ _ _ _ _ _ _ q=>ge_int q
theorem zI:fj X (compareOp .Lt) (fun x y H Q=>∃ i j,x = .str i∧y = .str j∧Q (.bl (decide (i.cps.toList<j.cps.toList))) H):=by
 intro pins s σ H x y v u Q I rx ry h
 obtain ⟨i,j,rfl,rfl,q⟩:=h
 obtain ⟨t,rfl⟩:=rx
 obtain ⟨t',rfl⟩:=ry
 exact lt_str (aR I q rfl)
theorem bC (b:Expr) {op:CmpOp} (h:op ≠ .In:=by decide) (h2:op ≠ .NotIn:=by decide):behindInMarks op b=false:=by
 have e1:(op==CmpOp.In)=false:=by cases op <;> first | rfl | exact absurd rfl h
 have e2:(op==CmpOp.NotIn)=false:=by cases op <;> first | rfl | exact absurd rfl h2
 cases b <;> simp [behindInMarks,e1,e2]
theorem fT {op:CmpOp}{r:R2} (ho:fj X (compareOp op) r) (ha:PE X a ta) (hb:PE X b tb) (hm:behindInMarks op b=false):PE X (.Compare a [op] [b] pos) (wU r ta tb):=by
 intro pins s σ H Q I h
 exact wpAny_Compare1 (Kq ha hb I h fun v u s2 x y H2 I2 rx ry q=>ho pins s2 σ H2 x y v u Q I2 rx ry q) hm
noncomputable def G2 (t:TE):TT:=fun σ H Q=>t σ H fun x H'=>∃ k,x = .bl k∧Q k H'
theorem aK {op:CmpOp}{r:R2} (ho:fj X (compareOp op) r) (ha:PE X a ta) (hb:PE X b tb) (hm:behindInMarks op b=false):PT X (.Compare a [op] [b] pos) (G2 (wU r ta tb)):=by
 intro pins s σ H Q I h
 refine wpAny_isTrue_Compare1 (cA (ha pins s σ H _ I h) fun v s1 ⟨x,H1,I1,r1,q1⟩=>cA (hb pins s1 σ H1 _ I1 q1) fun u s2 ⟨y,H2,I2,r2,q2⟩ =>
  cA (ho pins s2 σ H2 x y v u _ I2 r1 r2 q2) fun c s3 ⟨z,H3,I3,r3,k,e,q3⟩ => ?_) hm
 subst e
 cases r3
 exact wpAny_truthy_bool ⟨H3,I3,q3⟩
noncomputable def Ba (r r':R2) (ta tb tc:TE):TE:=fun σ H Q=>ta σ H fun x H1=>tb σ H1 fun y H2=>r x y H2 fun z H3=>∃ k,z = .bl k ∧
 (if k=true then tc σ H3 fun w' H4=>r' y w' H4 Q else Q (.bl false) H3)
theorem jx {op op':CmpOp}{r r':R2} (ho:fj X (compareOp op) r) (ho':fj X (compareOp op') r') (ha:PE X a ta) (hb:PE X b tb) (hc:PE X c tc)
  (hm:lastMarks [op,op'] [b,c]=false:=by with_unfolding_all rfl):PE X (.Compare a [op,op'] [b,c] pos) (Ba r r' ta tb tc):=by
 intro pins s σ H Q I h
 refine Compare_chain (cA (ha pins s σ H _ I h) fun v s1 ⟨x,H1,I1,r1,q1⟩=>chain_link (cA (hb pins s1 σ H1 _ I1 q1) fun u s2 ⟨y,H2,I2,r2,q2⟩ =>
  cA (ho pins s2 σ H2 x y v u _ I2 r1 r2 q2) fun d s3 ⟨z,H3,I3,r3,k,e,q3⟩ => ?_)) hm
 subst e
 cases r3
 refine wpAny_truthy_bool ?_
 cases k with
 | false=>exact ite_ff ⟨.bl false,H3,I3,rfl,q3⟩
 | true=>exact ite_tt (chain_last (cA (hc pins s3 σ H3 _ I3 q3) fun w' s4 ⟨z',H4,I4,r4,q4⟩=>ho' pins s4 σ H4 y z' u w' Q I4 r2 r4 q4))
noncomputable def DW (K:PySem.W.Frag) (x:V) (H:Hp) (k:Bool):Prop :=
 match x with
 | .bH=>k=false
 | .bl b=>k=b
 | .int i=>k=(i != 0)
 | .str y=>y.length≤sizeLine∧k=((y.length:Int) != 0)
 | .uP y=>y.size≤sizeLine∧k=((y.size:Int) != 0)
 | .ref p=>(∃ xs,b9 K H p xs∧k = !xs.isEmpty)∨(∃ xs,eg K H p xs∧k = !xs.isEmpty)∨∃ kvs,H p=some (.dK kvs)∧k = !kvs.isEmpty
 | _=>False
theorem vR {κ:Type}{kvs:List (κ×V)}{vs:List (κ×Value)} (r:KV kvs vs):(!vs.isEmpty) = !kvs.isEmpty:=by
 cases r <;> rfl
theorem nH {xs:List V}{its:List Value} (r:Vals xs its):(!its.toArray.isEmpty) = !xs.isEmpty:=by
 cases r <;> simp
theorem nv:(sizeLine:Nat)<2 ^ 63:=by rw [sizeLine_eq];decide
theorem Ie:O1 X (fun x H Q=>∃ k,DW X.K x H k∧Q k H):=by
 intro pins s σ H x v Q I rx h
 obtain ⟨k,e,q⟩:=h
 have hl:=nv
 have hs:sizeLine=16777216:=sizeLine_eq
 cases x with
 | bH =>
  cases rx
  have e':k=false:=e
  subst e'
  exact truthy_none ⟨H,I,q⟩
 | bl b =>
  cases rx
  have e':k=b:=e
  subst e'
  exact wpAny_truthy_bool ⟨H,I,q⟩
 | int i =>
  obtain ⟨t,rfl⟩:=rx
  have e':k=(i != 0):=e
  subst e'
  exact PySem.P.truthy_int ⟨H,I,q⟩
 | str y =>
  obtain ⟨t,rfl⟩:=rx
  obtain ⟨hy,e'⟩:y.length≤sizeLine∧k=((y.length:Int) != 0):=e
  subst e'
  exact PySem.P.truthy_str (by omega) ⟨H,I.tok _,q⟩
 | uP y =>
  obtain ⟨t,rfl⟩:=rx
  obtain ⟨hy,e'⟩:y.size≤sizeLine∧k=((y.size:Int) != 0):=e
  subst e'
  exact PySem.W.truthy_bytes (by omega) ⟨H,I.tok _,q⟩
 | ref p =>
  cases rx
  have e':(∃ xs,b9 X.K H p xs∧k = !xs.isEmpty)∨(∃ xs,eg X.K H p xs∧k = !xs.isEmpty)∨∃ kvs,H p=some (.dK kvs)∧k = !kvs.isEmpty:=e
  rcases e' with ⟨xs,hx,e'⟩ | ⟨xs,hx,e'⟩ | ⟨kvs,hx,e'⟩
  ·subst e'
   obtain ⟨its,r,pl,hz⟩:=I.list hx
   have hlen:=r.length
   exact wpAny_truthy_list pl.isList (by simp only [zbf];omega) ⟨H,I.tok _,by rw [nH r];exact q⟩
  ·subst e'
   obtain ⟨its,r,pl,hz⟩:=I.tuple hx
   have hlen:=r.length
   exact truthy_tuple pl (by simp only [zbf];omega) ⟨H,I.tok _,by rw [nH r];exact q⟩
  ·subst e'
   obtain ⟨hz,hS,vs,r,m⟩:kvs.length≤sizeLine∧(p==sysModules)=false∧∃ vs,KV kvs vs∧s.heap.DictOf (bA X.prog X.w) p vs:=I.hok p _ hx
   have hlen:kvs.length=vs.length:=Paired.length r
   exact wpAny_truthy_dict hS m (by omega) ⟨H,I.tok _,by rw [vR r];exact q⟩
 | _=>exact (show False from e).elim
theorem B5 (ha:PE X a ta) (he:∀ whole,isTrue a X.env whole=(do let v ← whole;standAt a.pos;holding [v] (truthy v))) :
  PT X a (fun σ H Q=>ta σ H fun x H'=>∃ k,DW X.K x H' k∧Q k H'):=by
 intro pins s σ H Q I h
 exact isTrue_plain (cA (ha pins s σ H _ I h) fun v s1 ⟨x,H1,I1,r1,q1⟩=>Ie pins s1 σ H1 x v Q I1 r1 q1) (he _)
theorem iT:fj X (binaryOp .Add) (fun x y H Q=>∃ i j,x = .str i∧y = .str j∧i.length+j.length≤sizeLine∧Q (.str (i++j)) H):=by
 intro pins s σ H x y v u Q I rx ry h
 obtain ⟨i,j,rfl,rfl,hz,q⟩:=h
 obtain ⟨t,rfl⟩:=rx
 obtain ⟨t',rfl⟩:=ry
 exact add_str (fun t' tk=>⟨.str (i++j),H,I.tok _,⟨_,rfl⟩,q⟩) hz
theorem vals1 {x:V}{us:List Value} (r:Vals [x] us):∃ u,us=[u]∧RelV x u:=by
 cases r with
 | cons r1 r2=>cases r2;exact ⟨_,rfl,r1⟩
theorem vals2 {x y:V}{us:List Value} (r:Vals [x,y] us):∃ u w',us=[u,w']∧RelV x u∧RelV y w':=by
 cases r with
 | cons r1 r2 =>
  cases r2 with
  | cons r3 r4=>cases r4;exact ⟨_,_,rfl,r1,r3⟩
theorem Ah (hc:X.calm=true):bS X (.builtin "max") (fun xs H Q=>∃ i j,xs=[.int i,.int j]∧Q (.int (if j > i then j else i)) H):=by
 intro pins s σ H xs us Q I r h
 obtain ⟨i,j,rfl,q⟩:=h
 obtain ⟨u,w',rfl,⟨t,rfl⟩,⟨t',rfl⟩⟩:=vals2 r
 refine max_two_ints (I.ok.hd hc) fun h' tk k=>⟨_,H,I.kept k,?_,q⟩
 by_cases hj:j > i
 ·rw [if_pos hj,if_pos hj];exact ⟨_,rfl⟩
 ·rw [if_neg hj,if_neg hj];exact ⟨_,rfl⟩
theorem Ag (hc:X.calm=true):bS X (.builtin "min") (fun xs H Q=>∃ i j,xs=[.int i,.int j]∧Q (.int (if j<i then j else i)) H):=by
 intro pins s σ H xs us Q I r h
 obtain ⟨i,j,rfl,q⟩:=h
 obtain ⟨u,w',rfl,⟨t,rfl⟩,⟨t',rfl⟩⟩:=vals2 r
 refine min_two_ints (I.ok.hd hc) fun h' tk k=>⟨_,H,I.kept k,?_,q⟩
 by_cases hj:j<i
 ·rw [if_pos hj,if_pos hj];exact ⟨_,rfl⟩
 ·rw [if_neg hj,if_neg hj];exact ⟨_,rfl⟩
noncomputable def KW (K:PySem.W.Frag) (x:V) (H:Hp) (n:Nat):Prop :=
 match x with
 | .str y=>y.length≤sizeLine∧n=y.length
 | .uP y=>y.size≤sizeLine∧n=y.size
 | .ref p=>(∃ xs,b9 K H p xs∧n=xs.length)∨∃ xs,eg K H p xs∧n=xs.length
 | _=>False
theorem ux:bS X (.builtin "len") (fun xs H Q=>∃ x n,xs=[x]∧KW X.K x H n∧Q (.int n) H):=by
 intro pins s σ H xs us Q I r h
 obtain ⟨x,n,rfl,e,q⟩:=h
 obtain ⟨u,rfl,rx⟩:=vals1 r
 have hl:=nv
 have hs:sizeLine=16777216:=sizeLine_eq
 cases x with
 | str y =>
  obtain ⟨t,rfl⟩:=rx
  obtain ⟨hy,e'⟩:y.length≤sizeLine∧n=y.length:=e
  subst e'
  exact len_str (by omega) ⟨.int _,H,I.tok _,⟨_,rfl⟩,q⟩
 | uP y =>
  obtain ⟨t,rfl⟩:=rx
  obtain ⟨hy,e'⟩:y.size≤sizeLine∧n=y.size:=e
  subst e'
  exact PySem.W.len_bytes (by omega) ⟨.int _,H,I.tok _,⟨_,rfl⟩,q⟩
 | ref p =>
  cases rx
  have e':(∃ xs,b9 X.K H p xs∧n=xs.length)∨∃ xs,eg X.K H p xs∧n=xs.length:=e
  rcases e' with ⟨xs,hx,e'⟩ | ⟨xs,hx,e'⟩
  ·subst e'
   obtain ⟨its,r',pl,hz⟩:=I.list hx
   have hlen:=r'.length
   exact Calls.call_len_list pl.isList (by simp only [zbf];omega) ⟨.int xs.length,H,I.tok _,⟨_,by simp only [zbf];rw [hlen]⟩,q⟩
  ·subst e'
   obtain ⟨its,r',pl,hz⟩:=I.tuple hx
   have hlen:=r'.length
   exact len_tuple pl (by simp only [zbf];omega) ⟨.int xs.length,H,I.tok _,⟨_,by simp only [zbf];rw [hlen]⟩,q⟩
 | _=>exact (show False from e).elim
end
structure wC (h:Heap) (x dx C:Addr) (mA:Str→Option Value):Prop where
 obj:h.get? x=some (zbZ C dx)
 ns:h.Ns1 dx mA
 ne:dx≠x
theorem zR {h:Heap}{dx:Addr}{mA:Str→Option Value} (n:h.Ns1 dx mA):∃ od,h.get? dx=some od∧∀ name,PySem.W.lookIn name od=some (mA name):=by
 obtain ⟨o,es,ep,ho,hd,hk,_,hm⟩:=n
 refine ⟨o,ho,fun name => ?_⟩
 have e:=hm name
 unfold nsFind findBy at e
 rw [← Array.find?_toList] at e
 unfold PySem.W.lookIn
 rw [hd]
 dsimp only
 split
 ·rename_i y q
  rw [q] at e
  exact congrArg some e
 ·rename_i q
  rw [q] at e
  have a:es.toList.any (·.refKey)=false:=by
   rw [zbg]
   intro y hy
   obtain ⟨z,t,hkey⟩:=hk y (Array.mem_toList_iff.mp hy)
   simp [DictEntry.refKey,hkey]
  have a' : ¬ es.toList.any (·.refKey)=true:=by rw [a];exact zbb
  rw [if_neg a']
  exact congrArg some e
theorem wC.look {h:Heap}{x dx C:Addr}{mA:Str→Option Value} (I:wC h x dx C mA):∃ od,PySem.W.InstAt h x (zbZ C dx) C (some od)∧∀ name,PySem.W.lookIn name od=some (mA name) :=
 let ⟨od,ho,hl⟩:=zR I.ns
 ⟨od,⟨I.obj,rfl,rfl,ho⟩,hl⟩
section
variable {prog:Program}{w:World}{A:Around}{E:Value→Shared→Prop}{s:Shared}{K:PySem.W.Frag}{x dx C f:Addr}{mA:Str→Option Value}{name:Str}{v:Value}
theorem get_map {expr:Bool}{Q:Value→Shared→Prop} (X:K.In s.heap) (I:wC s.heap x dx C mA) (hg:zbL K C name=true) (hh:zbt K C=true)
  (ha:zce K (.ref C) name=some none) (hv:mA name=some v) (hv':PySem.W.handedIn v=true) (h:Q v { s with toks:=s.toks+1 }) :
  wpAny (model prog w) A (getAttr (.ref x) name expr) Q E s:=by
 obtain ⟨od,J,hl⟩:=I.look
 exact PySem.W.get_value X J (PySem.W.plainGet_of hg).1 (PySem.W.findObj_own hh ha rfl (by rw [hl,hv])) hv' h
theorem C1 {pl:Sem Bool}{Q:Value×List Value→Shared→Prop} (X:K.In s.heap) (I:wC s.heap x dx C mA) (hg:zbL K C name=true)
  (hf:zce K (.ref C) name=some (some (.ref f))) (ht:zcA K (.ref f)=true) (hv:mA name=none) (h:Q (.ref f,[.ref x]) s) :
  wpAny (model prog w) A (getMethod (.ref x) name pl) Q E s:=by
 obtain ⟨od,J,hl⟩:=I.look
 exact PySem.W.method_fn X J (PySem.W.plainGet_of hg).1 (PySem.W.plainGet_of hg).2 hf (beq_iff_eq.mp ht) (by show (PySem.W.lookIn name od).map (·.isSome)=some false;rw [hl,hv];rfl) h
theorem EN {ns:List Str}{Q:Unit→Shared→Prop} (X:K.In s.heap) (I:wC s.heap x dx C mA)
  (hs:zce K (.ref C) "__setattr__" = some (some (.builtin "object.__setattr__"))) (hp:PySem.W.plainOver K C=true) (ht:PySem.W.takerIn K C name=some none) (hh:zbt K C=true)
  (hw:PySem.Within mA ns) (hsz:ns.length≤sizeLine)
  (h:∀ h',wC h' x dx C (fun y=>if y=name then some v else mA y)→Heap.SameBut dx s.heap h'→Q () { s with heap:=h',toks:=s.toks+2 }) :
  wpAny (model prog w) A (setAttr (.ref x) name v) Q E s:=by
 obtain ⟨od,J,hl⟩:=I.look
 refine PySem.W.set_plain X J hs (PySem.W.osa_open (s:={ s with toks:=s.toks+1 }) (r:=none) X J hp ht fun b => ?_)
 obtain ⟨cd,hc,hd'⟩:=PySem.W.any_some hh
 have hx:s.heap.get? x=some ⟨.ref C,some dx,.plain,#[]⟩:=I.obj
 refine wpAny_bind (wpAny_pure (wpAny_bind (wpAny_bind (wpAny_loadPart hx (wpAny_bind (PySem.W.Looks.here (s:={ s with toks:=s.toks+1 }) (PySem.W.looks_clsIn X hc) ?_))))))
 rw [hd']
 refine wpAny_pure (a:=some dx) (wpAny_bind (wpAny_pure (wpAny_bind ?_)))
 refine wpAny_nsSet1 (s:={ s with toks:=s.toks+1 }) I.ns fun h' hn2 hs2 => ?_
 obtain ⟨oD,esD,epD,hoD,z6,hcD⟩:=hn2.count (PySem.Within.cons name v hw)
 refine wpAny_bind (wpAny_lookBehind hoD (by rw [z6];exact pastItsLine_dict (zcv hcD (by rw [zbx];omega))) ?_)
 exact wpAny_pure (h _ ⟨(hs2.2 _ (Ne.symm I.ne)).trans I.obj,hn2,I.ne⟩ hs2)
theorem CB {R:Result→Shared→Prop}{vs:List Value}{kw:List (Str×Value)} (X:K.In s.heap) (hm:PySem.W.makesIn K C=true)
  (hi:zce K (.ref C) "__init__" = some (some (.ref f))) (hf:PySem.W.typeIn K (.ref f)=some (.type "function"))
  (h:codeAny (model prog w) (A.under (.builtin "type.__call__" ⟨.ref C::vs,kw⟩)) (.call (.ref f) ⟨.ref (s.heap.objs.size+1)::vs,kw⟩) (PySem.W.InitBack (s.heap.objs.size+1) R)
   { s with heap:=(s.heap.push zbu).push (zbZ C s.heap.objs.size) }) :
  codeAny (model prog w) A (.call (.ref C) ⟨vs,kw⟩) R s:=by
 obtain ⟨hh,g,d,t,os⟩:=s
 exact PySem.W.make_core (PySem.W.makes_of X hm) (PySem.W.looks_findIn X hi) (fun self=>PySem.W.bind_fn X self hf) (.inl rfl) h
end
noncomputable def fQ (f:Str) (v:V):List (Str×V)→List (Str×V)
 | []=>[(f,v)]
 | (g,x)::r=>if g=f then (g,v)::r else (g,x)::fQ f v r
theorem kK (f g:Str) (v:V):∀ fs:List (Str×V),(fQ f v fs).lookup g=if g=f then some v else fs.lookup g
 | []=>by
  show zcE g [(f,v)]=_
  by_cases h:g=f
  ·have hb:(g==f)=true:=beq_iff_eq.mpr h
   simp only [zcE,hb,if_pos h]
  ·have hb:(g==f)=false:=beq_eq_false_iff_ne.mpr h
   simp only [zcE,hb,if_neg h]
 | (k,x)::r=>by
  have ih:=kK f g v r
  rw [show fQ f v ((k,x)::r)=(if k=f then (k,v)::r else (k,x)::fQ f v r) from rfl]
  by_cases hk:k=f
  ·rw [if_pos hk]
   by_cases h:g=k
   ·have hb:(g==k)=true:=beq_iff_eq.mpr h
    simp only [zcE,hb,if_pos (h.trans hk)]
   ·have hb:(g==k)=false:=beq_eq_false_iff_ne.mpr h
    simp only [zcE,hb,if_neg (fun e:g=f=>h (e.trans hk.symm))]
  ·rw [if_neg hk]
   by_cases h:g=k
   ·have hb:(g==k)=true:=beq_iff_eq.mpr h
    simp only [zcE,hb,if_neg (fun e:g=f=>hk (h.symm.trans e))]
   ·have hb:(g==k)=false:=beq_eq_false_iff_ne.mpr h
    simp only [zcE,hb]
    exact ih
theorem kq (f:Str) (v:V):∀ fs:List (Str×V),f∈(fQ f v fs).map (·.1)∧∀ g,g∈fs.map (·.1)→g∈(fQ f v fs).map (·.1)
 | []=>⟨by simp [fQ],fun g h=>by simp at h⟩
 | (k,x)::r=>by
  obtain ⟨i1,i2⟩:=kq f v r
  rw [show fQ f v ((k,x)::r)=(if k=f then (k,v)::r else (k,x)::fQ f v r) from rfl]
  by_cases hk:k=f
  ·rw [if_pos hk]
   subst hk
   exact ⟨by simp,fun g h=>by simpa using h⟩
  ·rw [if_neg hk]
   refine ⟨?_,fun g h => ?_⟩
   ·rw [zcj]
    exact zaC _ i1
   ·rw [zcj] at h ⊢
    rcases zci.mp h with e | e
    ·exact zci.mpr (.inl e)
    ·exact zaC _ (i2 g e)
theorem kL (f:Str) (v:V):∀ fs:List (Str×V),(fQ f v fs).length≤fs.length+1
 | []=>by simp [fQ]
 | (k,x)::r=>by
  have ih:=kL f v r
  rw [show fQ f v ((k,x)::r)=(if k=f then (k,v)::r else (k,x)::fQ f v r) from rfl]
  by_cases hk:k=f
  ·rw [if_pos hk,zbx,zbx];omega
  ·rw [if_neg hk,zbx,zbx];omega
theorem iA.some_of {v:V}{o:Option Value} (r:iA (some v) o):∃ u,o=some u∧RelV v u:=by
 cases o with
 | none=>exact (show False from r).elim
 | some u=>exact ⟨u,rfl,r⟩
theorem iA.none_of {o:Option Value} (r:iA none o):o=none:=by
 cases o with
 | none=>rfl
 | some u=>exact (show False from r).elim
theorem z8 {v:V}{u:Value} (r:RelV v u):PySem.W.handedIn u=true:=by
 cases v with
 | bH=>cases (show u=Value.none from r);rfl
 | bl b=>cases (show u=Value.bool b from r);rfl
 | int i=>obtain ⟨t,e⟩:=(show ∃ t,u=Value.int i t from r);cases e;rfl
 | str x=>obtain ⟨t,e⟩:=(show ∃ t,u=Value.str x t from r);cases e;rfl
 | uP b=>obtain ⟨t,e⟩:=(show ∃ t,u=Value.bytes b t from r);cases e;rfl
 | JW b=>obtain ⟨t,e⟩:=(show ∃ t,u=Value.float b t from r);cases e;rfl
 | ref a=>cases (show u=Value.ref a from r);rfl
 | ty n=>cases (show u=Value.type n from r);rfl
section
variable {P:Program}{w:World}{H H':Hp}{h h':Heap}{a C dx:Addr}{fs fs':List (Str×V)}
theorem lI (hok:iB P w H h) (e:H a=some (.ins C dx fs)):∃ mA,wC h a dx C mA∧(∀ f,iA (fs.lookup f) (mA f))∧PySem.Within mA (fs.map (·.1))∧fs.length≤1000∧H dx=some (.own a):=by
 obtain ⟨d,z,ne,ob,mA,n,r,q⟩:=(show aW P w H h a (.ins C dx fs) from hok a _ e)
 exact ⟨mA,⟨ob,n,ne⟩,r,q,z,d⟩
end
structure wL (K:PySem.W.Frag) (C:Addr):Prop where
 pg:zbL K C Str.empty=true
 hd:zbt K C=true
 po:PySem.W.plainOver K C=true
 sa:zce K (.ref C) "__setattr__" = some (some (.builtin "object.__setattr__"))
theorem wL.get {K:PySem.W.Frag}{C:Addr} (c:wL K C) (f:Str):zbL K C f=true:=c.pg
noncomputable def eE (K:PySem.W.Frag) (C:Addr) (f:Str):Prop:=zce K (.ref C) f=some none
theorem eE.Lb {K:PySem.W.Frag}{C:Addr}{f:Str} (n:eE K C f):PySem.W.takerIn K C f=some none:=by
 unfold PySem.W.takerIn
 rw [show zce K (.ref C) f=some none from n]
 rfl
structure Meth (K:PySem.W.Frag) (C:Addr) (m:Str) (f:Addr):Prop where
 at_:zce K (.ref C) m=some (some (.ref f))
 fn:zcA K (.ref f)=true
 kp:zcf K (.ref f)=true
section
variable {X:Cx}{pins:List (Addr×Obj)}{σ:St}{H:Hp}{s:Shared}{a C dx:Addr}{fs:List (Str×V)}{f:Str}{v:V}{A:Around}{E:Value→Shared→Prop}
theorem vS {b:Bool}{Q:Value→Shared→Prop} (I:Inv X pins σ H s) (e:H a=some (.ins C dx fs)) (c:wL X.K C) (n:eE X.K C f) (l:fs.lookup f=some v)
  (h:∀ u s',Inv X pins σ H s'→RelV v u→Q u s'):wpAny (model X.prog X.w) A (getAttr (.ref a) f b) Q E s:=by
 obtain ⟨mA,O,r,_,_,_⟩:=lI I.hok e
 obtain ⟨u,hu,ru⟩:=iA.some_of (v:=v) (o:=mA f) (by rw [← l];exact r f)
 exact get_map I.kW O (c.get f) c.hd n hu (z8 ru) (h u _ (I.tok _) ru)
theorem nJ {m:Str}{g:Addr}{pl:Sem Bool}{Q:Value×List Value→Shared→Prop} (I:Inv X pins σ H s) (e:H a=some (.ins C dx fs)) (c:wL X.K C) (k:Meth X.K C m g) (l:fs.lookup m=none)
  (h:Q (.ref g,[.ref a]) s):wpAny (model X.prog X.w) A (getMethod (.ref a) m pl) Q E s:=by
 obtain ⟨mA,O,r,_,_,_⟩:=lI I.hok e
 have hn:mA m=none:=iA.none_of (by rw [← l];exact r m)
 exact C1 I.kW O (c.get m) k.at_ k.fn hn h
theorem u9 {y:V}{u:Value}{Q:Unit→Shared→Prop} (I:Inv X pins σ H s) (e:H a=some (.ins C dx fs)) (c:wL X.K C) (n:eE X.K C f) (hl:fs.length<1000) (ry:RelV y u)
  (h:∀ s',Inv X pins σ (upd H a (.ins C dx (fQ f y fs))) s'→Q () s'):wpAny (model X.prog X.w) A (setAttr (.ref a) f u) Q E s:=by
 obtain ⟨mA,O,r,wi,_,ho⟩:=lI I.hok e
 have hz:(fs.map (·.1)).length≤sizeLine:=by rw [zbP,sizeLine_eq];omega
 refine EN I.kW O c.sa c.po n.Lb c.hd wi hz fun h' O' sb=>h _ ?_
 have hd:∃ o,h'.get? dx=some o:=let ⟨o,_,_,e',_⟩:=O'.ns;⟨o,e'⟩
 refine I.write (x:=a) (e:=dx) (by rw [e];exact True.intro) (.inr ho) (fun b q hb z=>(sb.2 b hb).trans z) hd ?_
 refine ⟨by rw [aA O.ne];exact ho,?_,O.ne,O'.obj,_,O'.ns,fun g => ?_,fun g hg => ?_⟩
 ·have:=kL f y fs;omega
 ·show iA ((fQ f y fs).lookup g) (if g=f then some u else mA g)
  rw [kK]
  by_cases q:g=f
  ·rw [if_pos q,if_pos q];exact ry
  ·rw [if_neg q,if_neg q];exact r g
 ·by_cases q:g=f
  ·rw [q];exact (kq f y fs).1
  ·refine (kq f y fs).2 g (wi g fun z=>hg ?_)
   show (if g=f then some u else mA g)=none
   rw [if_neg q];exact z
theorem Inv.made (I:Inv X pins σ H s):Inv X pins σ (upd (upd H s.heap.objs.size (.own (s.heap.objs.size+1))) (s.heap.objs.size+1) (.ins C s.heap.objs.size []))
  { s with heap:=(s.heap.push zbu).push (zbZ C s.heap.objs.size) }:=by
 have e1:(s.heap.push zbu).get? s.heap.objs.size=some zbu:=zaR s.heap rfl
 have e2:((s.heap.push zbu).push (zbZ C s.heap.objs.size)).get? (s.heap.objs.size+1)=some (zbZ C s.heap.objs.size):=by
  have:=zaR (s.heap.push zbu) (o:=zbZ C s.heap.objs.size) rfl
  rwa [zch] at this
 have e3:(s.heap.push zbu).Ns s.heap.objs.size (fun _=>none):=⟨zbu,#[],_,e1,rfl,(fun e he=>absurd he (by simp)),fun _=>rfl⟩
 have I1:=I.laid (a:=s.heap.objs.size) (o:=.own (s.heap.objs.size+1)) (h':=s.heap.push zbu) (t':=s.toks) (fun b u q=>zas _ q) (zcH _) ⟨_,e1⟩
 refine I1.laid (a:=s.heap.objs.size+1) (o:=.ins C s.heap.objs.size []) (t':=s.toks) (fun b u q=>zas _ q) (Nat.le_of_eq (zch _ _)) ?_
 have ne:s.heap.objs.size≠s.heap.objs.size+1:=zcu (Nat.lt_succ_self _)
 refine ⟨by rw [aA ne,aG],zcI _,ne,e2,fun _=>none,(Heap.Ns1.of_empty e3).at fun o q=>zas _ q,fun _=>True.intro,fun y hy=>absurd rfl hy⟩
theorem Gv {prog:Program}{w:World}{env:Env}{e:Expr}{f:Str}{pos:Pos}{s:Shared}{Q:Value→Shared→Prop} (hb:attributeBase e f env (eval e env)=eval e env)
  (h:wpAny (model prog w) A (eval e env) (fun o s₁=>wpAny (model prog w) A (getAttr o f true) Q E s₁) E s):wpAny (model prog w) A (eval (.Attribute e f pos) env) Q E s :=
 Attribute_any_ h (by rw [arm_eval_Attribute,hb])
end
noncomputable def NS (K:PySem.W.Frag) (ta:TE) (f:Str):TE:=fun σ H Q=>ta σ H fun x H1=>∃ a C dx fs v,x = .ref a∧H1 a=some (.ins C dx fs)∧wL K C∧eE K C f∧fs.lookup f=some v∧Q v H1
noncomputable def Oa (K:PySem.W.Frag) (ta tv:TE) (f:Str):TS:=fun D σ H=>tv σ H fun y H1=>ta σ H1 fun x H2=>∃ a C dx fs,x = .ref a∧H2 a=some (.ins C dx fs)∧wL K C∧eE K C f∧fs.length<1000 ∧
 D.nx σ (upd H2 a (.ins C dx (fQ f y fs)))
section
variable {X:Cx}{o e value:Expr}{f:Str}{pos pos' tpos:Pos}{ta tv:TE}
theorem cJ (he:PE X e ta) (hb:attributeBase e f X.env (eval e X.env)=eval e X.env):PE X (.Attribute e f pos) (NS X.K ta f):=by
 intro pins s σ H Q I h
 refine Gv hb (cA (he pins s σ H _ I h) fun u s1 ⟨x,H1,I1,rx,a,C,dx,fs,v,ex,ea,c,n,l,q⟩ => ?_)
 subst ex
 obtain rfl:u=Value.ref a:=rx
 exact vS I1 ea c n l fun u' s2 I2 ru=>⟨v,H1,I2,ru,q⟩
theorem mZ (ha:PE X o ta) (hv:PE X value tv) (hs:swapsWith value (some (.Attribute o f pos')) pos.line X.env=pure false):PS X (.Assign [.Attribute o f pos'] value pos) (Oa X.K ta tv f):=by
 intro pins s σ H D I h
 refine plainObj_wpAny_Assign_Attribute (cA (hv pins s σ H _ I h) fun u s1 ⟨y,H1,I1,ry,q⟩=>cA (ha pins s1 σ H1 _ I1 q) fun ov s2 ⟨x,H2,I2,rx,a,C,dx,fs,ex,ea,c,n,l,q2⟩ => ?_) hs
 subst ex
 obtain rfl:ov=Value.ref a:=rx
 exact u9 I2 ea c n l ry fun s3 I3=>⟨σ,_,I3,q2⟩
end
section
variable {X:Cx}{pins:List (Addr×Obj)}{σ:St}{H:Hp}{s:Shared}{A:Around}{E:Value→Shared→Prop}{Q:Value→Shared→Prop}{c:Value}{b:Bool}
inductive jL (K:PySem.W.Frag) (H:Hp):V→Value→Prop where
 | bH:jL K H .bH (.type "NoneType")
 | bl (x:Bool):jL K H (.bl x) (.type "bool")
 | int (i:Int):jL K H (.int i) (.type "int")
 | str (x:Str):jL K H (.str x) (.type "str")
 | JW (x:UInt64):jL K H (.JW x) (.type "float")
 | lst {a:Addr}{xs:List V} (e:H a=some (.lst xs)):jL K H (.ref a) (.type "list")
 | yy {a:Addr}{o:Obj}{xs:List V} (e:H a=some (.yy o (.lst xs))):jL K H (.ref a) (.type "list")
 | tup {a:Addr}{xs:List V} (e:H a=some (.tup xs)):jL K H (.ref a) (.type "tuple")
 | dK {a:Addr}{kvs:List (Key×V)} (e:H a=some (.dK kvs)):jL K H (.ref a) (.type "dict")
 | dT {a:Addr}{kvs:List (List Key×V)} (e:H a=some (.dT kvs)):jL K H (.ref a) (.type "dict")
 | ins {a C dx:Addr}{fs:List (Str×V)} (e:H a=some (.ins C dx fs)) (cl:wL K C) (ha:zce K (.ref C) "__class__" = some (some (.builtin "object.__class__")))
   (hn:PySem.W.specialIn K (.builtin "object.__class__") "__get__" = some (some (.builtin "getset_descriptor.__get__"))) (htk:PySem.W.takesIn K (.builtin "object.__class__")=some true)
   (hm:PySem.W.mroIn K C (.type "object")=some true):jL K H (.ref a) (.ref C)
theorem zX {x:V}{u t:Value} (I:Inv X pins σ H s) (rx:RelV x u) (ty:jL X.K H x t) (e:PySem.W.kitOne X.K t c=some b) (h:∀ tk,Q (.bool b) { s with toks:=tk }) :
  wpAny (model X.prog X.w) A (call (.builtin "isinstance") [u,c]) Q E s:=by
 cases ty with
 | bH=>cases (show u=Value.none from rx);exact zca PySem.W.kitx_none I.kW True.intro e (fun z=>nomatch z) h
 | bl y=>cases (show u=Value.bool y from rx);exact zca PySem.W.kitx_bool I.kW True.intro e (fun z=>nomatch z) h
 | int i=>obtain ⟨t,q⟩:=(show ∃ t,u=Value.int i t from rx);cases q;exact zca PySem.W.kitx_int I.kW True.intro e (fun z=>nomatch z) h
 | str y=>obtain ⟨t,q⟩:=(show ∃ t,u=Value.str y t from rx);cases q;exact zca PySem.W.kitx_str I.kW True.intro e (fun z=>nomatch z) h
 | JW y=>obtain ⟨t,q⟩:=(show ∃ t,u=Value.float y t from rx);cases q;exact zca PySem.W.kitx_float I.kW True.intro e (fun z=>nomatch z) h
 | @lst a xs ea =>
  cases (show u=Value.ref a from rx)
  obtain ⟨_,_,n,_,h1⟩:=(show aW X.prog X.w H s.heap a (.lst xs) from I.hok a _ ea)
  exact zca PySem.W.kitx_list I.kW ⟨_,h1,rfl⟩ e (fun z=>nomatch z) h
 | @yy a ob xs ea =>
  cases (show u=Value.ref a from rx)
  obtain ⟨_,_,_,n,_,h1⟩:=(show aW X.prog X.w H s.heap a (.yy ob (.lst xs)) from I.hok a _ ea)
  exact zca PySem.W.kitx_list I.kW ⟨_,h1,rfl⟩ e (fun z=>nomatch z) h
 | @tup a xs ea =>
  cases (show u=Value.ref a from rx)
  obtain ⟨_,_,_,p⟩:=(show aW X.prog X.w H s.heap a (.tup xs) from I.hok a _ ea)
  obtain ⟨o,h1,h2,_⟩:=p
  exact zca PySem.W.kitx_tuple I.kW ⟨o,h1,h2⟩ e (fun z=>nomatch z) h
 | @dK a kvs ea =>
  cases (show u=Value.ref a from rx)
  obtain ⟨_,_,vs,_,p⟩:=(show aW X.prog X.w H s.heap a (.dK kvs) from I.hok a _ ea)
  obtain ⟨o,es,ep,h1,h2,_⟩:=p
  exact zca PySem.W.kitx_dict I.kW ⟨o,h1,h2.1⟩ e (fun z=>nomatch z) h
 | @dT a kvs ea =>
  cases (show u=Value.ref a from rx)
  obtain ⟨_,_,xs,_,o,es,ep,h1,h2,_⟩:=(show aW X.prog X.w H s.heap a (.dT kvs) from I.hok a _ ea)
  exact zca PySem.W.kitx_dict I.kW ⟨o,h1,h2.1⟩ e (fun z=>nomatch z) h
 | @ins a C dx fs ea cl ha hn htk hm =>
  cases (show u=Value.ref a from rx)
  obtain ⟨mA,O,_⟩:=lI I.hok ea
  obtain ⟨od,J,_⟩:=O.look
  exact zca (PySem.W.kitx_own (cl.get _) cl.hd ha hn htk hm) I.kW J e (fun z=>nomatch z) h
end
structure aS (k:Nat) (A:Around):Prop where
 hd:A.handled=none
 dp:A.depth+3*k+5<recursionLimit
 un:A.units+16*k+200<cLine
 gd:A.guards=some []
theorem aS.mono {j k:Nat}{A:Around} (r:aS k A) (h:j≤k):aS j A:=⟨r.hd,by have:=r.dp;omega,by have:=r.un;omega,r.gd⟩
theorem aS.deeper {k:Nat}{A:Around} (r:aS (k+1) A) (env:Env):aS k (A.deeper env) :=
 ⟨r.hd,by have:=r.dp;show A.depth+1+3*k+5<_;omega,by have:=r.un;show A.units+3+16*k+200<_;omega,r.gd⟩
theorem vK {A:Around}{C:Addr}{us:List Value}{kw:List (Str×Value)}:(A.under (.builtin "type.__call__" ⟨.ref C::us,kw⟩)).depth=A.depth+1:=by
 first | rfl | simp [Around.under,Code.weight,Code.isCreation,Code.isGuard,Code.isCaller,Code.frames,Code.isFrame,guardIds]
theorem vJ {A:Around}{C:Addr}{us:List Value}{kw:List (Str×Value)}:(A.under (.builtin "type.__call__" ⟨.ref C::us,kw⟩)).units=A.units+1:=by
 first | rfl | simp [Around.under,Code.cUnits,Code.frames,Code.isFrame]
theorem aS.make {k:Nat}{A:Around} (r:aS (k+1) A) (C:Addr) (us:List Value) (kw:List (Str×Value)):aS k (A.under (.builtin "type.__call__" ⟨.ref C::us,kw⟩)) :=
 ⟨r.hd,by have:=r.dp;rw [vK];omega,by have:=r.un;rw [vJ];omega,r.gd⟩
theorem aS.depth {k:Nat}{A:Around} (r:aS k A):A.depth<recursionLimit:=by have:=r.dp;omega
theorem aS.units {k:Nat}{A:Around} (r:aS k A):A.units+64<cLine:=by have:=r.un;omega
noncomputable def AZ:TA:=fun _ H Q=>Q [] H
noncomputable def wW (ta:TE) (tr:TA):TA:=fun σ H Q=>ta σ H fun x H1=>tr σ H1 fun xs H2=>Q (x::xs) H2
section
variable {X:Cx}{e:Expr}{es:List Expr}{te:TE}{t:TA}{pos:Pos}
theorem aa:PA X [] AZ:=fun _ _ _ _ H Q I h=>zbw ⟨[],H,I,.nil,h⟩
theorem Fv (ha:PE X e te) (hr:PA X es t) (hs:starEach (e::es) X.env=(false,eval e X.env)::starEach es X.env:=by rfl):PA X (e::es) (wW te t):=by
 intro pos pins s σ H Q I h
 rw [hs]
 show wpAny _ _ (spliced ((false,eval e X.env)::backTo pos (starEach es X.env))) _ _ s
 refine zbe (cA (ha pins s σ H _ I h) fun u s1 ⟨x,H1,I1,r1,q1⟩ => ?_)
 exact cA (hr pos pins s1 σ H1 _ I1 q1) fun us s2 ⟨xs,H2,I2,r2,q2⟩=>⟨x::xs,H2,I2,.cons r1 r2,q2⟩
noncomputable def Lc (t:TA):TE:=fun σ H Q=>t σ H fun xs H1=>xs.length≤sizeLine∧∀ p,H1 p=none→Q (.ref p) (upd H1 p (.tup xs))
noncomputable def Il (t:TA):TE:=fun σ H Q=>t σ H fun xs H1=>xs.length≤sizeLine∧∀ p,H1 p=none→Q (.ref p) (upd H1 p (.lst xs))
theorem bO {x1} (h:PA X es t):PE X (.Tuple es x1 pos) (Lc t):=by
 intro pins s σ H Q I hq
 refine wpAny_Tuple_spliced (cA (h pos pins s σ H _ I hq) fun us s1 ⟨xs,H1,I1,r,z,q⟩=>⟨by rw [← r.length];exact z,?_⟩)
 have hf:H1 s1.heap.objs.size=none:=I1.hok.fresh (zcH _)
 refine ⟨.ref s1.heap.objs.size,upd H1 s1.heap.objs.size (.tup xs),I1.laid (t':=s1.toks) (fun b u e=>zas _ e) (zcH _) ?_,rfl,q _ hf⟩
 exact ⟨z,us,r,⟨_,zaR _ rfl,rfl,_,rfl⟩⟩
theorem bJ (h:PA X es t):PE X (.List es pos) (Il t):=by
 intro pins s σ H Q I hq
 refine wpAny_List_spliced (cA (h pos pins s σ H _ I hq) fun us s1 ⟨xs,H1,I1,r,z,q⟩=>⟨by rw [← r.length];exact z,?_⟩)
 have hf:H1 s1.heap.objs.size=none:=I1.hok.fresh (zcH _)
 refine ⟨.ref s1.heap.objs.size,upd H1 s1.heap.objs.size (.lst xs),I1.laid (t':=s1.toks) (fun b u e=>zas _ e) (zcH _) ?_,rfl,q _ hf⟩
 exact ⟨z,us,0,r,zaR _ rfl⟩
end
noncomputable abbrev Sp:=List V→Hp→VK→XK→Prop
noncomputable abbrev Ep:=List Env→Hp→Shared→XK→Value→Shared→Prop
structure wI (P:Program) (w:World) (K:PySem.W.Frag) (mg:Str→Option Value) (base:Heap) (A:Around) (outer:List Env) (s:Shared) (H:Hp):Prop where
 frames:A.frames=some outer
 mod:Mod K mg base
 bs:∀ b o,base.get? b=some o→s.heap.get? b=some o∧H b=none
 Gs:base.objs.size≤s.heap.objs.size
 kY:s.heap.FunFrames base outer
 JV:∀ b∈frs outer,H b=none
 hok:iB P w H s.heap
 bare:AllBare s.gens
noncomputable def CE (outer:List Env) (P:Program) (w:World) (H:Hp) (s:Shared) (Q:VK) (u:Value) (s':Shared):Prop :=
 ∃ v H',s'.os=s.os∧AllBare s'.gens∧Un (frs outer) [] H H' s.heap s'.heap∧iB P w H' s'.heap∧RelV v u∧Q v H'
noncomputable def CR (CX:Ep) (outer:List Env) (P:Program) (w:World) (H:Hp) (s:Shared) (Q:VK) (E:XK) (r:Result) (s':Shared):Prop :=
 match r with
 | .ok (.ret u)=>CE outer P w H s Q u s'
 | .ok _=>False
 | .error e=>CX outer H s E e s'
structure dO (P:Program) (w:World) (K:PySem.W.Frag) (mg:Str→Option Value) (base:Heap) (CX:Ep) (k:Nat) (f:Addr) (fd:FuncData) (ps:List Str) (sp:Sp):Prop where
 len:∀ vs H Q E,sp vs H Q E→vs.length=ps.length
 run:∀ (A:Around) (outer:List Env) (s:Shared) (H:Hp) (args:Args) (us:List Value) (vs:List V) (Q:VK) (E:XK),aS k A→wI P w K mg base A outer s H→BindsTo s fd args (ps.zip us)→Vals vs us→sp vs H Q E →
  codeAny (model P w) A (.call (.ref f) args) (CR CX outer P w H s Q E) s
theorem dO.imp {P:Program}{w:World}{K:PySem.W.Frag}{mg:Str→Option Value}{base:Heap}{CX:Ep}{k:Nat}{f:Addr}{fd:FuncData}{ps:List Str}{sp sp':Sp} (F:dO P w K mg base CX k f fd ps sp)
  (h:∀ vs H Q E,sp' vs H Q E→sp vs H Q E):dO P w K mg base CX k f fd ps sp' :=
 ⟨fun vs H Q E q=>F.len vs H Q E (h _ _ _ _ q),fun A outer s H args us vs Q E hr he hb hv hs=>F.run A outer s H args us vs Q E hr he hb hv (h _ _ _ _ hs)⟩
theorem wI.make {P:Program}{w:World}{K:PySem.W.Frag}{mg:Str→Option Value}{base:Heap}{A:Around}{outer:List Env}{s:Shared}{H:Hp} (e:wI P w K mg base A outer s H) (C:Addr) (us:List Value) (kw:List (Str×Value)) :
  wI P w K mg base (A.under (.builtin "type.__call__" ⟨.ref C::us,kw⟩)) outer s H:=⟨by first | exact e.frames | (simpa [Around.under,Code.envs,Code.isFrame,pushEnvs] using e.frames),e.mod,e.bs,e.Gs,e.kY,e.JV,e.hok,e.bare⟩
section
variable {X:Cx}{pins:List (Addr×Obj)}{σ:St}{H:Hp}{s s':Shared}
theorem Inv.My (I:Inv X pins σ H s):wI X.prog X.w X.K X.mg X.base X.A X.stack s H :=
 ⟨I.ok.frames,I.ok.mod,I.bs,zcv I.ok.Gs I.sz,I.stack,I.w9,I.hok,I.bare⟩
theorem Inv.after {Q:VK}{u:Value} (I:Inv X pins σ H s) (h:CE X.stack X.prog X.w H s Q u s'):EP X pins σ Q u s':=by
 obtain ⟨v,H',os,bare,un,hok,r,q⟩:=h
 obtain ⟨hh,g,d,t,os'⟩:=s'
 obtain rfl:os'=s.os:=os
 exact ⟨v,H',I.call (h':=hh) (g':=g) (d':=d) (t':=t) (ch:=[]) un hok bare (fun b z=>absurd z (by simp)),r,q⟩
end
noncomputable def wX (sp:Sp) (dvs:List V) (E:XK) (t:TA):TE:=fun σ H Q=>t σ H fun vs H1=>sp (vs++dvs) H1 Q E
noncomputable def A4 (C:Addr) (m:Str) (sp:Sp) (dvs:List V) (E:XK) (ta:TE) (t:TA):TE:=fun σ H Q=>ta σ H fun x H1=>∃ a dx fs,x = .ref a∧H1 a=some (.ins C dx fs)∧fs.lookup m=none ∧
 t σ H1 fun vs H2=>sp (x::(vs++dvs)) H2 Q E
noncomputable def Le (C:Addr) (sp:Sp) (dvs:List V) (E:XK) (t:TA):TE:=fun σ H Q=>t σ H fun vs H1=>∀ x dx,H1 x=none→H1 dx=none→dx≠x →
 sp (.ref x::(vs++dvs)) (upd (upd H1 dx (.own x)) x (.ins C dx [])) (fun v H2=>v = .bH∧Q (.ref x) H2) E
noncomputable def Binds (K:PySem.W.Frag) (fd:FuncData) (ps:List Str) (ds:List Value):Prop :=
 ∀ (s:Shared) (us:List Value),K.In s.heap→(us++ds).length=ps.length→BindsTo s fd ⟨us,[]⟩ (ps.zip (us++ds))
theorem Binds.all {K:PySem.W.Frag}{fd:FuncData}{ps:List Str} (h:∀ us:List Value,us.length=ps.length→bindArgs fd ⟨us,[]⟩=pure (ps.zip us)):Binds K fd ps []:=fun s us _ hl=>by
 rw [zbQ] at hl ⊢
 exact .of_eq (h us hl)
noncomputable def Passes (CX:Ep) (X:Cx) (E:XK):Prop:=∀ (pins:List (Addr×Obj)) (σ:St) (H:Hp) (s:Shared) (e:Value) (s':Shared),Inv X pins σ H s→CX X.stack H s E e s'→X.xe e s'
section
variable {X:Cx}{CX:Ep}{k:Nat}{f C:Addr}{fd:FuncData}{ps:List Str}{sp:Sp}{dvs:List V}{ds:List Value}{E:XK}{x m:Str}{p pos apos:Pos}{e o:Expr}{es:List Expr}{ta:TE}{t:TA}
theorem vf {pins:List (Addr×Obj)}{σ:St}{H:Hp}{s:Shared}{Q:VK}{us:List Value}{vs:List V} (F:dO X.prog X.w X.K X.mg X.base CX k f fd ps sp) (hr:aS k X.A) (hb:Binds X.K fd ps ds) (hd:Vals dvs ds) (hx:Passes CX X E)
  (I:Inv X pins σ H s) (r:Vals vs us) (h:sp (vs++dvs) H Q E):wpAny (model X.prog X.w) X.A (call (.ref f) us) (EP X pins σ Q) X.xe s:=by
 have r2:Vals (vs++dvs) (us++ds):=r.append hd
 have hl:(us++ds).length=ps.length:=by rw [← r2.length];exact F.len _ _ _ _ h
 refine wpAny_call (codeAny_mono (F.run X.A X.stack s H ⟨us,[]⟩ (us++ds) (vs++dvs) Q E hr I.My (hb s us I.kW hl) r2 h) fun r s' hq => ?_)
 cases r with
 | error e=>exact hx pins σ H s e s' I hq
 | ok fl =>
  cases fl with
  | ret u=>exact I.after hq
  | next=>exact False.elim hq
  | brk=>exact False.elim hq
  | cont=>exact False.elim hq
theorem Fq (F:dO X.prog X.w X.K X.mg X.base CX k f fd ps sp) (hr:aS k X.A) (hg:Gl X x) (hm:X.mg x=some (.ref f)) (hk:zcf X.K (.ref f)=true) (hb:Binds X.K fd ps ds) (hd:Vals dvs ds) (hx:Passes CX X E)
  (ha:PA X (e::es) t) (hdb:(x==("__debug__" : Str))=false:=by decide) (he:starEach (e::es) X.env=(false,eval e X.env)::starEach es X.env:=by rfl) (hpl:(backTo pos (starEach es X.env)).any (·.1)=false:=by rfl) :
  PE X (.Call (.Name x p) (e::es) [] pos) (wX sp dvs E t):=by
 intro pins s σ H Q I h
 refine wpAny_Call_Name_kw (qV I hg hm ?_ hdb)
 refine PySem.W.callWith_K (h₀:=X.base) I.ok.mod.Nv hk (cA (ha pos pins s σ H _ I h) fun us s1 ⟨vs,H1,I1,r,q⟩=>⟨I1.kW,?_⟩) he hpl
 exact vf F hr hb hd hx I1 r q
theorem b5 {pl:Sem Bool} (he:PE X o ta) (c:wL X.K C) (hm:Meth X.K C m f) (F:dO X.prog X.w X.K X.mg X.base CX k f fd ps sp) (hr:aS k X.A) (hb:Binds X.K fd ps ds) (hd:Vals dvs ds) (hx:Passes CX X E) (ha:PA X (e::es) t)
  (hst:starEach (e::es) X.env=(false,eval e X.env)::starEach es X.env:=by rfl) (hpl:(backTo pos (starEach es X.env)).any (·.1)=false:=by rfl)
  (ht:eval (.Call (.Attribute o m apos) (e::es) [] pos) X.env=(do
   let ov ← eval o X.env
   standAt apos.atName
   let (f,first) ← holding [ov] (getMethod ov m pl)
   callWith pos f first (backTo pos (starEach (e::es) X.env)) (backToKw pos (keywordEach [] X.env))):=by rfl) :
  PE X (.Call (.Attribute o m apos) (e::es) [] pos) (A4 C m sp dvs E ta t):=by
 intro pins s σ H Q I h
 refine PySem.W.methodCall_KW (pl:=pl) (cA (he pins s σ H _ I h) fun u s1 ⟨x,H1,I1,rx,a,dx,fs,ex,ea,l,q⟩ => ?_) ht
 subst ex
 obtain rfl:u=Value.ref a:=rx
 refine nJ I1 ea c hm l ?_
 refine PySem.W.callWith_K (first:=[.ref a]) (h₀:=X.base) I.ok.mod.Nv hm.kp (cA (ha pos pins s1 σ H1 _ I1 q) fun us s2 ⟨vs,H2,I2,r,q2⟩=>⟨I2.kW,?_⟩) hst hpl
 exact vf (us:=.ref a::us) (vs:=.ref a::vs) F hr hb hd hx I2 (.cons rfl r) q2
theorem fy {pl:Sem Bool} (he:PE X o ta) (c:wL X.K C) (hm:Meth X.K C m f) (F:dO X.prog X.w X.K X.mg X.base CX k f fd ps sp) (hr:aS k X.A) (hb:Binds X.K fd ps ds) (hd:Vals dvs ds) (hx:Passes CX X E)
  (ht:eval (.Call (.Attribute o m apos) [] [] pos) X.env=(do
   let ov ← eval o X.env
   standAt apos.atName
   let (f,first) ← holding [ov] (getMethod ov m pl)
   callWith pos f first (backTo pos (starEach [] X.env)) (backToKw pos (keywordEach [] X.env))):=by rfl) :
  PE X (.Call (.Attribute o m apos) [] [] pos) (A4 C m sp dvs E ta AZ):=by
 intro pins s σ H Q I h
 refine PySem.W.methodCall_KW (pl:=pl) (cA (he pins s σ H _ I h) fun u s1 ⟨x,H1,I1,rx,a,dx,fs,ex,ea,l,q⟩ => ?_) ht
 subst ex
 obtain rfl:u=Value.ref a:=rx
 refine nJ I1 ea c hm l ?_
 exact PySem.W.callWith_K0 (first:=[.ref a]) I1.kW hm.kp (vf (us:=[.ref a]) (vs:=[.ref a]) F hr hb hd hx I1 (.cons rfl .nil) q)
structure Mk (K:PySem.W.Frag) (C f:Addr):Prop where
 makes:PySem.W.makesIn K C=true
 init:zce K (.ref C) "__init__" = some (some (.ref f))
 fn:zcA K (.ref f)=true
 kp:zcf K (.ref C)=true
theorem BL {pins:List (Addr×Obj)}{σ:St}{H:Hp}{s:Shared}{Q:VK}{us:List Value}{vs:List V} (M:Mk X.K C f) (F:dO X.prog X.w X.K X.mg X.base CX k f fd ps sp) (hr:aS (k+1) X.A) (hb:Binds X.K fd ps ds) (hd:Vals dvs ds)
  (hx:Passes CX X E) (I:Inv X pins σ H s) (r:Vals vs us)
  (h:∀ x dx,H x=none→H dx=none→dx≠x→sp (.ref x::(vs++dvs)) (upd (upd H dx (.own x)) x (.ins C dx [])) (fun v H2=>v = .bH∧Q (.ref x) H2) E) :
  wpAny (model X.prog X.w) X.A (call (.ref C) us) (EP X pins σ Q) X.xe s:=by
 have hq:=h (s.heap.objs.size+1) s.heap.objs.size (I.hok.fresh (zcJ _)) (I.hok.fresh (zcH _)) (zcu (Nat.lt_succ_self _))
 have I2:=Inv.made (C:=C) I
 have r2:Vals (V.ref (s.heap.objs.size+1)::(vs++dvs)) (Value.ref (s.heap.objs.size+1)::(us++ds)):=.cons rfl (r.append hd)
 have hl:(Value.ref (s.heap.objs.size+1)::us++ds).length=ps.length:=by
  have e:=r2.length
  rw [F.len _ _ _ _ hq] at e
  exact e.symm
 refine wpAny_call (CB (f:=f) I.kW M.makes M.init (beq_iff_eq.mp M.fn) (codeAny_mono (F.run _ X.stack _ _ ⟨Value.ref (s.heap.objs.size+1)::us,[]⟩ (Value.ref (s.heap.objs.size+1)::(us++ds)) _ _ E (hr.make C us [])
  (I2.My.make C us []) (hb _ (Value.ref (s.heap.objs.size+1)::us) I2.kW hl) r2 hq) fun r s' hq' => ?_))
 cases r with
 | error e=>exact hx pins σ _ _ e s' I2 hq'
 | ok fl =>
  cases fl with
  | ret u =>
   obtain ⟨v,H',I3,rv,ev,q3⟩:=I2.after hq'
   subst ev
   exact ⟨rv,⟨V.ref (s.heap.objs.size+1),H',I3,rfl,q3⟩⟩
  | next=>exact False.elim hq'
  | brk=>exact False.elim hq'
  | cont=>exact False.elim hq'
theorem gq (M:Mk X.K C f) (F:dO X.prog X.w X.K X.mg X.base CX k f fd ps sp) (hr:aS (k+1) X.A) (hg:Gl X x) (hm:X.mg x=some (.ref C)) (hb:Binds X.K fd ps ds) (hd:Vals dvs ds) (hx:Passes CX X E)
  (hdb:(x==("__debug__" : Str))=false:=by decide):PE X (.Call (.Name x p) [] [] pos) (Le C sp dvs E AZ):=by
 intro pins s σ H Q I h
 refine wpAny_Call_Name_kw (qV I hg hm ?_ hdb)
 exact PySem.W.callWith_K0 I.kW M.kp (BL (us:=[]) M F hr hb hd hx I .nil h)
end
structure az (N P:List Str) (sc:Scope):Prop where
 kind:sc.kind = .function
 co:sc.isCoroutine=false
 gen:sc.isGenerator=false
 nd:N.Nodup
 pre:N.take P.length=P
 par:∀ x∈P,sc.names.lookup x=some .local∨sc.names.lookup x=some .cell
 Jx:∀ y∈sc.names,y.2 ≠ .free
theorem pQ {kindOf:Str→Option NameKind}{x:Str}:∀ {binds:List (Str×Value)}{m:Str→Option Value},(∀ v,(x,v) ∉ binds)→bindL kindOf binds m x=m x
 | [],_,_=>rfl
 | (n,v)::r,m,h=>by
  unfold bindL
  rw [pQ fun w hw=>h w (zaC _ hw)]
  split
  ·have:x≠n:=by rintro rfl;exact h v zaS
   simp [this]
  ·rfl
theorem pS {kindOf:Str→Option NameKind}{x:Str}:∀ {binds:List (Str×Value)}{m:Str→Option Value},(∀ v,(x,v) ∉ binds)→bindC kindOf binds m x=m x
 | [],_,_=>rfl
 | (n,v)::r,m,h=>by
  unfold bindC
  rw [pS fun w hw=>h w (zaC _ hw)]
  split
  ·rfl
  ·have:x≠n:=by rintro rfl;exact h v zaS
   simp [this]
theorem pR {kindOf:Str→Option NameKind}{x:Str}{v:Value}:∀ {P:List Str}{vs:List Value}{i:Nat}{m:Str→Option Value},P.Nodup→P[i]? = some x→vs[i]? = some v→kindOf x=some .local →
  bindL kindOf (P.zip vs) m x=some v
 | [],_,_,_,_,h,_,_=>by simp at h
 | _::_,[],_,_,_,_,h,_=>by simp at h
 | p::P,w::vs,0,m,nd,h1,h2,hk=>by
  simp at h1 h2;subst h1;subst h2
  show bindL kindOf ((p,w)::P.zip vs) m p=_
  unfold bindL
  rw [pQ fun v hv=>(zbR.mp nd).1 (List.of_mem_zip hv).1,if_pos hk]
  simp
 | p::P,w::vs,i+1,m,nd,h1,h2,hk=>by
  show bindL kindOf ((p,w)::P.zip vs) m x=_
  unfold bindL
  exact pR (i:=i) (zbR.mp nd).2 (by simpa using h1) (by simpa using h2) hk
theorem pT {kindOf:Str→Option NameKind}{x:Str}{v:Value}:∀ {P:List Str}{vs:List Value}{i:Nat}{m:Str→Option Value},P.Nodup→P[i]? = some x→vs[i]? = some v→kindOf x≠some .local →
  bindC kindOf (P.zip vs) m x=some v
 | [],_,_,_,_,h,_,_=>by simp at h
 | _::_,[],_,_,_,_,h,_=>by simp at h
 | p::P,w::vs,0,m,nd,h1,h2,hk=>by
  simp at h1 h2;subst h1;subst h2
  show bindC kindOf ((p,w)::P.zip vs) m p=_
  unfold bindC
  rw [pS fun v hv=>(zbR.mp nd).1 (List.of_mem_zip hv).1,if_neg hk]
  simp
 | p::P,w::vs,i+1,m,nd,h1,h2,hk=>by
  show bindC kindOf ((p,w)::P.zip vs) m x=_
  unfold bindC
  exact pT (i:=i) (zbR.mp nd).2 (by simpa using h1) (by simpa using h2) hk
noncomputable def start (N:List Str) (vs:List V):St:=vs.map some++zcc (N.length - vs.length) none
noncomputable def kE (CX:Ep) (P:Program) (w:World) (K:PySem.W.Frag) (mg:Str→Option Value) (base:Heap) (N:List Str) (qual:Str) (scope:Scope) (f:Addr) (cd:Value) (A:Around) (outer:List Env) (s:Shared) (H:Hp) (E:XK):Cx where
 prog:=P
 w:=w
 K:=K
 mg:=mg
 base:=base
 A:=A.deeper (envOfC qual scope s.heap.objs.size f cd)
 N:=N
 s₀:=s
 H₀:=H
 env:=envOfC qual scope s.heap.objs.size f cd
 outer:=outer
 stack:=envOfC qual scope s.heap.objs.size f cd::outer
 ex:=[]
 calm:=true
 fn:=fun _=>true
 pn:=[]
 xe:=fun e s'=>wpAny (model P w) (A.deeper (envOfC qual scope s.heap.objs.size f cd)) (leaving (envOfC qual scope s.heap.objs.size f cd) e) (fun _ s''=>CX outer H s E e s'') (fun e' s''=>CX outer H s E e' s'') s'
theorem uq {sc:Scope}{n:Nat}{x:Str} (h:sc.names.lookup x=some .cell):∃ c,(cellsFrom n sc.names []).lookup x=some c:=by
 have q:=PySem.W.cellsFrom_some sc.names n [] (.inl h)
 exact Option.isSome_iff_exists.mp q
theorem zY {CX:Ep}{P:Program}{w:World}{K:PySem.W.Frag}{mg:Str→Option Value}{base:Heap}{N ps:List Str}{qual:Str}{scope:Scope}{f:Addr}{cd:Value}{A:Around}{outer:List Env}{s s1:Shared}{H:Hp}{E:XK}{us:List Value}{vs:List V}
  (S:az N ps scope) (hd:A.handled=none) (e0:wI P w K mg base A outer s H) (hl:vs.length=ps.length) (r:Vals vs us)
  (x:InCallC s s.heap.objs.size (bindL (envOfC qual scope s.heap.objs.size f cd).kindOf (ps.zip us) fun _=>none) (cellsFrom (s.heap.objs.size+1) scope.names []) (bindC (envOfC qual scope s.heap.objs.size f cd).kindOf (ps.zip us) fun _=>none) s1) :
  Inv (kE CX P w K mg base N qual scope f cd A outer s H E) [] (start N vs) H s1:=by
 have hpl:ps.length≤N.length:=by have:=congrArg zcF S.pre;rw [zby] at this;omega
 obtain ⟨h1,tk,rfl,hk⟩:=x.done
 have noA:∀ b:Addr,b ∉ (kE CX P w K mg base N qual scope f cd A outer s H E).ex:=fun b z=>absurd (show b∈([]:List Addr) from z) (by simp)
 refine ⟨⟨e0.mod,S.kind,rfl,rfl,zcH _,fun y z c h1 h2 => ?_,fun y hy => ?_,fun y c _ h => ?_,fun _=>hd,Around.frames_deeper e0.frames,.inr ⟨rfl,rfl⟩,fun b z=>absurd z (noA b),e0.bs,e0.Gs,fun b _ _=>noA b,fun b z=>absurd z (noA b),e0.kY,e0.JV⟩,
  rfl,e0.bare,Un.kept hk,⟨_,x.toInCall.ns,fun i y v h1 h2 h3 => ?_⟩,fun y c h=>⟨_,x.cell y c h⟩,e0.hok.fresh (zcH _),fun y c h => ?_,fun p hp=>absurd (show p∈([]:List (Addr×Obj)) from hp) (by simp),e0.hok.kept hk,?_⟩
 ·exact name_of_addr x.apart (PySem.mem_of_lookup h1) (PySem.mem_of_lookup h2)
 ·have hy:scope.names.lookup y=some .cell∨scope.names.lookup y=some .free:=hy
  rcases hy with hy | hy
  ·exact uq hy
  ·exact absurd rfl (S.Jx _ (PySem.mem_of_lookup hy))
 ·exact Nat.le_of_lt (x.above y c (PySem.mem_of_lookup h))
 ·have hi:i<vs.length:=by
   unfold start at h2
   by_cases hi:i<vs.length
   ·exact hi
   ·rw [zab (by simpa using hi)] at h2
    rw [List.getElem?_replicate] at h2
    split at h2 <;> cases h2
  have ha:vs[i]? = some v:=by
   unfold start at h2
   rw [zag (by simpa using hi),zbh] at h2
   cases e:vs[i]? with
   | none=>rw [e] at h2;cases h2
   | some a=>rw [e] at h2;cases h2;rfl
  obtain ⟨u,hu,rv⟩:=r.get ha
  have hp:ps[i]? = some y:=by
   rw [← S.pre,List.getElem?_take_of_lt (by omega)];exact h1
  have ndP:ps.Nodup:=by rw [← S.pre];exact S.nd.sublist (zbi _ _)
  refine ⟨u,rv,?_⟩
  rcases S.par y (List.mem_of_getElem? hp) with k | k
  ·exact .inl ⟨k,pR ndP hp hu k⟩
  ·obtain ⟨c,e⟩:=uq (n:=s.heap.objs.size+1) k
   refine .inr ⟨.inl k,c,e,?_⟩
   have q:=x.cell y c e
   rw [pT ndP hp hu (by show scope.names.lookup y≠_;rw [k];decide)] at q
   exact q
 ·exact e0.hok.fresh (Nat.le_of_lt (x.above y c (PySem.mem_of_lookup h)))
 ·unfold start
  show _=N.length
  rw [zaU,zbP,List.length_replicate]
  omega
theorem Mv {CX:Ep}{P:Program}{w:World}{K:PySem.W.Frag}{mg:Str→Option Value}{base:Heap}{k:Nat}{f:Addr}{name qual:Str}{params:Arguments}{body:List Stmt}{scope:Scope}{dV kV doc pm cdv ct oc:Value}{an od:Option Addr}
  {osl:Array (Option Value)}{N ps:List Str}{sp:Sp} (lk:K.lookup f=some ⟨oc,od,.func (zcB name qual params body scope dV kV doc pm an cdv ct),osl⟩) (hcd:zcg K cdv qual=true) (S:az N ps scope)
  (len:∀ vs H Q E,sp vs H Q E→vs.length=ps.length)
  (hbody:∀ (A:Around) (outer:List Env) (s:Shared) (H:Hp) (vs:List V) (Q:VK) (E:XK),aS k (A.deeper (envOfC qual scope s.heap.objs.size f cdv))→sp vs H Q E →
   ∃ t,rM (kE CX P w K mg base N qual scope f cdv A outer s H E) body t∧t { nx:=fun _ H'=>Q .bH H',rt:=Q } (start N vs) H) :
  dO P w K mg base CX (k+1) f (zcB name qual params body scope dV kV doc pm an cdv ct) ps sp:=by
 refine ⟨len,fun A outer s H args us vs Q E hr e0 hb r hsp => ?_⟩
 have hl:=len _ _ _ _ hsp
 have KX:K.In s.heap:=e0.mod.Nv.keeps fun b o e=>(e0.bs b o e).1
 have lim:s.heap.NoLimit:=e0.mod.nolimit.keeps fun b o e=>(e0.bs b o e).1
 have hkind:∀ y∈ps.zip us,scope.names.lookup y.1=some .local∨(scope.names.lookup y.1=some .cell∧((cellsFrom (s.heap.objs.size+1) scope.names []).lookup y.1).isSome=true):=fun ⟨n,v⟩ hy=>by
  rcases S.par n (List.of_mem_zip hy).1 with q | q
  ·exact .inl q
  ·exact .inr ⟨q,PySem.W.cellsFrom_some _ _ _ (.inl q)⟩
 refine codeAny_call_function hr.depth (KX _ _ lk) rfl S.co S.gen rfl (PySem.W.codeRec_of KX hcd) (hb _ _ _ _ ?_)
 refine wpAny_newFunctionEnv_cells S.kind hkind fun env he s1 x => ?_
 subst he
 refine ⟨lim.keeps x.toInCall.keep,codeAny_func ?_⟩
 obtain ⟨t,ht,hq⟩:=hbody A outer s H vs Q E (hr.deeper _) hsp
 have I:Inv (kE CX P w K mg base N qual scope f cdv A outer s H E) [] (start N vs) H s1:=zY S hr.hd e0 hl r x
 refine wpAny_mono (ht [] s1 (start N vs) H _ I hq) (fun fl s' hs => ?_) fun e s' hs=>hs
 have fin:∀ {σ':St}{H':Hp}{v:V}{u:Value},Inv (kE CX P w K mg base N qual scope f cdv A outer s H E) [] σ' H' s'→RelV v u→Q v H'→CE outer P w H s Q u s' :=
  fun {σ' H' v u} J rv q=>⟨v,H',J.os,J.bare,J.base,J.hok,rv,q⟩
 cases fl with
 | ret u =>
  obtain ⟨v,σ',H',J,rv,q⟩:=hs
  exact fin J rv q
 | next =>
  obtain ⟨σ',H',J,q⟩:=hs
  exact fin (v:=V.bH) (u:=Value.none) J rfl q
 | brk =>
  obtain ⟨_,_,_,q⟩:=hs
  exact False.elim q
 | cont =>
  obtain ⟨_,_,_,q⟩:=hs
  exact False.elim q
section
variable {X:Cx}{x:Str}{p pos:Pos}{e:Expr}{es:List Expr}{t:TA}{id T:String}{r:List V→Hp→VK→Prop}
noncomputable def K5 (r:List V→Hp→VK→Prop) (t:TA):TE:=fun σ H Q=>t σ H fun vs H1=>r vs H1 Q
theorem Ca (hc:bS X (.builtin id) r) (hg:Gl X x) (hm:X.mg x=none) (hv:bootBuiltins x=some (.builtin id)) (ha:PA X (e::es) t) (hn:x ≠ "__name__" := by decide) (hdb:(x==("__debug__" : Str))=false:=by decide)
  (he:starEach (e::es) X.env=(false,eval e X.env)::starEach es X.env:=by rfl) (hpl:(backTo pos (starEach es X.env)).any (·.1)=false:=by rfl):PE X (.Call (.Name x p) (e::es) [] pos) (K5 r t):=by
 intro pins s σ H Q I h
 refine wpAny_Call_Name_kw (fX I hg hm hv ?_ hn hdb)
 exact PyProof.Rows.callWith_builtin1 (cA (ha pos pins s σ H _ I h) fun us s1 ⟨vs,H1,I1,r1,q1⟩=>hc pins s1 σ H1 vs us Q I1 r1 q1) he hpl
theorem zF (hc:bS X (.type T) r) (hg:Gl X x) (hm:X.mg x=none) (hv:bootBuiltins x=some (.type T)) (ha:PA X (e::es) t) (hn:x ≠ "__name__" := by decide) (hdb:(x==("__debug__" : Str))=false:=by decide)
  (he:starEach (e::es) X.env=(false,eval e X.env)::starEach es X.env:=by rfl) (hpl:(backTo pos (starEach es X.env)).any (·.1)=false:=by rfl):PE X (.Call (.Name x p) (e::es) [] pos) (K5 r t):=by
 intro pins s σ H Q I h
 refine wpAny_Call_Name_kw (fX I hg hm hv ?_ hn hdb)
 exact PyProof.Rows.callWith_type1 (cA (ha pos pins s σ H _ I h) fun us s1 ⟨vs,H1,I1,r1,q1⟩=>hc pins s1 σ H1 vs us Q I1 r1 q1) he hpl
end
section
variable {κ:Type} [DecidableEq κ]
noncomputable def fk (kvs:List (κ×V)) (k:κ):Option V:=(kvs.find? fun kv=>decide (kv.1=k)).map (·.2)
noncomputable def putK (kvs:List (κ×V)) (k:κ) (v:V):List (κ×V) :=
 if (kvs.any fun kv=>decide (kv.1=k))=true then kvs.map (fun kv=>if kv.1=k then (kv.1,v) else kv) else kvs++[(k,v)]
theorem lW {p:κ×V}{r:List (κ×V)}{k:κ} (e:p.1=k):fk (p::r) k=some p.2:=by simp [fk,zbS,e]
theorem lX {p:κ×V}{r:List (κ×V)}{k:κ} (e : ¬ p.1=k):fk (p::r) k=fk r k:=by simp [fk,zbS,e]
theorem lY (k:κ):∀ kvs:List (κ×V),(kvs.any fun kv=>decide (kv.1=k))=(fk kvs k).isSome
 | []=>rfl
 | p::r=>by
  rw [zck]
  by_cases e:p.1=k
  ·simp only [lW e,decide_eq_true e,Bool.true_or,Option.isSome_some]
  ·rw [lX e,decide_eq_false e,Bool.false_or];exact lY k r
theorem eN (kvs:List (κ×V)) (k:κ) (v:V):(putK kvs k v).length≤kvs.length+1:=by
 unfold putK
 split
 ·rw [zbP];omega
 ·rw [zaU,zbx,zbT];omega
theorem iA.fG {o:Option V}{u:Option Value} (r:iA o u):o.isSome=u.isSome:=by
 cases o with
 | none=>cases u with
  | none=>rfl
  | some _=>exact (show False from r).elim
 | some _=>cases u with
  | none=>exact (show False from r).elim
  | some _=>rfl
theorem KV.val {kvs:List (κ×V)}{vs:List (κ×Value)} (r:KV kvs vs) (k:κ):iA (fk kvs k) (valueAt vs k):=by
 unfold KV at r
 induction r with
 | nil=>exact True.intro
 | @cons p q ps qs h t ih =>
  obtain ⟨h1,h2⟩:=h
  by_cases e:p.1=k
  ·have e':q.1=k:=h1.symm.trans e
   have b:valueAt (q::qs) k=some q.2:=by simp [valueAt,zbS,e']
   rw [lW e,b];exact h2
  ·have e' : ¬ q.1=k:=fun z=>e (h1.trans z)
   have b:valueAt (q::qs) k=valueAt qs k:=by simp [valueAt,zbS,e']
   rw [lX e,b];exact ih
theorem KV.any {kvs:List (κ×V)}{vs:List (κ×Value)} (r:KV kvs vs) (k:κ):(kvs.any fun kv=>decide (kv.1=k))=vs.any fun kv=>decide (kv.1=k):=by
 unfold KV at r
 induction r with
 | nil=>rfl
 | cons h t ih=>rw [zck,zck,ih,h.1]
theorem KV.repl {kvs:List (κ×V)}{vs:List (κ×Value)} (r:KV kvs vs) (k:κ) {y:V}{u:Value} (ry:RelV y u) :
  KV (kvs.map fun kv=>if kv.1=k then (kv.1,y) else kv) (vs.map fun kv=>if kv.1=k then (kv.1,u) else kv):=by
 unfold KV at r ⊢
 induction r with
 | nil=>exact .nil
 | @cons p q ps qs h t ih =>
  rw [zcj,zcj]
  refine .cons ?_ ih
  obtain ⟨h1,h2⟩:=h
  by_cases e:p.1=k
  ·rw [if_pos e,if_pos (h1.symm.trans e)];exact ⟨h1,ry⟩
  ·rw [if_neg e,if_neg (fun z=>e (h1.trans z))];exact ⟨h1,h2⟩
theorem KV.put {kvs:List (κ×V)}{vs:List (κ×Value)} (r:KV kvs vs) (k:κ) {y:V}{u:Value} (ry:RelV y u):KV (putK kvs k y) (stored vs k u):=by
 unfold putK stored
 rw [r.any k]
 by_cases e:(vs.any fun kv=>decide (kv.1=k))=true
 ·rw [if_pos e,if_pos e];exact r.repl k ry
 ·rw [if_neg e,if_neg e];exact Paired.snoc r ⟨rfl,ry⟩
theorem KV.length {kvs:List (κ×V)}{vs:List (κ×Value)} (r:KV kvs vs):kvs.length=vs.length:=Paired.length r
end
theorem nD {P:Program}{w:World}{k:Key}{u:Value} (r:RelV (kV k) u):(bA P w).is k u=true:=by
 cases k with
 | inl i=>obtain ⟨t,e⟩:=(show ∃ t,u=Value.int i t from r);subst e;exact sW P w i t
 | inr x=>obtain ⟨t,e⟩:=(show ∃ t,u=Value.str x t from r);subst e;exact sV P w x t
theorem pI {P:Program}{w:World}:∀ {ks:List Key}{us:List Value},Vals (ks.map kV) us→ItemsAre (bA P w) ks us
 | [],_,r=>by rw [zcp] at r;cases r;exact .nil
 | k::ks,_,r=>by
  rw [zcj] at r
  cases r with
  | cons h t=>exact .cons (nD h) (pI t)
noncomputable abbrev KT (H:Hp):List (List Key×V)→List (List Key×Addr×Value)→Prop:=Paired fun p q=>p.1=q.1∧H q.2.1=some (.tup (p.1.map kV))∧RelV p.2 q.2.2
theorem KT.val {H:Hp}{kvs:List (List Key×V)}{xs:List (List Key×Addr×Value)} (r:KT H kvs xs) (k:List Key):iA (fk kvs k) ((atKey xs k).map (·.2)):=by
 induction r with
 | nil=>exact True.intro
 | @cons p q ps qs h t ih =>
  obtain ⟨h1,_,h2⟩:=h
  by_cases e:p.1=k
  ·have e':q.1=k:=h1.symm.trans e
   have b:atKey (q::qs) k=some q.2:=by simp [atKey,zbS,e']
   rw [lW e,b];exact h2
  ·have e' : ¬ q.1=k:=fun z=>e (h1.trans z)
   have b:atKey (q::qs) k=atKey qs k:=by simp [atKey,zbS,e']
   rw [lX e,b];exact ih
theorem KT.repl {H:Hp}{kvs:List (List Key×V)}{xs:List (List Key×Addr×Value)} (r:KT H kvs xs) (k:List Key) {y:V}{u:Value} (ry:RelV y u) :
  KT H (kvs.map fun kv=>if kv.1=k then (kv.1,y) else kv) (xs.map (putAt k u)):=by
 induction r with
 | nil=>exact .nil
 | @cons p q ps qs h t ih =>
  rw [zcj,zcj]
  refine .cons ?_ ih
  obtain ⟨h1,h2,h3⟩:=h
  unfold putAt
  by_cases e:p.1=k
  ·rw [if_pos e,if_pos (h1.symm.trans e)];exact ⟨h1,h2,ry⟩
  ·rw [if_neg e,if_neg (fun z=>e (h1.trans z))];exact ⟨h1,h2,h3⟩
theorem KT.put {H:Hp}{kvs:List (List Key×V)}{xs:List (List Key×Addr×Value)} (r:KT H kvs xs) (k:List Key) {b:Addr}{y:V}{u:Value} (hb:H b=some (.tup (k.map kV))) (ry:RelV y u) :
  KT H (putK kvs k y) (storedH xs k b u):=by
 have e:(kvs.any fun kv=>decide (kv.1=k))=(atKey xs k).isSome:=by
  rw [lY,(r.val k).fG,zbv]
 unfold putK storedH
 rw [e]
 by_cases q:(atKey xs k).isSome=true
 ·rw [if_pos q,if_pos q];exact r.repl k ry
 ·rw [if_neg q,if_neg q];exact Paired.snoc r ⟨rfl,hb,ry⟩
theorem KT.keeps {H H':Hp}{kvs:List (List Key×V)}{xs:List (List Key×Addr×Value)} (r:KT H kvs xs) (ht:∀ b ys,H b=some (.tup ys)→H' b=some (.tup ys)):KT H' kvs xs :=
 Paired.JC r fun _ _ z=>⟨z.1,ht _ _ z.2.1,z.2.2⟩
section
variable {P:Program}{w:World}{H:Hp}{h:Heap}{a:Addr}
theorem Ho {u:HO} (ok:iB P w H h) (e:Rd H a u):aW P w H h a u:=e.ok ok
theorem pO {kvs:List (Key×V)} (ok:iB P w H h) (e:Rd H a (.dK kvs)):kvs.length≤sizeLine∧(a==sysModules)=false∧∃ vs,KV kvs vs∧h.DictOf (bA P w) a vs :=
 show aW P w H h a (.dK kvs) from Ho ok e
theorem Dd {kvs:List (Key×V)} (ok:iB P w H h) (e:H a=some (.dK kvs)):kvs.length≤sizeLine∧(a==sysModules)=false∧∃ vs,KV kvs vs∧h.DictOf (bA P w) a vs:=pO ok (.inl e)
theorem ny {ks:List Key} (ok:iB P w H h) (e:H a=some (.tup (ks.map kV))):(tupleKind (bA P w)).is h ks a:=by
 obtain ⟨_,its,r,o,h1,h2,n,h3⟩:=(show aW P w H h a (.tup (ks.map kV)) from ok a _ e)
 exact ⟨o,its.toArray,n,h1,h2,h3,by simpa using pI r⟩
theorem tX {kvs:List (List Key×V)} (ok:iB P w H h) (e:Rd H a (.dT kvs)):kvs.length≤sizeLine∧(a==sysModules)=false ∧
  ∃ xs,KT H kvs xs∧h.DictOfH (tupleKind (bA P w)) a xs:=by
 obtain ⟨z,y,xs,r,o,es,ep,h1,h2,h3,h4,h5⟩:=(show aW P w H h a (.dT kvs) from Ho ok e)
 refine ⟨z,y,xs,r,o,es,ep,h1,h2,h3,h4,fun x hx => ?_,h5⟩
 have all:∀ {l:List (List Key×V)}{m:List (List Key×Addr×Value)},KT H l m→∀ x∈m,(tupleKind (bA P w)).is h x.1 x.2.1:=by
  intro l m q
  induction q with
  | nil=>intro x hx;exact nomatch hx
  | @cons p q ps qs hq t ih =>
   intro x hx
   rcases zci.mp hx with e | hx
   ·subst e
    exact ny ok (by rw [← hq.1];exact hq.2.1)
   ·exact ih x hx
 exact all r x hx
theorem Mz {kvs:List (List Key×V)} (ok:iB P w H h) (e:H a=some (.dT kvs)):kvs.length≤sizeLine∧(a==sysModules)=false ∧
  ∃ xs,KT H kvs xs∧h.DictOfH (tupleKind (bA P w)) a xs:=tX ok (.inl e)
end
noncomputable def iC (H:Hp) (a:Addr) (y:V) (r:Option V):Prop :=
 (∃ kvs k,Rd H a (.dK kvs)∧y=kV k∧r=fk kvs k)∨∃ kvs k b,Rd H a (.dT kvs)∧y = .ref b∧H b=some (.tup (k.map kV))∧r=fk kvs k
noncomputable def wK (H:Hp) (a:Addr) (y v:V) (H':Hp):Prop :=
 (∃ kvs k,H a=some (.dK kvs)∧y=kV k∧kvs.length<sizeLine∧H'=upd H a (.dK (putK kvs k v))) ∨
 ∃ kvs k b,H a=some (.dT kvs)∧y = .ref b∧H b=some (.tup (k.map kV))∧kvs.length<sizeLine∧H'=upd H a (.dT (putK kvs k v))
theorem iC.k {H:Hp}{a:Addr}{kvs:List (Key×V)}{k:Key} (e:H a=some (.dK kvs)):iC H a (kV k) (fk kvs k):=.inl ⟨kvs,k,.inl e,rfl,rfl⟩
theorem wK.k {H:Hp}{a:Addr}{kvs:List (Key×V)}{k:Key}{v:V} (e:H a=some (.dK kvs)) (hl:kvs.length<sizeLine):wK H a (kV k) v (upd H a (.dK (putK kvs k v))):=.inl ⟨kvs,k,e,rfl,hl,rfl⟩
section
variable {X:Cx}{pins:List (Addr×Obj)}{σ:St}{H:Hp}{s:Shared}{a:Addr}{y v:V}{u r:Value}{o:Option V}{A:Around}{E:Value→Shared→Prop}
theorem Inv.big (I:Inv X pins σ H s):sysModules<s.heap.objs.size:=by
 have h:mainGlobals<s.heap.objs.size:=(I.mod.glob.keeps I.bk).lt
 exact Nat.lt_trans (by decide) h
theorem Ab {Q:Value→Shared→Prop} (hu:A.units+1<cLine) (I:Inv X pins σ H s) (g:iC H a y (some v)) (ry:RelV y u) (h:∀ w' s',Inv X pins σ H s'→RelV v w'→Q w' s') :
  wpAny (model X.prog X.w) A (getItem (.ref a) u) Q E s:=by
 rcases g with ⟨kvs,k,e,ey,l⟩ | ⟨kvs,k,b,e,ey,eb,l⟩
 ·subst ey
  obtain ⟨z,hd,vs,rel,dd⟩:=pO I.hok e
  obtain ⟨w',hw,rw'⟩:=iA.some_of (v:=v) (o:=valueAt vs k) (by rw [l];exact rel.val k)
  exact wpAny_getItem_of (nD ry) dd.mapOf hw (h w' _ (I.tok _) rw')
 ·subst ey
  cases (show u=Value.ref b from ry)
  obtain ⟨z,hd,xs,rel,dd⟩:=tX I.hok e
  obtain ⟨w',hw,rw'⟩:=iA.some_of (v:=v) (o:=(atKey xs k).map (·.2)) (by rw [l];exact rel.val k)
  obtain ⟨p,hp,hp2⟩:=Option.map_eq_some_iff.mp hw
  refine wpAny_getItem_heap (tupleKind_room_in1 hu) (ny I.hok eb) dd hp ?_
  rw [hp2]
  exact h w' _ (I.tok _) rw'
theorem ON {Q:Value→Shared→Prop} (hu:A.units+1<cLine) (I:Inv X pins σ H s) (g:iC H a y o) (ry:RelV y u) (h:∀ s',Inv X pins σ H s'→Q (.bool o.isSome) s') :
  wpAny (model X.prog X.w) A (compareOp .In u (.ref a)) Q E s:=by
 rcases g with ⟨kvs,k,e,ey,l⟩ | ⟨kvs,k,b,e,ey,eb,l⟩
 ·subst ey
  obtain ⟨z,hd,vs,rel,dd⟩:=pO I.hok e
  refine wpAny_in_of (nD ry) hd dd.mapOf ?_
  rw [← (rel.val k).fG,← l]
  exact h _ (I.tok _)
 ·subst ey
  cases (show u=Value.ref b from ry)
  obtain ⟨z,hd,xs,rel,dd⟩:=tX I.hok e
  refine wpAny_in_heap (tupleKind_room_in1 hu) (ny I.hok eb) hd dd ?_
  have q:=(rel.val k).fG
  rw [zbv] at q
  rw [← q,← l]
  exact h _ (I.tok _)
theorem Ga {Q:Value→Shared→Prop} (hu:A.units+1<cLine) (I:Inv X pins σ H s) (g:iC H a y o) (ry:RelV y u) (h:∀ s',Inv X pins σ H s'→Q (.bool (!o.isSome)) s') :
  wpAny (model X.prog X.w) A (compareOp .NotIn u (.ref a)) Q E s:=by
 rcases g with ⟨kvs,k,e,ey,l⟩ | ⟨kvs,k,b,e,ey,eb,l⟩
 ·subst ey
  obtain ⟨z,hd,vs,rel,dd⟩:=pO I.hok e
  refine wpAny_notIn_of (nD ry) hd dd.mapOf ?_
  rw [← (rel.val k).fG,← l]
  exact h _ (I.tok _)
 ·subst ey
  cases (show u=Value.ref b from ry)
  obtain ⟨z,hd,xs,rel,dd⟩:=tX I.hok e
  refine wpAny_notIn_heap (tupleKind_room_in1 hu) (ny I.hok eb) hd dd ?_
  have q:=(rel.val k).fG
  rw [zbv] at q
  rw [← q,← l]
  exact h _ (I.tok _)
theorem lR {h':Heap}{t':Nat}{ob:HO} (I:Inv X pins σ H s) (mu:Nb (H a)) (hs:Heap.SameBut a s.heap h') (he:∃ q,h'.get? a=some q) (new:aW X.prog X.w (upd H a ob) h' a ob) :
  Inv X pins σ (upd H a ob) { s with heap:=h',toks:=t' } :=
 I.write (x:=a) (e:=a) mu (.inl rfl) (fun b q hb z=>(hs.2 b hb).trans z) he new
theorem De {P:Program}{w:World}{H':Hp}{h':Heap}{kvs:List (Key×V)}{vs:List (Key×Value)} (z:kvs.length≤sizeLine) (hd:(a==sysModules)=false) (rel:KV kvs vs) (dd:h'.DictOf (bA P w) a vs) :
  aW P w H' h' a (.dK kvs):=⟨z,hd,vs,rel,dd⟩
theorem Aa {H':Hp}{Q:Unit→Shared→Prop} (hu:A.units+1<cLine) (I:Inv X pins σ H s) (g:wK H a y v H') (ry:RelV y u) (rv:RelV v r) (h:∀ s',Inv X pins σ H' s'→Q () s') :
  wpAny (model X.prog X.w) A (setItem (.ref a) u r) Q E s:=by
 rcases g with ⟨kvs,k,e,ey,l,eH⟩ | ⟨kvs,k,b,e,ey,eb,l,eH⟩
 ·subst ey eH
  obtain ⟨z,hd,vs,rel,dd⟩:=Dd I.hok e
  have hz:vs.length≤sizeLine:=by rw [← rel.length];exact z
  have hl:(putK kvs k v).length≤sizeLine:=by have:=eN kvs k v;omega
  refine wpAny_setItem_pairs (hsz:=hz) (nD ry) dd fun h' dd' hs=>h _ ?_
  have he:∃ q,h'.get? a=some q:=let ⟨q,_,_,hq,_⟩:=dd';⟨q,hq⟩
  exact lR I (by rw [e];exact True.intro) hs he (De hl hd (rel.put k rv) dd')
 ·subst ey eH
  cases (show u=Value.ref b from ry)
  obtain ⟨z,hd,xs,rel,dd⟩:=Mz I.hok e
  have hz:xs.length≤sizeLine:=by rw [← Paired.length rel];exact z
  have hl:(putK kvs k v).length≤sizeLine:=by have:=eN kvs k v;omega
  refine wpAny_setItem_heap (hsz:=hz) (tupleKind_room_in1 hu) (ny I.hok eb) dd fun h' dd' hs=>h _ ?_
  obtain ⟨q,es,ep,hq,h2,h3,h4,_,h5⟩:=dd'
  refine lR I (by rw [e];exact True.intro) hs ⟨q,hq⟩ ⟨hl,hd,_,(rel.put k eb rv).keeps fun c ys ec => ?_,q,es,ep,hq,h2,h3,h4,h5⟩
  rw [aA (Mc ec e (fun z=>nomatch z))]
  exact ec
end
section
variable {X:Cx}{pins:List (Addr×Obj)}{σ:St}{H:Hp}{s:Shared}{a:Addr}{kvs:List (Key×V)}{k:Key}{u:Value}{A:Around}{E:Value→Shared→Prop}
theorem MC {Q:Value→Shared→Prop} (I:Inv X pins σ H s) (e:Rd H a (.dK kvs)) (h:∀ t s',Inv X pins σ H s'→Q (.int kvs.length t) s'):wpAny (model X.prog X.w) A (call (.builtin "len") [.ref a]) Q E s:=by
 obtain ⟨z,hd,vs,rel,dd⟩:=pO I.hok e
 refine call_len_dict hd dd (by rw [← rel.length];rw [sizeLine_eq] at z;omega) ?_
 rw [← rel.length]
 exact h _ _ (I.tok _)
end
noncomputable def G0 (i:Expr):Prop:=∀ ov iv,subscripted i false ov iv=operate [ov,iv] (getItem ov iv)
theorem EJ {prog:Program}{w:World}{A:Around}{E:Value→Shared→Prop}{s:Shared}{env:Env}{value slice:Expr}{pos:Pos}{T id:String}{Q:Value→Shared→Prop}
  (hl:typeLookup (.type T) "__getitem__" = pure (some (.builtin id))) (hs:G0 slice)
  (h:wpAny (model prog w) A (eval value env) (fun o s₁=>wpAny (model prog w) A (eval slice env) (fun i s₂=>s₂.TypeIs o T∧wpAny (model prog w) A (getItem o i) Q E s₂) E s₁) E s) :
  wpAny (model prog w) A (eval (.Subscript value slice pos) env) Q E s:=by
 refine Subscript_ (wpAny_mono h (fun o s₁ h₁=>wpAny_mono h₁ (fun i s₂ h₂ => ?_) fun _ _ x=>x) fun _ _ x=>x)
 obtain ⟨hT,h₂⟩:=h₂
 unfold subscriptTail
 refine wpAny_bind ?_
 rw [getitemInPython_of_ne hT.not_modules]
 refine wpAny_bind (wpAny_specialOf hT hl ?_)
 have fin:wpAny (model prog w) A (subscripted slice false o i) (fun r s₃=>wpAny (model prog w) A (letTemporaryGo value o r >>= fun _=>pure r) Q E s₃) E s₂:=by
  rw [hs o i]
  exact wpAny_operating (wpAny_mono h₂ (fun r s₃ h₃=>wpAny_bind (wpAny_letTemporaryGo (wpAny_pure h₃))) fun _ _ x=>x)
 first
  | exact wpAny_pure (wpAny_bind fin)
  | exact wpAny_bind (wpAny_pure (wpAny_bind fin))
  | exact wpAny_bind fin
theorem t6 {X:Cx}{pins:List (Addr×Obj)}{σ:St}{H:Hp}{s:Shared}{a:Addr}{y:V}{o:Option V} (I:Inv X pins σ H s) (g:iC H a y o):s.TypeIs (.ref a) "dict" := by
 rcases g with ⟨kvs,k,e,_,_⟩ | ⟨kvs,k,b,e,_,_,_⟩
 ·obtain ⟨_,_,vs,_,dd⟩:=pO I.hok e
  exact dd.typeIs
 ·obtain ⟨_,_,xs,_,dd⟩:=tX I.hok e
  exact dd.typeIs
noncomputable def A9 (td ty:TE):TE:=fun σ H Q=>td σ H fun x H1=>ty σ H1 fun y H2=>∃ a v,x = .ref a∧iC H2 a y (some v)∧Q v H2
noncomputable def BK (td ty tv:TE):TS:=fun D σ H=>tv σ H fun v H1=>td σ H1 fun x H2=>ty σ H2 fun y H3=>∃ a H4,x = .ref a∧wK H3 a y v H4∧D.nx σ H4
section
variable {X:Cx}{o i e value:Expr}{pos pos' tpos:Pos}{td ty tv:TE}
theorem cV (hu:X.A.units+1<cLine) (ho:PE X o td) (hi:PE X i ty) (hs:G0 i):PE X (.Subscript o i pos) (A9 td ty):=by
 intro pins s σ H Q I h
 refine EJ PySem.F.slot_dict_getitem.lookup hs (cA (ho pins s σ H _ I h) fun u s1 ⟨x,H1,I1,rx,q1⟩=>cA (hi pins s1 σ H1 _ I1 q1) fun iv s2 ⟨y,H2,I2,ry,a,v,ex,g,q2⟩ => ?_)
 subst ex
 obtain rfl:u=Value.ref a:=rx
 exact ⟨t6 I2 g,Ab hu I2 g ry fun w' s3 I3 rw'=>⟨v,H2,I3,rw',q2⟩⟩
theorem jr (hu:X.A.units+1<cLine) (ho:PE X o td) (hi:PE X i ty) (hv:PE X value tv) (hs:swapsWith value (some (.Subscript o i pos')) pos.line X.env=pure false) :
  PS X (.Assign [.Subscript o i pos'] value pos) (BK td ty tv):=by
 intro pins s σ H D I h
 refine wpAny_Assign_Subscript (cA (hv pins s σ H _ I h) fun r s1 ⟨v,H1,I1,rv,q1⟩=>cA (ho pins s1 σ H1 _ I1 q1) fun u s2 ⟨x,H2,I2,rx,q2⟩=>cA (hi pins s2 σ H2 _ I2 q2) fun iv s3 ⟨y,H3,I3,ry,a,H4,ex,g,q3⟩ => ?_) hs
 subst ex
 obtain rfl:u=Value.ref a:=rx
 exact Aa hu I3 g ry rv fun s4 I4=>⟨σ,H4,I4,q3⟩
end
theorem tZ {P:Program}{w:World}{H:Hp} (h:Heap) (hb:sysModules<h.objs.size):aW P w H (h.push { cls:=.type "dict",data:=.dict #[] }) h.objs.size (.dK []) :=
 ⟨zcI _,beq_eq_false_iff_ne.mpr (Ne.symm (zcu hb)),[],.nil,Heap.DictOf.new h⟩
noncomputable def A8:TE:=fun _ H Q=>∀ p,H p=none→Q (.ref p) (upd H p (.dK []))
section
variable {X:Cx}{pos:Pos}
theorem jv:PE X (.Dict [] [] pos) A8:=fun pins s σ H Q I h =>
 wpAny_Dict_empty ⟨.ref s.heap.objs.size,_,I.laid (a:=s.heap.objs.size) (o:=.dK []) (t':=s.toks) (fun _ _ q=>zas _ q) (zcH _) (tZ s.heap I.big),rfl,h _ (I.hok.fresh (zcH _))⟩
end
noncomputable def uX:List (TE×TE)→St→Hp→(List (V×V)→Hp→Prop)→Prop
 | [],_,H,Q=>Q [] H
 | (tk,tv)::r,σ,H,Q=>tk σ H fun x H1=>tv σ H1 fun y H2=>uX r σ H2 fun ps H3=>Q ((x,y)::ps) H3
noncomputable abbrev VV:List (V×V)→List (Value×Value)→Prop:=Paired fun p q=>RelV p.1 q.1∧RelV p.2 q.2
noncomputable def Na (X:Cx) (pos:Pos) (keys:List (Option Expr)) (values:List Expr) (qb:List (TE×TE)):Prop :=
 ∀ (pins:List (Addr×Obj)) (s:Shared) (σ:St) (H:Hp) (Q:List (V×V)→Hp→Prop),Inv X pins σ H s→uX qb σ H Q →
  wpAny (model X.prog X.w) X.A (evalPairs (pairTrees keys values X.env pos)) (fun vs s'=>∃ ps H',Inv X pins σ H' s'∧VV ps vs∧Q ps H') X.xe s
theorem qG {X:Cx}{pos:Pos}:Na X pos [] [] []:=fun pins s σ H Q I h=>pairTrees_nil_walk ⟨[],H,I,.nil,h⟩
theorem gp {X:Cx}{pos:Pos}{k v:Expr}{ks:List (Option Expr)}{vs:List Expr}{tk tv:TE}{qb:List (TE×TE)} (hk:PE X k tk) (hv:PE X v tv) (hr:Na X pos ks vs qb) :
  Na X pos (some k::ks) (v::vs) ((tk,tv)::qb):=fun pins s σ H Q I h =>
 pairTrees_cons_walk (cA (hk pins s σ H _ I h) fun u s1 ⟨x,H1,I1,rx,q1⟩=>cA (hv pins s1 σ H1 _ I1 q1) fun w2 s2 ⟨y,H2,I2,ry,q2⟩ =>
  cA (hr pins s2 σ H2 _ I2 q2) fun ws s3 ⟨ps,H3,I3,rel,q3⟩=>⟨(x,y)::ps,H3,I3,.cons ⟨rx,ry⟩ rel,q3⟩)
noncomputable def ni (kvs more:List (Key×V)):List (Key×V):=more.foldl (fun acc kv=>putK acc kv.1 kv.2) kvs
theorem KV.merge:∀ {more:List (Key×V)}{rs:List (Key×Value)}{kvs:List (Key×V)}{vs:List (Key×Value)},KV more rs→KV kvs vs→KV (ni kvs more) (merged vs rs):=by
 intro more rs kvs vs r
 unfold KV at r
 induction r generalizing kvs vs with
 | nil=>intro q;exact q
 | @cons p q ps qs h t ih =>
  intro r0
  have e:KV (putK kvs p.1 p.2) (stored vs q.1 q.2):=by
   have:=r0.put p.1 h.2
   rw [← h.1];exact this
  exact ih e
theorem iF:∀ (more kvs:List (Key×V)),(ni kvs more).length≤kvs.length+more.length
 | [],kvs=>by show kvs.length≤kvs.length+0;omega
 | p::r,kvs=>by
  have h1:=iF r (putK kvs p.1 p.2)
  have h2:=eN kvs p.1 p.2
  show (ni (putK kvs p.1 p.2) r).length≤_
  rw [zbx];omega
theorem nT {P:Program}{w:World}:∀ {kvs:List (Key×V)}{ws:List (Value×Value)},VV (kvs.map fun kv=>(kV kv.1,kv.2)) ws→∃ rs,Carries (bA P w) ws rs∧KV kvs rs
 | [],_,r=>by rw [zcp] at r;cases r;exact ⟨[],True.intro,.nil⟩
 | p::kvs,_,r=>by
  rw [zcj] at r
  cases r with
  | @cons a b as bs h t =>
   obtain ⟨rs,c,q⟩:=nT (P:=P) (w:=w) t
   obtain ⟨b1,b2⟩:=b
   exact ⟨(p.1,b2)::rs,⟨nD h.1,rfl,c⟩,.cons ⟨rfl,h.2⟩ q⟩
noncomputable def G3 (qb:List (TE×TE)):TE:=fun σ H Q=>∀ p,H p=none→uX qb σ (upd H p (.dK [])) fun ps H2=>H2 p=some (.dK [])∧∃ kvs:List (Key×V),ps=kvs.map (fun kv=>(kV kv.1,kv.2))∧kvs.length≤15∧Q (.ref p) (upd H2 p (.dK (ni [] kvs)))
theorem qJ {X:Cx}{pos:Pos}{keys:List (Option Expr)}{values:List Expr}{qb:List (TE×TE)} (h:Na X pos keys values qb) (hall:keys.all (·.isSome)=true) (hl:keys.length=values.length) (h0:keys≠[])
  (h15:keys.length≤15):PE X (.Dict keys values pos) (G3 qb):=by
 intro pins s σ H Q I q
 have hn:=I.hok.fresh (zcH s.heap.objs.size)
 have I1:=I.laid (a:=s.heap.objs.size) (o:=.dK []) (h':=s.heap.push { cls:=.type "dict",data:=.dict #[] }) (t':=s.toks) (fun _ _ q=>zas _ q) (zcH _) (tZ s.heap I.big)
 refine wpAny_Dict_walk (knd:=bA X.prog X.w) hall hl h0 h15 (cA (h pins _ σ _ _ I1 (q _ hn)) fun ws s2 ⟨ps,H2,I2,rel,e,kvs,ep,lk,q2⟩ => ?_)
 subst ep
 obtain ⟨rs,c,rk⟩:=nT (P:=X.prog) (w:=X.w) rel
 obtain ⟨z,hd,vs0,r0,dd⟩:=Dd I2.hok e
 cases r0
 refine ⟨rs,c,dd,fun h' dd' hs=>⟨.ref s.heap.objs.size,_,?_,rfl,q2⟩⟩
 have hz:(ni [] kvs).length≤sizeLine:=by
  have h1:=iF kvs []
  rw [zbT] at h1
  rw [sizeLine_eq];omega
 have he:∃ q,h'.get? s.heap.objs.size=some q:=let ⟨q,_,_,hq,_⟩:=dd';⟨q,hq⟩
 exact lR I2 (by rw [e];exact True.intro) hs he (De hz hd (rk.merge .nil) dd')
structure M1 (X:Cx) (o:Expr) (m:Str) (apos:Pos) (e:Expr) (cpos:Pos):Prop where
 base:attributeBase o m X.env (eval o X.env)=eval o X.env
 few:((backTo cpos (starEach [e] X.env)).all (fun x => !x.1)&&(backToKw cpos (keywordEach [] X.env)).all (fun x=>x.1.isSome)
  && decide (([e]:List Expr).length+([]:List Keyword).length+(if ([]:List Keyword).isEmpty then 0 else 1)<30))=true
 line:(apos.endLine==cpos.line)=true
 trees:backTo cpos (starEach [e] X.env)=[(false,eval e X.env)]
structure M2 (X:Cx) (o:Expr) (m:Str) (apos:Pos) (e f:Expr) (cpos:Pos):Prop where
 base:attributeBase o m X.env (eval o X.env)=eval o X.env
 few:((backTo cpos (starEach [e,f] X.env)).all (fun x => !x.1)&&(backToKw cpos (keywordEach [] X.env)).all (fun x=>x.1.isSome)
  && decide (([e,f]:List Expr).length+([]:List Keyword).length+(if ([]:List Keyword).isEmpty then 0 else 1)<30))=true
 line:(apos.endLine==cpos.line)=true
 trees:backTo cpos (starEach [e,f] X.env)=[(false,eval e X.env),(false,eval f X.env)]
end L2
namespace HT
open PySem PyProof.Rows
section
variable {prog:Program}{w:World}{A:Around}{E:Value→Shared→Prop}{s:Shared}
theorem Gp {t b:Addr}{vs ws:List Value}{Q:Value→Shared→Prop} (ht:IsTup s.heap t vs.toArray) (hb:IsTup s.heap b ws.toArray) (hv:vs≠[])
  (h1:ws=[]→Q (.ref t) s) (h2:ws≠[]→Q (.ref s.heap.objs.size) { s with heap:=s.heap.push { cls:=.type "tuple",data:=.seq (vs++ws).toArray } })
  (hsz:vs.length+ws.length≤sizeLine):wpAny (model prog w) A (binaryOp .Add (.ref t) (.ref b)) Q E s:=by
 obtain ⟨⟨cls,dd,data,sl⟩,ho,hc,n,hd⟩:=id ht
 obtain ⟨⟨cls2,dd2,data2,sl2⟩,ho2,hc2,n2,hd2⟩:=id hb
 simp only at hc hd hc2 hd2
 subst hc hd hc2 hd2
 have e:vs.toArray++ws.toArray=(vs++ws).toArray:=by simp
 by_cases hw:ws=[]
 ·exact concat_meets ⟨_,ho,rfl⟩ ⟨_,ho2,rfl⟩ noFill_tuple_add seq_tuple_add PySem.F.slot_tuple_add PySem.F.entry_tuple_add (PySem.F.args_tuple_add_2 _ _)
   (tuple_addW1 t b vs.toArray ws.toArray n n2 dd dd2 sl sl2 (by simpa using hv) (by simp [hw])) ⟨ho,ho2,h1 hw⟩
 ·refine concat_meets ⟨_,ho,rfl⟩ ⟨_,ho2,rfl⟩ noFill_tuple_add seq_tuple_add PySem.F.slot_tuple_add PySem.F.entry_tuple_add (PySem.F.args_tuple_add_2 _ _)
   (tuple_addW2 t b vs.toArray ws.toArray n n2 dd dd2 sl sl2 (by simpa using hv) (by simpa using hw) (by rw [zbf,zbf];exact hsz)) ⟨ho,ho2,?_⟩
  rw [e]
  exact h2 hw
noncomputable def bV (n d:Nat):Option Int→Nat
 | none=>d
 | some v=>if v<0 then (v+(n:Int)).toNat else min v.toNat n
theorem jh (n d k:Nat):bV n d (some (k:Int))=min k n:=by
 show (if (k:Int)<0 then ((k:Int)+(n:Int)).toNat else min (k:Int).toNat n)=min k n
 rw [if_neg (by omega),Int.toNat_natCast]
theorem I0 (n d:Nat) (hd:d≤n) (o:Option Int):bV n d o≤n:=by
 cases o with
 | none=>exact hd
 | some v =>
  show (if v<0 then (v+(n:Int)).toNat else min v.toNat n)≤n
  by_cases hv:v<0
  ·rw [if_pos hv];omega
  ·rw [if_neg hv];exact Nat.min_le_right _ _
theorem yM (v:Int) (n d:Nat):(if v<0 then max (v+(n:Int)) 0 else min v (n:Int))=((bV n d (some v):Nat):Int):=by
 show (if v<0 then max (v+(n:Int)) 0 else min v (n:Int))=(((if v<0 then (v+(n:Int)).toNat else min v.toNat n):Nat):Int)
 by_cases hv:v<0
 ·simp only [if_pos hv];omega
 ·simp only [if_neg hv];omega
theorem wm (lo hi:Option Int) (n:Nat):Builtin.Slice.sliceAdjust lo hi 1 (n:Int)=(((bV n 0 lo:Nat):Int),((bV n n hi:Nat):Int)):=by
 have h1 : ¬ ((1:Int)<0):=by omega
 unfold Builtin.Slice.sliceAdjust
 simp only [h1,if_false]
 refine Prod.ext ?_ ?_
 ·cases lo with
  | none=>rfl
  | some v=>exact yM v n 0
 ·cases hi with
  | none=>rfl
  | some v=>exact yM v n n
theorem vp (i j:Nat):Builtin.Slice.slicePlaces (i:Int) (j:Int) 1=j - i:=by
 unfold Builtin.Slice.slicePlaces
 have h1:(1:Int) > 0:=by omega
 simp only [h1,if_true,Int.ediv_one]
 split <;> omega
theorem mz {v:Value}{o:Option Int}{Q:Option Int→Shared→Prop} (p:IsPart v o) (h:Q o s):wpAny (model prog w) A (Builtin.Slice.slicePartIndex v) Q E s:=by
 cases p with
 | none=>exact slicePart_none h
 | int i t=>exact slicePart_int h
theorem fq {sl:Addr}{vl vu:Value}{lo hi:Option Int}{n:Nat}{Q:Int×Int×Nat→Shared→Prop} (hs:s.heap.IsSliceOf sl vl vu .none) (pl:IsPart vl lo) (pu:IsPart vu hi)
  (h:Q (((bV n 0 lo:Nat):Int),1,bV n n hi - bV n 0 lo) s):wpAny (model prog w) A (Builtin.Slice.sliceApplied (.ref sl) (pure (n:Int))) Q E s:=by
 obtain ⟨os,hos,hcs,hds⟩:=id hs
 unfold Builtin.Slice.sliceApplied Builtin.Slice.sliceFields
 refine wpAny_bind (wpAny_bind (wpAny_field hos hds (x:=vl) rfl (wpAny_bind (wpAny_field hos hds (x:=vu) rfl (wpAny_bind (wpAny_field hos hds (x:=.none) rfl (wpAny_pure ?_)))))))
 refine wpAny_bind (slicePart_none ?_)
 show wpAny _ _ (if ((1:Int)==0)=true then _ else _) _ _ s
 rw [if_neg (by decide)]
 refine wpAny_bind (mz pl (wpAny_bind (mz pu (wpAny_bind (wpAny_pure ?_)))))
 show wpAny _ _ (match Builtin.Slice.sliceAdjust lo hi 1 (n:Int) with | (lo,hi)=>pure (lo,(1:Int),Builtin.Slice.slicePlaces lo hi 1)) _ _ s
 rw [wm lo hi n]
 show wpAny _ _ (pure (((bV n 0 lo:Nat):Int),(1:Int),Builtin.Slice.slicePlaces ((bV n 0 lo:Nat):Int) ((bV n n hi:Nat):Int) 1)) _ _ s
 rw [vp]
 exact wpAny_pure h
theorem B7 (xs:Array Value) (i k:Nat):((zcM k).filterMap fun (m:Nat)=>xs[((i:Int)+(m:Int)*1).toNat]?).toArray=((xs.toList.drop i).take k).toArray:=by
 have e:(fun (m:Nat)=>xs[((i:Int)+(m:Int)*1).toNat]?)=fun m=>xs[i+m]? := by
  funext m
  have:((i:Int)+(m:Int)*1).toNat=i+m:=by omega
  rw [this]
 rw [e]
 have:=pick_run xs i k
 rw [List.filterMap_map] at this
 have e2:((fun x=>xs[x]?) ∘ fun x=>i+x)=fun m=>xs[i+m]? := rfl
 rw [e2] at this
 rw [this]
theorem jE {t sl:Addr}{items:Array Value}{vl vu:Value}{lo hi:Option Int}{Q:Value→Shared→Prop} (ht:IsTup s.heap t items) (hs:s.heap.IsSliceOf sl vl vu .none) (pl:IsPart vl lo) (pu:IsPart vu hi)
  (hw : ¬ (bV items.size 0 lo=0∧bV items.size items.size hi=items.size))
  (h:Q (.ref s.heap.objs.size) { s with heap:=s.heap.push { cls:=.type "tuple",data:=.seq ((items.toList.drop (bV items.size 0 lo)).take (bV items.size items.size hi - bV items.size 0 lo)).toArray } })
  (hsz:items.size≤sizeLine):wpAny (model prog w) A (getItem (.ref t) (.ref sl)) Q E s:=by
 have yq:sizeOk (.seq ((items.toList.drop (bV items.size 0 lo)).take (bV items.size items.size hi - bV items.size 0 lo)).toArray):=by
  show ((items.toList.drop (bV items.size 0 lo)).take (bV items.size items.size hi - bV items.size 0 lo)).toArray.size≤sizeLine
  rw [zbf,zby,zbz,zaP]
  omega
 have hj:bV items.size items.size hi≤items.size:=I0 _ _ (zcH _) hi
 obtain ⟨os,hos,hcs,hds⟩:=id hs
 have hTs:s.TypeIs (.ref sl) "slice" := ⟨os,hos,hcs⟩
 unfold getItem
 try with_reducible refine wpAny_holding ?_
 first | refine wpAny_bind (wpAny_pure ?_) | skip
 refine wpAny_bind (wpAny_sequenceKey ht.typeIs (by decide) ?_)
 refine wpAny_bind (wpAny_callSpecial?_slot (name:=Str.ofString "__getitem__") ht.typeIs PyProof.Rows.slot_tuple_getitem
  (wpAny_call_entry PyProof.Rows.slot_tuple_getitem ht.typeIs entry_tuple_getitem ?_ (args_tuple_getitem _ _)))
 show wpAny _ _ (Builtin.Tuple.tupleItemsOf (.ref t) >>= _) _ _ s
 refine wpAny_bind (tupleItemsOf_ ht ?_)
 refine wpAny_bind (wpAny_typeOf hTs ?_)
 rw [if_pos (by decide)]
 refine wpAny_bind (fq hs pl pu ?_)
 have hno : ¬ ((((bV items.size 0 lo:Nat):Int)==0&&(1:Int)==1&&(bV items.size items.size hi - bV items.size 0 lo)==items.size)=true):=by
  intro q
  rw [zbJ,zbJ] at q
  have q1:((bV items.size 0 lo:Nat):Int)=0:=eq_of_beq q.1.1
  have q2:bV items.size items.size hi - bV items.size 0 lo=items.size:=eq_of_beq q.2
  exact hw ⟨by omega,by omega⟩
 show wpAny _ _ (if (((bV items.size 0 lo:Nat):Int)==0&&(1:Int)==1&&(bV items.size items.size hi - bV items.size 0 lo)==items.size)=true then _ else _) _ _ s
 rw [if_neg hno,B7]
 first
  | exact wpAny_bind (m:=Builtin.Tuple.tupleExact _) (wpAny_newObj_type (wpAny_pure ⟨_,rfl,wpAny_pure h⟩) yq)
  | exact wpAny_bind (m:=Builtin.Tuple.tupleExact _) (wpAny_newObj_type (wpAny_bind (wpAny_pure (wpAny_pure ⟨_,rfl,wpAny_pure h⟩))) yq)
  | exact wpAny_bind (wpAny_bind (m:=Builtin.Tuple.tupleExact _) (wpAny_newObj_type (wpAny_pure (wpAny_pure ⟨_,rfl,wpAny_pure h⟩)) yq))
  | exact wpAny_bind (wpAny_bind (m:=Builtin.Tuple.tupleExact _) (wpAny_newObj_type (wpAny_pure ⟨_,rfl,wpAny_pure h⟩) yq))
end
end HT
namespace L2
open PySem PySem.Spec PyProof.Rows
noncomputable abbrev TO:=St→Hp→(Option Int→Hp→Prop)→Prop
noncomputable def PO (X:Cx) (e:Option Expr) (t:TO):Prop :=
 ∀ (pins:List (Addr×Obj)) (s:Shared) (σ:St) (H:Hp) (Q:Option Int→Hp→Prop),Inv X pins σ H s→t σ H Q →
  wpAny (model X.prog X.w) X.A (evalPart e X.env) (fun u s'=>∃ o H',Inv X pins σ H' s'∧IsPart u o∧Q o H') X.xe s
noncomputable def gY:TO:=fun _ H Q=>Q none H
noncomputable def oO (t:TE):TO:=fun σ H Q=>t σ H fun x H1=>∃ i,x = .int i∧Q (some i) H1
theorem intsAre_of {ns:List Int}:∀ {us:List Value},Vals (ns.map V.int) us→IntsAre us ns:=by
 induction ns with
 | nil=>intro us r;rw [zcp] at r;cases r;exact .nil
 | cons n ns ih =>
  intro us r
  rw [zcj] at r
  cases r with
  | cons r1 r2 =>
   obtain ⟨t,e⟩:=r1
   subst e
   exact .cons n t (ih r2)
section
variable {X:Cx}{e:Expr}{te:TE}{lo hi:Option Expr}{tl th:TO}{pos p2:Pos}
theorem cy:PO X none gY:=by
 intro pins s σ H Q I h
 rw [evalPart_none]
 exact wpAny_pure ⟨none,H,I,.none,h⟩
theorem bW (h:PE X e te):PO X (some e) (oO te):=by
 intro pins s σ H Q I hw
 rw [evalPart_some]
 refine cA (h pins s σ H _ I hw) fun u s1 ⟨x,H1,I1,r1,q1⟩ => ?_
 obtain ⟨i,rfl,q⟩:=q1
 obtain ⟨t,rfl⟩:=r1
 exact ⟨some i,H1,I1,.int i t,q⟩
noncomputable def AL (X:Cx) (r:V→Option Int→Option Int→Hp→VK→Prop):Prop :=
 ∀ (pins:List (Addr×Obj)) (s:Shared) (σ:St) (H:Hp) (x:V) (v vl vu:Value) (lo hi:Option Int) (sl:Addr) (Q:VK),Inv X pins σ H s→RelV x v→s.heap.IsSliceOf sl vl vu .none→IsPart vl lo→IsPart vu hi→r x lo hi H Q →
  ∃ T id,typeLookup (.type T) "__getitem__" = pure (some (.builtin id))∧s.TypeIs v T∧wpAny (model X.prog X.w) X.A (getItem v (.ref sl)) (EP X pins σ Q) X.xe s
theorem AL.or {r r':V→Option Int→Option Int→Hp→VK→Prop} (h:AL X r) (h':AL X r'):AL X (fun x lo hi H Q=>r x lo hi H Q∨r' x lo hi H Q):=by
 intro pins s σ H x v vl vu lo hi sl Q I rx hs pl pu q
 rcases q with q | q
 ·exact h pins s σ H x v vl vu lo hi sl Q I rx hs pl pu q
 ·exact h' pins s σ H x v vl vu lo hi sl Q I rx hs pl pu q
noncomputable def K4 (r:V→Option Int→Option Int→Hp→VK→Prop) (te:TE) (tl th:TO):TE:=fun σ H Q=>te σ H fun x H1=>tl σ H1 fun l H2=>th σ H2 fun u H3=>r x l u H3 Q
theorem bI {r:V→Option Int→Option Int→Hp→VK→Prop} (hr:AL X r) (he:PE X e te) (hl:PO X lo tl) (hu:PO X hi th):PE X (.Subscript e (.Slice lo hi none p2) pos) (K4 r te tl th):=by
 intro pins s σ H Q I h
 refine Subscript_ (cA (he pins s σ H _ I h) fun v s1 ⟨x,H1,I1,r1,q1⟩ => ?_)
 refine wpAny_Slice (cA (hl pins s1 σ H1 _ I1 q1) fun vl s2 ⟨l,H2,I2,pl,q2⟩=>cA (hu pins s2 σ H2 _ I2 q2) fun vu s3 ⟨u,H3,I3,pu,q3⟩ => ?_)
 rw [evalPart_none]
 refine wpAny_pure ?_
 have I4:Inv X pins σ H3 { s3 with heap:=s3.heap.push { cls:=.type "slice",data:=.fields #[vl,vu,.none] } }:=I3.kept (t':=s3.toks) fun b ob q=>zas _ q
 obtain ⟨T,id,hT,ht,hg⟩:=hr pins { s3 with heap:=s3.heap.push { cls:=.type "slice",data:=.fields #[vl,vu,.none] } } σ H3 x v vl vu l u s3.heap.objs.size Q I4 r1 (Heap.IsSliceOf.new ..) pl pu q3
 show wpAny (model X.prog X.w) X.A (subscriptTail e (.Slice lo hi none p2) v (.ref s3.heap.objs.size)) (EP X pins σ Q) X.xe { s3 with heap:=s3.heap.push { cls:=.type "slice",data:=.fields #[vl,vu,.none] } }
 exact tail_any (ops:=[.ref s3.heap.objs.size,v]) ht hT hg (by with_unfolding_all rfl)
noncomputable def kZ (xs:List V) (lo hi:Option Int):List V:=(xs.drop (HT.bV xs.length 0 lo)).take (HT.bV xs.length xs.length hi - HT.bV xs.length 0 lo)
theorem kO (xs:List V) (lo hi:Option Int):(kZ xs lo hi).length≤xs.length:=by
 unfold kZ
 rw [zby,zbz]
 omega
noncomputable def Oe (K:PySem.W.Frag):V→Option Int→Option Int→Hp→VK→Prop:=fun x lo hi H Q=>∃ a xs,x = .ref a∧eg K H a xs ∧
 ¬ (HT.bV xs.length 0 lo=0∧HT.bV xs.length xs.length hi=xs.length)∧∀ p,H p=none→Q (.ref p) (upd H p (.tup (kZ xs lo hi)))
theorem Iu:AL X (Oe X.K):=by
 intro pins s σ H x v vl vu lo hi sl Q I rx hs pl pu h
 obtain ⟨a,xs,rfl,hx,hw,q⟩:=h
 cases rx
 obtain ⟨its,r,ht,hz⟩:=I.tuple hx
 have hlen:its.toArray.size=xs.length:=by rw [zbf];exact r.length.symm
 refine ⟨"tuple",_,PyProof.Rows.slot_tuple_getitem.lookup,ht.typeIs,?_⟩
 refine HT.jE ht hs pl pu (by rw [hlen];exact hw) ?_ (by rw [hlen];exact hz)
 rw [hlen]
 refine ⟨.ref s.heap.objs.size,_,I.laid (t':=s.toks) (o:=.tup (kZ xs lo hi)) (fun b ob q=>zas _ q) (zcH _) ?_,rfl,q _ (I.hok.fresh (zcH _))⟩
 exact ⟨zcv (kO xs lo hi) hz,_,(r.drop (HT.bV xs.length 0 lo)).take (HT.bV xs.length xs.length hi - HT.bV xs.length 0 lo),IsTup.new _ _⟩
noncomputable def LK (K:PySem.W.Frag):R2:=fun x y H Q=>∃ a b xs ys,x = .ref a∧y = .ref b∧eg K H a xs∧eg K H b ys∧xs≠[]∧xs.length+ys.length≤sizeLine ∧
 (ys=[]→Q (.ref a) H)∧(ys≠[]→∀ p,H p=none→Q (.ref p) (upd H p (.tup (xs++ys))))
theorem Vals.qQ {xs:List V}{us:List Value} (r:Vals xs us):us=[]↔xs=[]:=by
 cases r with
 | nil=>simp
 | cons _ _=>simp
theorem Fy:fj X (binaryOp .Add) (LK X.K):=by
 intro pins s σ H x y v u Q I rx ry h
 obtain ⟨a,b,xs,ys,rfl,rfl,ha,hb,hx,hz,q1,q2⟩:=h
 cases rx
 cases ry
 obtain ⟨its,r1,p1,_⟩:=I.tuple ha
 obtain ⟨its2,r2,p2,_⟩:=I.tuple hb
 refine HT.Gp p1 p2 (fun z=>hx (r1.qQ.mp z)) (fun z=>⟨.ref a,H,I,rfl,q1 (r2.qQ.mp z)⟩) (fun z => ?_) (by rw [← r1.length,← r2.length];exact hz)
 refine ⟨.ref s.heap.objs.size,_,I.laid (t':=s.toks) (o:=.tup (xs++ys)) (fun b ob q=>zas _ q) (zcH _) ?_,rfl,q2 (fun w=>z (r2.qQ.mpr w)) _ (I.hok.fresh (zcH _))⟩
 exact ⟨by rw [zaU];exact hz,_,r1.append r2,IsTup.new _ _⟩
end
noncomputable def HE (n:Nat) (i:Int):Option Nat:=if 0≤i then (if i<n then some i.toNat else none) else if -(n:Int)≤i then some (i+n).toNat else none
noncomputable def nU {α:Type} (xs:List α) (i:Int):Option α:=(HE xs.length i).bind fun j=>xs[j]?
theorem FY {n:Nat}{i:Int}{j:Nat} (h:HE n i=some j):seqIndex? i n=some j∧j<n ∧ -(n:Int)≤i∧i<n:=by
 unfold HE at h
 by_cases h0:0≤i
 ·rw [if_pos h0] at h
  by_cases h1:i<n
  ·rw [if_pos h1] at h
   have e:i.toNat=j:=zcL.inj h
   exact ⟨by rw [seqIndex_of h0 h1,e],by omega,by omega,h1⟩
  ·rw [if_neg h1] at h;cases h
 ·rw [if_neg h0] at h
  by_cases h1 : -(n:Int)≤i
  ·rw [if_pos h1] at h
   have e:(i+n).toNat=j:=zcL.inj h
   exact ⟨by rw [seqIndex_neg (by omega) h1,e],by omega,h1,by omega⟩
  ·rw [if_neg h1] at h;cases h
theorem rB {α:Type}{xs:List α}{i:Int}{v:α} (h:nU xs i=some v):∃ j,seqIndex? i xs.length=some j∧xs[j]? = some v∧j<xs.length ∧ -(xs.length:Int)≤i∧i<xs.length:=by
 unfold nU at h
 cases e:HE xs.length i with
 | none=>rw [e] at h;cases h
 | some j =>
  rw [e] at h
  obtain ⟨h1,h2,h3,h4⟩:=FY e
  exact ⟨j,h1,h,h2,h3,h4⟩
theorem cY {α:Type}{xs:List α}{j:Nat}{v:α} (h:xs[j]? = some v):nU xs (j:Int)=some v:=by
 have hj:j<xs.length:=(zaf.mp h).1
 have e:HE xs.length (j:Int)=some j:=by
  unfold HE
  rw [if_pos (by omega),if_pos (by omega)];simp
 unfold nU;rw [e];exact h
noncomputable def rG (b:Expr):Prop:=∀ o i,subscripted b false o i=operate [o,i] (getItem o i)
noncomputable def AR (X:Cx) (r:R2):Prop :=
 ∀ (value slice:Expr) (pins:List (Addr×Obj)) (s:Shared) (σ:St) (H:Hp) (x y:V) (v u:Value) (Q:VK),Inv X pins σ H s→RelV x v→RelV y u→r x y H Q →
  subscripted slice false v u=operate [v,u] (getItem v u)→wpAny (model X.prog X.w) X.A (subscriptTail value slice v u) (EP X pins σ Q) X.xe s
noncomputable def wD (X:Cx) (id:String) (r:V→List V→Hp→VK→Prop):Prop :=
 ∀ (pins:List (Addr×Obj)) (s:Shared) (σ:St) (H:Hp) (x:V) (xs:List V) (v:Value) (us:List Value) (Q:VK),Inv X pins σ H s→RelV x v→Vals xs us→r x xs H Q →
  wpAny (model X.prog X.w) X.A (call (.builtin id) (v::us)) (EP X pins σ Q) X.xe s
section
variable {X:Cx}{a b:Expr}{ta tb:TE}{pos:Pos}
theorem AR.or {r r':R2} (h:AR X r) (h':AR X r'):AR X (fun x y H Q=>r x y H Q∨r' x y H Q):=by
 intro value slice pins s σ H x y v u Q I rx ry q hs
 rcases q with q | q
 ·exact h value slice pins s σ H x y v u Q I rx ry q hs
 ·exact h' value slice pins s σ H x y v u Q I rx ry q hs
theorem wD.or {id:String}{r r':V→List V→Hp→VK→Prop} (h:wD X id r) (h':wD X id r'):wD X id (fun x xs H Q=>r x xs H Q∨r' x xs H Q):=by
 intro pins s σ H x xs v us Q I rx rs q
 rcases q with q | q
 ·exact h pins s σ H x xs v us Q I rx rs q
 ·exact h' pins s σ H x xs v us Q I rx rs q
theorem aH {r:R2} (hr:AR X r) (ha:PE X a ta) (hb:PE X b tb) (hs:rG b):PE X (.Subscript a b pos) (wU r ta tb):=by
 intro pins s σ H Q I h
 exact Subscript_ (Kq ha hb I h fun v u s2 x y H2 I2 rx ry q=>hr a b pins s2 σ H2 x y v u Q I2 rx ry q (hs _ _))
noncomputable def Jg (K:PySem.W.Frag):R2:=fun x y H Q=>∃ p xs i v,x = .ref p∧y = .int i∧b9 K H p xs∧nU xs i=some v∧Q v H
noncomputable def LI (K:PySem.W.Frag):R2:=fun x y H Q=>∃ p xs i v,x = .ref p∧y = .int i∧eg K H p xs∧nU xs i=some v∧Q v H
noncomputable def LJ:R2:=fun x y H Q=>∃ z i c,x = .str z∧y = .int i∧z.length≤sizeLine∧nU z.cps.toList i=some c∧Q (.str ⟨#[c]⟩) H
theorem ym:AR X (Jg X.K):=by
 intro value slice pins s σ H x y v u Q I rx ry h hs
 obtain ⟨p,xs,i,z,rfl,rfl,hq,he,q⟩:=h
 cases rx
 obtain ⟨t,rfl⟩:=ry
 obtain ⟨its,r,pl,hz⟩:=I.list hq
 obtain ⟨j,h1,h2,h3,h4,h5⟩:=rB he
 obtain ⟨w,ew,rw'⟩:=r.get h2
 have hl:=r.length
 have hn:=nv
 have fin:EP X pins σ Q w s:=⟨z,H,I,rw',q⟩
 by_cases h0:0≤i
 ·have hj:i.toNat=j:=by
   rw [seqIndex_of h0 h5] at h1
   exact zcL.inj h1
  exact item_listR pl.isList h0 (by omega) (by rw [hj];simpa using ew) fin hs
 ·have hj:(i+(its.toArray.size:Int)).toNat=j:=by
   rw [seqIndex_neg (by omega) h4] at h1
   rw [zbf,← hl]
   exact zcL.inj h1
  exact subscriptTail_builtinR (x:=w) pl.isList.typeIs slot_list_getitem.lookup
   (wpAny_getItem_list_neg (Q:=fun r s'=>r=w∧EP X pins σ Q r s') pl.isList (by omega) (by rw [zbf] <;> omega) (by omega) (by rw [hj];simpa using ew) ⟨rfl,fin⟩) hs
theorem CO:AR X (LI X.K):=by
 intro value slice pins s σ H x y v u Q I rx ry h hs
 obtain ⟨p,xs,i,z,rfl,rfl,hq,he,q⟩:=h
 cases rx
 obtain ⟨t,rfl⟩:=ry
 obtain ⟨its,r,pl,hz⟩:=I.tuple hq
 obtain ⟨j,h1,h2,h3,h4,h5⟩:=rB he
 obtain ⟨w,ew,rw'⟩:=r.get h2
 have hl:=r.length
 have hn:=nv
 have fin:EP X pins σ Q w s:=⟨z,H,I,rw',q⟩
 exact subscriptTail_builtinR (x:=w) pl.typeIs slot_tuple_getitem.lookup
  (getItem_tuple (j:=j) (Q:=fun r s'=>r=w∧EP X pins σ Q r s') pl (by omega) (by omega) (by rw [zbf,← hl];exact h1) (by simpa using ew) ⟨rfl,fin⟩) hs
theorem vO:AR X LJ:=by
 intro value slice pins s σ H x y v u Q I rx ry h hs
 obtain ⟨z,i,c,rfl,rfl,hz,he,q⟩:=h
 obtain ⟨t,rfl⟩:=rx
 obtain ⟨t',rfl⟩:=ry
 obtain ⟨j,h1,h2,h3,h4,h5⟩:=rB he
 have hl:z.cps.toList.length=z.length:=by simp [Str.length]
 rw [hl] at h1 h4 h5
 have hn:=nv
 exact tail_any (typeIs_str s z t) slot_str_getitem.lookup (getItem_str (c:=c) (by
  have e1:decide (i < -(2 ^ 63:Int))=false:=decide_eq_false (by omega)
  have e2:decide (i≥2 ^ 63)=false:=decide_eq_false (by omega)
  rw [e1,e2,Bool.or_false]) (by rw [h1];simpa using h2) ⟨.str ⟨#[c]⟩,H,I.tok _,⟨_,rfl⟩,q⟩) hs
noncomputable def rIx (K:PySem.W.Frag):R2:=fun x y H Q=>Jg K x y H Q∨LI K x y H Q∨LJ x y H Q
theorem JP:AR X (rIx X.K):=ym.or (CO.or vO)
theorem qk (lo hi:Option Int) (n:Nat):(sliceBounds lo hi none n).1=((HT.bV n 0 lo:Nat):Int)∧(sliceBounds lo hi none n).2.1=((HT.bV n n hi:Nat):Int)∧(sliceBounds lo hi none n).2.2=1:=by
 refine ⟨?_,?_,rfl⟩
 ·cases lo with
  | none=>simp [sliceBounds,HT.bV]
  | some i =>
   simp only [sliceBounds,HT.bV,Option.getD_none,show (1:Int) > 0 by decide,if_true]
   by_cases h:i<0
   ·simp only [h,if_true] <;> omega
   ·simp only [h,if_false] <;> omega
 ·cases hi with
  | none=>simp [sliceBounds,HT.bV]
  | some i =>
   simp only [sliceBounds,HT.bV,Option.getD_none,show (1:Int) > 0 by decide,if_true]
   by_cases h:i<0
   ·simp only [h,if_true] <;> omega
   ·simp only [h,if_false] <;> omega
theorem oj (its:List Value) (lo hi:Option Int):slicePick its.toArray lo hi none=((its.drop (HT.bV its.length 0 lo)).take (HT.bV its.length its.length hi - HT.bV its.length 0 lo)).toArray:=by
 obtain ⟨h1,h2,h3⟩:=qk lo hi its.toArray.size
 unfold slicePick
 rw [h1,h2,h3]
 simp only [sliceRange_one,pick_run,zbf] <;> rfl
noncomputable def BV (K:PySem.W.Frag):V→Option Int→Option Int→Hp→VK→Prop:=fun x lo hi H Q=>∃ a xs,x = .ref a∧b9 K H a xs∧∀ p,H p=none→Q (.ref p) (upd H p (.lst (kZ xs lo hi)))
theorem xA:AL X (BV X.K):=by
 intro pins s σ H x v vl vu lo hi sl Q I rx hs pl pu h
 obtain ⟨a,xs,rfl,hx,q⟩:=h
 cases rx
 obtain ⟨its,r,ht,hz⟩:=I.list hx
 have hlen:=r.length
 refine ⟨"list",_,slot_list_getitem.lookup,ht.isList.typeIs,?_⟩
 refine wpAny_getItem_list_slice ht.isList hs pl pu .none (by simp) ?_ (by rw [zbf] <;> omega)
 rw [oj,← hlen]
 refine ⟨.ref s.heap.objs.size,_,I.laid (t':=s.toks) (o:=.lst (kZ xs lo hi)) (fun b ob q=>zas _ q) (zcH _) ?_,rfl,q _ (I.hok.fresh (zcH _))⟩
 exact ⟨zcv (kO xs lo hi) hz,_,0,(r.drop (HT.bV xs.length 0 lo)).take (HT.bV xs.length xs.length hi - HT.bV xs.length 0 lo),zaR _ rfl⟩
theorem rA:bS X (.type "list") (fun xs H Q=>∃ p ys,xs=[.ref p]∧(b9 X.K H p ys∨eg X.K H p ys)∧∀ l,H l=none→Q (.ref l) (upd H l (.lst ys))):=by
 intro pins s σ H xs us Q I r h
 obtain ⟨p,ys,rfl,hq,q⟩:=h
 obtain ⟨u,rfl,rx⟩:=vals1 r
 cases rx
 have fin:∀ (its:List Value),Vals ys its→ys.length≤sizeLine→∀ (h':Heap) (c':Nat),(∀ b o',s.heap.get? b=some o'→h'.get? b=some o') →
   h'.get? s.heap.objs.size=some { cls:=.type "list",dict:=none,data:=.seq its.toArray c',slots := #[] }→EP X pins σ Q (.ref s.heap.objs.size) { s with heap:=h' }:=fun its r' hz h' c' kp e =>
  ⟨.ref s.heap.objs.size,_,I.laid (t':=s.toks) kp (zcH _) (show aW X.prog X.w _ h' _ (.lst ys) from ⟨hz,its,c',r',e⟩),rfl,q _ (I.hok.fresh (zcH _))⟩
 rcases hq with hq | hq
 ·obtain ⟨its,r',pl,hz⟩:=I.list hq
  have hlen:=r'.length
  obtain ⟨o,ho,hc,n,hd⟩:=pl.isList
  exact call_list_seq p (.inl rfl) ho hc hd (fun h' c' kp e=>fin its r' hz h' c' kp e) (by simp only [zbf] <;> omega)
 ·obtain ⟨its,r',pl,hz⟩:=I.tuple hq
  have hlen:=r'.length
  obtain ⟨o,ho,hc,n,hd⟩:=pl
  exact call_list_seq p (.inr rfl) ho hc hd (fun h' c' kp e=>fin its r' hz h' c' kp e) (by simp only [zbf] <;> omega)
theorem oJ:bS X (.type "tuple") (fun xs H Q=>∃ p ys,xs=[.ref p]∧((b9 X.K H p ys∧∀ l,H l=none→Q (.ref l) (upd H l (.tup ys)))∨(eg X.K H p ys∧Q (.ref p) H))):=by
 intro pins s σ H xs us Q I r h
 obtain ⟨p,ys,rfl,h⟩:=h
 obtain ⟨u,rfl,rx⟩:=vals1 r
 cases rx
 rcases h with ⟨hq,q⟩ | ⟨hq,q⟩
 ·obtain ⟨its,r',pl,hz⟩:=I.list hq
  have hlen:=r'.length
  refine call_tuple_list pl.isList (fun h' kp => ?_) (by simp only [zbf] <;> omega)
  have I1:Inv X pins σ H { s with heap:=h' }:=I.kept (t':=s.toks) kp
  have I2:Inv X pins σ (upd H h'.objs.size (.tup ys)) { s with heap:=h'.push { cls:=.type "tuple",data:=.seq its.toArray } } :=
   I1.laid (t':=s.toks) (fun b o e=>zas _ e) (zcH _) (show aW X.prog X.w _ _ _ (.tup ys) from ⟨hz,its,r',IsTup.new _ _⟩)
  exact ⟨.ref h'.objs.size,_,I2,rfl,q _ (I1.hok.fresh (zcH _))⟩
 ·obtain ⟨its,r',pl,hz⟩:=I.tuple hq
  exact call_tuple_same pl ⟨.ref p,H,I,rfl,q⟩
noncomputable def NL (K:PySem.W.Frag) (T:String) (x:V) (H:Hp):Prop:=match x with
 | .str _=>T = "str"
 | .int _=>T = "int"
 | .ref p=>(T = "list" ∧ ∃ xs,b9 K H p xs)∨(T = "tuple" ∧ ∃ o,K.lookup p=some o∧o.cls = .type "tuple" ∧ o.dict=none) ∨
   (T = "dict" ∧ ((∃ kvs,H p=some (.dK kvs))∨∃ kvs,H p=some (.dT kvs)))∨(T = "set" ∧ ∃ S n,H p=some (.set S n))
 | _=>False
theorem H9 {pins:List (Addr×Obj)}{σ:St}{H:Hp}{s:Shared}{T:String}{x:V}{v:Value} (I:Inv X pins σ H s) (r:RelV x v) (ty:NL X.K T x H) :
  s.TypeIs v T∧∀ a,v = .ref a→∃ ob,s.heap.get? a=some ob∧ob.dict=none:=by
 cases x with
 | str z =>
  obtain ⟨t,rfl⟩:=r
  cases (show T = "str" from ty)
  exact ⟨typeIs_str s z t,fun _ e=>nomatch e⟩
 | int i =>
  obtain ⟨t,rfl⟩:=r
  cases (show T = "int" from ty)
  exact ⟨typeIs_int s i t,fun _ e=>nomatch e⟩
 | ref p =>
  cases r
  rcases ty with ⟨rfl,xs,hq⟩ | ⟨rfl,o,hk,hc,hd⟩ | ⟨rfl,hk⟩ | ⟨rfl,S,n,hk⟩
  ·obtain ⟨its,_,pl,_⟩:=I.list hq
   refine ⟨pl.isList.typeIs,fun a e => ?_⟩
   cases e
   obtain ⟨o,n,e,c,hd,_⟩:=pl
   exact ⟨o,e,hd⟩
  ·refine ⟨⟨o,I.kW p o hk,hc⟩,fun a e => ?_⟩
   cases e
   exact ⟨o,I.kW _ o hk,hd⟩
  ·have z:∃ o,s.heap.get? p=some o∧o.ExactDict:=by
    rcases hk with ⟨kvs,hk⟩ | ⟨kvs,hk⟩
    ·obtain ⟨_,_,_,_,o,_,_,e,ex,_⟩:=I.hok p _ hk
     exact ⟨o,e,ex⟩
    ·obtain ⟨_,_,_,_,o,_,_,e,ex,_⟩:=I.hok p _ hk
     exact ⟨o,e,ex⟩
   obtain ⟨o,e,ex⟩:=z
   refine ⟨⟨o,e,ex.1⟩,fun a e2 => ?_⟩
   cases e2
   exact ⟨o,e,ex.2.1⟩
  ·obtain ⟨o,_,_,_,e,ex,_⟩:=I.hok p _ hk
   refine ⟨⟨o,e,ex.1⟩,fun a e2 => ?_⟩
   cases e2
   exact ⟨o,e,ex.2.1⟩
 | _=>exact False.elim ty
noncomputable def Nn (K:PySem.W.Frag) (T:String) (r:V→List V→Hp→VK→Prop) (to:TE) (t:TA):TE:=fun σ H Q=>to σ H fun x H1=>NL K T x H1∧t σ H1 fun xs H2=>r x xs H2 Q
variable {o e:Expr}{es:List Expr}{to:TE}{t:TA}{name:Str}{apos cpos:Pos}{T id:String}{r:V→List V→Hp→VK→Prop}
theorem c8 (pa:PlainAttrs T) (slot:Slot T name id) (hty:typeOf (.builtin id)=pure (.type "method_descriptor")) (hm:wD X id r) (ho:PE X o to) (ha:PA X (e::es) t)
  (hbase:attributeBase o name X.env (eval o X.env)=eval o X.env:=by rfl)
  (hfew:((backTo cpos (starEach (e::es) X.env)).all (fun x => !x.1)&&(backToKw cpos (keywordEach [] X.env)).all (fun x=>x.1.isSome)
   && decide ((e::es).length+([]:List Keyword).length+(if ([]:List Keyword).isEmpty then 0 else 1)<30))=true:=by rfl)
  (hline:(apos.endLine==cpos.line)=true:=by rfl) (hs:starEach (e::es) X.env=(false,eval e X.env)::starEach es X.env:=by rfl) (hplain:(backTo cpos (starEach es X.env)).any (·.1)=false:=by rfl) :
  PE X (.Call (.Attribute o name apos) (e::es) [] cpos) (Nn X.K T r to t):=by
 intro pins s σ H Q I h
 refine wpAny_Call_method_late hbase hfew hline rfl (cA (ho pins s σ H _ I h) fun v s1 ⟨x,H1,I1,r1,ty,q1⟩ => ?_)
 obtain ⟨h1,h2⟩:=H9 I1 r1 ty
 refine ⟨T,id,pa,slot,hty,h1,h2,?_⟩
 have hA:=ha cpos pins s1 σ H1 _ I1 q1
 rw [hs] at hA ⊢
 refine Calls.callWith_builtin (by show (false||(backTo cpos (starEach es X.env)).any (·.1))=false;rw [hplain] <;> rfl) (Calls.evalArgs_plain ?_)
 exact cA hA fun us s2 ⟨vs,H2,I2,r2,q2⟩=>hm pins s2 σ H2 x vs v us Q I2 r1 r2 q2
end
noncomputable def O4 (X:Cx) (id:String) (r:V→List V→Hp→VK→Prop):Prop :=
 ∀ (pins:List (Addr×Obj)) (s:Shared) (σ:St) (H:Hp) (x:V) (xs:List V) (v:Value) (us:List Value) (Q:VK),Inv X pins σ H s→RelV x v→Vals xs us→r x xs H Q →
  wpAny (model X.prog X.w) X.A (call (.builtin id) (v::us)) (EP X pins σ Q) X.xe s
theorem Vals.one:∀ {x:V}{us:List Value},Vals [x] us→∃ u,us=[u]∧RelV x u
 | _,_,.cons r .nil=>⟨_,rfl,r⟩
theorem Vals.eraseIdx:∀ {xs:List V}{us:List Value} (i:Nat),Vals xs us→Vals (xs.eraseIdx i) (us.eraseIdx i)
 | _,_,_,.nil=>.nil
 | _,_,0,.cons _ t=>t
 | _,_,i+1,.cons r t=>.cons r (Vals.eraseIdx i t)
theorem Vals.rep {xs:List V}{us:List Value} (h:Vals xs us):∀ k:Nat,Vals (zcc k xs).flatten (zcc k us).flatten
 | 0=>.nil
 | k+1=>by
  rw [zaK,zaK,zbj,zbj]
  exact Vals.append h (Vals.rep h k)
theorem pG {α:Type}:∀ (l:List α) (i:Nat),(l.eraseIdx i).length≤l.length
 | [],_=>zcH _
 | _::_,0=>zcJ _
 | _::r,i+1=>Nat.succ_le_succ (pG r i)
theorem foldl_rep (its:List Value):∀ (k:Nat) (acc:List Value),
  List.foldl (fun x1 x2=>x1++x2) acc.toArray (zcc k its.toArray)=(acc++(zcc k its).flatten).toArray
 | 0,acc=>by simp
 | k+1,acc=>by
  have e:acc.toArray++its.toArray=(acc++its).toArray:=by simp
  have e2:(acc++its)++(zcc k its).flatten=acc++(zcc (k+1) its).flatten:=by
   rw [zaK,zbj,zbk]
  rw [← e2,← foldl_rep its k (acc++its),← e,zaK,List.foldl_cons]
section
variable {X:Cx}{pins:List (Addr×Obj)}{σ:St}{H:Hp}{s:Shared}{l b:Addr}{xs ys zs:List V}
theorem Inv.FJ {its its':List Value}{n:Nat}{f:Array Value→Array Value}{t':Nat} (I:Inv X pins σ H s) (hH:H l=some (.lst xs))
  (e:s.heap.get? l=some { cls:=.type "list",data:=.seq its.toArray n }) (hf:f its.toArray=its'.toArray) (hv:Vals ys its') (hz:ys.length≤sizeLine) :
  Inv X pins σ (upd H l (.lst ys)) { s with heap:=s.heap.update l (Obj.mapSeq f),toks:=t' }:=by
 have q:=PySem.IsL.update e f
 rw [hf] at q
 refine I.write (x:=l) (e:=l) (by rw [hH];exact trivial) (.inl rfl) (fun b' u hb hu=>(zat s.heap (Obj.mapSeq f) (Ne.symm hb)).trans hu) ⟨_,q⟩ ?_
 exact ⟨hz,its',_,hv,q⟩
theorem Inv.Mg {its:List Value}{t':Nat} (I:Inv X pins σ H s) (hv:Vals ys its) (hz:ys.length≤sizeLine) :
  Inv X pins σ (upd H s.heap.objs.size (.lst ys)) { s with heap:=s.heap.push { cls:=.type "list",data:=.seq its.toArray },toks:=t' } :=
 I.laid (fun _ _ q=>zas _ q) (zcH _) ⟨hz,its,0,hv,zaR _ rfl⟩
theorem Inv.fresh (I:Inv X pins σ H s):H s.heap.objs.size=none:=I.hok.fresh (zcH _)
theorem Inv.tw (I:Inv X pins σ H s) (hH:H l=some (.lst xs)):xs.length≤sizeLine∧∃ (its:List Value) (n:Nat),Vals xs its∧xs.length=its.length∧s.heap.get? l=some { cls:=.type "list",data:=.seq its.toArray n }:=by
 obtain ⟨z,its,n,r,e⟩:=I.hok l _ hH
 exact ⟨z,its,n,r,r.length,e⟩
theorem m8 {n:Nat} (h:n≤sizeLine):Builtin.List.listTooLong n=false:=by
 unfold Builtin.List.listTooLong
 exact decide_eq_false (by omega)
end
section
variable {X:Cx}
noncomputable def xY:V→List V→Hp→VK→Prop:=fun x vs H Q=>∃ l xs y,x = .ref l∧vs=[y]∧H l=some (.lst xs)∧xs.length<sizeLine∧Q .bH (upd H l (.lst (xs++[y])))
theorem pB:O4 X "list.append" xY:=by
 intro pins s σ H x vs v us Q I rx rv h
 obtain ⟨l,xs,y,rfl,rfl,hH,hz,q⟩:=h
 cases rx
 obtain ⟨u,rfl,ru⟩:=rv.one
 obtain ⟨z,its,n,r,hl,e⟩:=I.tw hH
 refine call_meets F.slot_list_append ⟨_,e,rfl⟩ F.entry_list_append (F.args_list_append_2 _ _) (PySem.list_append l its.toArray n u (by rw [zbf];omega)) ⟨e,?_⟩
 refine ⟨.bH,_,I.FJ (its':=its++[u]) hH e (by simp) (r.append (.cons ru .nil)) ?_,rfl,q⟩
 rw [zaU,List.length_singleton]
 omega
noncomputable def xX:V→List V→Hp→VK→Prop:=fun x vs H Q=>∃ l b xs zs,x = .ref l∧vs=[.ref b]∧H l=some (.lst xs)∧H b=some (.lst zs)∧xs.length+zs.length≤sizeLine∧Q .bH (upd H l (.lst (xs++zs)))
theorem zM:O4 X "list.extend" xX:=by
 intro pins s σ H x vs v us Q I rx rv h
 obtain ⟨l,b,xs,zs,rfl,rfl,hH,hB,hz,q⟩:=h
 cases rx
 obtain ⟨u,rfl,ru⟩:=rv.one
 cases ru
 obtain ⟨z,its,n,r,hl,e⟩:=I.tw hH
 obtain ⟨z2,its2,n2,r2,hl2,e2⟩:=I.tw hB
 have hsz:its.toArray.size+its2.toArray.size≤sizeLine:=by rw [zbf,zbf];omega
 have tP : ¬ (!its.toArray.isEmpty&&Builtin.List.listTooLong (its.toArray.size+its2.toArray.size))=true:=by
  rw [m8 hsz,Bool.and_false]
  exact zbb
 refine call_meets F.slot_list_extend ⟨_,e,rfl⟩ F.entry_list_extend (F.args_list_extend_2 _ _)
  (AutoSeq1.list_extend_list_list_0 l its.toArray n b its2.toArray n2 tP (by rw [zbf];omega) (by omega)) ⟨e,e2,?_⟩
 refine ⟨.bH,_,I.FJ (its':=its++its2) hH e (by simp) (r.append r2) ?_,rfl,q⟩
 rw [zaU]
 omega
noncomputable def BW:V→List V→Hp→VK→Prop:=fun x vs H Q=>∃ l xs i k y,x = .ref l∧vs=[.int i]∧H l=some (.lst xs) ∧ -(2 ^ 63)≤i∧i<2 ^ 63∧seqIndex? i xs.length=some k∧xs[k]? = some y∧Q y (upd H l (.lst (xs.eraseIdx k)))
theorem Cs:O4 X "list.pop" BW:=by
 intro pins s σ H x vs v us Q I rx rv h
 obtain ⟨l,xs,i,k,y,rfl,rfl,hH,h1,h2,hk,hy,q⟩:=h
 cases rx
 obtain ⟨u,rfl,ru⟩:=rv.one
 obtain ⟨t,rfl⟩:=ru
 obtain ⟨z,its,n,r,hl,e⟩:=I.tw hH
 obtain ⟨w,hw,rw'⟩:=r.get hy
 refine call_meets F.slot_list_pop ⟨_,e,rfl⟩ F.entry_list_pop (F.args_list_pop_2 _ _)
  (MeetsSeq.list_pop_at l its.toArray n i t k w (fitsIndex_both h1 h2) (by rw [zbf,← hl];exact hk) (by rw [← zaA];exact hw) (by rw [zbf];omega)) ⟨e,?_⟩
 refine ⟨y,_,I.FJ (its':=its.eraseIdx k) hH e ?_ (r.eraseIdx k) ?_,rw',q⟩
 ·show its.toArray.eraseIdxIfInBounds k=(its.eraseIdx k).toArray
  rw [List.eraseIdxIfInBounds_toArray]
 ·have:=pG xs k
  omega
noncomputable def LL:R2:=fun x y H Q=>∃ l b xs zs,x = .ref l∧y = .ref b∧H l=some (.lst xs)∧H b=some (.lst zs)∧xs.length+zs.length≤sizeLine∧∀ p,H p=none→Q (.ref p) (upd H p (.lst (xs++zs)))
theorem Cd:fj X (binaryOp .Add) LL:=by
 intro pins s σ H x y v u Q I rx ry h
 obtain ⟨l,b,xs,zs,rfl,rfl,hH,hB,hz,q⟩:=h
 cases rx
 cases ry
 obtain ⟨z,its,n,r,hl,e⟩:=I.tw hH
 obtain ⟨z2,its2,n2,r2,hl2,e2⟩:=I.tw hB
 refine PySem.P.add_list e e2 ?_ (by rw [zbf,zbf];omega)
 have ea:its.toArray++its2.toArray=(its++its2).toArray:=by simp
 rw [ea]
 exact ⟨.ref _,_,I.Mg (t':=s.toks) (r.append r2) (by rw [zaU];omega),rfl,q _ I.fresh⟩
noncomputable def Of:R2:=fun x y H Q=>∃ l k xs,x = .ref l∧y = .int k∧H l=some (.lst xs) ∧ -(2 ^ 63)≤k∧k<2 ^ 63∧xs.length*k.toNat≤sizeLine ∧
 ∀ p,H p=none→Q (.ref p) (upd H p (.lst (zcc k.toNat xs).flatten))
theorem len_rep {α:Type} (xs:List α) (k:Nat):(zcc k xs).flatten.length=k*xs.length:=by
 induction k with
 | zero=>simp
 | succ k ih=>rw [zaK,zbj,zaU,ih,Nat.succ_mul,Nat.add_comm]
theorem Jm:fj X (binaryOp .Mult) Of:=by
 intro pins s σ H x y v u Q I rx ry h
 obtain ⟨l,k,xs,rfl,rfl,hH,h1,h2,hz,q⟩:=h
 cases rx
 obtain ⟨t,rfl⟩:=ry
 obtain ⟨z,its,n,r,hl,e⟩:=I.tw hH
 have hlen:its.toArray.size*k.toNat≤sizeLine:=by rw [zbf,← hl];exact hz
 have hcap : ¬ its.toArray.size*k.toNat > (2 ^ 63 - 1) / 8:=by
  have:(sizeLine:Nat)≤(2 ^ 63 - 1) / 8:=by decide
  omega
 have hfit : ¬ (!Builtin.List.listFitsIndex k)=true:=by
  rw [fitsIndex_both h1 h2]
  exact zbb
 have tP : ¬ Builtin.List.listTooLong (its.toArray.size*k.toNat)=true:=by
  rw [m8 hlen]
  exact zbb
 have hnew:List.foldl (fun x1 x2=>x1++x2) #[] (zcc (if its.toArray.isEmpty=true then 0 else k.toNat) its.toArray)=(zcc k.toNat its).flatten.toArray:=by
  have f0:∀ m:Nat,List.foldl (fun x1 x2=>x1++x2) #[] (zcc m its.toArray)=(zcc m its).flatten.toArray:=fun m=>by
   have:=foldl_rep its m []
   rw [zbU] at this
   exact this
  rw [f0]
  cases its with
  | nil=>simp
  | cons a r'=>rw [if_neg (by simp)]
 refine wpAny_binaryOp_repeat_ref (T := "list") (U := "int") (by decide) ⟨_,e,rfl⟩ (fun s'=>typeIs_int s' k t) noFill_list_mul F.fills_int_mul F.slot_int_rmul repeat_list F.slot_int_index.lookup
  (call_meets F.slot_int_rmul (typeIs_int s k t) F.entry_int_rmul (F.args_int_rmul_2 _ _) (int___rmul___int_list k t l its.toArray n)
   ⟨e,rfl,⟨_,e,rfl⟩,call_meets F.slot_list_mul ⟨_,e,rfl⟩ F.entry_list_mul (F.args_list_mul_2 _ _) (AutoListH.list___mul___list_int_3 l its.toArray n k t hfit hcap tP) ⟨e,?_⟩⟩)
 rw [hnew]
 exact ⟨.ref _,_,I.Mg (t':=s.toks) (r.rep k.toNat) (by rw [len_rep,Nat.mul_comm];exact hz),rfl,q _ I.fresh⟩
end
end L2
namespace Att
open PySem PySem.W PySem.Calls PyProof.Rows
theorem kX {P:Params}{h:Heap}:∀ (ns:List Int) (vs:List Value),WellAll P h vs (ns.map WData.int)→IntsAre vs ns:=by
 intro ns
 induction ns with
 | nil =>
  intro vs w
  rw [zcp] at w
  cases w
  exact .nil
 | cons n ns ih =>
  intro vs w
  rw [zcj] at w
  cases w with
  | cons a b =>
   cases a
   exact .cons _ _ (ih _ b)
theorem zC {l:OpenLaw}{n:Nat} (hn:l.most=some n) {P:Params}{h:Heap}{args:List WData}{vals:List Value}
  (hpre:l.row.toRowW.claim.pre args=true) (hwl:WellAll P h vals args) :
  ∃ a vs ns,vals=[Value.ref a]∧args=[WData.list (ns.map WData.int)]∧h.get? a=some { cls:=.type "list",data:=.seq vs.toArray }∧IntsAre vs ns∧ns.length≤n:=by
 have hsh:WShape.hasAll [] args [.list .int]=true:=(pre_splitW hpre).1
 have hc:l.pre.holds [] { args:=args }=true:=(pre_splitW hpre).2
 obtain ⟨d,r,rfl,h1,h2⟩:=hasAllW_cons hsh
 obtain rfl:=hasAllW_nil h2
 obtain ⟨xs,rfl,h3⟩:=hasW_list h1
 obtain ⟨ns,rfl⟩:=items_int h3
 have hlen:ns.length≤n:=by
  unfold OpenLaw.pre at hc
  have h4:(WTm.not (.lt (.lit (.int (n:Int))) (.len (.arg 0)))).holds [] { args:=[.list (ns.map .int)] }=true:=by
   have h4:=(holds_andW hc).1
   rw [hn] at h4
   exact h4
  have h5:=condW_of h4 (w_not (w_lt w_lit (w_len_list (w_arg rfl))))
  rw [zbP] at h5
  refine Nat.le_of_not_lt fun q => ?_
  have q':(n:Int)<((ns.length:Nat):Int):=by omega
  first
   | (rw [decide_eq_true q'] at h5;exact absurd h5 (by decide))
   | (simp at h5;omega)
 cases hwl with
 | cons w1 w2 =>
  cases w2
  cases w1 with
  | list ho hall=>exact ⟨_,_,ns,rfl,rfl,ho,kX ns _ hall,hlen⟩
theorem zE (l:OpenLaw) (args:List WData):l.row.toRowW.claim.post args (.bool true) args=true :=
 postW_of (r:=l.row.toRowW) (X:=(true==true))
  (show WShape.has [] (.bool true) .bool=true by first | rfl | decide | simp [WShape.has,WShape.arms,WShape.armsAll])
  (show (WTm.eq .res (.lit (.bool true))).value [] { args:=args,res:=some (.bool true),after:=args }=some (.bool (true==true)) from w_eq_bool (w_res rfl) w_lit) rfl
theorem uA {l:OpenLaw}{n:Nat}{q:Program}{loose:List Str}{XP:(Str→Option Value)→Heap→Prop}{YP:World→Heap→Prop}{d:DefRec}
  (hn:l.most=some n) (hdf:d.params.defaults=[])
  (call:∀ (w:World) (s₀ s₁:Shared) (mg mb:Str→Option Value) (fa:Addr) (o:Obj) (pm cd doc:Value) (a:Addr) (vs:List Value) (ns:List Int),
   Ground q loose [] XP w s₀ mg mb s₁.heap→YP w s₁.heap →
   s₁.heap.get? fa=some o→o.data = .func (docDef d.name d.params d.body d.scope pm cd doc)→s₁.heap.CodeRec cd d.name→mg d.name=some (.ref fa) →
   s₁.heap.get? a=some { cls:=.type "list",data:=.seq vs.toArray }→IntsAre vs ns→ns.length≤n→s₁.gens = #[] →
   codeAny (model l.prog w) callerA (.call (.ref fa) ⟨[.ref a],[]⟩) (fun r s'=>r = .ok (.ret (.bool true))∧OldK s₁.heap s'.heap∧s'.os=s₁.os∧AllBare s'.gens) s₁) :
  WalkO q loose XP YP l.row.toRowW d [] (fun f vs=>PySem.call f vs):=by
 intro w s₀ s₁ mg mb G Y fa o pm cd doc dV kV ho hd hcd hD hmg hg args vals as hpre hlay hrd hwl hlo
 obtain rfl:dV = .none:=Dflts.none hD hdf
 obtain rfl:kV = .none:=Dflts.noKw hD
 obtain ⟨a,vs,ns,rfl,rfl,hobj,hints,hlen⟩:=zC hn hpre hwl
 refine enter_call (codeAny_mono (call w s₀ s₁ mg mb fa o pm cd doc a vs ns G Y ho (fd_plain hd) hcd hmg hobj hints hlen hg) fun r s' hq => ?_)
 obtain ⟨rfl,h2,h3,h4⟩:=hq
 exact ⟨.inl ⟨.bool true,.bool true,[],rfl,fun _=>rfl,.bool true,zE l _,fun _=>⟨List.Pairwise.nil,fun _ hm=>(nomatch hm)⟩⟩,h2,h3,h4⟩
end Att
namespace L2
open PySem PySem.Spec PyProof.Rows
theorem jY:∀ {vs:List Value}{ns:List Int},IntsAre vs ns→Vals (ns.map V.int) vs
 | _,_,.nil=>.nil
 | _,_,.cons n t h=>.cons ⟨t,rfl⟩ (jY h)
noncomputable def KS (H:Hp):Prop:=∀ b,H b=none∨∃ o xs,H b=some (.yy o (.lst xs))
theorem CL {P:Program}{w:World}{K:PySem.W.Frag}{mg mb:Str→Option Value}{CX:Ep}{k:Nat}{fa a:Addr}{fd:FuncData}{x:Str}{sp:Sp}{s₁:Shared}{vs:List Value}{ns:List Int}
  (KX:K.In s₁.heap) (hns:s₁.heap.Ns mainGlobals mg) (hb:s₁.heap.Ns builtinsNs mb) (hbb:∀ x:Str,x ≠ "__name__" → mb x=bootBuiltins x) (hlim:s₁.heap.NoLimit) (hg:s₁.gens = #[])
  (ha:s₁.heap.get? a=some { cls:=.type "list",data:=.seq vs.toArray }) (hi:IntsAre vs ns) (hl:ns.length≤sizeLine) (hr:aS k callerA)
  (F:∀ base:Heap,K.In base→base.Ns mainGlobals mg→dO P w K mg base CX k fa fd [x] sp) (hbind:∀ (s:Shared) (u:Value),BindsTo s fd ⟨[u],[]⟩ [(x,u)])
  (hsp:∀ H:Hp,KS H→b9 K H a (ns.map V.int)→sp [.ref a] H (fun v _=>v = .bl true) fun _ _ _=>False)
  (hCX:∀ H e s',CX [] H s₁ (fun _ _ _=>False) e s'→False) :
  codeAny (model P w) callerA (.call (.ref fa) ⟨[.ref a],[]⟩) (fun r s'=>r = .ok (.ret (.bool true))∧OldK s₁.heap s'.heap∧s'.os=s₁.os∧AllBare s'.gens) s₁:=by
 have rv:=jY hi
 have Ov:=hi.length
 have core:∀ H:Hp,KS H→b9 K H a (ns.map V.int)→iB P w H s₁.heap→(∀ b,H b≠none→b=a)→(H a≠none→K.lookup a=none) →
   codeAny (model P w) callerA (.call (.ref fa) ⟨[.ref a],[]⟩) (fun r s'=>r = .ok (.ret (.bool true))∧OldK s₁.heap s'.heap∧s'.os=s₁.os∧AllBare s'.gens) s₁:=by
  intro H hO hS hok hA hK
  have yO:∀ {b:Addr}{o:Obj},s₁.heap.get? b=some o→H b=none→(qY s₁.heap H).get? b=some o:=fun e n=>CY e n
  have noA:∀ {b:Addr}{o:Obj}{es:Array DictEntry}{ep:Nat},s₁.heap.get? b=some o→o.data = .dict es ep→H b=none:=fun {b o es ep} e d=>by
   cases q:H b with
   | none=>rfl
   | some u =>
    have e':b=a:=hA b (by rw [q];simp)
    subst e'
    rw [ha] at e;cases e
    have d':Data.seq vs.toArray _=Data.dict es ep:=d
    cases d'
  have nsK:∀ {b:Addr}{m:Str→Option Value},s₁.heap.Ns b m→(qY s₁.heap H).Ns b m:=fun {b m} ⟨o,es,ep,e,d,r⟩=>⟨o,es,ep,yO e (noA e d),d,r⟩
  have hKb:K.In (qY s₁.heap H):=fun b o e=>yO (KX b o e) (by
   cases q:H b with
   | none=>rfl
   | some u =>
    have e':b=a:=hA b (by rw [q];simp)
    subst e'
    rw [hK (by rw [q];simp)] at e;cases e)
  have hM:Mod K mg (qY s₁.heap H):=⟨hKb,nsK hns,⟨mb,nsK hb,hbb⟩,let ⟨mc,h1,h2⟩:=hlim;⟨mc,nsK h1,h2⟩⟩
  have e0:wI P w K mg (qY s₁.heap H) callerA [] s₁ H:=⟨rfl,hM,fun b o e=>FA e,Nat.le_of_eq (z4 _ _),trivial,fun b hb=>absurd (show b∈([]:List Addr) from hb) (by simp),hok,.of_eq hg⟩
  refine codeAny_mono ((F _ hKb (nsK hns)).run callerA [] s₁ H ⟨[.ref a],[]⟩ [.ref a] [.ref a] _ _ hr e0 (hbind s₁ (.ref a)) (.cons rfl .nil) (hsp H hO hS)) fun r s' h => ?_
  cases r with
  | error e=>exact (hCX H e s' h).elim
  | ok fl =>
   cases fl with
   | next=>exact False.elim h
   | brk=>exact False.elim h
   | cont=>exact False.elim h
   | ret u =>
    obtain ⟨v,H',os,bare,un,hok',r',q⟩:=h
    have q':v = .bl true:=q
    subst q'
    obtain rfl:u=Value.bool true:=r'
    refine ⟨rfl,OldK.of_keep fun b o e => ?_,os,bare⟩
    cases q:H b with
    | none=>exact un.keep b o e q (by intro z;exact absurd (show b∈([]:List Addr) from z) (by simp)) (by simp)
    | some u =>
     rcases hO b with z | ⟨ob,xs,z⟩
     ·rw [q] at z;cases z
     ·have z2:=un.oE b ob _ z
      obtain ⟨e1,_⟩:=hok b _ z
      obtain ⟨e2,_⟩:=hok' b _ z2
      rw [e] at e1;cases e1
      exact e2
 cases hk:K.lookup a with
 | some o =>
  have e:=KX a o hk
  rw [ha] at e
  cases e
  refine core (fun _=>none) (fun _=>.inl rfl) (.inr ⟨_,vs.toArray,_,hk,rfl,rfl,rfl,by rw [zbf,Ov];exact hl,by simpa using rv⟩) (fun b u z=>by have z':(none:Option HO)=some u:=z;cases z') (fun b z=>absurd rfl z) fun z=>absurd rfl z
 | none =>
  refine core (fun b=>if b=a then some (.yy { cls:=.type "list",data:=.seq vs.toArray } (.lst (ns.map V.int))) else none) (fun b => ?_) (.inl (.inr ⟨{ cls:=.type "list",data:=.seq vs.toArray },if_pos rfl⟩)) (fun b u z => ?_) (fun b z => ?_) fun _=>hk
  ·by_cases hb:b=a
   ·exact .inr ⟨_,_,if_pos hb⟩
   ·exact .inl (if_neg hb)
  ·by_cases hb:b=a
   ·have z':=(if_pos hb).symm.trans z
    cases z'
    subst hb
    exact ⟨ha,by rw [zbP];exact hl,vs,_,rv,ha⟩
   ·have z':=(if_neg hb).symm.trans z
    cases z'
  ·by_cases hb:b=a
   ·exact hb
   ·exact absurd (if_neg hb) z
theorem EB {l:PySem.W.OpenLaw}{n k:Nat}{q:Program}{loose:List Str}{XP:(Str→Option Value)→Heap→Prop}{YP:World→Heap→Prop}{d:DefRec}{K:Params→PySem.W.Frag}{CX:World→Ep}{sp:World→Sp}{x:Str}
  (hn:l.most=some n) (hn2:n≤sizeLine) (hdf:d.params.defaults=[]) (hr:aS k callerA)
  (hY:∀ (w:World) (h:Heap),YP w h→(K w.params).In h)
  (F:∀ (w:World) (mg:Str→Option Value) (fa:Addr) (h:Heap),(K w.params).In h→h.Ns mainGlobals mg→mg d.name=some (.ref fa) →
   ∃ fd:FuncData,(∀ (s:Shared) (u:Value),BindsTo s fd ⟨[u],[]⟩ [(x,u)]) ∧
    ∀ base:Heap,(K w.params).In base→base.Ns mainGlobals mg→dO l.prog w (K w.params) mg base (CX w) k fa fd [x] (sp w))
  (hsp:∀ (w:World) (H:Hp) (a:Addr) (ns:List Int),ns.length≤n→KS H→b9 (K w.params) H a (ns.map V.int)→sp w [.ref a] H (fun v _=>v = .bl true) fun _ _ _=>False)
  (hCX:∀ (w:World) (H:Hp) (s:Shared) (e:Value) (s':Shared),CX w [] H s (fun _ _ _=>False) e s'→False) :
  PySem.W.WalkO q loose XP YP l.row.toRowW d [] (fun f vs=>PySem.call f vs):=by
 refine Att.uA hn hdf fun w s₀ s₁ mg mb fa o pm cd doc a vs ns G Y ho hd hcd hmg hobj hints hlen hg => ?_
 have KX:=hY w _ Y
 obtain ⟨fd,hb,hF⟩:=F w mg fa _ KX G.T.g hmg
 exact CL KX G.T.g G.T.b G.T.builtins G.T.nolimit hg hobj hints (zcv hlen hn2) hr hF hb (fun H hO hS=>hsp w H a ns hlen hO hS) fun H e s'=>hCX w H s₁ e s'
noncomputable def inClass (s:Stmt) (j:Nat):Stmt:=match s with
 | .ClassDef _ _ _ body _ _ _ _ _ _ _=>body.getD j (.Pass ⟨0,0,0,0⟩)
 | _=>.Pass ⟨0,0,0,0⟩
noncomputable def cH (s:Stmt):Arguments:=match s with
 | .FunctionDef _ a _ _ _ _ _ _ _ _=>a
 | _=>{ posonlyargs:=[],args:=[],vararg:=none,kwonlyargs:=[],kw_defaults:=[],kwarg:=none,defaults:=[] }
noncomputable def bB (s:Stmt):List Stmt:=match s with
 | .FunctionDef _ _ b _ _ _ _ _ _ _=>b
 | _=>[]
noncomputable def ai (s:Stmt):Scope:=match s with
 | .FunctionDef _ _ _ _ _ _ sc _ _ _=>sc
 | _=>{ kind:=.function,names:=[],isGenerator:=false,isCoroutine:=false }
noncomputable abbrev kQ:Ep:=fun _ _ _ _ _ _=>False
noncomputable abbrev E0:XK:=fun _ _ _=>False
theorem jy {X:Cx}:Passes kQ X E0:=fun _ _ _ _ _ _ _ h=>h.elim
structure Ey (K:PySem.W.Frag) (x qual:Str) (st:Stmt) (f:Addr) (fd:FuncData):Prop where
 ex:∃ (oc:Value) (od:Option Addr) (kV doc pm:Value) (an:Option Addr) (cdv ct:Value) (osl:Array (Option Value)),
  fd=zcB x qual (cH st) (bB st) (ai st) .none kV doc pm an cdv ct∧K.lookup f=some ⟨oc,od,.func fd,osl⟩∧zcg K cdv qual=true
 kp:zcf K (.ref f)=true
section
variable {P:Program}{w:World}{K:PySem.W.Frag}{mg:Str→Option Value}{base:Heap}
theorem Ey.ok {x qual:Str}{st:Stmt}{f:Addr}{fd:FuncData}{N ps:List Str}{k:Nat}{sp:Sp} (F:Ey K x qual st f fd) (S:az N ps (ai st)) (len:∀ vs H Q E,sp vs H Q E→vs.length=ps.length)
  (hbody:∀ (cdv:Value) (A:Around) (outer:List Env) (s:Shared) (H:Hp) (vs:List V) (Q:VK) (E:XK),aS k (A.deeper (envOfC qual (ai st) s.heap.objs.size f cdv))→sp vs H Q E →
   ∃ t,rM (kE kQ P w K mg base N qual (ai st) f cdv A outer s H E).Eu (bB st) t∧t { nx:=fun _ H'=>Q .bH H',rt:=Q } (start N vs) H):dO P w K mg base kQ (k+1) f fd ps sp:=by
 obtain ⟨oc,od,kV,doc,pm,an,cdv,ct,osl,rfl,lk,hcd⟩:=F.ex
 refine Mv lk hcd S len fun A outer s H vs Q E hr hsp => ?_
 obtain ⟨t,h,q⟩:=hbody cdv A outer s H vs Q E hr hsp
 exact ⟨t,h.Eu,q⟩
theorem Ey.binds {x qual:Str}{st:Stmt}{f:Addr}{fd:FuncData}{ps:List Str} (F:Ey K x qual st f fd)
  (h:∀ (kV doc pm:Value) (an:Option Addr) (cdv ct:Value) (us:List Value),us.length=ps.length→bindArgs (zcB x qual (cH st) (bB st) (ai st) .none kV doc pm an cdv ct) ⟨us,[]⟩=pure (ps.zip us)):Binds K fd ps []:=by
 obtain ⟨oc,od,kV,doc,pm,an,cdv,ct,osl,rfl,lk,hcd⟩:=F.ex
 exact .all (h kV doc pm an cdv ct)
theorem iZ {x qual:Str}{st:Stmt}{f:Addr}{oc:Value}{od an:Option Addr}{osl:Array (Option Value)}{kV doc pm cdv ct:Value} (l:K.lookup f=some ⟨oc,od,.func (zcB x qual (cH st) (bB st) (ai st) .none kV doc pm an cdv ct),osl⟩)
  (c:zcg K cdv qual=true) (k:zcf K (.ref f)=true):Ey K x qual st f (zcB x qual (cH st) (bB st) (ai st) .none kV doc pm an cdv ct):=⟨⟨oc,od,kV,doc,pm,an,cdv,ct,osl,rfl,l,c⟩,k⟩
end
theorem jD {A:Around}{k:Nat} (hr:aS k A):A.units+1<cLine:=Nat.lt_of_le_of_lt (Nat.add_le_add_left (by decide:1≤64) _) hr.units
section
variable {X:Cx}
theorem pv (i:Nat) {x:Str}{pos:Pos} (hN:X.N[i]? = some x:=by rfl) (hv:MZ X.env.scope x:=by first | exact Or.inl rfl | exact Or.inr (Or.inl rfl) | exact Or.inr (Or.inr rfl)) (hd:(x==("__debug__" : Str))=false:=by decide)
  (hcd:(x==("__classdict__" : Str))=false:=by decide):PE X (.Name x pos) (l6 i):=B8 hN hv hd hcd
theorem Aj:bS X (.builtin "len") (fun xs H Q=>∃ a kvs,xs=[V.ref a]∧H a=some (.dK kvs)∧Q (.int kvs.length) H):=by
 intro pins s σ H xs us Q I r h
 obtain ⟨a,kvs,rfl,ha,q⟩:=h
 obtain ⟨u,rfl,ru⟩:=vals1 r
 cases ru
 exact MC I (.inl ha) fun t s' I'=>⟨.int kvs.length,H,I',⟨t,rfl⟩,q⟩
end
theorem kr {A B:Prop} (h:B):if false=true then A else B:=by
 rw [if_neg zbb]
 exact h
theorem vP {A B:Prop} (h:A):if true=true then A else B:=by
 rw [if_pos rfl]
 exact h
theorem vQ {c A B:Prop} [Decidable c] (h1:c→A) (h2 : ¬ c→B):if c then A else B:=by
 by_cases h:c
 ·rw [if_pos h]
  exact h1 h
 ·rw [if_neg h]
  exact h2 h
noncomputable def fh (H H':Hp):Prop:=∀ b o,H b=some o→H' b=some o
theorem fh.refl (H:Hp):fh H H:=fun _ _ h=>h
theorem fh.trans {H H1 H2:Hp} (a:fh H H1) (b:fh H1 H2):fh H H2:=fun c o h=>b c o (a c o h)
theorem fh.free {H H':Hp} (e:fh H H') {l:Addr} (h:H' l=Option.none):H l=Option.none:=by
 cases q:H l with
 | none=>rfl
 | some o =>
  rw [e l o q] at h
  cases h
theorem fh.seq {K:PySem.W.Frag}{H H':Hp}{a:Addr}{xs:List V} (e:fh H H') (h:b9 K H a xs):b9 K H' a xs:=by
 rcases h with (h | ⟨o,h⟩) | h
 ·exact .inl (.inl (e _ _ h))
 ·exact .inl (.inr ⟨o,e _ _ h⟩)
 ·exact .inr h
end L2
set_option maxHeartbeats 4000000
namespace L2
open PySem PySem.Spec PyProof.Rows
section
variable {X:Cx}{pins:List (Addr×Obj)}{σ:List (Option V)}{H:Hp}{s:Shared}
theorem iB.wQ {P:Program}{w:World}{h:Heap}{D:Addr}{o:HO} (ok:iB P w H h) (hn:H D=none) (new:aW P w (upd H D o) h D o):iB P w (upd H D o) h:=fun b u e=>by
 by_cases hb:b=D
 ·subst hb;rw [aG] at e;cases e;exact new
 ·rw [aA hb] at e
  refine (ok b u e).stay (fun _ _ _ q=>q) (fun c q => ?_) (fun c xs q => ?_)
  ·rw [aA (aP q hn)];exact q
  ·rw [aA (aP q hn)];exact q
theorem Inv.wQ {D:Addr}{o:HO} (I:Inv X pins σ H s) (hn:H D=none) (hD:X.s₀.heap.objs.size≤D) (hL:D≠X.env.locals) (hc:∀ x c,X.env.cells.lookup x=some c→c≠D) (hp:∀ p∈X.pn++pins,p.1≠D)
  (new:aW X.prog X.w (upd H D o) s.heap D o):Inv X pins σ (upd H D o) s:=by
 refine ⟨I.ok,I.os,I.bare,⟨I.base.keep,I.base.slot,fun b ob e n hx => ?_,I.base.there,fun b xs e => ?_,fun b ob u e => ?_,fun b ps e => ?_⟩,I.loc,I.cell,?_,fun x c e => ?_,fun p hp' => ?_,I.hok.wQ hn new,I.len⟩
 ·rw [aA (zcu (zaZ (zcD e) hD))];exact I.base.free b ob e n hx
 ·have q:=I.base.tups b xs e;rw [aA (aP q hn)];exact q
 ·have q:=I.base.oE b ob u e;rw [aA (aP q hn)];exact q
 ·obtain ⟨m,q⟩:=I.base.qe b ps e;exact ⟨m,by rw [aA (aP q hn)];exact q⟩
 ·rw [aA (Ne.symm hL)];exact I.free
 ·rw [aA (hc x c e)];exact I.gC x c e
 ·obtain ⟨e,n,a,b,d⟩:=I.pin p hp'
  exact ⟨e,by rw [aA (hp p hp')];exact n,a,b,d⟩
end
noncomputable def jJ (env:Env):List (Str×NameKind)→List (Str×Addr)→List (Str×Addr)
 | [],acc=>acc
 | (n,k)::r,acc=>jJ env r (if k==NameKind.free then (n,(env.cells.lookup n).getD 0)::acc else acc)
theorem i0 (env:Env):∀ (l:List (Str×NameKind)) (acc:List (Str×Addr)),(∀ n,(n,NameKind.free)∈l→∃ c,env.cells.lookup n=some c) →
  (forIn l acc (fun (x:Str×NameKind) (r:List (Str×Addr))=>if (x.2==NameKind.free)=true then (do let a ← cellOf env x.1;pure (ForInStep.yield ((x.1,a)::r))) else pure (ForInStep.yield r)):Sem (List (Str×Addr)))=pure (jJ env l acc)
 | [],acc,_=>rfl
 | (n,k)::r,acc,h=>by
  rw [List.forIn_cons]
  by_cases hk:(k==NameKind.free)=true
  ·have e:k = .free:=by simpa using hk
   subst e
   obtain ⟨c,hc⟩:=h n zaS
   have e1:cellOf env n=pure c:=by unfold cellOf;rw [hc]
   have e2:((NameKind.free==NameKind.free)=true)=True:=by simp
   simp only [e2,if_true,e1,pure_bind]
   rw [i0 env r _ fun m hm=>h m (zaC _ hm)]
   show _=pure (jJ env r (if (NameKind.free==NameKind.free)=true then (n,(env.cells.lookup n).getD 0)::acc else acc))
   simp only [e2,if_true,hc,zbM]
  ·simp only [if_neg hk,pure_bind]
   rw [i0 env r _ fun m hm=>h m (zaC _ hm)]
   show _=pure (jJ env r (if (k==NameKind.free)=true then (n,(env.cells.lookup n).getD 0)::acc else acc))
   rw [if_neg hk]
theorem iI {scope:Scope}{env:Env} (h:∀ n,(n,NameKind.free)∈scope.names→∃ c,env.cells.lookup n=some c):closureFor scope env=pure (jJ env scope.names []):=by
 unfold closureFor
 have e:=i0 env scope.names [] h
 first
  | exact e
  | (simp only [bind_pure];exact e)
  | (rw [show (forIn scope.names ([]:List (Str×Addr)) _:Sem (List (Str×Addr)))=_ from e];rfl)
theorem uh (env:Env):∀ (l:List (Str×NameKind)) (acc:List (Str×Addr)) (x:Str) (c:Addr),(jJ env l acc).lookup x=some c→acc.lookup x=some c∨(x,NameKind.free)∈l∧c=(env.cells.lookup x).getD 0
 | [],acc,x,c,h=>.inl h
 | (n,k)::r,acc,x,c,h=>by
  rcases uh env r _ x c h with e | ⟨e1,e2⟩
  ·by_cases hk:(k==NameKind.free)=true
   ·rw [if_pos hk] at e
    have ek:k = .free:=by simpa using hk
    subst ek
    rw [zbA] at e
    by_cases hx:(x==n)=true
    ·have ex:x=n:=by simpa using hx
     subst ex
     rw [hx] at e
     exact .inr ⟨zaS,(zcL.inj e).symm⟩
    ·have hx':(x==n)=false:=by simpa using hx
     rw [hx'] at e
     exact .inl e
   ·rw [if_neg hk] at e
    exact .inl e
  ·exact .inr ⟨zaC _ e1,e2⟩
theorem nR (env:Env):∀ (l:List (Str×NameKind)) (acc:List (Str×Addr)) (x:Str),((x,NameKind.free)∈l∨∃ c,acc.lookup x=some c)→∃ c,(jJ env l acc).lookup x=some c
 | [],acc,x,h=>by
  rcases h with h | h
  ·simp at h
  ·exact h
 | (n,k)::r,acc,x,h=>by
  refine nR env r _ x ?_
  rcases h with h | ⟨c,h⟩
  ·rcases zci.mp h with e | e
   ·injection e with e1 e2
    subst e1 e2
    right
    exact ⟨(env.cells.lookup x).getD 0,by rw [if_pos (by rfl),zbA];simp⟩
   ·exact .inl e
  ·right
   by_cases hk:(k==NameKind.free)=true
   ·rw [if_pos hk,zbA]
    by_cases hx:(x==n)=true
    ·rw [hx];exact ⟨_,rfl⟩
    ·have hx':(x==n)=false:=by simpa using hx
     rw [hx'];exact ⟨c,h⟩
   ·rw [if_neg hk];exact ⟨c,h⟩
theorem gy {scope:Scope}{env:Env}{x:Str}{k:NameKind}:∀ {names:List (Str×NameKind)},(names.map fun (n,k)=>if (k==NameKind.free&&env.scope.kind == .function&&env.kindOf n==some .cell) then (n,NameKind.cell) else (n,k)).lookup x=some k →
  names.lookup x=some k∨(k = .cell∧names.lookup x=some .free)
 | [],h=>by simp at h
 | (n,j)::r,h=>by
  have ih:=@gy scope env x k r
  rw [zcj,zbA] at h
  rw [zbA]
  by_cases hc:(j==NameKind.free&&env.scope.kind == .function&&env.kindOf n==some .cell)=true
  ·simp only [hc,if_true] at h
   cases hx:x==n with
   | true =>
    rw [hx] at h
    have ej:j = .free:=by
     simp only [zbJ] at hc
     simpa using hc.1.1
    exact .inr ⟨(zcL.inj h).symm,by rw [ej]⟩
   | false=>rw [hx] at h;exact ih h
  ·simp only [if_neg hc] at h
   cases hx:x==n with
   | true=>rw [hx] at h;exact .inl h
   | false=>rw [hx] at h;exact ih h
theorem jk {scope:Scope}{env:Env}{x:Str}:∀ {names:List (Str×NameKind)},names.lookup x=some .free→∃ k,(k=NameKind.cell∨k = .free) ∧
  (names.map fun (n,k)=>if (k==NameKind.free&&env.scope.kind == .function&&env.kindOf n==some .cell) then (n,NameKind.cell) else (n,k)).lookup x=some k
 | [],h=>by simp at h
 | (n,j)::r,h=>by
  have ih:=@jk scope env x r
  rw [zbA] at h
  rw [zcj,zbA]
  by_cases hc:(j==NameKind.free&&env.scope.kind == .function&&env.kindOf n==some .cell)=true
  ·simp only [hc,if_true]
   cases hx:x==n with
   | true=>exact ⟨.cell,.inl rfl,rfl⟩
   | false=>rw [hx] at h;exact ih h
  ·simp only [if_neg hc]
   cases hx:x==n with
   | true=>rw [hx] at h;exact ⟨.free,.inr rfl,h⟩
   | false=>rw [hx] at h;exact ih h
noncomputable def oH (caps:List (Option Nat)) (σ:St):St:=caps.map fun o=>o.bind fun i=>(σ[i]?).getD none
noncomputable def iJ (XN:List Str) (env:Env) (scope:Scope) (N:List Str) (caps:List (Option Nat)):Bool :=
 caps.length==N.length&&(caps.zip N).all fun p=>match p.1 with
  | none=>scope.names.lookup p.2==some .local
  | some i=>XN[i]? == some p.2&&scope.names.lookup p.2==some .free&&(env.scope.names.lookup p.2==some .cell||env.scope.names.lookup p.2==some .free)
noncomputable def i6 (X:Cx) (scope:Scope) (N:List Str) (s₀:Shared) (H₀:Hp) (C:Addr) (fp:List Addr):Cx where
 prog:=X.prog
 w:=X.w
 K:=X.K
 mg:=X.mg
 base:=X.base
 A:=X.A
 N:=N
 s₀:=s₀
 H₀:=H₀
 env:=compEnvC scope (jJ X.env scope.names []) C X.env
 outer:=X.stack
 stack:=X.stack
 ex:=fp
 fn:=fun _=>false
 calm:=X.calm
 pn:=[]
 xe:=fun _ _=>False
structure cZ (scope:Scope) (N:List Str):Prop where
 kind:scope.kind = .function
 nd:N.Nodup
 Cm:∀ y∈scope.names,y.2 ≠ .cell
 names:∀ y∈scope.names,scope.names.lookup y.1=some y.2
section
variable {X:Cx}{pins:List (Addr×Obj)}{σ:List (Option V)}{H:Hp}{s:Shared}
theorem Dq {XN:List Str}{env:Env}{scope:Scope}{N:List Str}{caps:List (Option Nat)} (h:iJ XN env scope N caps=true) :
  caps.length=N.length∧∀ (j i:Nat) (x:Str),caps[j]? = some (some i)→N[j]? = some x→XN[i]? = some x∧scope.names.lookup x=some .free∧(env.kindOf x=some .cell∨env.kindOf x=some .free):=by
 unfold iJ at h
 rw [zbJ] at h
 obtain ⟨h1,h2⟩:=h
 refine ⟨by simpa using h1,fun j i x e1 e2 => ?_⟩
 have hm:(some i,x)∈caps.zip N:=by
  refine List.mem_of_getElem? (i:=j) ?_
  rw [List.getElem?_zip_eq_some]
  exact ⟨e1,e2⟩
 have q:=zbB.mp h2 _ hm
 simp only [zbJ,Bool.or_eq_true,beq_iff_eq] at q
 exact ⟨q.1.1,q.1.2,q.2⟩
theorem Inv.block {scope:Scope}{N:List Str}{caps:List (Option Nat)}{C:Addr}{fp:List Addr}{s1:Shared}{h1:Heap}{tk:Nat}{m:Str→Option Value} (S:cZ scope N) (hcap:iJ X.N X.env scope N caps=true)
  (hfree:∀ n,(n,NameKind.free)∈scope.names→∃ c,X.env.cells.lookup n=some c)
  (I:Inv X pins σ H s) (hf:∀ b∈fp,kH X pins H b) (hfl:∀ b∈fp,b<s.heap.objs.size) (hC:s.heap.objs.size≤C) (hk:∀ b o,s.heap.get? b=some o→h1.get? b=some o) (hn:h1.Ns C m) :
  Inv (i6 X scope N s H C fp) [] (oH caps σ) H { s with heap:=h1,toks:=tk }:=by
 obtain ⟨hlen,hat⟩:=Dq hcap
 have pP:∀ x c,(jJ X.env scope.names []).lookup x=some c→X.env.cells.lookup x=some c:=fun x c e=>by
  rcases uh X.env scope.names [] x c e with z | ⟨z1,z2⟩
  ·simp at z
  ·obtain ⟨c',hc'⟩:=hfree x z1
   rw [hc',z2,hc'];rfl
 have clt:∀ x c,X.env.cells.lookup x=some c→c<s.heap.objs.size:=fun x c e=>by
  obtain ⟨v,o,ho,_⟩:=I.cell x c e
  exact zcD ho
 have Oc:∀ x,((compEnvC scope (jJ X.env scope.names []) C X.env).kindOf x=some .cell∨(compEnvC scope (jJ X.env scope.names []) C X.env).kindOf x=some .free)→(x,NameKind.free)∈scope.names:=fun x hx=>by
  have sub:∀ k,(compEnvC scope (jJ X.env scope.names []) C X.env).kindOf x=some k→scope.names.lookup x=some k∨(k = .cell∧scope.names.lookup x=some .free):=fun k e=>gy (scope:=scope) (env:=X.env) e
  rcases hx with e | e
  ·rcases sub _ e with z | ⟨_,z⟩
   ·exact absurd rfl (S.Cm _ (PySem.mem_of_lookup z))
   ·exact PySem.mem_of_lookup z
  ·rcases sub _ e with z | ⟨z,_⟩
   ·exact PySem.mem_of_lookup z
   ·cases z
 refine ⟨⟨I.ok.mod,S.kind,I.ok.glob,I.ok.blt,hC,fun x y c e1 e2=>I.ok.inj x y c (pP x c e1) (pP y c e2),fun x hx => ?_,fun x c z _=>absurd (show false=true from z) zbb,I.ok.hd,I.ok.frames,.inl rfl,fun b hb => ?_,I.bs,zcv I.ok.Gs I.sz,fun b o e hb => ?_,fun b hb hb2 => ?_,I.stack,I.w9⟩,
  rfl,I.bare,Un.kept hk,⟨m,hn,fun j x v e1 e2 e3 => ?_⟩,fun x c e => ?_,I.hok.fresh hC,fun x c e=>I.gC x c (pP x c e),fun p hp=>absurd (show p∈([]:List (Addr×Obj)) from hp) (by simp),I.hok.kept hk,?_⟩
 ·exact nR X.env scope.names [] x (.inl (Oc x hx))
 ·exact ⟨zcu (zaZ (hfl b hb) hC),fun x c e=>(hf b hb).2.2.2.2.1 x c (pP x c e)⟩
 ·rcases (hf b hb).2.2.2.1 with z | z
  ·exact I.ok.Ck b o e z
  ·exact absurd (zaZ (zcD e) (zcv I.ok.Gs z)) (zcn _)
 ·rcases zci.mp (I.mh b hb2) with z | z
  ·exact (hf b hb).2.1 z
  ·exact (hf b hb).2.2.1 z
 ·have e2':(oH caps σ)[j]? = some (some v):=e2
  unfold oH at e2'
  rw [zbh] at e2'
  cases hc:caps[j]? with
  | none=>rw [hc] at e2';cases e2'
  | some o =>
   rw [hc] at e2'
   cases o with
   | none=>cases e2'
   | some i =>
    have e4:(σ[i]?).getD none=some v:=zcL.inj e2'
    have e5:σ[i]? = some (some v):=by
     cases q:σ[i]? with
     | none=>rw [q] at e4;cases e4
     | some y=>rw [q] at e4;exact congrArg some e4
    obtain ⟨a1,a2,a3⟩:=hat j i x hc e1
    obtain ⟨mX,hnX,hl⟩:=I.loc
    obtain ⟨u,r,l⟩:=hl i x v a1 e5 (a3.elim (fun z=>.inr (.inl z)) fun z=>.inr (.inr z))
    refine ⟨u,r,.inr ?_⟩
    obtain ⟨c,hcx,cell⟩:∃ c,X.env.cells.lookup x=some c∧s.heap.IsCell c (some u):=by
     rcases l with ⟨k,_⟩ | ⟨_,z⟩
     ·rw [k] at a3;rcases a3 with z | z <;> cases z
     ·exact z
    obtain ⟨k,hk2,hk3⟩:=jk (scope:=scope) (env:=X.env) a2
    obtain ⟨c',hc'⟩:=nR X.env scope.names [] x (.inl (PySem.mem_of_lookup a2))
    have hcc:c'=c:=zcL.inj ((pP x c' hc').symm.trans hcx)
    subst hcc
    refine ⟨?_,c',hc',?_⟩
    ·rcases hk2 with z | z
     ·subst z;exact .inl hk3
     ·subst z;exact .inr hk3
    ·obtain ⟨o,ho,hd⟩:=cell
     exact ⟨o,hk _ _ ho,hd⟩
 ·obtain ⟨v,o,ho,hd⟩:=I.cell x c (pP x c e)
  exact ⟨v,o,hk _ _ ho,hd⟩
 ·show (oH caps σ).length=N.length
  unfold oH;rw [zbP];exact hlen
end
theorem gF {prog:Program}{w:World}{A:Around}{R:Result→Shared→Prop}{s:Shared}{elt target iter:Expr}{ifs:List Expr}{scope:Scope}{pos:Pos}{it acc:Value}{env:Env} (I:Nat→Shared→Prop)
  (turn:∀ n s,I n s→wpAny (model prog w) A (pyNext it) (fun r s₁=>match r with
   | none=>R (.ok .next) s₁
   | some v=>wpAny (model prog w) A (letOwnedTupleGo target it v) (fun _ s₁'=>wpAny (model prog w) A (assign target env v) (fun _ s₂ =>
     wpAny (model prog w) A (forIn ifs true fun c r=>if r=true then do let ok ← isTrue c env (eval c env);pure (ForInStep.yield ok) else pure (ForInStep.yield r)) (fun ok s₃ =>
      if ok=true then wpAny (model prog w) A (eval elt env) (fun x s₄ =>
       wpAny (model prog w) A (call (.builtin "list.append") [acc,x]) (fun _ s₅=>∃ m,m<n∧I m s₅) (fun _ _=>False) s₄) (fun _ _=>False) s₃
      else ∃ m,m<n∧I m s₃) (fun _ _=>False) s₂) (fun _ _=>False) s₁') (fun _ _=>False) s₁) (fun _ _=>False) s)
  (n:Nat) (h:I n s) :
  codeAny (model prog w) A (.compLoop (.ListComp elt [⟨target,iter,ifs,0⟩] scope pos) 0 it acc env) R s:=by
 refine codeAny_loop rfl I (fun n s hI => ?_) n h
 show wpAny _ A ((compTurn (.ListComp elt [⟨target,iter,ifs,0⟩] scope pos) 0 it acc env).onRaise (fun x=>do noteFrame x env;theTreesLotGoes x)) _ _ s
 refine wpAny_noted ?_
 rw [compTurn_list]
 refine wpAny_noRaise ?_
 refine wpAny_bind (wpAny_standAt (wpAny_bind (wpAny_mono (turn n s hI) (fun r s₁ h₁ => ?_) fun _ _ h'=>h')))
 cases r with
 | none=>exact wpAny_pure h₁
 | some v =>
  refine wpAny_bind (wpAny_mono h₁ (fun _ s₁' h₁' => ?_) fun _ _ h'=>h')
  refine wpAny_bind (wpAny_mono h₁' (fun _ s₂ h₂=>wpAny_bind (wpAny_mono h₂ (fun ok s₃ h₃ => ?_) fun _ _ h'=>h')) fun _ _ h'=>h')
  cases ok with
  | false=>exact wpAny_pure ⟨rfl,h₃⟩
  | true =>
   exact wpAny_bind (wpAny_bind (wpAny_mono h₃ (fun x s₄ h₄=>wpAny_bind (wpAny_mono h₄ (fun _ s₅ h₅=>wpAny_pure (wpAny_pure ⟨rfl,h₅⟩)) fun _ _ h'=>h')) fun _ _ h'=>h'))
noncomputable def GV (X:Cx) (ifs:List Expr) (t:TT):Prop :=
 ∀ (pins:List (Addr×Obj)) (s:Shared) (σ:St) (H:Hp) (Q:Bool→Hp→Prop),Inv X pins σ H s→t σ H Q →
  wpAny (model X.prog X.w) X.A (forIn ifs true fun c r=>if r=true then do let ok ← isTrue c X.env (eval c X.env);pure (ForInStep.yield ok) else pure (ForInStep.yield r)) (TP X pins σ Q) X.xe s
noncomputable def EH:TT:=fun _ H Q=>Q true H
theorem bx {X:Cx}:GV X [] EH:=fun _ _ _ H _ I h=>wpAny_tests_nil ⟨H,I,h⟩
theorem fR {X:Cx}{c:Expr}{t:TT} (h:PT X c t):GV X [c] t:=fun pins s σ H Q I hw=>wpAny_tests_one (h pins s σ H Q I hw)
noncomputable def A5 (J:It) (g:TG) (tt:TT) (te:TE) (τ0:St) (H:Hp) (Qd:List V→Hp→Prop):Prop :=
 ∃ W:Nat→Nat→List V→St→Hp→Prop,(∃ m,W 0 m [] τ0 H)∧∀ i m xs τ H,W i m xs τ H →
  (J.stop i H∧Qd xs H)∨(J.go i H∧∃ M:List V→St→Hp→Prop,(∀ ys τ' H',M ys τ' H'→∃ m',m'<m∧W (i+1) m' ys τ' H')∧∀ x H',J.Az i H x H'→g x τ H' fun τ2 H2=>tt τ2 H2 fun b H3 =>
   if b=true then te τ2 H3 fun v H4=>xs.length<sizeLine∧M (xs++[v]) τ2 H4 else M xs τ2 H3)
section
variable {X:Cx}{pins:List (Addr×Obj)}{σ:List (Option V)}{s:Shared}
noncomputable abbrev lobj (its:List Value) (k:Nat):Obj:={ cls:=.type "list",data:=.seq its.toArray k }
theorem ue {elt tg iter:Expr}{ifs:List Expr}{scope:Scope}{N:List Str}{caps:List (Option Nat)}{pos:Pos}{g:TG}{tt:TT}{te:TE}{J:It}{fp:List Addr}{it:Addr}{tn:Nat→Heap→Prop}{H2:Hp}{s2:Shared}{Qd:List V→Hp→Prop}
  {E:Value→Shared→Prop}{RR:Value→Addr→Result→Shared→Prop}
  (S:cZ scope N) (hcap:iJ X.N X.env scope N caps=true) (hfree:∀ n,(n,NameKind.free)∈scope.names→∃ c,X.env.cells.lookup n=some c) (hc:X.calm=true)
  (hg:∀ s₀ H₀ C fp,PG (i6 X scope N s₀ H₀ C fp) tg g) (ht:∀ s₀ H₀ C fp,GV (i6 X scope N s₀ H₀ C fp) ifs tt) (he:∀ s₀ H₀ C fp,PE (i6 X scope N s₀ H₀ C fp) elt te)
  (I2:Inv X pins σ H2 s2) (T:Turn X.prog X.w X.K tg J fp it tn) (st2:tn 0 s2.heap) (f2:∀ b∈fp,kH X pins H2 b) (h:A5 J g tt te (oH caps σ) H2 Qd)
  (hRR:∀ (D C:Addr) m xs H3 (s4:Shared),Inv X pins σ (upd H3 D (.lst xs)) s4→H3 D=none→s4.heap.Ns C m→kH X pins (upd H3 D (.lst xs)) C→Qd xs H3→RR (.ref D) C (.ok .next) s4) :
  wpAny (model X.prog X.w) X.A (newList []) (fun acc s₃=>wpAny (model X.prog X.w) X.A (newFunctionEnv scope X.env.globals (jJ X.env scope.names []) [] X.env.qual none .none (some X.env)) (fun cenv s₄ =>
   codeAny (model X.prog X.w) X.A (.compStart (.ListComp elt [⟨tg,iter,ifs,0⟩] scope pos) 0 (.ref it) acc { cenv with scope:=relabel scope X.env }) (RR acc cenv.locals) s₄) E s₃) E s2:=by
 have hfl:∀ b∈fp,b<s2.heap.objs.size:=fun b hb=>by
  obtain ⟨o,e,_⟩:=T.obj 0 s2.heap st2 b hb
  exact zcD e
 refine wpAny_newObj_type (wpAny_newFunctionEnv S.Cm (by intro y hy;simp at hy) (fun h₁ hns hsb => ?_) S.kind)
 dsimp only at hns hsb ⊢
 generalize hHD:s2.heap.push { cls:=.type "list",dict:=none,data:=.seq ([]:List Value).toArray }=HD at hns hsb ⊢
 have hC:HD.objs.size=s2.heap.objs.size+1:=by rw [← hHD,zch]
 have hDC:s2.heap.objs.size≠HD.objs.size:=by rw [hC];exact zcu (Nat.lt_succ_self _)
 have JT:s2.heap.objs.size≤HD.objs.size:=by rw [hC];exact zcJ _
 have old:∀ b o,s2.heap.get? b=some o→h₁.get? b=some o:=fun b o e =>
  hsb.extBut b o (by rw [hC];exact zcu (zbr (zcD e))) (zas _ (hHD ▸ zas _ e))
 have hacc:h₁.get? s2.heap.objs.size=some (lobj [] 0):=hsb.extBut _ _ hDC (zas _ (hHD ▸ zaR _ rfl))
 obtain ⟨W,⟨m0,w0⟩,turn⟩:=h
 have IY0:=Inv.block (caps:=caps) (C:=HD.objs.size) (fp:=fp) (s1:=s2) (h1:=h₁) (tk:=s2.toks+([]:List (Str×Value)).length) S hcap hfree I2 f2 hfl JT old hns
 have freshD:H2 s2.heap.objs.size=none:=I2.hok.fresh (zcH _)
 have Hx:∀ {τ:St}{H':Hp}{s':Shared}{its:List Value}{k:Nat},Inv (i6 X scope N s2 H2 HD.objs.size fp) [] τ H' s'→H' s2.heap.objs.size=none→s'.heap.get? s2.heap.objs.size=some (lobj its k) →
   Inv (i6 X scope N s2 H2 HD.objs.size fp) [(s2.heap.objs.size,lobj its k)] τ H' s':=fun {τ H' s' its k} I hn e=>I.jt fun p hp=>by
  have ep:p=(s2.heap.objs.size,lobj its k):=by simpa using hp
  subst ep
  exact ⟨e,hn,hDC,fun z=>by
   rcases zci.mp (I2.mh _ z) with q | q
   ·exact absurd (q ▸ I2.lt) (zcn _)
   ·exact I2.L5 (zcH _) q,fun v z=>by cases z⟩
 have fY:∀ {H':Hp}{its:List Value}{k:Nat},(∀ b∈fp,H' b=none)→∀ b∈fp,kH (i6 X scope N s2 H2 HD.objs.size fp) [(s2.heap.objs.size,lobj its k)] H' b:=fun {H' its k} hn b hb=>by
  have z:=f2 b hb
  refine ⟨hn b hb,zcu (zaZ (hfl b hb) JT),fun q => ?_,.inl hb,fun x c e=>IY0.ok.OI b hb |>.2 x c e,fun p hp => ?_⟩
  ·rcases zci.mp (I2.mh b q) with q | q
   ·exact z.2.1 q
   ·exact z.2.2.1 q
  ·have ep:p=(s2.heap.objs.size,lobj its k):=by
    have:p∈[]++[(s2.heap.objs.size,lobj its k)]:=hp
    simpa using this
   subst ep
   exact zcw (hfl b hb)
 have fin:∀ {τ:St}{H3:Hp}{s4:Shared}{xs:List V}{its:List Value}{k:Nat},Inv (i6 X scope N s2 H2 HD.objs.size fp) [(s2.heap.objs.size,lobj its k)] τ H3 s4→Vals xs its→xs.length≤sizeLine→Qd xs H3 →
   RR (.ref s2.heap.objs.size) HD.objs.size (.ok .next) s4:=fun {τ H3 s4 xs its k} I r hz q=>by
  have hD:=I.pin (s2.heap.objs.size,lobj its k) (by show _∈[]++[_];simp)
  have IX:Inv X pins σ H3 s4:=I2.MJ (s':=s4) (ch:=fp) I.os I.base I.hok I.bare fun b hb=>⟨(f2 b hb).2.2.2.1,(f2 b hb).2.1,(f2 b hb).2.2.2.2.1,(f2 b hb).2.2.2.2.2⟩
  have fD:kH X pins H3 s2.heap.objs.size:=I2.tR (zcH _) hD.2.1
  have fC:kH X pins H3 HD.objs.size:=I2.tR JT I.free
  have IT:Inv X pins σ (upd H3 s2.heap.objs.size (.lst xs)) s4:=IX.wQ hD.2.1 I2.sz fD.2.1 (fun x c e=>fD.2.2.2.2.1 x c e) (fun p hp=>fD.2.2.2.2.2 p hp) ⟨hz,its,k,r,hD.1⟩
  obtain ⟨m,hn,_⟩:=I.loc
  exact hRR _ _ m xs H3 s4 IT hD.2.1 hn ⟨by rw [aA (Ne.symm hDC)];exact fC.1,fC.2⟩ q
 have loop:∀ s₃:Shared,s₃={ s2 with heap:=h₁,toks:=s2.toks+([]:List (Str×Value)).length } →
   codeAny (model X.prog X.w) X.A (.compLoop (.ListComp elt [⟨tg,iter,ifs,0⟩] scope pos) 0 (.ref it) (.ref s2.heap.objs.size) (compEnvC scope (jJ X.env scope.names []) HD.objs.size X.env)) (RR (.ref s2.heap.objs.size) HD.objs.size) s₃:=by
  rintro s₃ rfl
  refine gF (fun n s'=>∃ i xs its k τ H',Inv (i6 X scope N s2 H2 HD.objs.size fp) [(s2.heap.objs.size,lobj its k)] τ H' s'∧tn i s'.heap∧(∀ b∈fp,H' b=none)∧Vals xs its∧xs.length≤sizeLine∧W i n xs τ H') ?_ m0
   ⟨0,[],[],0,_,_,Hx IY0 freshD hacc,T.keep 0 _ _ st2 fun b _ o e=>old b o e,fun b hb=>(f2 b hb).1,.nil,zcI _,w0⟩
  rintro n s3 ⟨i,xs,its,k,τ,H3,I3,st3,fr3,r3,z3,w3⟩
  rcases turn i n xs τ H3 w3 with ⟨stop,qn⟩ | ⟨go,M,hM,step⟩
  ·refine wpAny_mono (T.done (i6 X scope N s2 H2 HD.objs.size fp) rfl rfl rfl hc i _ s3 τ H3 (fun _ _=>False) I3 (fY fr3) st3 stop) (fun r s4 ⟨hr,I4⟩ => ?_) fun _ _ z=>z
   subst hr
   exact fin I4 r3 z3 qn
  ·refine wpAny_mono (T.item (i6 X scope N s2 H2 HD.objs.size fp) rfl rfl rfl hc i _ s3 τ H3 (fun _ _=>False) I3 (fY fr3) st3 go) (fun r s4 ⟨u,hr,h4⟩ => ?_) fun _ _ z=>z
   subst hr
   refine wpAny_mono h4 (fun _ s5 ⟨x,H5,I5,r5,y5,st5,fr5⟩ => ?_) fun _ _ z=>z
   have I5':=I5.pinned (fY fr5) (T.obj _ _ st5)
   have HC:∀ {τ7:St}{H7:Hp}{s7:Shared},Inv (i6 X scope N s2 H2 HD.objs.size fp) ([(s2.heap.objs.size,lobj its k)]++m5 fp s5.heap) τ7 H7 s7→tn (i+1) s7.heap∧∀ b∈fp,H7 b=none:=fun {τ7 H7 s7} I7=>by
    refine ⟨T.keep _ _ _ st5 fun b hb o e=>(I7.pin (b,o) (zau _ (zau _ (fU hb e)))).1,fun b hb => ?_⟩
    obtain ⟨o,e,d⟩:=T.obj _ _ st5 b hb
    exact (I7.pin (b,o) (zau _ (zau _ (fU hb e)))).2.1
   refine wpAny_mono (hg _ _ _ _ _ s5 τ H5 x u _ I5' r5 (step x H5 y5)) (fun _ s6 ⟨τ6,H6,I6,q6⟩ => ?_) fun _ _ z=>z
   refine wpAny_mono (ht _ _ _ _ _ s6 τ6 H6 _ I6 q6) (fun ok s7 ⟨H7,I7,q7⟩ => ?_) fun _ _ z=>z
   cases ok with
   | false =>
    rw [if_neg zbb] at q7 ⊢
    obtain ⟨m',hm,w7⟩:=hM _ _ _ q7
    obtain ⟨a1,a2⟩:=HC I7
    exact ⟨m',hm,i+1,xs,its,k,τ6,H7,I7.gj,a1,a2,r3,z3,w7⟩
   | true =>
    rw [if_pos rfl] at q7 ⊢
    refine wpAny_mono (he _ _ _ _ _ s7 τ6 H7 _ I7 q7) (fun v s8 ⟨y,H8,I8,r8,q8⟩ => ?_) fun _ _ z=>z
    obtain ⟨hz,q8⟩:=q8
    obtain ⟨m',hm,w8⟩:=hM _ _ _ q8
    obtain ⟨a1,a2⟩:=HC I8
    have hD:=I8.pin (s2.heap.objs.size,lobj its k) (zau _ (zaD _ (by simp)))
    have hlen:=r3.length
    refine wpAny_list_append_plain (items:=its.toArray) ⟨k,hD.1⟩ (fun h' hp hs => ?_) (by rw [zbf];omega)
    obtain ⟨k',hp⟩:=hp
    have I9:Inv (i6 X scope N s2 H2 HD.objs.size fp) [] τ6 H8 { s8 with heap:=h' } :=
     (I8.jt (pins':=[]) (by simp)).turned (t':=s8.toks) (it:=s2.heap.objs.size) (fun b o hb e=>(hs.2 b hb).trans e) hD.2.1 hD.2.2.1 (.inr (zcH _))
      (fun x c e z=>by
       have q:=IY0.cell x c e
       obtain ⟨v,o,ho,hd⟩:=I8.cell x c e
       have e1:s8.heap.get? s2.heap.objs.size=some (lobj its k):=hD.1
       rw [z,e1] at ho
       cases ho
       cases hd) (by intro p hp;exact absurd (show p∈([]:List (Addr×Obj))++[] from hp) (by simp))
    have hp':({ s8 with heap:=h' }:Shared).heap.get? s2.heap.objs.size=some (lobj (its++[v]) k'):=by
     show h'.get? _=_
     rw [hp];simp
    have hkt:tn (i+1) h':=T.keep _ _ _ a1 fun b hb o e=>(hs.2 b (zcu (hfl b hb))).trans e
    refine ⟨m',hm,i+1,xs++[y],its++[v],k',τ6,H8,Hx I9 hD.2.1 hp',hkt,a2,r3.append (.cons r8 .nil),?_,w8⟩
    rw [zaU]
    exact hz
 exact codeAny_compStart_list (loop _ rfl) (T.self X.A 0 _ _ _ (T.keep 0 _ _ st2 fun b _ o e=>old b o e) (loop _ rfl))
noncomputable def freeOk (env:Env) (scope:Scope):Bool:=scope.names.all fun p=>p.2 != .free||env.scope.names.lookup p.1==some .cell||env.scope.names.lookup p.1==some .free
theorem Inv.freeOk {H:Hp}{scope:Scope} (I:Inv X pins σ H s) (h:freeOk X.env scope=true):∀ n,(n,NameKind.free)∈scope.names→∃ c,X.env.cells.lookup n=some c:=fun n hn=>by
 have q:=zbB.mp h _ hn
 simp only [Bool.or_eq_true,beq_iff_eq,bne_iff_ne] at q
 refine I.ok.has n ?_
 rcases q with (q | q) | q
 ·exact absurd rfl q
 ·exact .inl q
 ·exact .inr q
noncomputable def rR (caps:List (Option Nat)) (wi:TI) (g:TG) (tt:TT) (te:TE):TE:=fun σ H Q=>wi σ H fun J H1=>A5 J g tt te (oH caps σ) H1 fun xs H3=>∀ p,H3 p=none→Q (.ref p) (upd H3 p (.lst xs))
theorem b6 {elt tg iter:Expr}{ifs:List Expr}{scope:Scope}{N:List Str}{caps:List (Option Nat)}{pos:Pos}{wi:TI}{g:TG}{tt:TT}{te:TE}
  (S:cZ scope N) (hcap:iJ X.N X.env scope N caps=true) (hfr:L2.freeOk X.env scope=true) (hc:X.calm=true) (hi:PI X tg iter wi)
  (hg:∀ s₀ H₀ C fp,PG (i6 X scope N s₀ H₀ C fp) tg g) (ht:∀ s₀ H₀ C fp,GV (i6 X scope N s₀ H₀ C fp) ifs tt) (he:∀ s₀ H₀ C fp,PE (i6 X scope N s₀ H₀ C fp) elt te)
  (hs:∀ x,foldedSetIterable iter X.env x=pure x:=by intro _;rfl):PE X (.ListComp elt [⟨tg,iter,ifs,0⟩] scope pos) (rR caps wi g tt te):=by
 intro pins s σ H Q I h
 rw [eval_ListComp]
 refine wpAny_comprehension_free (use:=none) rfl hs (iI (I.freeOk hfr)) S.kind (fun x hx hl=>hl ▸ S.names x hx) ?_
 refine cA (hi pins s σ H _ I h) fun v s1 h1=>cA h1 fun itv s2 h2 => ?_
 obtain ⟨it,fp,tn,J,H2,rfl,I2,T,st2,f2,hl⟩:=h2
 refine ue (RR:=fun acc C=>compPost (model X.prog X.w) X.A X.xe none (EP X pins σ Q) acc C) S hcap (I.freeOk hfr) hc hg ht he I2 T st2 f2 hl ?_
 intro D C m xs H3 s4 IT hD hn fC q
 refine ⟨m,hn,fun h' sb=>⟨.ref D,_,?_,rfl,q D hD⟩⟩
 exact IT.turned (t':=s4.toks) (it:=C) (fun b o hb e=>(sb.2 b hb).trans e) fC.1 fC.2.1 fC.2.2.2.1 fC.2.2.2.2.1 fC.2.2.2.2.2
theorem aU {elt tg iter:Expr}{ifs:List Expr}{scope:Scope}{N:List Str}{caps:List (Option Nat)}{pos pos' spos:Pos}{wi:TI}{g:TG}{tt:TT}{te:TE}{i:Nat}{x:Str}
  (hN:X.N.Nodup) (hix:X.N[i]? = some x) (hx:X.env.scope.names.lookup x=some .local)
  (S:cZ scope N) (hcap:iJ X.N X.env scope N caps=true) (hfr:L2.freeOk X.env scope=true) (hc:X.calm=true) (hi:PI X tg iter wi)
  (hg:∀ s₀ H₀ C fp,PG (i6 X scope N s₀ H₀ C fp) tg g) (ht:∀ s₀ H₀ C fp,GV (i6 X scope N s₀ H₀ C fp) ifs tt) (he:∀ s₀ H₀ C fp,PE (i6 X scope N s₀ H₀ C fp) elt te)
  (hsw:swapsWith (.ListComp elt [⟨tg,iter,ifs,0⟩] scope pos) (some (.Name x pos')) spos.line X.env=pure true:=by rfl)
  (hs:∀ x,foldedSetIterable iter X.env x=pure x:=by intro _;rfl):PS X (.Assign [.Name x pos'] (.ListComp elt [⟨tg,iter,ifs,0⟩] scope pos) spos) (zq (rR caps wi g tt te) (kM i)):=by
 intro pins s σ H D I h
 rw [exec_Assign_Name_used _ _ _ _ hsw]
 refine wpAny_bind (wpAny_standAt (wpAny_bind ?_))
 show wpAny _ X.A (do let _ ← comprehension (.ListComp elt [⟨tg,iter,ifs,0⟩] scope pos) scope X.env _ (newList []) false (eval iter X.env) (some (assign (.Name x pos') X.env))) _ _ s
 refine wpAny_bind (wpAny_mono (wpAny_comprehension_free (use:=some (assign (.Name x pos') X.env)) (Q:=fun _ s'=>SP X pins D .next s') rfl hs (iI (I.freeOk hfr)) S.kind (fun x hx hl=>hl ▸ S.names x hx)
  (cA (hi pins s σ H _ I h) fun v s1 h1=>cA h1 fun itv s2 h2 => ?_)) (fun _ s' hq=>wpAny_pure (wpAny_pure hq)) fun _ _ e=>e)
 obtain ⟨it,fp,tn,J,H2,rfl,I2,T,st2,f2,hl⟩:=h2
 refine ue (RR:=fun acc C=>compPost (model X.prog X.w) X.A X.xe (some (assign (.Name x pos') X.env)) (fun _ s'=>SP X pins D .next s') acc C) S hcap (I.freeOk hfr) hc hg ht he I2 T st2 f2 hl ?_
 intro Dl C m xs H3 s4 IT hD hn fC q
 show wpAny _ X.A (assign (.Name x pos') X.env (.ref Dl)) _ _ _
 obtain ⟨oC,es,ep,hoC,hdC,rC⟩:=id hn
 have IP:Inv X (pins++[(C,oC)]) σ (upd H3 Dl (.lst xs)) s4:=IT.jt fun p hp=>(zbO.mp hp).elim (fun z=>IT.pin p (zau _ z)) fun z=>by
  have e:p=(C,oC):=by simpa using z
  subst e
  exact ⟨hoC,fC.1,fC.2.1,fC.2.2.1,fun v z=>by rw [hdC] at z;cases z⟩
 refine wpAny_assign_Name (l8 (v:=.ref Dl) IP hN hix (.inl hx) rfl (fun s5 I5 => ?_) (.inr hx))
 have hC5:=I5.pin (C,oC) (zau _ (zau _ (by simp)))
 refine ⟨m,⟨oC,es,ep,hC5.1,hdC,rC⟩,fun h' sb=>⟨_,_,?_,q Dl hD⟩⟩
 exact I5.gj.turned (t':=s5.toks) (it:=C) (fun b o hb e=>(sb.2 b hb).trans e) fC.1 fC.2.1 fC.2.2.2.1 fC.2.2.2.2.1 fC.2.2.2.2.2
end
theorem nj {lo:Int}{n:Nat}{g:TG}{tt:TT}{te:TE}{τ0:St}{H:Hp}{Qd:List V→Hp→Prop} (Pv:Nat→List V→St→Hp→Prop) (h0:Pv 0 [] τ0 H)
  (hs:∀ i xs τ H,i<n→Pv i xs τ H→g (.int (lo+i)) τ H fun τ2 H2=>tt τ2 H2 fun b H3=>if b=true then te τ2 H3 fun v H4=>xs.length<sizeLine∧Pv (i+1) (xs++[v]) τ2 H4 else Pv (i+1) xs τ2 H3)
  (hd:∀ xs τ H,Pv n xs τ H→Qd xs H):A5 (KY lo n) g tt te τ0 H Qd:=by
 refine ⟨fun i m xs τ H=>m=n - i∧i≤n∧Pv i xs τ H,⟨n,by simp,zcI _,h0⟩,?_⟩
 rintro i m xs τ H ⟨rfl,hi,p⟩
 by_cases hlt:i<n
 ·refine .inr ⟨hlt,Pv (i+1),fun ys τ' H' p'=>⟨n - (i+1),by omega,rfl,hlt,p'⟩,fun x H' y => ?_⟩
  obtain ⟨e,y⟩:=y
  subst e y
  exact hs i xs τ _ hlt p
 ·have e:i=n:=by omega
  subst e
  exact .inl ⟨zcH _,hd xs τ H p⟩
noncomputable def NH (x:Str):It:=⟨fun i _=>i<x.cps.size,fun i H v H'=>H'=H∧∃ c,x.cps[i]? = some c∧v = .str ⟨#[c]⟩,fun i _=>i=x.cps.size⟩
theorem oM {prog:Program}{w:World}{A:Around} (hh:A.handled=none) (I:Addr) (x:Str) (t:Tok):Walks prog w A I [I] [I] x.cps.size (SignAt x) (fun i h=>h.IsStrIter I (strIterType x) x t i):=by
 unfold strIterType
 split
 ·exact Walks.strAscii hh I x t
 ·exact Walks.strWide hh I x t
theorem AV {P:Program}{w:World}{K:PySem.W.Frag}{tg:Expr} (it:Addr) (x:Str) (t:Tok):Turn P w K tg (NH x) [it] it (fun i h=>h.IsStrIter it (strIterType x) x t i) where
 mem:=by simp
 obj:=fun i h st b hb=>by
  have e:b=it:=by simpa using hb
  subst e
  obtain ⟨o,e,c,d⟩:=st
  exact ⟨o,e,fun v z=>by rw [d] at z;cases z⟩
 keep:=fun i h h' st k=>let ⟨o,ho,r⟩:=st;⟨o,k it (by simp) o ho,r⟩
 item:=by
  intro X hP hw hK hc i pins s σ H E I hf st hg
  subst hP hw hK
  obtain ⟨f0,f1,f2,f3,f4,f5⟩:=hf it (by simp)
  have W:=oM (prog:=X.prog) (w:=X.w) (I.ok.hd hc) it x t
  refine W.item i s _ _ hg st fun v h' tk hv st' kk => ?_
  obtain ⟨c,u,hcx,rfl⟩:=hv
  have I1:Inv X pins σ H { s with heap:=h',toks:=tk }:=I.turned (fun b o hb e=>kk b o (by simpa using hb) e) f0 f1 f3 f4 f5
  obtain ⟨o,ho,hcl,hda⟩:=id st'
  refine ⟨_,rfl,yu (s:={ s with heap:=h',toks:=tk }) ho hcl hda (by unfold strIterType;split <;> decide) ⟨.str ⟨#[c]⟩,H,I1,⟨u,rfl⟩,⟨rfl,c,hcx,rfl⟩,st',fun b hb=>(hf b hb).1⟩⟩
 done:=by
  intro X hP hw hK hc i pins s σ H E I hf st hg
  subst hP hw hK
  obtain ⟨f0,f1,f2,f3,f4,f5⟩:=hf it (by simp)
  have W:=oM (prog:=X.prog) (w:=X.w) (I.ok.hd hc) it x t
  have e:i=x.cps.size:=hg
  subst e
  exact W.done s _ _ st fun h' tk kk=>⟨rfl,I.turned (t':=tk) (fun b o hb e=>kk b o (by simpa using hb) e) f0 f1 f3 f4 f5⟩
 self:=fun A i s Q E st h=>by
  have st:s.heap.IsStrIter it (strIterType x) x t i:=st
  unfold strIterType at st
  split at st
  ·exact wpAny_pyIter_striter_ascii st h
  ·exact wpAny_pyIter_striter_wide st h
mutual
noncomputable def bE (K:PySem.W.Frag) (H:Hp):PyData→V→Prop
 | .none,v=>v = .bH
 | .bool b,v=>v = .bl b
 | .int i,v=>v = .int i
 | .str x,v=>v = .str x
 | .list ds,v=>∃ a xs,v = .ref a∧b9 K H a xs∧c9 K H ds xs
 | .tuple ds,v=>∃ a xs,v = .ref a∧eg K H a xs∧c9 K H ds xs
 | .dict _,_=>False
noncomputable def c9 (K:PySem.W.Frag) (H:Hp):List PyData→List V→Prop
 | [],xs=>xs=[]
 | d::ds,xs=>∃ x r,xs=x::r∧bE K H d x∧c9 K H ds r
end
theorem eg.same {K:PySem.W.Frag}{H H':Hp}{a:Addr}{xs:List V} (e:∀ b o,H b=some o→H' b=some o) (h:eg K H a xs):eg K H' a xs:=by
 rcases h with (h | ⟨o,h⟩) | h
 ·exact .inl (.inl (e _ _ h))
 ·exact .inl (.inr ⟨o,e _ _ h⟩)
 ·exact .inr h
mutual
theorem bE.noDict {K:PySem.W.Frag}{H:Hp}:∀ (d:PyData) (v:V),bE K H d v→d.hasDict=false
 | .none,_,_=>rfl
 | .bool _,_,_=>rfl
 | .int _,_,_=>rfl
 | .str _,_,_=>rfl
 | .list ds,v,h=>by
  simp only [bE] at h
  obtain ⟨a,xs,_,_,h3⟩:=h
  simp only [PyData.hasDict]
  exact c9.noDict ds xs h3
 | .tuple ds,v,h=>by
  simp only [bE] at h
  obtain ⟨a,xs,_,_,h3⟩:=h
  simp only [PyData.hasDict]
  exact c9.noDict ds xs h3
 | .dict _,_,h=>by simp only [bE] at h
theorem c9.noDict {K:PySem.W.Frag}{H:Hp}:∀ (ds:List PyData) (xs:List V),c9 K H ds xs→PyData.hasDictAll ds=false
 | [],_,_=>rfl
 | d::ds,xs,h=>by
  simp only [c9] at h
  obtain ⟨x,r,_,h2,h3⟩:=h
  simp only [PyData.hasDictAll,bE.noDict d x h2,c9.noDict ds r h3,Bool.or_false]
end
section
variable {X:Cx}{pins:List (Addr×Obj)}{σ:St}{H:Hp}{s:Shared}
mutual
theorem Inv.reads (I:Inv X pins σ H s):∀ (d:PyData) (v:V) (u:Value),bE X.K H d v→RelV v u→∃ as,Reads s.heap u d as
 | .none,v,u,h,r=>by
  simp only [bE] at h
  subst h
  cases r
  exact ⟨_,.none⟩
 | .bool b,v,u,h,r=>by
  simp only [bE] at h
  subst h
  cases r
  exact ⟨_,.bool b⟩
 | .int i,v,u,h,r=>by
  simp only [bE] at h
  subst h
  obtain ⟨t,rfl⟩:=r
  exact ⟨_,.int i t⟩
 | .str x,v,u,h,r=>by
  simp only [bE] at h
  subst h
  obtain ⟨t,rfl⟩:=r
  exact ⟨_,.str x t⟩
 | .list ds,v,u,h,r=>by
  simp only [bE] at h
  obtain ⟨a,xs,rfl,h2,h3⟩:=h
  cases r
  obtain ⟨its,rv,⟨o,n,e,hc,_,hd⟩,_⟩:=I.list h2
  obtain ⟨as,q⟩:=Inv.readsAll I ds xs its h3 rv
  exact ⟨_,.list e hc hd (by simpa using q)⟩
 | .tuple ds,v,u,h,r=>by
  simp only [bE] at h
  obtain ⟨a,xs,rfl,h2,h3⟩:=h
  cases r
  obtain ⟨its,rv,⟨o,e,hc,n,hd⟩,_⟩:=I.tuple h2
  obtain ⟨as,q⟩:=Inv.readsAll I ds xs its h3 rv
  exact ⟨_,.tuple e hc hd (by simpa using q)⟩
 | .dict _,_,_,h,_=>by simp only [bE] at h
theorem Inv.readsAll (I:Inv X pins σ H s):∀ (ds:List PyData) (xs:List V) (us:List Value),c9 X.K H ds xs→Vals xs us→∃ as,ReadsAll s.heap us ds as
 | [],xs,us,h,r=>by
  simp only [c9] at h
  subst h
  cases r
  exact ⟨_,.nil⟩
 | d::ds,xs,us,h,r=>by
  simp only [c9] at h
  obtain ⟨x,rr,rfl,h2,h3⟩:=h
  cases r with
  | cons r1 r2 =>
   obtain ⟨as,q1⟩:=Inv.reads I d x _ h2 r1
   obtain ⟨bs,q2⟩:=Inv.readsAll I ds rr _ h3 r2
   exact ⟨_,.cons q1 q2⟩
end
noncomputable def LG (K:PySem.W.Frag):List V→Hp→VK→Prop:=fun xs H Q=>∃ x d,xs=[x]∧bE K H d x∧d.showable=true∧d.depth≤100∧d.shown.length≤sizeLine∧Q (.str d.shown) H
theorem Af {k:Nat} (hr:aS k X.A):bS X (.builtin "repr") (LG X.K):=by
 intro pins s σ H xs us Q I r h
 obtain ⟨x,d,rfl,hd,hs,hdp,hz,q⟩:=h
 obtain ⟨u,rfl,rx⟩:=vals1 r
 have big:∀ a,u = .ref a→wpAny (model X.prog X.w) X.A (call (.builtin "repr") [u]) (EP X pins σ Q) X.xe s:=fun a e=>by
  subst e
  obtain ⟨as,rd⟩:=I.reads d x _ hd rx
  refine repr_of_reads' rd hs (fun z => ?_) hr.gd (by have:=hr.un;omega) (fun b o e=>e) (fun h' u tk hk => ?_) hz
  ·rw [bE.noDict d x hd] at z;cases z
  ·exact ⟨.str d.shown,H,I.kept (t':=tk) hk,⟨_,rfl⟩,q⟩
 cases d with
 | none=>simp only [bE] at hd;subst hd;cases rx;exact PySem.P.repr_of_none ⟨.str _,H,I.tok _,⟨_,rfl⟩,q⟩
 | bool b=>simp only [bE] at hd;subst hd;cases rx;exact PySem.P.repr_of_bool ⟨.str _,H,I.tok _,⟨_,rfl⟩,by simpa only [PyData.shown] using q⟩
 | int i =>
  simp only [bE] at hd
  subst hd
  obtain ⟨t,rfl⟩:=rx
  exact PySem.P.repr_of_int (by simpa [PyData.showable] using hs) ⟨.str _,H,I.tok _,⟨_,rfl⟩,by simpa only [PyData.shown] using q⟩
 | str y =>
  simp only [bE] at hd
  subst hd
  obtain ⟨t,rfl⟩:=rx
  exact PySem.P.repr_of_str ⟨.str _,H,I.tok _,⟨_,rfl⟩,by simpa only [PyData.shown] using q⟩ (by simpa only [PyData.shown] using hz)
 | list ds =>
  simp only [bE] at hd
  obtain ⟨a,xs,rfl,_⟩:=hd
  exact big a rx
 | tuple ds =>
  simp only [bE] at hd
  obtain ⟨a,xs,rfl,_⟩:=hd
  exact big a rx
 | dict _=>simp only [bE] at hd
noncomputable def Oi (K:PySem.W.Frag):List V→Hp→VK→Prop:=fun xs H Q=>∃ x c t u b,xs=[x,c]∧RelV c u∧(∀ u',RelV c u'→u'=u)∧jL K H x t∧PySem.W.kitOne K t u=some b∧Q (.bl b) H
theorem Ds:bS X (.builtin "isinstance") (Oi X.K):=by
 intro pins s σ H xs us Q I r h
 obtain ⟨x,c,t,u,b,rfl,rc,uc,ty,e,q⟩:=h
 obtain ⟨v,w',rfl,rx,rw'⟩:=vals2 r
 cases uc w' rw'
 exact zX I rx ty e fun tk=>⟨.bl b,H,I.tok tk,rfl,q⟩
theorem Hl {n:String}:RelV (.ty n) (.type n)∧∀ u',RelV (.ty n) u'→u' = .type n:=⟨rfl,fun u' h=>h⟩
theorem Dv:∀ {bs:List Bool}{its:List Value},Vals (bs.map V.bl) its→its=bs.map Value.bool
 | [],_,.nil=>rfl
 | b::bs,_,.cons r t=>by rw [zcj,Dv t,show _=Value.bool b from r]
theorem all_range (bs:List Bool):(zcM bs.length).all (fun i=>bs.getD i true)=bs.all id:=by
 induction bs with
 | nil=>rfl
 | cons b r ih =>
  rw [zbx,List.range_succ_eq_map,zcl,List.all_map,zcl]
  have e:((fun i=>(b::r).getD i true) ∘ Nat.succ)=fun i=>r.getD i true:=by funext i;simp
  rw [e,ih]
  simp
theorem Gu {E:Value→Shared→Prop}{A:Around}{Q:Value→Shared→Prop}{l:Addr}{its:Array Value} (hl:s.heap.IsList l its)
  (h:∀ s₂:Shared,s₂={ s with heap:=s.heap.push { cls:=.type "list_iterator",data:=.fields #[.ref l,.int 0 0] } } →
   (s₂.heap.IsListIter s.heap.objs.size l 0∧s₂.heap.IsList l its)→l≠s.heap.objs.size→Q (.ref s.heap.objs.size) s₂) :
  wpAny (model X.prog X.w) A (pyIter (.ref l)) Q E s:=by
 have hlt:l<s.heap.objs.size:=by obtain ⟨_,e,_⟩:=hl;exact zcD e
 exact wpAny_pyIter_list hl (h _ rfl ⟨⟨_,zaR _ rfl,rfl,rfl⟩,hl.push _⟩ (zcu hlt))
theorem Dt (hc:X.calm=true):bS X (.builtin "all") (fun xs H Q=>∃ (a:Addr) (bs:List Bool),xs=[.ref a]∧b9 X.K H a (bs.map V.bl)∧Q (.bl (bs.all id)) H):=by
 intro pins s σ H xs us Q I r h
 obtain ⟨a,bs,rfl,ha,q⟩:=h
 obtain ⟨u,rfl,ru⟩:=vals1 r
 cases ru
 obtain ⟨its,rv,pl,hz⟩:=I.list ha
 have eb:=Dv rv
 subst eb
 refine call_all_walk (Gu pl.isList fun s₂ e st hne => ?_)
 subst e
 refine ⟨_,_,_,_,_,_,fun i=>bs.getD i true,rfl,Walks.list (A:=X.A.in1) (I.ok.hd hc) _ a hne _,st,fun i v s Q' E' hP hQ => ?_,fun h' tk hk => ?_⟩
 ·have hP:(bs.map Value.bool).toArray[i]? = some v:=hP
  rw [List.getElem?_toArray,zbh] at hP
  cases hb:bs[i]? with
  | none=>rw [hb] at hP;cases hP
  | some b =>
   rw [hb] at hP
   cases hP
   refine wpAny_truthy_bool ?_
   have:bs.getD i true=b:=by rw [zac,hb];rfl
   have hQ:Q' (bs.getD i true) s:=hQ
   rw [this] at hQ
   exact hQ
 ·refine ⟨.bl (bs.all id),H,I.kept (t':=tk) fun b o e=>hk b o (by simp;intro z;exact absurd (z ▸ zcD e) (zcn _)) (zas _ e),?_,q⟩
  rw [← all_range bs]
  show _=_
  simp
theorem zJ:fj X (compareOp .LtE) (fun x y H Q=>∃ i j,x = .str i∧y = .str j∧Q (.bl (!decide (j.cps.toList<i.cps.toList))) H):=by
 intro pins s σ H x y v u Q I rx ry h
 obtain ⟨i,j,rfl,rfl,q⟩:=h
 obtain ⟨t,rfl⟩:=rx
 obtain ⟨t',rfl⟩:=ry
 exact PySem.P.le_str (aR I q rfl)
theorem vt:fj X (binaryOp .Mult) (fun x y H Q=>∃ i n,x = .str i∧y = .int n∧MulOk i n∧Q (.str (Txt.mul i n)) H):=by
 intro pins s σ H x y v u Q I rx ry h
 obtain ⟨i,n,rfl,rfl,hk,q⟩:=h
 obtain ⟨t,rfl⟩:=rx
 obtain ⟨t',rfl⟩:=ry
 exact SB.mul hk fun t' k=>⟨.str _,H,I.tok _,⟨_,rfl⟩,q⟩
theorem ql:AL X (fun x lo hi H Q=>∃ y,x = .str y∧y.length≤sizeLine∧Q (.str (Txt.slice y lo hi)) H):=by
 intro pins s σ H x v vl vu lo hi sl Q I rx hs pl pu h
 obtain ⟨y,rfl,hz,q⟩:=h
 obtain ⟨t,rfl⟩:=rx
 have fin:∀ (l u:Option (Int×Tok)),vl=partValue l→vu=partValue u→lo=l.map (·.1)→hi=u.map (·.1)→wpAny (model X.prog X.w) X.A (getItem (.str y t) (.ref sl)) (EP X pins σ Q) X.xe s:=fun l u e1 e2 e3 e4=>by
  obtain ⟨o,ho,hc,hd⟩:=hs
  refine wpAny_getItem_str_slice (l:=l) (u:=u) (st:=none) ⟨o,ho,hc,by rw [hd,e1,e2];rfl⟩ rfl ?_
  subst e3 e4
  exact post_val_or_str ⟨zcv (Txt.slice_le y _ _) hz,fun t' k=>⟨.str _,H,I.tok _,⟨_,rfl⟩,q⟩⟩
 refine ⟨"str",_,PySem.F.slot_str_getitem.lookup,typeIs_str _ _ _,?_⟩
 cases pl with
 | none =>
  cases pu with
  | none=>exact fin none none rfl rfl rfl rfl
  | int j tj=>exact fin none (some (j,tj)) rfl rfl rfl rfl
 | int i ti =>
  cases pu with
  | none=>exact fin (some (i,ti)) none rfl rfl rfl rfl
  | int j tj=>exact fin (some (i,ti)) (some (j,tj)) rfl rfl rfl rfl
theorem jc:∀ {ys:List Str}{its:List Value},Vals (ys.map V.str) its→StrsAre its ys
 | [],_,.nil=>.nil
 | y::ys,_,.cons r t=>by
  obtain ⟨tk,e⟩:=(show ∃ t,_=Value.str y t from r)
  subst e
  exact .cons y tk (jc t)
theorem yd:wD X "str.join" (fun x vs H Q=>∃ (y:Str) (a:Addr) (ys:List Str),x = .str y∧vs=[.ref a]∧b9 X.K H a (ys.map V.str)∧(ys.map (·.length)).sum+ys.length*y.length≤16777216∧Q (.str (Txt.join y ys)) H):=by
 intro pins s σ H x vs v us Q I rx rv h
 obtain ⟨y,a,ys,rfl,rfl,ha,hz,q⟩:=h
 obtain ⟨t,rfl⟩:=rx
 obtain ⟨u,rfl,ru⟩:=vals1 rv
 cases ru
 obtain ⟨its,r,pl,_⟩:=I.list ha
 exact join_list pl.isList (by simpa using jc r) hz fun t' k=>⟨.str _,H,I.tok _,⟨_,rfl⟩,q⟩
end
noncomputable def notStar:Expr→Bool
 | .Starred _ _=>false
 | _=>true
theorem bf {e:Expr} (es:List Expr) (env:Env) (h:notStar e=true):starEach (e::es) env=(false,eval e env)::starEach es env:=by
 cases e <;> first | rfl | cases h
theorem fm {pos:Pos}{env:Env}:∀ (es:List Expr),es.all notStar=true→(backTo pos (starEach es env)).any (·.1)=false
 | [],_=>rfl
 | e::es,h=>by
  rw [zcl,zbJ] at h
  rw [bf es env h.1]
  show (false||(backTo pos (starEach es env)).any (·.1))=false
  rw [fm es h.2];rfl
theorem rV {pos:Pos}{env:Env}:∀ (es:List Expr),es.all notStar=true→(backTo pos (starEach es env)).all (fun x => !x.1)=true
 | [],_=>rfl
 | e::es,h=>by
  rw [zcl,zbJ] at h
  rw [bf es env h.1]
  show (true&&(backTo pos (starEach es env)).all (fun x => !x.1))=true
  rw [rV es h.2];rfl
section
variable {X:Cx}{e:Expr}{es:List Expr}{te:TE}{t:TA}{x:Str}{p pos:Pos}{id T:String}{r:List V→Hp→VK→Prop}
theorem ao (ha:PE X e te) (hr:PA X es t) (hs:notStar e=true:=by rfl):PA X (e::es) (wW te t):=Fv ha hr (bf es X.env hs)
theorem eX (hc:bS X (.builtin id) r) (hg:Gl X x) (hm:X.mg x=none) (hv:bootBuiltins x=some (.builtin id)) (ha:PA X (e::es) t) (hn:x ≠ "__name__" := by decide +kernel) (hdb:(x==("__debug__" : Str))=false:=by decide +kernel)
  (hs:(e::es).all notStar=true:=by rfl):PE X (.Call (.Name x p) (e::es) [] pos) (K5 r t):=by
 have h2:=hs
 rw [zcl,zbJ] at h2
 exact Ca hc hg hm hv ha hn hdb (bf es X.env h2.1) (fm es h2.2)
theorem qL (hc:bS X (.type T) r) (hg:Gl X x) (hm:X.mg x=none) (hv:bootBuiltins x=some (.type T)) (ha:PA X (e::es) t) (hn:x ≠ "__name__" := by decide +kernel) (hdb:(x==("__debug__" : Str))=false:=by decide +kernel)
  (hs:(e::es).all notStar=true:=by rfl):PE X (.Call (.Name x p) (e::es) [] pos) (K5 r t):=by
 have h2:=hs
 rw [zcl,zbJ] at h2
 exact zF hc hg hm hv ha hn hdb (bf es X.env h2.1) (fm es h2.2)
end
structure Src (K:PySem.W.Frag) (mg:Str→Option Value) (x:Str) (ps:List Str) (st:Stmt):Prop where
 ex:∃ f fd,Ey K x x st f fd∧mg x=some (.ref f)∧Binds K fd ps []
structure Def (P:Program) (w:World) (K:PySem.W.Frag) (mg:Str→Option Value) (base:Heap) (k:Nat) (x:Str) (ps:List Str) (sp:Sp):Prop where
 ex:∃ f fd,dO P w K mg base kQ k f fd ps sp∧mg x=some (.ref f)∧zcf K (.ref f)=true∧Binds K fd ps []
section
variable {P:Program}{w:World}{K:PySem.W.Frag}{mg:Str→Option Value}{base:Heap}
theorem Src.def {x:Str}{st:Stmt}{N ps:List Str}{k:Nat}{sp:Sp} (F:Src K mg x ps st) (S:az N ps (ai st)) (len:∀ vs H Q E,sp vs H Q E→vs.length=ps.length)
  (hbody:∀ (f:Addr) (cdv:Value) (A:Around) (outer:List Env) (s:Shared) (H:Hp) (vs:List V) (Q:VK) (E:XK),aS k (A.deeper (envOfC x (ai st) s.heap.objs.size f cdv))→sp vs H Q E →
   ∃ t,rM (kE kQ P w K mg base N x (ai st) f cdv A outer s H E).Eu (bB st) t∧t { nx:=fun _ H'=>Q .bH H',rt:=Q } (start N vs) H):Def P w K mg base (k+1) x ps sp:=by
 obtain ⟨f,fd,F,hm,hb⟩:=F.ex
 exact ⟨f,fd,F.ok S len (hbody f),hm,F.kp,hb⟩
end
theorem Def.imp {P:Program}{w:World}{K:PySem.W.Frag}{mg:Str→Option Value}{base:Heap}{k:Nat}{x:Str}{ps:List Str}{sp sp':Sp} (D:Def P w K mg base k x ps sp) (h:∀ vs H Q E,sp' vs H Q E→sp vs H Q E):Def P w K mg base k x ps sp':=by
 obtain ⟨f,fd,F,hm,hk,hb⟩:=D.ex
 exact ⟨f,fd,F.imp h,hm,hk,hb⟩
section
variable {X:Cx}{e:Expr}{es:List Expr}{t:TA}{x:Str}{p pos:Pos}{k:Nat}{ps:List Str}{sp:Sp}
theorem aJ (D:Def X.prog X.w X.K X.mg X.base k x ps sp) (hr:aS k X.A) (hg:Gl X x) (hx:Passes kQ X E0) (ha:PA X (e::es) t) (hdb:(x==("__debug__" : Str))=false:=by decide +kernel) (hs:(e::es).all notStar=true:=by rfl) :
  PE X (.Call (.Name x p) (e::es) [] pos) (wX sp [] E0 t):=by
 obtain ⟨f,fd,F,hm,hk,hb⟩:=D.ex
 have h2:=hs
 rw [zcl,zbJ] at h2
 exact Fq F hr hg hm hk hb .nil hx ha hdb (bf es X.env h2.1) (fm es h2.2)
theorem B9 (T:String) (hg:Gl X x) (hm:X.mg x=none) (hv:bootBuiltins x=some (.type T)) (hn:x ≠ "__name__" := by decide +kernel) (hd:(x==("__debug__" : Str))=false:=by decide +kernel):PE X (.Name x pos) (tC (.ty T)) :=
 Ft hg hm hv rfl hn hd
end
noncomputable def MP (scope:Scope) (N:List Str):Bool :=
 (match scope.kind with | .function=>true | _=>false)&&decide N.Nodup&&scope.names.all fun y=>y.2 != .cell&&scope.names.lookup y.1==some y.2
theorem cM {scope:Scope}{N:List Str} (h:MP scope N=true):cZ scope N:=by
 unfold MP at h
 rw [zbJ,zbJ] at h
 obtain ⟨⟨h1,h2⟩,h3⟩:=h
 have h3:=zbB.mp h3
 refine ⟨?_,of_decide_eq_true h2,fun y hy => ?_,fun y hy => ?_⟩
 ·cases e:scope.kind <;> rw [e] at h1 <;> first | rfl | cases h1
 ·have:=h3 y hy
  rw [zbJ] at this
  simpa using this.1
 ·have:=h3 y hy
  rw [zbJ] at this
  simpa using this.2
section
variable {X:Cx}{K:PySem.W.Frag}
noncomputable def Oh (K:PySem.W.Frag):List V→Hp→VK→Prop:=fun xs H Q=>∃ x n,xs=[x]∧KW K x H n∧Q (.int n) H
theorem Du (hK:X.K=K:=by rfl):bS X (.builtin "len") (Oh K):=by subst hK;exact ux
theorem NW (hK:X.K=K:=by rfl):AL X (BV K):=by subst hK;exact xA
theorem Pe (hK:X.K=K:=by rfl):AR X (Jg K):=by subst hK;exact ym
noncomputable def rJoin (K:PySem.W.Frag):V→List V→Hp→VK→Prop:=fun x vs H Q=>∃ (y:Str) (a:Addr) (ys:List Str),x = .str y∧vs=[.ref a]∧b9 K H a (ys.map V.str)∧(ys.map (·.length)).sum+ys.length*y.length≤16777216∧Q (.str (Txt.join y ys)) H
theorem fV (hK:X.K=K:=by rfl):wD X "str.join" (rJoin K):=by subst hK;exact yd
variable {o e:Expr}{es:List Expr}{to:TE}{t:TA}{name:Str}{apos cpos:Pos}{T id:String}{r:V→List V→Hp→VK→Prop}
theorem m7 (pa:PlainAttrs T) (slot:Slot T name id) (hty:typeOf (.builtin id)=pure (.type "method_descriptor")) (hm:wD X id r) (ho:PE X o to) (ha:PA X (e::es) t)
  (hbase:attributeBase o name X.env (eval o X.env)=eval o X.env:=by rfl) (hs:(e::es).all notStar=true:=by rfl) (hfew:decide ((e::es).length+0+0<30)=true:=by rfl)
  (hline:(apos.endLine==cpos.line)=true:=by rfl) (hK:X.K=K:=by rfl):PE X (.Call (.Attribute o name apos) (e::es) [] cpos) (Nn K T r to t):=by
 subst hK
 have h2:=hs
 rw [zcl,zbJ] at h2
 refine c8 pa slot hty hm ho ha hbase ?_ hline (bf es X.env h2.1) (fm es h2.2)
 rw [rV _ hs]
 show (true&&true&&decide ((e::es).length+0+0<30))=true
 rw [hfew];rfl
end
noncomputable def rO (x:Str):Prop:=∀ c∈x.cps.toList,c<128
mutual
noncomputable def wt:PyData→Nat
 | .none | .bool _ | .dict _=>5
 | .int i=>(PyData.shown (.int i)).length
 | .str x=>10*x.length+2
 | .list ds | .tuple ds=>gh ds+3
noncomputable def gh:List PyData→Nat
 | []=>0
 | d::ds=>wt d+2+gh ds
end
mutual
noncomputable def n8:PyData→Prop
 | .none | .bool _=>True
 | .int i=>i.natAbs.log2<1920
 | .str x=>∀ c∈x.cps.toList,c<16 ^ 8
 | .list ds | .tuple ds=>cK ds
 | .dict _=>False
noncomputable def cK:List PyData→Prop
 | []=>True
 | d::ds=>n8 d∧cK ds
end
theorem tF (ts:List Str):(listText ts).length≤piled ts+3:=by
 cases ts with
 | nil=>decide +kernel
 | cons t r =>
  have h:=textFrom_length_pos r 1 (("[" : Str)++(if (0:Nat) > 0 then ", " else "" : String)++t) (Nat.succ_pos 0)
  have e:((("[" : Str)++(if (0:Nat) > 0 then ", " else "" : String)++t)).length=1+t.length:=by
   rw [strLen_append,strLen_append];rfl
  have hX:(listText (t::r)).length=(textFrom 0 "[" (t::r)).length+1:=by
   show (textFrom 0 "[" (t::r) ++ "]").length=_
   rw [strLen_append];rfl
  have hY:(textFrom 0 "[" (t::r)).length=(textFrom 1 (("[" : Str)++(if (0:Nat) > 0 then ", " else "" : String)++t) r).length:=rfl
  rw [hX,hY,h,e,piled_cons];omega
theorem qa (ts:List Str):(tupleText ts).length≤piled ts+3:=by
 unfold tupleText
 rw [strLen_append,strLen_append]
 have h1:("(" : Str).length=1:=rfl
 have h2:((if (ts.length==1)=true then ",)" else ")" : String):Str).length≤2:=by split <;> decide +kernel
 by_cases hn:ts=[]
 ·subst hn
  have h3:(Str.join ", " []).length=0:=rfl
  omega
 ·have:=join_length_add ts hn
  omega
mutual
theorem shown_le:∀ d:PyData,n8 d→d.shown.length≤wt d
 | .none,_=>by simp only [PyData.shown,wt];decide +kernel
 | .bool b,_=>by cases b <;> (simp only [PyData.shown,wt];decide +kernel)
 | .int i,_=>by simp only [wt];exact zcH _
 | .str x,h=>by
  simp only [n8] at h
  simp only [PyData.shown,wt]
  exact StrLaws.reprText_len x h
 | .list ds,h=>by
  simp only [n8] at h
  simp only [PyData.shown,wt]
  have h1:=shownAll_le ds h
  have h2:=tF (PyData.shownAll ds)
  omega
 | .tuple ds,h=>by
  simp only [n8] at h
  simp only [PyData.shown,wt]
  have h1:=shownAll_le ds h
  have h2:=qa (PyData.shownAll ds)
  omega
 | .dict _,h=>by simp only [n8] at h
theorem shownAll_le:∀ ds:List PyData,cK ds→piled (PyData.shownAll ds)≤gh ds
 | [],_=>by simp only [PyData.shownAll,gh];exact zcH _
 | d::ds,h=>by
  simp only [cK] at h
  simp only [PyData.shownAll,gh]
  rw [piled_cons]
  have h1:=shown_le d h.1
  have h2:=shownAll_le ds h.2
  omega
end
mutual
theorem n8.show:∀ d:PyData,n8 d→d.showable=true
 | .none,_=>rfl
 | .bool b,_=>rfl
 | .int i,h=>by simp only [n8] at h;simp only [PyData.showable];exact decide_eq_true h
 | .str x,h=>rfl
 | .list ds,h=>by simp only [n8] at h;simp only [PyData.showable];exact cK.show ds h
 | .tuple ds,h=>by simp only [n8] at h;simp only [PyData.showable];exact cK.show ds h
 | .dict _,h=>by simp only [n8] at h
theorem cK.show:∀ ds:List PyData,cK ds→PyData.showableAll ds=true
 | [],_=>rfl
 | d::ds,h=>by
  simp only [cK] at h
  simp only [PyData.showableAll,n8.show d h.1,cK.show ds h.2,Bool.and_self]
end
theorem Ms {i:Nat}{v:V}{τ:St}{H:Hp}{A B:St→Hp→Prop} (h:A (τ.set i (some v)) H):kM i v τ H fun τ2 H2=>EH τ2 H2 fun b H3=>if b=true then A τ2 H3 else B τ2 H3:=by
 show if true=true then A (τ.set i (some v)) H else B (τ.set i (some v)) H
 rw [if_pos rfl];exact h
theorem rO.ok {x:Str} (h:rO x):∀ c∈x.cps.toList,c<16 ^ 8:=fun c hc=>Nat.lt_trans (h c hc) (by decide)
theorem rO.append {x y:Str} (h:rO x) (g:rO y):rO (x++y):=fun c hc=>by
 have e:(x++y).cps.toList=x.cps.toList++y.cps.toList:=by show (x.cps++y.cps).toList=_;simp
 rw [e,zbO] at hc
 exact hc.elim (h c) (g c)
noncomputable def OT (x:Str):Bool:=x.cps.toList.all fun c=>decide (c<128)
theorem kF {x:Str} (h:OT x=true):rO x:=fun c hc=>of_decide_eq_true (zbB.mp h c hc)
end L2
set_option maxHeartbeats 400000
namespace PySem.W
open PySem PySem.Calls PyProof.Rows Builtin Builtin.ObjectAttr
noncomputable abbrev Mx (C:Addr) (od:Option Addr) (vs:Array Value):Obj:={ cls:=.ref C,dict:=od,data:=.fields vs }
end PySem.W
set_option maxHeartbeats 1000000
namespace L2
open PySem PySem.Spec PyProof.Rows
theorem EO {t u:TS}{D:Ends}{σ:St}{H:Hp} (h:∀ N:St→Hp→Prop,(∀ σ' H',u D σ' H'→N σ' H')→t { D with nx:=N } σ H):EI t u D σ H:=h (u D) fun _ _ z=>z
end L2
set_option maxHeartbeats 4000000
namespace J
open PySem PySem.Spec PyProof.Rows L2
structure QE (X:Cx) (e:Expr) (t:TE):Prop where
 p:PE X e t
structure QT (X:Cx) (e:Expr) (t:TT):Prop where
 p:PT X e t
structure QA (X:Cx) (e:List Expr) (t:TA):Prop where
 p:PA X e t
structure QS (X:Cx) (e:Stmt) (t:TS):Prop where
 p:PS X e t
structure HV (X:Cx) (e:List Stmt) (t:TS):Prop where
 p:rM X e t
structure QG (X:Cx) (e:Expr) (t:TG):Prop where
 p:PG X e t
structure QI (X:Cx) (g e:Expr) (t:TI):Prop where
 p:PI X g e t
structure O3 (X:Cx) (e:List Expr) (t:TT):Prop where
 p:GV X e t
structure QO (X:Cx) (e:Option Expr) (t:TO):Prop where
 p:PO X e t
structure NF (X:Cx) (pos:Pos) (keys:List (Option Expr)) (values:List Expr) (qb:List (TE×TE)):Prop where
 p:Na X pos keys values qb
theorem bz {X:Cx}:HV X [] A0:=⟨L2.bz ⟩
theorem af {X:Cx}{st:Stmt}{rest:List Stmt}{t:TS}{u:TS} (h1:QS X st t) (h2:HV X rest u):HV X (st::rest) (EI t u):=⟨L2.af h1.p h2.p⟩
theorem aj {X:Cx}{st:Stmt}{t:TS} (h1:QS X st t):HV X [st] t:=⟨L2.aj h1.p⟩
theorem aO {X:Cx}{e:Expr}{te:TE}{pos:Pos} (he:QE X e te):QS X (.Return (some e) pos) (AY te):=⟨L2.aO he.p⟩
theorem aZ {X:Cx}{e:Expr}{te:TE}{pos:Pos} (he:QE X e te) (hs:swapsWith e none pos.line X.env=pure false:=by rfl):QS X (.Expr e pos) (A6 te):=⟨L2.aZ he.p hs⟩
theorem cu {X:Cx}{t:TS}{u:TS}{pos:Pos}{c:Expr}{a b:List Stmt}{tc:TT} (hc:QT X c tc) (ha:HV X a t) (hb:HV X b u):QS X (.If c a b pos) (Im tc t u):=⟨L2.cu hc.p ha.p hb.p⟩
theorem aU {X:Cx}{elt tg iter:Expr}{ifs:List Expr}{scope:Scope}{N:List Str}{caps:List (Option Nat)}{pos pos' spos:Pos}{wi:TI}{g:TG}{tt:TT}{te:TE}{i:Nat}{x:Str}
  (hN:X.N.Nodup) (hix:X.N[i]? = some x) (hx:X.env.scope.names.lookup x=some .local)
  (S:cZ scope N) (hcap:iJ X.N X.env scope N caps=true) (hfr:L2.freeOk X.env scope=true) (hc:X.calm=true) (hi:QI X tg iter wi)
  (hg:∀ s₀ H₀ C fp,QG (i6 X scope N s₀ H₀ C fp) tg g) (ht:∀ s₀ H₀ C fp,O3 (i6 X scope N s₀ H₀ C fp) ifs tt) (he:∀ s₀ H₀ C fp,QE (i6 X scope N s₀ H₀ C fp) elt te)
  (hsw:swapsWith (.ListComp elt [⟨tg,iter,ifs,0⟩] scope pos) (some (.Name x pos')) spos.line X.env=pure true:=by rfl)
  (hs:∀ x,foldedSetIterable iter X.env x=pure x:=by intro _;rfl):QS X (.Assign [.Name x pos'] (.ListComp elt [⟨tg,iter,ifs,0⟩] scope pos) spos) (zq (rR caps wi g tt te) (kM i)):=⟨L2.aU hN hix hx S hcap hfr hc hi.p (fun s₀ H₀ C fp=>(hg s₀ H₀ C fp).p) (fun s₀ H₀ C fp=>(ht s₀ H₀ C fp).p) (fun s₀ H₀ C fp=>(he s₀ H₀ C fp).p) hsw hs⟩
theorem aD {X:Cx}{pos:Pos}{i:Nat}{x:Str}{e:Expr}{te:TE}{pos':Pos} (hN:X.N.Nodup) (hi:X.N[i]? = some x) (hx:Loc X.env.scope x) (he:QE X e te) (hs:swapsWith e (some (.Name x pos')) pos.line X.env=pure false:=by rfl) (hf:X.fn x=true∨X.env.scope.names.lookup x=some .local:=by first | exact .inl rfl | exact .inr rfl | assumption) :
  QS X (.Assign [.Name x pos'] e pos) (zq te (kM i)):=⟨L2.aD hN hi hx he.p hs hf⟩
theorem jr {X:Cx}{o:Expr}{i:Expr}{value:Expr}{pos:Pos}{pos':Pos}{td:TE}{ty:TE}{tv:TE} (hu:X.A.units+1<cLine) (ho:QE X o td) (hi:QE X i ty) (hv:QE X value tv) (hs:swapsWith value (some (.Subscript o i pos')) pos.line X.env=pure false) :
  QS X (.Assign [.Subscript o i pos'] value pos) (BK td ty tv):=⟨L2.jr hu ho.p hi.p hv.p hs⟩
theorem cU {X:Cx}{tg:Expr}{iter:Expr}{body:List Stmt}{wi:TI}{g:TG}{tb:TS}{pos:Pos} (hp:PassesOwn (model X.prog X.w) X.A X.env X.xe) (hc:X.calm=true) (hi:QI X tg iter wi) (hg:QG X tg g) (hb:HV X body tb)
  (hs:∀ x,foldedSetIterable iter X.env x=pure x:=by intro _;rfl):QS X (.For tg iter body [] pos) (Io wi g tb):=⟨L2.cU hp hc hi.p hg.p hb.p hs⟩
theorem aq {X:Cx}{pos:Pos}{i:Nat}{x:Str} (hN:X.N.Nodup) (hi:X.N[i]? = some x) (hx:Loc X.env.scope x) (hf:X.fn x=true∨X.env.scope.names.lookup x=some .local:=by first | exact .inl rfl | exact .inr rfl | assumption):QG X (.Name x pos) (kM i):=⟨L2.aq hN hi hx hf⟩
theorem bG {X:Cx}{tg:Expr}{a:Expr}{ta:TA}{p pos:Pos} (hg:Gl X "range") (hm:X.mg "range" = none) (ha:QA X [a] ta) (hs:starEach [a] X.env=[(false,eval a X.env)]:=by rfl):QI X tg (.Call (.Name "range" p) [a] [] pos) (CT ta):=⟨L2.bG hg hm ha.p hs⟩
theorem aa {X:Cx}:QA X [] AZ:=⟨L2.aa ⟩
theorem ao {X:Cx}{e:Expr}{es:List Expr}{te:TE}{t:TA} (ha:QE X e te) (hr:QA X es t) (hs:notStar e=true:=by rfl):QA X (e::es) (wW te t):=⟨L2.ao ha.p hr.p hs⟩
theorem ah {X:Cx}{i j pos}:QE X (.Constant (.int i) j pos) (tC (.int i)):=⟨L2.ah ⟩
theorem au {X:Cx}{x j pos}:QE X (.Constant (.str x) j pos) (tC (.str x)):=⟨L2.au ⟩
theorem pv {X:Cx} (i:Nat) {x:Str}{pos:Pos} (hN:X.N[i]? = some x:=by rfl) (hv:MZ X.env.scope x:=by first | exact Or.inl rfl | exact Or.inr (Or.inl rfl) | exact Or.inr (Or.inr rfl)) (hd:(x==("__debug__" : Str))=false:=by decide)
  (hcd:(x==("__classdict__" : Str))=false:=by decide):QE X (.Name x pos) (l6 i):=⟨L2.pv i hN hv hd hcd⟩
theorem aE {X:Cx}{a:Expr}{b:Expr}{ta:TE}{tb:TE}{pos:Pos}{op:Operator}{r:R2} (ho:fj X (binaryOp op) r) (ha:QE X a ta) (hb:QE X b tb):QE X (.BinOp a op b pos) (wU r ta tb):=⟨L2.aE ho ha.p hb.p⟩
theorem bJ {X:Cx}{es:List Expr}{t:TA}{pos:Pos} (h:QA X es t):QE X (.List es pos) (Il t):=⟨L2.bJ h.p⟩
theorem qJ  {X:Cx}{pos:Pos}{keys:List (Option Expr)}{values:List Expr}{qb:List (TE×TE)} (h:NF X pos keys values qb) (hall:keys.all (·.isSome)=true) (hl:keys.length=values.length) (h0:keys≠[])
  (h15:keys.length≤15):QE X (.Dict keys values pos) (G3 qb):=⟨L2.qJ h.p hall hl h0 h15⟩
theorem qG  {X:Cx}{pos:Pos}:NF X pos [] [] []:=⟨L2.qG ⟩
theorem gp  {X:Cx}{pos:Pos}{k v:Expr}{ks:List (Option Expr)}{vs:List Expr}{tk tv:TE}{qb:List (TE×TE)} (hk:QE X k tk) (hv:QE X v tv) (hr:NF X pos ks vs qb) :
  NF X pos (some k::ks) (v::vs) ((tk,tv)::qb):=⟨L2.gp hk.p hv.p hr.p⟩
theorem bI {X:Cx}{e:Expr}{te:TE}{lo:Option Expr}{hi:Option Expr}{tl:TO}{th:TO}{pos:Pos}{p2:Pos}{r:V→Option Int→Option Int→Hp→VK→Prop} (hr:AL X r) (he:QE X e te) (hl:QO X lo tl) (hu:QO X hi th):QE X (.Subscript e (.Slice lo hi none p2) pos) (K4 r te tl th):=⟨L2.bI hr he.p hl.p hu.p⟩
theorem cy {X:Cx}:QO X none gY:=⟨L2.cy ⟩
theorem bW {X:Cx}{e:Expr}{te:TE} (h:QE X e te):QO X (some e) (oO te):=⟨L2.bW h.p⟩
theorem cV {X:Cx}{o:Expr}{i:Expr}{pos:Pos}{td:TE}{ty:TE} (hu:X.A.units+1<cLine) (ho:QE X o td) (hi:QE X i ty) (hs:G0 i):QE X (.Subscript o i pos) (A9 td ty):=⟨L2.cV hu ho.p hi.p hs⟩
theorem aH {X:Cx}{a:Expr}{b:Expr}{ta:TE}{tb:TE}{pos:Pos}{r:R2} (hr:AR X r) (ha:QE X a ta) (hb:QE X b tb) (hs:rG b):QE X (.Subscript a b pos) (wU r ta tb):=⟨L2.aH hr ha.p hb.p hs⟩
theorem b6 {X:Cx}{elt tg iter:Expr}{ifs:List Expr}{scope:Scope}{N:List Str}{caps:List (Option Nat)}{pos:Pos}{wi:TI}{g:TG}{tt:TT}{te:TE}
  (S:cZ scope N) (hcap:iJ X.N X.env scope N caps=true) (hfr:L2.freeOk X.env scope=true) (hc:X.calm=true) (hi:QI X tg iter wi)
  (hg:∀ s₀ H₀ C fp,QG (i6 X scope N s₀ H₀ C fp) tg g) (ht:∀ s₀ H₀ C fp,O3 (i6 X scope N s₀ H₀ C fp) ifs tt) (he:∀ s₀ H₀ C fp,QE (i6 X scope N s₀ H₀ C fp) elt te)
  (hs:∀ x,foldedSetIterable iter X.env x=pure x:=by intro _;rfl):QE X (.ListComp elt [⟨tg,iter,ifs,0⟩] scope pos) (rR caps wi g tt te):=⟨L2.b6 S hcap hfr hc hi.p (fun s₀ H₀ C fp=>(hg s₀ H₀ C fp).p) (fun s₀ H₀ C fp=>(ht s₀ H₀ C fp).p) (fun s₀ H₀ C fp=>(he s₀ H₀ C fp).p) hs⟩
theorem eX {X:Cx}{e:Expr}{es:List Expr}{t:TA}{x:Str}{p:Pos}{pos:Pos}{id:String}{r:List V→Hp→VK→Prop} (hc:bS X (.builtin id) r) (hg:Gl X x) (hm:X.mg x=none) (hv:bootBuiltins x=some (.builtin id)) (ha:QA X (e::es) t) (hn:x ≠ "__name__" := by decide +kernel) (hdb:(x==("__debug__" : Str))=false:=by decide +kernel)
  (hs:(e::es).all notStar=true:=by rfl):QE X (.Call (.Name x p) (e::es) [] pos) (K5 r t):=⟨L2.eX hc hg hm hv ha.p hn hdb hs⟩
theorem aJ {X:Cx}{e:Expr}{es:List Expr}{t:TA}{x:Str}{p:Pos}{pos:Pos}{k:Nat}{ps:List Str}{sp:Sp} (D:Def X.prog X.w X.K X.mg X.base k x ps sp) (hr:aS k X.A) (hg:Gl X x) (hx:Passes kQ X E0) (ha:QA X (e::es) t) (hdb:(x==("__debug__" : Str))=false:=by decide +kernel) (hs:(e::es).all notStar=true:=by rfl) :
  QE X (.Call (.Name x p) (e::es) [] pos) (wX sp [] E0 t):=⟨L2.aJ D hr hg hx ha.p hdb hs⟩
theorem m7 {X:Cx}{K:PySem.W.Frag}{o:Expr}{e:Expr}{es:List Expr}{to:TE}{t:TA}{name:Str}{apos:Pos}{cpos:Pos}{T:String}{id:String}{r:V→List V→Hp→VK→Prop} (pa:PlainAttrs T) (slot:Slot T name id) (hty:typeOf (.builtin id)=pure (.type "method_descriptor")) (hm:wD X id r) (ho:QE X o to) (ha:QA X (e::es) t)
  (hbase:attributeBase o name X.env (eval o X.env)=eval o X.env:=by rfl) (hs:(e::es).all notStar=true:=by rfl) (hfew:decide ((e::es).length+0+0<30)=true:=by rfl)
  (hline:(apos.endLine==cpos.line)=true:=by rfl) (hK:X.K=K:=by rfl):QE X (.Call (.Attribute o name apos) (e::es) [] cpos) (Nn K T r to t):=⟨L2.m7 pa slot hty hm ho.p ha.p hbase hs hfew hline hK⟩
theorem bx  {X:Cx}:O3 X [] EH:=⟨L2.bx ⟩
theorem aK {X:Cx}{a:Expr}{b:Expr}{ta:TE}{tb:TE}{pos:Pos}{op:CmpOp}{r:R2} (ho:fj X (compareOp op) r) (ha:QE X a ta) (hb:QE X b tb) (hm:behindInMarks op b=false):QT X (.Compare a [op] [b] pos) (G2 (wU r ta tb)):=⟨L2.aK ho ha.p hb.p hm⟩
section
variable {P:Program}{w:World}{K:PySem.W.Frag}{mg:Str→Option Value}{base:Heap}
theorem F9 {x:Str}{st:Stmt}{N ps:List Str}{k:Nat}{sp:Sp} (F:Src K mg x ps st) (S:az N ps (ai st)) (len:∀ vs H Q E,sp vs H Q E→vs.length=ps.length)
  (hbody:∀ (f:Addr) (cdv:Value) (A:Around) (outer:List Env) (s:Shared) (H:Hp) (vs:List V) (Q:VK) (E:XK),aS k (A.deeper (envOfC x (ai st) s.heap.objs.size f cdv))→sp vs H Q E →
   ∃ t,HV (kE kQ P w K mg base N x (ai st) f cdv A outer s H E).Eu (bB st) t∧t { nx:=fun _ H'=>Q .bH H',rt:=Q } (start N vs) H):Def P w K mg base (k+1) x ps sp :=
 F.def S len fun f cdv A outer s H vs Q E hr h=>by
  obtain ⟨t,a,b⟩:=hbody f cdv A outer s H vs Q E hr h
  exact ⟨t,a.p,b⟩
theorem uQ {p:List Value→Prop} (h:∀ a,p [a]) (us:List Value) (e:us.length=1):p us:=by
 cases us with
 | nil=>cases e
 | cons a r =>
  have e:r=[]:=zaa (Nat.succ.inj e)
  subst e;exact h a
theorem Gr {p:List Value→Prop} (h:∀ a b,p [a,b]) (us:List Value) (e:us.length=2):p us:=by
 cases us with
 | nil=>cases e
 | cons a r=>exact uQ (p:=fun r=>p (a::r)) (h a) r (Nat.succ.inj e)
theorem ND {p:List Value→Prop} (h:∀ a b c,p [a,b,c]) (us:List Value) (e:us.length=3):p us:=by
 cases us with
 | nil=>cases e
 | cons a r=>exact Gr (p:=fun r=>p (a::r)) (h a) r (Nat.succ.inj e)
theorem by4 {p:List Value→Prop} (h:∀ a b c d,p [a,b,c,d]) (us:List Value) (e:us.length=4):p us:=by
 cases us with
 | nil=>cases e
 | cons a r=>exact ND (p:=fun r=>p (a::r)) (h a) r (Nat.succ.inj e)
theorem Ir {x:Str}{st:Stmt}{f:Addr}{oc:Value}{od an:Option Addr}{osl:Array (Option Value)}{kV doc pm cdv ct:Value}{h:Heap}{ps:List Str} (X:K.In h) (G:h.Ns mainGlobals mg)
  (a:zcC K mainGlobals x=some (some (.ref f))) (l:K.lookup f=some ⟨oc,od,.func (zcB x x (cH st) (bB st) (ai st) .none kV doc pm an cdv ct),osl⟩)
  (c:zcg K cdv x=true) (k:zcf K (.ref f)=true)
  (b:∀ (kV doc pm:Value) (an:Option Addr) (cdv ct:Value) (us:List Value),us.length=ps.length→bindArgs (zcB x x (cH st) (bB st) (ai st) .none kV doc pm an cdv ct) ⟨us,[]⟩=pure (ps.zip us)):Src K mg x ps st :=
 ⟨f,_,iZ (st:=st) l c k,zco X G a,(iZ (st:=st) l c k).binds b⟩
end
end J
namespace M
open PySem L2
inductive D where
 | bH | bl (b:Bool) | int (i:Int) | str (x:Str) | tup (ds:List D) | lst (ds:List D) | dct (ks:List Key) (ds:List D) | loc (n:Nat) | ty (n:String) | kT (ns:List Int) | Es (xs:List Str) | fd | fn (a:Addr)
inductive MO where
 | lst (ds:List D) | dct (ks:List Key) (ds:List D) | feed (n:Nat) | ins (C:Addr) (ks:List Str) (ds:List D) | Ex (F:Addr→List Addr→Heap→Prop) (ks:List D)
noncomputable def vV (l s d:Int):List (Key×V):=[(.inr "left",.int l),(.inr "seed",.int s),(.inr "drawn",.int d)]
noncomputable abbrev av:=List (Option MO)
noncomputable def MO.d:MO→D
 | .lst ds=>.lst ds
 | .dct ks ds=>.dct ks ds
 | .feed _=>.fd
 | .ins _ _ _=>.fd
 | .Ex _ _=>.fd
inductive R where
 | dat (d:D) | new (o:MO)
noncomputable def R.d:R→D
 | .dat d=>d
 | .new o=>o.d
theorem al {H:Hp}{p:Addr}{o:HO} (hp:H p=none):fh H (upd H p o):=fun b o' e=>by rw [aA (aP e hp)];exact e
structure Wd where
 B:Hp
 r:Nat→Option Addr
structure Wd.le (w w':Wd):Prop where
 b:fh w.B w'.B
 r:∀ n a,w.r n=some a→w'.r n=some a
theorem Wd.le.refl {w:Wd}:w.le w:=⟨fh.refl _,fun _ _ h=>h⟩
theorem Wd.le.trans {w w1 w2:Wd} (h:w.le w1) (g:w1.le w2):w.le w2:=⟨h.b.trans g.b,fun n a e=>g.r n a (h.r n a e)⟩
mutual
noncomputable def Rep (K:PySem.W.Frag) (w:Wd):D→V→Prop
 | .bH,v=>v = .bH
 | .bl b,v=>v = .bl b
 | .int i,v=>v = .int i
 | .str x,v=>v = .str x
 | .ty n,v=>v = .ty n
 | .fd,v=>∃ a,v = .ref a
 | .fn a,v=>v = .ref a
 | .loc n,v=>∃ a,w.r n=some a∧v = .ref a
 | .tup ds,v=>∃ a xs,v = .ref a∧w.B a=some (.tup xs)∧ak K w ds xs
 | .Es ss,v=>∃ a,v = .ref a∧eg K w.B a (ss.map V.str)
 | .lst ds,v=>∃ a xs,v = .ref a∧w.B a=some (.lst xs)∧ak K w ds xs
 | .kT ns,v=>∃ a,v = .ref a∧b9 K w.B a (ns.map V.int)
 | .dct ks ds,v=>∃ a kvs,v = .ref a∧w.B a=some (.dK kvs)∧kvs.map (·.1)=ks∧ak K w ds (kvs.map (·.2))
noncomputable def ak (K:PySem.W.Frag) (w:Wd):List D→List V→Prop
 | [],xs=>xs=[]
 | d::ds,xs=>∃ x r,xs=x::r∧Rep K w d x∧ak K w ds r
end
mutual
theorem Rep.le {K:PySem.W.Frag}{w w':Wd} (e:w.le w'):∀ (d:D) (v:V),Rep K w d v→Rep K w' d v
 | .bH,_,h=>by simpa [Rep] using h
 | .bl b,_,h=>by simpa [Rep] using h
 | .int i,_,h=>by simpa [Rep] using h
 | .str x,_,h=>by simpa [Rep] using h
 | .ty x,_,h=>by simpa [Rep] using h
 | .fd,_,h=>by simpa [Rep] using h
 | .fn _,_,h=>by simpa [Rep] using h
 | .loc n,v,h=>by
  simp only [Rep] at h ⊢
  obtain ⟨a,h1,h2⟩:=h
  exact ⟨a,e.r _ _ h1,h2⟩
 | .lst ds,v,h=>by
  simp only [Rep] at h ⊢
  obtain ⟨a,xs,h1,h2,h3⟩:=h
  exact ⟨a,xs,h1,e.b _ _ h2,ak.le e ds xs h3⟩
 | .kT ns,v,h=>by
  simp only [Rep] at h ⊢
  obtain ⟨a,h1,h2⟩:=h
  exact ⟨a,h1,e.b.seq h2⟩
 | .tup ds,v,h=>by
  simp only [Rep] at h ⊢
  obtain ⟨a,xs,h1,h2,h3⟩:=h
  exact ⟨a,xs,h1,e.b _ _ h2,ak.le e ds xs h3⟩
 | .Es ns,v,h=>by
  simp only [Rep] at h ⊢
  obtain ⟨a,h1,h2⟩:=h
  exact ⟨a,h1,eg.same e.b h2⟩
 | .dct ks ds,v,h=>by
  simp only [Rep] at h ⊢
  obtain ⟨a,xs,h1,h2,h3,h4⟩:=h
  exact ⟨a,xs,h1,e.b _ _ h2,h3,ak.le e ds _ h4⟩
theorem ak.le {K:PySem.W.Frag}{w w':Wd} (e:w.le w'):∀ (ds:List D) (xs:List V),ak K w ds xs→ak K w' ds xs
 | [],_,h=>by simpa [ak] using h
 | d::ds,xs,h=>by
  simp only [ak] at h ⊢
  obtain ⟨x,r,h1,h2,h3⟩:=h
  exact ⟨x,r,h1,Rep.le e d x h2,ak.le e ds r h3⟩
end
section
variable {K:PySem.W.Frag}{w w':Wd}
theorem ak.nil:ak K w [] []:=by simp [ak]
theorem ak.cons {d:D}{v:V}{ds:List D}{vs:List V} (h:Rep K w d v) (t:ak K w ds vs):ak K w (d::ds) (v::vs):=by
 simp only [ak];exact ⟨v,vs,rfl,h,t⟩
theorem ak.length:∀ {ds:List D}{vs:List V},ak K w ds vs→vs.length=ds.length
 | [],_,h=>by simp only [ak] at h;subst h;rfl
 | d::ds,vs,h=>by
  simp only [ak] at h
  obtain ⟨x,r,rfl,_,h⟩:=h
  simp [ak.length h]
theorem ak.get:∀ {ds:List D}{vs:List V}{i:Nat}{d:D},ak K w ds vs→ds[i]? = some d→∃ v,vs[i]? = some v∧Rep K w d v
 | [],_,_,_,_,e=>by simp at e
 | d::ds,vs,0,d',h,e=>by
  simp only [ak] at h
  obtain ⟨x,r,rfl,h1,h⟩:=h
  simp at e;subst e
  exact ⟨x,rfl,h1⟩
 | d::ds,vs,i+1,d',h,e=>by
  simp only [ak] at h
  obtain ⟨x,r,rfl,h1,h⟩:=h
  obtain ⟨v,e1,e2⟩:=ak.get (i:=i) h (by simpa using e)
  exact ⟨v,by simpa using e1,e2⟩
theorem ak.append:∀ {ds es:List D}{vs us:List V},ak K w ds vs→ak K w es us→ak K w (ds++es) (vs++us)
 | [],_,_,_,h,g=>by simp only [ak] at h;subst h;exact g
 | d::ds,es,vs,us,h,g=>by
  simp only [ak] at h
  obtain ⟨x,r,rfl,h1,h⟩:=h
  exact ak.cons h1 (ak.append h g)
theorem ak.snoc {ds:List D}{vs:List V}{d:D}{v:V} (h:ak K w ds vs) (g:Rep K w d v):ak K w (ds++[d]) (vs++[v]):=h.append (.cons g .nil)
theorem ak.take:∀ (n:Nat) {ds:List D}{vs:List V},ak K w ds vs→ak K w (ds.take n) (vs.take n)
 | 0,_,_,_=>by simp [ak]
 | n+1,[],_,h=>by simp only [ak] at h;subst h;simp [ak]
 | n+1,d::ds,vs,h=>by
  simp only [ak] at h
  obtain ⟨x,r,rfl,h1,h⟩:=h
  exact ak.cons h1 (ak.take n h)
theorem ak.drop:∀ (n:Nat) {ds:List D}{vs:List V},ak K w ds vs→ak K w (ds.drop n) (vs.drop n)
 | 0,_,_,h=>h
 | n+1,[],_,h=>by simp only [ak] at h;subst h;simp [ak]
 | n+1,d::ds,vs,h=>by
  simp only [ak] at h
  obtain ⟨x,r,rfl,h1,h⟩:=h
  exact ak.drop n h
end
noncomputable def jM (K:PySem.W.Frag) (w:Wd):MO→HO→Prop
 | .lst ds,u=>∃ xs,u = .lst xs∧ak K w ds xs
 | .dct ks ds,u=>∃ kvs,u = .dK kvs∧kvs.map (·.1)=ks∧ak K w ds (kvs.map (·.2))
 | .feed n,u=>∃ l s:Int,u = .dK (vV l s n)∧0≤l∧0≤s∧s<1000003
 | .ins C ks ds,u=>∃ dx fs,u = .ins C dx fs∧fs.map (·.1)=ks∧ak K w ds (fs.map (·.2))
 | .Ex F ks,u=>∃ (a:Addr) (bs:List Addr),u = .ext (F a bs)∧ak K w ks (bs.map V.ref)
theorem jM.le {K:PySem.W.Frag}{w w':Wd} (e:w.le w'):∀ {o:MO}{u:HO},jM K w o u→jM K w' o u
 | .lst ds,u,⟨xs,h1,h2⟩=>⟨xs,h1,h2.le e⟩
 | .dct ks ds,u,⟨xs,h1,h2,h3⟩=>⟨xs,h1,h2,h3.le e⟩
 | .feed n,u,h=>h
 | .ins C ks ds,u,⟨dx,fs,h1,h2,h3⟩=>⟨dx,fs,h1,h2,h3.le e⟩
 | .Ex F ks,u,⟨a,bs,h1,h2⟩=>⟨a,bs,h1,h2.le e⟩
structure Ok (K:PySem.W.Frag) (w:Wd) (H:Hp) (S:av):Prop where
 base:fh w.B H
 live:∀ n o,S[n]? = some (some o)→∃ a u,w.r n=some a∧w.B a=none∧H a=some u∧jM K w o u
 inj:∀ n m o o',S[n]? = some (some o)→S[m]? = some (some o')→w.r n=w.r m→n=m
 top:∀ n,S.length≤n→w.r n=none
noncomputable def wB (K:PySem.W.Frag) (w:Wd) (H:Hp) (S:av):R→V→Prop
 | .dat d,v=>Rep K w d v
 | .new o,v=>∃ a u,v = .ref a∧w.B a=none∧H a=some u∧jM K w o u∧∀ n o',S[n]? = some (some o')→w.r n≠some a
noncomputable def dZ (K:PySem.W.Frag) (w:Wd) (δ:List (Option D)) (σ:St):Prop:=δ.length=σ.length∧∀ (i:Nat) (d:D),δ[i]? = some (some d)→∃ v,σ[i]? = some (some v)∧Rep K w d v
theorem dZ.le {K:PySem.W.Frag}{w w':Wd}{δ:List (Option D)}{σ:St} (h:dZ K w δ σ) (e:w.le w'):dZ K w' δ σ:=⟨h.1,fun i d q=>by
 obtain ⟨v,h1,h2⟩:=h.2 i d q
 exact ⟨v,h1,h2.le e⟩⟩
theorem dZ.set {K:PySem.W.Frag}{w:Wd}{δ:List (Option D)}{σ:St}{d:D}{v:V} (h:dZ K w δ σ) (g:Rep K w d v) (i:Nat):dZ K w (δ.set i (some d)) (σ.set i (some v)):=by
 refine ⟨by simp [h.1],fun j e q => ?_⟩
 by_cases hij:i=j
 ·subst hij
  rw [zbl] at q ⊢
  rw [if_pos rfl] at q ⊢
  by_cases hl:i<δ.length
  ·rw [if_pos hl] at q
   rw [if_pos (by rw [← h.1];exact hl)]
   have:d=e:=by simpa using q
   subst this
   exact ⟨v,rfl,g⟩
  ·rw [if_neg hl] at q;cases q
 ·rw [zaE hij] at q ⊢
  exact h.2 j e q
section
variable {K:PySem.W.Frag}{w w':Wd}{H H':Hp}{S S':av}
theorem freeze {r:R}{v:V} (k:Ok K w H S) (h:wB K w H S r v):∃ w',w.le w'∧Ok K w' H S∧Rep K w' r.d v:=by
 cases r with
 | dat d=>exact ⟨w,.refl,k,h⟩
 | new o =>
  obtain ⟨a,u,rfl,hb,ha,ho,hn⟩:=h
  have le:w.le ⟨upd w.B a u,w.r⟩:=⟨al hb,fun _ _ e=>e⟩
  refine ⟨⟨upd w.B a u,w.r⟩,le,⟨fun b o' e => ?_,fun n o' e => ?_,k.inj,k.top⟩,?_⟩
  ·by_cases hba:b=a
   ·subst hba
    have e:upd w.B b u b=some o':=e
    rw [aG] at e;rw [ha];exact e
   ·have e:upd w.B a u b=some o':=e
    rw [aA hba] at e;exact k.base b o' e
  ·obtain ⟨a',u',h1,h2,h3,h4⟩:=k.live n o' e
   have:a'≠a:=by intro z;subst z;exact hn n o' e h1
   exact ⟨a',u',h1,by show upd w.B a u a'=none;rw [aA this];exact h2,h3,h4.le le⟩
  ·cases o with
   | lst ds =>
    obtain ⟨xs,rfl,h⟩:=ho
    show Rep K _ (.lst ds) _
    simp only [Rep]
    exact ⟨a,xs,rfl,aG,h.le le⟩
   | dct ks ds =>
    obtain ⟨kvs,rfl,h1,h⟩:=ho
    show Rep K _ (.dct ks ds) _
    simp only [Rep]
    exact ⟨a,kvs,rfl,aG,h1,h.le le⟩
   | feed n =>
    show Rep K _ .fd _
    simp only [Rep]
    exact ⟨a,rfl⟩
   | ins C ks ds =>
    show Rep K _ .fd _
    simp only [Rep]
    exact ⟨a,rfl⟩
   | Ex F ks =>
    show Rep K _ .fd _
    simp only [Rep]
    exact ⟨a,rfl⟩
theorem store {o:MO}{v:V} (k:Ok K w H S) (h:wB K w H S (.new o) v):∃ w',w.le w'∧Ok K w' H (S++[some o])∧Rep K w' (.loc S.length) v:=by
 obtain ⟨a,u,rfl,hb,ha,ho,hn⟩:=h
 let r':Nat→Option Addr:=fun n=>if n=S.length then some a else w.r n
 have le:w.le ⟨w.B,r'⟩:=⟨fh.refl _,fun n b e=>by
  have:n≠S.length:=by
   intro z;subst z
   rw [k.top _ (zcH _)] at e;cases e
  show (if n=S.length then some a else w.r n)=some b
  rw [if_neg this];exact e⟩
 have at_:∀ n o',(S++[some o])[n]? = some (some o')→(n=S.length∧o'=o)∨(n<S.length∧S[n]? = some (some o')):=fun n o' e=>by
  by_cases hl:n<S.length
  ·rw [zag hl] at e
   exact .inr ⟨hl,e⟩
  ·rw [zab (by omega)] at e
   have:n - S.length=0:=by
    cases q:n - S.length with
    | zero=>rfl
    | succ j=>rw [q] at e;simp at e
   rw [this] at e
   have e:o=o':=by simpa using e
   exact .inl ⟨by omega,e.symm⟩
 refine ⟨⟨w.B,r'⟩,le,⟨k.base,fun n o' e => ?_,fun n m o1 o2 e1 e2 e => ?_,fun n hn => ?_⟩,?_⟩
 ·rcases at_ n o' e with ⟨rfl,rfl⟩ | ⟨hl,e⟩
  ·exact ⟨a,u,by show (if _ then _ else _)=_;rw [if_pos rfl],hb,ha,ho.le le⟩
  ·obtain ⟨a',u',h1,h2,h3,h4⟩:=k.live n o' e
   exact ⟨a',u',le.r _ _ h1,h2,h3,h4.le le⟩
 ·rcases at_ n o1 e1 with ⟨rfl,rfl⟩ | ⟨hl,q1⟩
  ·rcases at_ m o2 e2 with ⟨rfl,rfl⟩ | ⟨hl2,q2⟩
   ·rfl
   ·exfalso
    have e:(if S.length=S.length then some a else w.r S.length)=(if m=S.length then some a else w.r m):=e
    rw [if_pos rfl,if_neg (by omega)] at e
    exact hn m o2 q2 e.symm
  ·rcases at_ m o2 e2 with ⟨rfl,rfl⟩ | ⟨hl2,q2⟩
   ·exfalso
    have e:(if n=S.length then some a else w.r n)=(if S.length=S.length then some a else w.r S.length):=e
    rw [if_pos rfl,if_neg (by omega)] at e
    exact hn n o1 q1 e
   ·have e:(if n=S.length then some a else w.r n)=(if m=S.length then some a else w.r m):=e
    rw [if_neg (by omega),if_neg (by omega)] at e
    exact k.inj n m o1 o2 q1 q2 e
 ·rw [zaU] at hn
  have:n≠S.length:=by simp at hn;omega
  show (if n=S.length then some a else w.r n)=none
  rw [if_neg this]
  exact k.top n (by simp at hn;omega)
 ·simp only [Rep]
  exact ⟨a,by show (if _ then _ else _)=_;rw [if_pos rfl],rfl⟩
theorem Ok.alloc {p:Addr}{o:HO} (k:Ok K w H S) (hp:H p=none):Ok K w (upd H p o) S :=
 ⟨k.base.trans (al hp),fun n o' e=>by
  obtain ⟨a,u,h1,h2,h3,h4⟩:=k.live n o' e
  exact ⟨a,u,h1,h2,al hp _ _ h3,h4⟩,k.inj,k.top⟩
theorem Ok.free {p:Addr} (k:Ok K w H S) (hp:H p=none):w.B p=none:=k.base.free hp
theorem Ok.fresh {p:Addr}{o:HO}{m:MO} (k:Ok K w H S) (hp:H p=none) (h:jM K w m o):wB K w (upd H p o) S (.new m) (.ref p) :=
 ⟨p,o,rfl,k.free hp,aG,h,fun n o' e z=>by
  obtain ⟨a,u,h1,h2,h3,h4⟩:=k.live n o' e
  rw [z] at h1;cases h1
  rw [hp] at h3;cases h3⟩
theorem Ok.nh {p:Addr}{ds:List D}{xs:List V} (k:Ok K w H S) (hp:H p=none) (h:ak K w ds xs):∃ w',w.le w'∧Ok K w' (upd H p (.tup xs)) S∧Rep K w' (.tup ds) (.ref p):=by
 have hb:=k.free hp
 have le:w.le ⟨upd w.B p (.tup xs),w.r⟩:=⟨al hb,fun _ _ e=>e⟩
 refine ⟨⟨upd w.B p (.tup xs),w.r⟩,le,⟨fun b o e => ?_,fun n o e => ?_,k.inj,k.top⟩,?_⟩
 ·by_cases hbp:b=p
  ·subst hbp
   have e:upd w.B b (.tup xs) b=some o:=e
   rw [aG] at e ⊢;exact e
  ·have e:upd w.B p (.tup xs) b=some o:=e
   rw [aA hbp] at e ⊢;exact k.base b o e
 ·obtain ⟨a,u,h1,h2,h3,h4⟩:=k.live n o e
  have hne:a≠p:=aP h3 hp
  exact ⟨a,u,h1,by show upd w.B p _ a=none;rw [aA hne];exact h2,by rw [aA hne];exact h3,h4.le le⟩
 ·simp only [Rep]
  exact ⟨p,xs,rfl,aG,h.le le⟩
theorem Ok.put {n:Nat}{a:Addr}{o o':MO}{u':HO} (k:Ok K w H S) (e:S[n]? = some (some o)) (ha:w.r n=some a) (h:jM K w o' u'):Ok K w (upd H a u') (S.set n (some o')):=by
 have hn:n<S.length:=by
  rcases zcx n S.length with h | h
  ·exact h
  ·rw [zav h] at e;cases e
 have at_:∀ m q,(S.set n (some o'))[m]? = some (some q)→(m=n∧q=o')∨(m≠n∧S[m]? = some (some q)):=fun m q z=>by
  by_cases hm:n=m
  ·subst hm
   rw [zbl,if_pos rfl,if_pos hn] at z
   have z:o'=q:=by simpa using z
   exact .inl ⟨rfl,z.symm⟩
  ·rw [zaE hm] at z
   exact .inr ⟨fun y=>hm y.symm,z⟩
 obtain ⟨a0,u0,h1,h2,h3,_⟩:=k.live n o e
 rw [ha] at h1;cases h1
 refine ⟨fun b q z => ?_,fun m q z => ?_,fun m l q q' z z' y => ?_,fun m hm=>k.top m (by simpa using hm)⟩
 ·rw [aA (by intro y;subst y;rw [h2] at z;cases z)]
  exact k.base b q z
 ·rcases at_ m q z with ⟨rfl,rfl⟩ | ⟨hm,z⟩
  ·exact ⟨a,u',ha,h2,aG,h⟩
  ·obtain ⟨b,u,g1,g2,g3,g4⟩:=k.live m q z
   have:b≠a:=by
    intro y;subst y
    exact hm (k.inj m n q o z e (g1.trans ha.symm))
   exact ⟨b,u,g1,g2,by rw [aA this];exact g3,g4⟩
 ·have old:∀ m q,(S.set n (some o'))[m]? = some (some q)→∃ q0,S[m]? = some (some q0):=fun m q z=>by
   rcases at_ m q z with ⟨rfl,rfl⟩ | ⟨hm,z⟩
   ·exact ⟨o,e⟩
   ·exact ⟨q,z⟩
  obtain ⟨q0,z0⟩:=old m q z
  obtain ⟨q1,z1⟩:=old l q' z'
  exact k.inj m l q0 q1 z0 z1 y
end
noncomputable def aV (S:av):D→D
 | .loc n=>match S[n]? with
  | some (some o)=>o.d
  | _=>.loc n
 | d=>d
section
variable {K:PySem.W.Frag}{w:Wd}{H:Hp}{S:av}{v:V}
theorem aX {d:D}{ds:List D} (k:Ok K w H S) (h:Rep K w d v) (e:aV S d = .lst ds):∃ a xs,v = .ref a∧H a=some (.lst xs)∧ak K w ds xs:=by
 cases d with
 | loc n =>
  simp only [Rep] at h
  obtain ⟨a,h1,rfl⟩:=h
  simp only [aV] at e
  split at e
  next o q =>
   obtain ⟨a',u,g1,g2,g3,g4⟩:=k.live n o q
   rw [h1] at g1;cases g1
   cases o with
   | lst es =>
    have:es=ds:=by simpa [MO.d] using e
    subst this
    obtain ⟨xs,rfl,g⟩:=g4
    exact ⟨a,xs,rfl,g3,g⟩
   | dct ks es=>simp [MO.d] at e
   | feed n=>simp [MO.d] at e
   | ins C ks ds=>simp [MO.d] at e
   | Ex F ks=>simp [MO.d] at e
  next=>cases e
 | lst es =>
  have:es=ds:=by simpa [aV] using e
  subst this
  simp only [Rep] at h
  obtain ⟨a,xs,h1,h2,h3⟩:=h
  exact ⟨a,xs,h1,k.base _ _ h2,h3⟩
 | _=>simp [aV] at e
theorem dw {d:D}{ds:List D} (k:Ok K w H S) (h:Rep K w d v) (e:aV S d = .tup ds):∃ a xs,v = .ref a∧H a=some (.tup xs)∧ak K w ds xs:=by
 cases d with
 | loc n =>
  simp only [aV] at e
  split at e
  next o q=>cases o <;> simp [MO.d] at e
  next=>cases e
 | tup es =>
  have:es=ds:=by simpa [aV] using e
  subst this
  simp only [Rep] at h
  obtain ⟨a,xs,h1,h2,h3⟩:=h
  exact ⟨a,xs,h1,k.base _ _ h2,h3⟩
 | _=>simp [aV] at e
theorem ic {d:D}{ks:List Key}{ds:List D} (k:Ok K w H S) (h:Rep K w d v) (e:aV S d = .dct ks ds):∃ a kvs,v = .ref a∧H a=some (.dK kvs)∧kvs.map (·.1)=ks∧ak K w ds (kvs.map (·.2)):=by
 cases d with
 | loc n =>
  simp only [Rep] at h
  obtain ⟨a,h1,rfl⟩:=h
  simp only [aV] at e
  split at e
  next o q =>
   obtain ⟨a',u,g1,g2,g3,g4⟩:=k.live n o q
   rw [h1] at g1;cases g1
   cases o with
   | lst es=>simp [MO.d] at e
   | feed n=>simp [MO.d] at e
   | ins C ks ds=>simp [MO.d] at e
   | Ex F ks=>simp [MO.d] at e
   | dct ks' es =>
    have:ks'=ks∧es=ds:=by simpa [MO.d] using e
    obtain ⟨rfl,rfl⟩:=this
    obtain ⟨kvs,rfl,g⟩:=g4
    exact ⟨a,kvs,rfl,g3,g⟩
  next=>cases e
 | dct ks' es =>
  have:ks'=ks∧es=ds:=by simpa [aV] using e
  obtain ⟨rfl,rfl⟩:=this
  simp only [Rep] at h
  obtain ⟨a,xs,h1,h2,h3⟩:=h
  exact ⟨a,xs,h1,k.base _ _ h2,h3⟩
 | _=>simp [aV] at e
end
noncomputable abbrev bw:=List (Option D)
noncomputable abbrev AK:=R→av→Prop
noncomputable abbrev AE:=bw→av→AK→Prop
noncomputable abbrev AT:=bw→av→(Bool→av→Prop)→Prop
noncomputable abbrev AA:=bw→av→(List D→av→Prop)→Prop
noncomputable abbrev AO:=bw→av→(Option Int→av→Prop)→Prop
structure gU where
 nx:bw→av→Prop
 rt:AK
 bk:bw→av→Prop:=fun _ _=>False
 ct:bw→av→Prop:=fun _ _=>False
noncomputable abbrev AS:=gU→bw→av→Prop
noncomputable abbrev AG:=D→bw→av→(bw→av→Prop)→Prop
noncomputable abbrev Ez:=List D→bw→av→(bw→av→Prop)→Prop
noncomputable abbrev AI:=bw→av→(List D→(av→Prop)→av→Prop)→Prop
noncomputable abbrev A2:=D→D→av→AK→Prop
noncomputable abbrev A1:=D→av→AK→Prop
noncomputable abbrev AN:=List D→av→AK→Prop
section
variable (K:PySem.W.Frag) (w:Wd)
noncomputable def eF (Qa:AK) (Q:VK):Prop:=∀ r S' v w' H',w.le w'→Ok K w' H' S'→wB K w' H' S' r v→Qa r S'→Q v H'
noncomputable def zj (Qa:Bool→av→Prop) (Q:Bool→Hp→Prop):Prop:=∀ b S' w' H',w.le w'→Ok K w' H' S'→Qa b S'→Q b H'
noncomputable def Nj (Qa:List D→av→Prop) (Q:List V→Hp→Prop):Prop:=∀ ds S' vs w' H',w.le w'→Ok K w' H' S'→ak K w' ds vs→Qa ds S'→Q vs H'
noncomputable def Ni (Qa:Option Int→av→Prop) (Q:Option Int→Hp→Prop):Prop:=∀ i S' w' H',w.le w'→Ok K w' H' S'→Qa i S'→Q i H'
noncomputable def kR (Qa:bw→av→Prop) (Q:St→Hp→Prop):Prop:=∀ δ S' σ w' H',w.le w'→Ok K w' H' S'→dZ K w' δ σ→Qa δ S'→Q σ H'
structure zh (Da:gU) (D:Ends):Prop where
 nx:kR K w Da.nx D.nx
 rt:eF K w Da.rt D.rt
 bk:kR K w Da.bk D.bk
 ct:kR K w Da.ct D.ct
structure Nf (J:It) (ds:List D) (P:av→Prop):Prop where
 go:∀ i H S w' d,w.le w'→Ok K w' H S→P S→ds[i]? = some d→J.go i H
 Az:∀ i H S w' d x H',w.le w'→Ok K w' H S→P S→ds[i]? = some d→J.Az i H x H'→∃ w3,w'.le w3∧Ok K w3 H' S∧Rep K w3 d x
 stop:∀ i H S w',w.le w'→Ok K w' H S→P S→i=ds.length→J.stop i H
noncomputable def Nk (Qa:List D→(av→Prop)→av→Prop) (R:It→Hp→Prop):Prop:=∀ ds P S' J w' H',w.le w'→Ok K w' H' S'→Nf K w' J ds P→Qa ds P S'→R J H'
end
section
variable {K:PySem.W.Frag}{w w':Wd}
theorem eF.le {Qa:AK}{Q:VK} (h:eF K w Qa Q) (e:w.le w'):eF K w' Qa Q:=fun r S v w2 H l=>h r S v w2 H (e.trans l)
theorem zj.le {Qa}{Q} (h:zj K w Qa Q) (e:w.le w'):zj K w' Qa Q:=fun r S w2 H l=>h r S w2 H (e.trans l)
theorem kR.le {Qa}{Q} (h:kR K w Qa Q) (e:w.le w'):kR K w' Qa Q:=fun r S v w2 H l=>h r S v w2 H (e.trans l)
theorem zh.le {Da:gU}{D:Ends} (h:zh K w Da D) (e:w.le w'):zh K w' Da D:=⟨h.nx.le e,h.rt.le e,h.bk.le e,h.ct.le e⟩
end
section
variable (K:PySem.W.Frag)
noncomputable def bu (a:AE):TE:=fun σ H Q=>∃ w δ S Qa,Ok K w H S∧dZ K w δ σ∧a δ S Qa∧eF K w Qa Q
noncomputable def gD (a:AT):TT:=fun σ H Q=>∃ w δ S Qa,Ok K w H S∧dZ K w δ σ∧a δ S Qa∧zj K w Qa Q
noncomputable def k6 (a:AA):TA:=fun σ H Q=>∃ w δ S Qa,Ok K w H S∧dZ K w δ σ∧a δ S Qa∧Nj K w Qa Q
noncomputable def Dm (a:AO):TO:=fun σ H Q=>∃ w δ S Qa,Ok K w H S∧dZ K w δ σ∧a δ S Qa∧Ni K w Qa Q
noncomputable def gf (a:AS):TS:=fun D σ H=>∃ w δ S Da,Ok K w H S∧dZ K w δ σ∧a Da δ S∧zh K w Da D
noncomputable def vY (a:AG):TG:=fun x σ H Q=>∃ w d δ S Qa,Ok K w H S∧dZ K w δ σ∧Rep K w d x∧a d δ S Qa∧kR K w Qa Q
noncomputable def t9 (a:Ez):GQ:=fun xs σ H Q=>∃ w ds δ S Qa,Ok K w H S∧dZ K w δ σ∧ak K w ds xs∧a ds δ S Qa∧kR K w Qa Q
noncomputable def Ae (a:AI):TI:=fun σ H R=>∃ w δ S Qa,Ok K w H S∧dZ K w δ σ∧a δ S Qa∧Nk K w Qa R
noncomputable def ud (a:A2):R2:=fun x y H Q=>∃ w d e S Qa,Ok K w H S∧Rep K w d x∧Rep K w e y∧a d e S Qa∧eF K w Qa Q
noncomputable def Km (a:AN):List V→Hp→VK→Prop:=fun xs H Q=>∃ w ds S Qa,Ok K w H S∧ak K w ds xs∧a ds S Qa∧eF K w Qa Q
noncomputable def MF (a:D→List D→av→AK→Prop):V→List V→Hp→VK→Prop:=fun x xs H Q=>∃ w d ds S Qa,Ok K w H S∧Rep K w d x∧ak K w ds xs∧a d ds S Qa∧eF K w Qa Q
noncomputable def aL (a:AN):Sp:=fun vs H Q _=>Km K a vs H Q
end
structure GE (X:Cx) (e:Expr) (a:AE):Prop where
 p:PE X e (bu X.K a)
structure GT (X:Cx) (e:Expr) (a:AT):Prop where
 p:PT X e (gD X.K a)
structure GW (X:Cx) (e:Expr) (a:AT):Prop where
 p:PW X e (gD X.K a)
structure GA (X:Cx) (e:List Expr) (a:AA):Prop where
 p:PA X e (k6 X.K a)
structure GO (X:Cx) (e:Option Expr) (a:AO):Prop where
 p:PO X e (Dm X.K a)
structure GS (X:Cx) (s:Stmt) (a:AS):Prop where
 p:PS X s (gf X.K a)
structure AU (X:Cx) (s:List Stmt) (a:AS):Prop where
 p:rM X s (gf X.K a)
structure GG (X:Cx) (e:Expr) (a:AG):Prop where
 p:PG X e (vY X.K a)
structure NJ (X:Cx) (e:List Expr) (a:Ez):Prop where
 p:KQ X e (t9 X.K a)
structure GI (X:Cx) (tg e:Expr) (a:AI):Prop where
 p:PI X tg e (Ae X.K a)
structure NI (X:Cx) (e:List Expr) (a:AT):Prop where
 p:GV X e (gD X.K a)
structure pW (X:Cx) (f:Value→Value→Sem Value) (a:A2):Prop where
 p:fj X f (ud X.K a)
structure uS (X:Cx) (f:Value) (a:AN):Prop where
 p:bS X f (Km X.K a)
structure Po (X:Cx) (a:A2):Prop where
 p:AR X (ud X.K a)
section
variable {X:Cx}
theorem mE {e:Expr}{t u:TE} (h:PE X e t) (m:∀ σ H Q,u σ H Q→t σ H Q):PE X e u:=fun pins s σ H Q I q=>h pins s σ H Q I (m σ H Q q)
theorem mT {e:Expr}{t u:TT} (h:PT X e t) (m:∀ σ H Q,u σ H Q→t σ H Q):PT X e u:=fun pins s σ H Q I q=>h pins s σ H Q I (m σ H Q q)
theorem mW {e:Expr}{t u:TT} (h:PW X e t) (m:∀ σ H Q,u σ H Q→t σ H Q):PW X e u:=fun wh pins s σ H Q I q=>h wh pins s σ H Q I (m σ H Q q)
theorem mA {e:List Expr}{t u:TA} (h:PA X e t) (m:∀ σ H Q,u σ H Q→t σ H Q):PA X e u:=fun pos pins s σ H Q I q=>h pos pins s σ H Q I (m σ H Q q)
theorem mO {e:Option Expr}{t u:TO} (h:PO X e t) (m:∀ σ H Q,u σ H Q→t σ H Q):PO X e u:=fun pins s σ H Q I q=>h pins s σ H Q I (m σ H Q q)
theorem mS {e:Stmt}{t u:TS} (h:PS X e t) (m:∀ D σ H,u D σ H→t D σ H):PS X e u:=fun pins s σ H D I q=>h pins s σ H D I (m D σ H q)
theorem Pb {e:List Stmt}{t u:TS} (h:rM X e t) (m:∀ D σ H,u D σ H→t D σ H):rM X e u:=fun pins s σ H D I q=>h pins s σ H D I (m D σ H q)
theorem mG {e:Expr}{t u:TG} (h:PG X e t) (m:∀ x σ H Q,u x σ H Q→t x σ H Q):PG X e u:=fun pins s σ H x v Q I r q=>h pins s σ H x v Q I r (m x σ H Q q)
theorem Pc {e:List Expr}{t u:GQ} (h:KQ X e t) (m:∀ x σ H Q,u x σ H Q→t x σ H Q):KQ X e u:=fun pins s σ H x v Q I r q=>h pins s σ H x v Q I r (m x σ H Q q)
theorem mI {g e:Expr}{t u:TI} (h:PI X g e t) (m:∀ σ H R,u σ H R→t σ H R):PI X g e u:=fun pins s σ H R I q=>h pins s σ H R I (m σ H R q)
theorem mTs {e:List Expr}{t u:TT} (h:GV X e t) (m:∀ σ H Q,u σ H Q→t σ H Q):GV X e u:=fun pins s σ H Q I q=>h pins s σ H Q I (m σ H Q q)
theorem m2 {f:Value→Value→Sem Value}{t u:R2} (h:fj X f t) (m:∀ x y H Q,u x y H Q→t x y H Q):fj X f u:=fun pins s σ H x y v u Q I r r' q=>h pins s σ H x y v u Q I r r' (m x y H Q q)
theorem mC {f:Value}{t u:List V→Hp→VK→Prop} (h:bS X f t) (m:∀ x H Q,u x H Q→t x H Q):bS X f u:=fun pins s σ H x v Q I r q=>h pins s σ H x v Q I r (m x H Q q)
end
noncomputable def fJ (i:Nat):AE:=fun δ S Q=>∃ d,δ[i]? = some (some d)∧Q (.dat d) S
noncomputable def aC (d:D):AE:=fun _ S Q=>Q (.dat d) S
noncomputable def AF (r:A2) (a b:AE):AE:=fun δ S Q=>a δ S fun x S1=>b δ S1 fun y S2=>r x.d y.d S2 Q
noncomputable def aUn (r:A1) (a:AE):AE:=fun δ S Q=>a δ S fun x S1=>r x.d S1 Q
noncomputable def kG:AA:=fun _ S Q=>Q [] S
noncomputable def iL (a:AE) (b:AA):AA:=fun δ S Q=>a δ S fun x S1=>b δ S1 fun xs S2=>Q (x.d::xs) S2
noncomputable def Gz (a:AA):AE:=fun δ S Q=>a δ S fun ds S1=>ds.length≤sizeLine∧Q (.dat (.tup ds)) S1
noncomputable def DM (a:AA):AE:=fun δ S Q=>a δ S fun ds S1=>ds.length≤sizeLine∧Q (.new (.lst ds)) S1
noncomputable def gH (a:AE):AE:=fun δ S Q=>a δ S fun r S1=>match r with
 | .new o=>Q (.dat (.loc S1.length)) (S1++[some o])
 | .dat d=>Q (.dat d) S1
noncomputable def aCall (sp:AN) (a:AA):AE:=fun δ S Q=>a δ S fun ds S1=>sp ds S1 Q
noncomputable def aB (a:AE):AT:=fun δ S Q=>a δ S fun r S1=>∃ b,r.d = .bl b∧Q b S1
noncomputable def eS:D→Option Bool
 | .bH=>some false
 | .bl b=>some b
 | .int i=>some (i != 0)
 | .str y=>if y.length≤sizeLine then some ((y.length:Int) != 0) else none
 | .tup ds=>some (!ds.isEmpty)
 | .lst ds=>some (!ds.isEmpty)
 | .dct ks _=>some (!ks.isEmpty)
 | _=>none
noncomputable def Kv (a:AE):AT:=fun δ S Q=>a δ S fun r S1=>∃ b,eS (aV S1 r.d)=some b∧Q b S1
noncomputable def DV (a b:AE):AE:=fun δ S Q=>a δ S fun x S1=>∃ c,x.d = .bl c∧if c=true then b δ S1 Q else Q (.dat (.bl false)) S1
noncomputable def OX (a b:AE):AE:=fun δ S Q=>a δ S fun x S1=>∃ c,x.d = .bl c∧if c=true then Q (.dat (.bl true)) S1 else b δ S1 Q
noncomputable def MS (a:AE):AE:=fun δ S Q=>a δ S fun x S1=>∃ c,x.d = .bl c∧Q (.dat (.bl (!c))) S1
noncomputable def GP (a b:AT):AT:=fun δ S Q=>a δ S fun c S1=>if c=true then b δ S1 Q else Q false S1
noncomputable def OY (a b:AT):AT:=fun δ S Q=>a δ S fun c S1=>if c=true then Q true S1 else b δ S1 Q
noncomputable def KA (a:AT):AT:=fun δ S Q=>a δ S fun c S1=>Q (!c) S1
noncomputable def aIf (t:AT) (a b:AE):AE:=fun δ S Q=>t δ S fun c S1=>if c=true then a δ S1 Q else b δ S1 Q
noncomputable def nX (r r':A2) (a b c:AE):AE:=fun δ S Q=>a δ S fun x S1=>b δ S1 fun y S2=>r x.d y.d S2 fun z S3=>∃ k,z.d = .bl k∧if k=true then c δ S3 fun z' S4=>r' y.d z'.d S4 Q else Q (.dat (.bl false)) S3
noncomputable def lV:AO:=fun _ S Q=>Q none S
noncomputable def DJ (a:AE):AO:=fun δ S Q=>a δ S fun r S1=>∃ i,r.d = .int i∧Q (some i) S1
noncomputable def OW (r:D→Option Int→Option Int→av→AK→Prop) (a:AE) (l u:AO):AE:=fun δ S Q=>a δ S fun x S1=>l δ S1 fun i S2=>u δ S2 fun j S3=>r x.d i j S3 Q
noncomputable def DK:AS:=fun D δ S=>D.nx δ S
noncomputable def uB (a b:AS):AS:=fun D δ S=>a { D with nx:=b D } δ S
noncomputable def Ky (a:AE):AS:=fun D δ S=>a δ S D.rt
noncomputable def MR:AS:=fun D _ S=>D.rt (.dat .bH) S
noncomputable def DP (a:AE):AS:=fun D δ S=>a δ S fun _ S1=>D.nx δ S1
noncomputable def KG (c:AT) (a b:AS):AS:=fun D δ S=>c δ S fun k S1=>if k=true then a D δ S1 else b D δ S1
noncomputable def bD (i:Nat):AG:=fun d δ S Q=>Q (δ.set i (some d)) S
noncomputable def DC:Ez:=fun ds δ S Q=>ds=[]∧Q δ S
noncomputable def rE (a:AG) (b:Ez):Ez:=fun ds δ S Q=>∃ d r,ds=d::r∧a d δ S fun δ1 S1=>b r δ1 S1 Q
noncomputable def DB (n:Nat) (a:Ez):AG:=fun d δ S Q=>∃ ds,d = .tup ds∧ds.length=n∧a ds δ S Q
noncomputable def DT (a:AE) (g:AG):AS:=fun D δ S=>a δ S fun r S1=>g r.d δ S1 D.nx
noncomputable def jB (P:av→Prop) (g:AG) (b:AS):List D→gU→bw→av→Prop
 | [],D,δ,S=>P S∧D.nx δ S
 | x::xs,D,δ,S=>P S∧g x δ S fun δ2 S2=>b { D with nx:=jB P g b xs D,ct:=jB P g b xs D,bk:=D.nx } δ2 S2
noncomputable def nW (i:AI) (g:AG) (b:AS):AS:=fun D δ S=>i δ S fun ds P S1=>jB P g b ds D δ S1
noncomputable def DH (c:AT) (b:AS):AS:=fun D δ S=>∃ W:Nat→bw→av→Prop,(∃ m,W m δ S)∧∀ m δ S,W m δ S →
 c δ S fun k S1=>if k=true then ∃ N:bw→av→Prop,(∀ δ' S',N δ' S'→∃ m',m'<m∧W m' δ' S')∧b { D with nx:=N,ct:=N,bk:=D.nx } δ S1 else D.nx δ S1
noncomputable def gg:AT:=fun _ S Q=>Q true S
noncomputable def bR (P:av→Prop) (g:AG) (t:AT) (e:AE):List D→List D→bw→av→(List D→av→Prop)→Prop
 | [],acc,_,S,Q=>P S∧Q acc S
 | x::xs,acc,δ,S,Q=>P S∧g x δ S fun δ2 S2=>t δ2 S2 fun b S3=>if b=true then e δ2 S3 fun r S4=>acc.length<sizeLine∧bR P g t e xs (acc++[r.d]) δ2 S4 Q else bR P g t e xs acc δ2 S3 Q
noncomputable def gG (caps:List (Option Nat)) (δ:bw):bw:=caps.map fun o=>o.bind fun i=>(δ[i]?).getD none
noncomputable def kP (caps:List (Option Nat)) (i:AI) (g:AG) (t:AT) (e:AE):AE:=fun δ S Q=>i δ S fun ds P S1=>bR P g t e ds [] (gG caps δ) S1 fun ds' S2=>Q (.new (.lst ds')) S2
noncomputable def cW (lo:Int) (n:Nat):List D:=(zcM n).map fun k:Nat=>.int (lo+(k:Int))
noncomputable def tO (a:AA):AI:=fun δ S Q=>a δ S fun ds S1=>∃ j:Int,ds=[.int j]∧(-(2 ^ 62)≤j∧j<2 ^ 62)∧Q (cW 0 j.toNat) (fun _=>True) S1
noncomputable def signs (x:Str):List D:=x.cps.toList.map fun c=>.str ⟨#[c]⟩
section
variable {K:PySem.W.Frag}
theorem eF.go {w:Wd}{Qa:AK}{Q:VK} (h:∀ r S' v w' H',w.le w'→Ok K w' H' S'→Rep K w' r.d v→Qa r S'→Q v H'):eF K w Qa Q:=fun r S' v w' H' le ok rep q=>by
 obtain ⟨w2,le2,ok2,rep2⟩:=freeze ok rep
 exact h r S' v w2 H' (le.trans le2) ok2 rep2 q
theorem eF.dat {w w':Wd}{Qa:AK}{Q:VK}{d:D}{v:V}{S:av}{H:Hp} (h:eF K w Qa Q) (le:w.le w') (ok:Ok K w' H S) (rep:Rep K w' d v) (q:Qa (.dat d) S):Q v H:=h (.dat d) S v w' H le ok rep q
theorem Lp {i:Nat}:∀ σ H Q,bu K (fJ i) σ H Q→l6 i σ H Q:=by
 rintro σ H Q ⟨w,δ,S,Qa,ok,env,⟨d,e,q⟩,bk⟩
 obtain ⟨v,e1,e2⟩:=env.2 i d e
 exact ⟨v,e1,bk.dat .refl ok e2 q⟩
theorem LC {d:D}{v:V} (h:∀ w,Rep K w d v):∀ σ H Q,bu K (aC d) σ H Q→tC v σ H Q:=by
 rintro σ H Q ⟨w,δ,S,Qa,ok,env,q,bk⟩
 exact bk.dat .refl ok (h w) q
theorem E1 {r:A2}{a b:AE}:∀ σ H Q,bu K (AF r a b) σ H Q→wU (ud K r) (bu K a) (bu K b) σ H Q:=by
 rintro σ H Q ⟨w,δ,S,Qa,ok,env,q,bk⟩
 refine ⟨w,δ,S,_,ok,env,q,.go fun r1 S1 v1 w1 H1 le1 ok1 rep1 q1 => ?_⟩
 refine ⟨w1,δ,S1,_,ok1,env.le le1,q1,.go fun r2 S2 v2 w2 H2 le2 ok2 rep2 q2 => ?_⟩
 exact ⟨w2,r1.d,r2.d,S2,Qa,ok2,rep1.le le2,rep2,q2,bk.le (le1.trans le2)⟩
theorem Lw:∀ σ H Q,k6 K kG σ H Q→AZ σ H Q:=by
 rintro σ H Q ⟨w,δ,S,Qa,ok,env,q,bk⟩
 exact bk [] S [] w H .refl ok .nil q
theorem IY {a:AE}{b:AA}:∀ σ H Q,k6 K (iL a b) σ H Q→wW (bu K a) (k6 K b) σ H Q:=by
 rintro σ H Q ⟨w,δ,S,Qa,ok,env,q,bk⟩
 refine ⟨w,δ,S,_,ok,env,q,.go fun r1 S1 v1 w1 H1 le1 ok1 rep1 q1 => ?_⟩
 refine ⟨w1,δ,S1,_,ok1,env.le le1,q1,fun ds S2 vs w2 H2 le2 ok2 rep2 q2 => ?_⟩
 exact bk _ S2 _ w2 H2 (le1.trans le2) ok2 (.cons (rep1.le le2) rep2) q2
theorem Lq {a:AA}:∀ σ H Q,bu K (Gz a) σ H Q→Lc (k6 K a) σ H Q:=by
 rintro σ H Q ⟨w,δ,S,Qa,ok,env,q,bk⟩
 refine ⟨w,δ,S,_,ok,env,q,fun ds S1 vs w1 H1 le1 ok1 rep1 ⟨hl,q1⟩=>⟨by rw [rep1.length];exact hl,fun p hp => ?_⟩⟩
 obtain ⟨w2,le2,ok2,rep2⟩:=ok1.nh hp rep1
 exact bk.dat (le1.trans le2) ok2 rep2 q1
theorem Lx {a:AA}:∀ σ H Q,bu K (DM a) σ H Q→Il (k6 K a) σ H Q:=by
 rintro σ H Q ⟨w,δ,S,Qa,ok,env,q,bk⟩
 refine ⟨w,δ,S,_,ok,env,q,fun ds S1 vs w1 H1 le1 ok1 rep1 ⟨hl,q1⟩=>⟨by rw [rep1.length];exact hl,fun p hp => ?_⟩⟩
 exact bk (.new (.lst ds)) S1 _ w1 _ le1 (ok1.alloc hp) (ok1.fresh hp ⟨vs,rfl,rep1⟩) q1
theorem s_alloc {a:AE}:∀ σ H Q,bu K (gH a) σ H Q→bu K a σ H Q:=by
 rintro σ H Q ⟨w,δ,S,Qa,ok,env,q,bk⟩
 refine ⟨w,δ,S,_,ok,env,q,fun r S1 v w1 H1 le1 ok1 rep1 q1 => ?_⟩
 cases r with
 | dat d=>exact bk.dat le1 ok1 rep1 q1
 | new o =>
  obtain ⟨w2,le2,ok2,rep2⟩:=store ok1 rep1
  exact bk.dat (le1.trans le2) ok2 rep2 q1
theorem s_call {sp:AN}{a:AA}{E:XK}:∀ σ H Q,bu K (aCall sp a) σ H Q→wX (aL K sp) [] E (k6 K a) σ H Q:=by
 rintro σ H Q ⟨w,δ,S,Qa,ok,env,q,bk⟩
 refine ⟨w,δ,S,_,ok,env,q,fun ds S1 vs w1 H1 le1 ok1 rep1 q1 => ?_⟩
 exact ⟨w1,ds,S1,Qa,ok1,by rw [zbQ];exact rep1,q1,bk.le le1⟩
theorem LB {r:AN}{a:AA}:∀ σ H Q,bu K (aCall r a) σ H Q→K5 (Km K r) (k6 K a) σ H Q:=by
 rintro σ H Q ⟨w,δ,S,Qa,ok,env,q,bk⟩
 refine ⟨w,δ,S,_,ok,env,q,fun ds S1 vs w1 H1 le1 ok1 rep1 q1 => ?_⟩
 exact ⟨w1,ds,S1,Qa,ok1,rep1,q1,bk.le le1⟩
theorem mP {w:Wd}{b:Bool}{v:V}{d:D} (h:Rep K w d v) (e:d = .bl b):v = .bl b:=by subst e;simpa [Rep] using h
theorem aY {w:Wd}{b:Int}{v:V}{d:D} (h:Rep K w d v) (e:d = .int b):v = .int b:=by subst e;simpa [Rep] using h
theorem dW {w:Wd}{b:Str}{v:V}{d:D} (h:Rep K w d v) (e:d = .str b):v = .str b:=by subst e;simpa [Rep] using h
theorem Fe {w:Wd}{v:V}{d:D} (h:Rep K w d v) (e:d = .bH):v = .bH:=by subst e;simpa [Rep] using h
theorem Jc {w:Wd}{n:String}{v:V}{d:D} (h:Rep K w d v) (e:d = .ty n):v = .ty n:=by subst e;simpa [Rep] using h
theorem Rep.bl {w:Wd}{b:Bool}:Rep K w (.bl b) (.bl b):=by simp [Rep]
theorem Rep.int {w:Wd}{b:Int}:Rep K w (.int b) (.int b):=by simp [Rep]
theorem Rep.str {w:Wd}{b:Str}:Rep K w (.str b) (.str b):=by simp [Rep]
theorem Rep.bH {w:Wd}:Rep K w .bH .bH:=by simp [Rep]
theorem Rep.ty {w:Wd}{n:String}:Rep K w (.ty n) (.ty n):=by simp [Rep]
theorem s_b {a:AE}:∀ σ H Q,gD K (aB a) σ H Q→tB (bu K a) σ H Q:=by
 rintro σ H Q ⟨w,δ,S,Qa,ok,env,q,bk⟩
 refine ⟨w,δ,S,_,ok,env,q,.go fun r1 S1 v1 w1 H1 le1 ok1 rep1 ⟨b,e,q1⟩=>⟨b,mP rep1 e,bk b S1 w1 H1 le1 ok1 q1⟩⟩
theorem ED {w:Wd}{H:Hp}{S:av}{d:D}{v:V}{b:Bool} (ok:Ok K w H S) (h:Rep K w d v) (e:eS (aV S d)=some b):DW K v H b:=by
 cases q:aV S d with
 | lst ds =>
  rw [q] at e
  obtain ⟨a,xs,rfl,h1,h2⟩:=aX ok h q
  refine Or.inl ⟨xs,b9.of h1,?_⟩
  have:b = !ds.isEmpty:=by simpa [eS] using e.symm
  rw [this]
  have:=h2.length
  cases ds <;> cases xs <;> simp at this ⊢
 | tup ds =>
  rw [q] at e
  obtain ⟨a,xs,rfl,h1,h2⟩:=dw ok h q
  refine Or.inr (Or.inl ⟨xs,eg.of h1,?_⟩)
  have:b = !ds.isEmpty:=by simpa [eS] using e.symm
  rw [this]
  have:=h2.length
  cases ds <;> cases xs <;> simp at this ⊢
 | dct ks ds =>
  rw [q] at e
  obtain ⟨a,kvs,rfl,h1,h2,h3⟩:=ic ok h q
  refine Or.inr (Or.inr ⟨kvs,h1,?_⟩)
  have:b = !ks.isEmpty:=by simpa [eS] using e.symm
  rw [this,← h2]
  cases kvs <;> simp
 | _ =>
  rw [q] at e
  cases d <;> simp [aV] at q <;> first
   | (subst q;simp only [Rep] at h;subst h;simp [eS] at e;simp [DW,e];done)
   | (simp [eS] at e;done)
   | skip
  all_goals first
   | (simp only [Rep] at h;subst h;subst q;simp only [eS,zcL.injEq] at e;subst e;rfl)
   | (simp only [Rep] at h;subst h;simp only [eS,zcL.injEq] at e;subst e;rfl)
   | (split at q <;> first | (rename_i o _;cases o <;> simp [MO.d] at q) | (cases q;simp [eS] at e) | cases q)
   | (simp only [Rep] at h;subst h;subst q;simp only [eS] at e;split at e;next hl=>exact ⟨hl,by simpa using e.symm⟩;next=>cases e)
   | skip
theorem Lr {a:AE}:∀ σ H Q,gD K (Kv a) σ H Q→(bu K a) σ H (fun x H'=>∃ k,DW K x H' k∧Q k H'):=by
 rintro σ H Q ⟨w,δ,S,Qa,ok,env,q,bk⟩
 exact ⟨w,δ,S,_,ok,env,q,.go fun r1 S1 v1 w1 H1 le1 ok1 rep1 ⟨b,e,q1⟩=>⟨b,ED ok1 rep1 e,bk b S1 w1 H1 le1 ok1 q1⟩⟩
theorem IZ {a b:AE}:∀ σ H Q,bu K (DV a b) σ H Q→G4 (bu K a) (bu K b) σ H Q:=by
 rintro σ H Q ⟨w,δ,S,Qa,ok,env,q,bk⟩
 refine ⟨w,δ,S,_,ok,env,q,.go fun r1 S1 v1 w1 H1 le1 ok1 rep1 ⟨c,e,q1⟩=>⟨c,mP rep1 e,?_⟩⟩
 cases c with
 | true=>exact vP ⟨w1,δ,S1,Qa,ok1,env.le le1,by simpa using q1,bk.le le1⟩
 | false=>exact kr (bk.dat le1 ok1 .bl (by simpa using q1))
theorem LD {a b:AT}:∀ σ H Q,gD K (GP a b) σ H Q→Lf (gD K a) (gD K b) σ H Q:=by
 rintro σ H Q ⟨w,δ,S,Qa,ok,env,q,bk⟩
 refine ⟨w,δ,S,_,ok,env,q,fun c S1 w1 H1 le1 ok1 q1 => ?_⟩
 cases c with
 | true=>exact vP ⟨w1,δ,S1,Qa,ok1,env.le le1,by simpa using q1,bk.le le1⟩
 | false=>exact kr (bk _ S1 w1 H1 le1 ok1 (by simpa using q1))
theorem N8 {a b:AT}:∀ σ H Q,gD K (OY a b) σ H Q→O7 (gD K a) (gD K b) σ H Q:=by
 rintro σ H Q ⟨w,δ,S,Qa,ok,env,q,bk⟩
 refine ⟨w,δ,S,_,ok,env,q,fun c S1 w1 H1 le1 ok1 q1 => ?_⟩
 cases c with
 | false=>exact kr ⟨w1,δ,S1,Qa,ok1,env.le le1,by simpa using q1,bk.le le1⟩
 | true=>exact vP (bk _ S1 w1 H1 le1 ok1 (by simpa using q1))
theorem Lv {a:AT}:∀ σ H Q,gD K (KA a) σ H Q→Ld (gD K a) σ H Q:=by
 rintro σ H Q ⟨w,δ,S,Qa,ok,env,q,bk⟩
 exact ⟨w,δ,S,_,ok,env,q,fun c S1 w1 H1 le1 ok1 q1=>bk _ S1 w1 H1 le1 ok1 q1⟩
theorem E9 {r r':A2}{a b c:AE}:∀ σ H Q,bu K (nX r r' a b c) σ H Q→Ba (ud K r) (ud K r') (bu K a) (bu K b) (bu K c) σ H Q:=by
 rintro σ H Q ⟨w,δ,S,Qa,ok,env,q,bk⟩
 refine ⟨w,δ,S,_,ok,env,q,.go fun r1 S1 v1 w1 H1 le1 ok1 rep1 q1 => ?_⟩
 refine ⟨w1,δ,S1,_,ok1,env.le le1,q1,.go fun r2 S2 v2 w2 H2 le2 ok2 rep2 q2 => ?_⟩
 refine ⟨w2,r1.d,r2.d,S2,_,ok2,rep1.le le2,rep2,q2,.go fun r3 S3 v3 w3 H3 le3 lG rep3 ⟨k,e3,q3⟩=>⟨k,mP rep3 e3,?_⟩⟩
 have JG:=le1.trans (le2.trans le3)
 cases k with
 | false=>exact kr (bk.dat JG lG .bl (by simpa using q3))
 | true =>
  rw [if_pos rfl] at q3
  refine vP ⟨w3,δ,S3,_,lG,env.le JG,q3,.go fun r4 S4 v4 w4 H4 le4 ok4 rep4 q4 => ?_⟩
  exact ⟨w4,r2.d,r4.d,S4,_,ok4,rep2.le (le3.trans le4),rep4,q4,bk.le (JG.trans le4)⟩
theorem BG:∀ σ H Q,Dm K lV σ H Q→gY σ H Q:=by
 rintro σ H Q ⟨w,δ,S,Qa,ok,env,q,bk⟩
 exact bk none S w H .refl ok q
theorem IJ {a:AE}:∀ σ H Q,Dm K (DJ a) σ H Q→oO (bu K a) σ H Q:=by
 rintro σ H Q ⟨w,δ,S,Qa,ok,env,q,bk⟩
 exact ⟨w,δ,S,_,ok,env,q,.go fun r1 S1 v1 w1 H1 le1 ok1 rep1 ⟨i,e,q1⟩=>⟨i,aY rep1 e,bk _ S1 w1 H1 le1 ok1 q1⟩⟩
noncomputable def HM (K:PySem.W.Frag) (a:D→Option Int→Option Int→av→AK→Prop):V→Option Int→Option Int→Hp→VK→Prop:=fun x i j H Q=>∃ w d S Qa,Ok K w H S∧Rep K w d x∧a d i j S Qa∧eF K w Qa Q
theorem NZ {r:D→Option Int→Option Int→av→AK→Prop}{a:AE}{l u:AO}:∀ σ H Q,bu K (OW r a l u) σ H Q→K4 (HM K r) (bu K a) (Dm K l) (Dm K u) σ H Q:=by
 rintro σ H Q ⟨w,δ,S,Qa,ok,env,q,bk⟩
 refine ⟨w,δ,S,_,ok,env,q,.go fun r1 S1 v1 w1 H1 le1 ok1 rep1 q1 => ?_⟩
 refine ⟨w1,δ,S1,_,ok1,env.le le1,q1,fun i S2 w2 H2 le2 ok2 q2 => ?_⟩
 refine ⟨w2,δ,S2,_,ok2,env.le (le1.trans le2),q2,fun j S3 w3 H3 le3 lG q3 => ?_⟩
 exact ⟨w3,r1.d,S3,Qa,lG,rep1.le (le2.trans le3),q3,bk.le (le1.trans (le2.trans le3))⟩
theorem IL:∀ D σ H,gf K DK D σ H→A0 D σ H:=by
 rintro D σ H ⟨w,δ,S,Da,ok,env,q,bk⟩
 exact bk.nx δ S σ w H .refl ok env q
theorem Ls {a b:AS}:∀ D σ H,gf K (uB a b) D σ H→EI (gf K a) (gf K b) D σ H:=by
 rintro D σ H ⟨w,δ,S,Da,ok,env,q,bk⟩
 refine ⟨w,δ,S,_,ok,env,q,⟨fun δ1 S1 σ1 w1 H1 le1 ok1 env1 q1 => ?_,bk.rt,bk.bk,bk.ct⟩⟩
 exact ⟨w1,δ1,S1,Da,ok1,env1,q1,bk.le le1⟩
theorem Lu {a:AE}:∀ D σ H,gf K (Ky a) D σ H→AY (bu K a) D σ H:=by
 rintro D σ H ⟨w,δ,S,Da,ok,env,q,bk⟩
 exact ⟨w,δ,S,_,ok,env,q,bk.rt⟩
theorem IW {a:AE}:∀ D σ H,gf K (DP a) D σ H→A6 (bu K a) D σ H:=by
 rintro D σ H ⟨w,δ,S,Da,ok,env,q,bk⟩
 exact ⟨w,δ,S,_,ok,env,q,.go fun r1 S1 v1 w1 H1 le1 ok1 rep1 q1=>bk.nx δ S1 σ w1 H1 le1 ok1 (env.le le1) q1⟩
theorem Ly {c:AT}{a b:AS}:∀ D σ H,gf K (KG c a b) D σ H→Im (gD K c) (gf K a) (gf K b) D σ H:=by
 rintro D σ H ⟨w,δ,S,Da,ok,env,q,bk⟩
 refine ⟨w,δ,S,_,ok,env,q,fun k S1 w1 H1 le1 ok1 q1 => ?_⟩
 cases k with
 | true=>exact vP ⟨w1,δ,S1,Da,ok1,env.le le1,by simpa using q1,bk.le le1⟩
 | false=>exact kr ⟨w1,δ,S1,Da,ok1,env.le le1,by simpa using q1,bk.le le1⟩
theorem qu {i:Nat}:∀ x σ H Q,vY K (bD i) x σ H Q→kM i x σ H Q:=by
 rintro x σ H Q ⟨w,d,δ,S,Qa,ok,env,rep,q,bk⟩
 exact bk _ S _ w H .refl ok (env.set rep i) q
theorem IV:∀ x σ H Q,t9 K DC x σ H Q→Mu x σ H Q:=by
 rintro x σ H Q ⟨w,ds,δ,S,Qa,ok,env,rep,⟨rfl,q⟩,bk⟩
 exact ⟨by simpa [ak] using rep,bk _ S _ w H .refl ok env q⟩
theorem E4 {a:AG}{b:Ez}:∀ x σ H Q,t9 K (rE a b) x σ H Q→HH (vY K a) (t9 K b) x σ H Q:=by
 rintro x σ H Q ⟨w,ds,δ,S,Qa,ok,env,rep,⟨d,r,rfl,q⟩,bk⟩
 simp only [ak] at rep
 obtain ⟨v,vs,rfl,h1,h2⟩:=rep
 refine ⟨v,vs,rfl,w,d,δ,S,_,ok,env,h1,q,fun δ1 S1 σ1 w1 H1 le1 ok1 env1 q1 => ?_⟩
 exact ⟨w1,r,δ1,S1,Qa,ok1,env1,h2.le le1,q1,bk.le le1⟩
theorem IU {n:Nat}{a:Ez}:∀ x σ H Q,vY K (DB n a) x σ H Q→Mt K n (t9 K a) x σ H Q:=by
 rintro x σ H Q ⟨w,d,δ,S,Qa,ok,env,rep,⟨ds,rfl,hl,q⟩,bk⟩
 simp only [Rep] at rep
 obtain ⟨p,xs,rfl,h1,h2⟩:=rep
 exact ⟨p,xs,rfl,eg.of (ok.base _ _ h1),by rw [h2.length];exact hl,w,ds,δ,S,Qa,ok,env,h2,q,bk⟩
theorem BJ {a:AE}{g:AG}:∀ D σ H,gf K (DT a g) D σ H→zq (bu K a) (vY K g) D σ H:=by
 rintro D σ H ⟨w,δ,S,Da,ok,env,q,bk⟩
 refine ⟨w,δ,S,_,ok,env,q,.go fun r1 S1 v1 w1 H1 le1 ok1 rep1 q1 => ?_⟩
 exact ⟨w1,r1.d,δ,S1,_,ok1,env.le le1,rep1,q1,bk.nx.le le1⟩
theorem LA {i:AI}{g:AG}{b:AS}:∀ D σ H,gf K (nW i g b) D σ H→Io (Ae K i) (vY K g) (gf K b) D σ H:=by
 rintro D σ H ⟨w,δ,S,Da,ok,env,q,bk⟩
 refine ⟨w,δ,S,_,ok,env,q,fun ds P S1 J w1 H1 le1 ok1 it q1 => ?_⟩
 refine ⟨fun i m σ H=>m=ds.length - i∧i≤ds.length∧∃ w2 δ2 S2,w1.le w2∧Ok K w2 H S2∧dZ K w2 δ2 σ∧jB P g b (ds.drop i) Da δ2 S2,⟨ds.length,by simp,zcI _,w1,δ,S1,.refl,ok1,env.le le1,by simpa using q1⟩,?_⟩
 rintro i m σ2 H2 ⟨rfl,hi,w2,δ2,S2,le2,ok2,env2,lp⟩
 by_cases hlt:i<ds.length
 ·rw [zah hlt] at lp
  obtain ⟨hP,lp⟩:=lp
  have hd:ds[i]? = some ds[i]:=zam hlt
  refine .inr ⟨it.go i H2 S2 w2 _ le2 ok2 hP hd,fun σ' H'=>∃ w3 δ3 S3,w1.le w3∧Ok K w3 H' S3∧dZ K w3 δ3 σ'∧jB P g b (ds.drop (i+1)) Da δ3 S3,fun σ' H' h=>⟨_,by omega,rfl,hlt,h⟩,fun x H' y => ?_⟩
  obtain ⟨w2',le2',ok2,rx⟩:=it.Az i H2 S2 w2 _ x H' le2 ok2 hP hd y
  replace env2:=env2.le le2'
  replace le2:=le2.trans le2'
  refine ⟨w2',ds[i],δ2,S2,_,ok2,env2,rx,lp,fun δ3 S3 σ3 w3 H3 le3 lG env3 q3 => ?_⟩
  have lew:=le1.trans (le2.trans le3)
  refine ⟨w3,δ3,S3,_,lG,env3,q3,⟨?_,bk.rt.le lew,bk.nx.le lew,?_⟩⟩
  ·exact fun δ4 S4 σ4 w4 H4 le4 ok4 env4 q4=>⟨w4,δ4,S4,le2.trans (le3.trans le4),ok4,env4,q4⟩
  ·exact fun δ4 S4 σ4 w4 H4 le4 ok4 env4 q4=>⟨w4,δ4,S4,le2.trans (le3.trans le4),ok4,env4,q4⟩
 ·have e:i=ds.length:=by omega
  subst e
  rw [List.drop_length] at lp
  exact .inl ⟨it.stop _ H2 S2 w2 le2 ok2 lp.1 rfl,bk.nx δ2 S2 σ2 w2 H2 (le1.trans le2) ok2 env2 lp.2⟩
theorem EZ {c:AT}{b:AS}:∀ D σ H,gf K (DH c b) D σ H→AX (gD K c) (gf K b) D σ H:=by
 rintro D σ H ⟨w,δ,S,Da,ok,env,⟨W,⟨m0,w0⟩,turn⟩,bk⟩
 refine ⟨fun m σ H=>∃ w1 δ1 S1,w.le w1∧Ok K w1 H S1∧dZ K w1 δ1 σ∧W m δ1 S1,⟨m0,w,δ,S,.refl,ok,env,w0⟩,?_⟩
 rintro m σ1 H1 ⟨w1,δ1,S1,le1,ok1,env1,h1⟩
 refine ⟨w1,δ1,S1,_,ok1,env1,turn m δ1 S1 h1,fun k S2 w2 H2 le2 ok2 q2 => ?_⟩
 cases k with
 | false=>exact kr (bk.nx δ1 S2 σ1 w2 H2 (le1.trans le2) ok2 (env1.le le2) (by simpa using q2))
 | true =>
  rw [if_pos rfl] at q2
  obtain ⟨N,hN,q2⟩:=q2
  have lew:=le1.trans le2
  refine vP ⟨fun σ' H'=>∃ w3 δ3 S3,w.le w3∧Ok K w3 H' S3∧dZ K w3 δ3 σ'∧N δ3 S3,?_,w2,δ1,S2,_,ok2,env1.le le2,q2,⟨?_,bk.rt.le lew,bk.nx.le lew,?_⟩⟩
  ·rintro σ' H' ⟨w3,δ3,S3,le3,lG,env3,n3⟩
   obtain ⟨m',hm,h3⟩:=hN δ3 S3 n3
   exact ⟨m',hm,w3,δ3,S3,le3,lG,env3,h3⟩
  ·exact fun δ4 S4 σ4 w4 H4 le4 ok4 env4 q4=>⟨w4,δ4,S4,lew.trans le4,ok4,env4,q4⟩
  ·exact fun δ4 S4 σ4 w4 H4 le4 ok4 env4 q4=>⟨w4,δ4,S4,lew.trans le4,ok4,env4,q4⟩
theorem Lo:∀ σ H Q,gD K gg σ H Q→EH σ H Q:=by
 rintro σ H Q ⟨w,δ,S,Qa,ok,env,q,bk⟩
 exact bk true S w H .refl ok q
theorem C8 {w:Wd}{δ:bw}{σ:St} (h:dZ K w δ σ) (caps:List (Option Nat)):dZ K w (gG caps δ) (oH caps σ):=by
 refine ⟨by simp [gG,oH],fun i d e => ?_⟩
 simp only [gG,zbh] at e
 cases q:caps[i]? with
 | none=>rw [q] at e;cases e
 | some o =>
  rw [q] at e
  cases o with
  | none=>simp at e
  | some j =>
   cases z:δ[j]? with
   | none=>rw [Option.map_some] at e;simp [z] at e
   | some d' =>
    simp [z] at e
    subst e
    obtain ⟨v,h1,h2⟩:=h.2 j d z
    exact ⟨v,by simp [oH,zbh,q,h1],h2⟩
theorem BI {caps:List (Option Nat)}{i:AI}{g:AG}{t:AT}{e:AE}:∀ σ H Q,bu K (kP caps i g t e) σ H Q→rR caps (Ae K i) (vY K g) (gD K t) (bu K e) σ H Q:=by
 rintro σ H Q ⟨w,δ,S,Qa,ok,env,q,bk⟩
 refine ⟨w,δ,S,_,ok,env,q,fun ds P S1 J w1 H1 le1 ok1 it q1 => ?_⟩
 refine ⟨fun i m xs τ H=>m=ds.length - i∧i≤ds.length∧∃ w2 δ2 S2 acc,w1.le w2∧Ok K w2 H S2∧dZ K w2 δ2 τ∧ak K w2 acc xs∧bR P g t e (ds.drop i) acc δ2 S2 (fun ds' S2=>Qa (.new (.lst ds')) S2),
  ⟨ds.length,by simp,zcI _,w1,gG caps δ,S1,[],.refl,ok1,C8 (env.le le1) caps,.nil,by simpa using q1⟩,?_⟩
 rintro i m xs τ2 H2 ⟨rfl,hi,w2,δ2,S2,acc,le2,ok2,env2,reps,lp⟩
 by_cases hlt:i<ds.length
 ·rw [zah hlt] at lp
  obtain ⟨hP,lp⟩:=lp
  have hd:ds[i]? = some ds[i]:=zam hlt
  refine .inr ⟨it.go i H2 S2 w2 _ le2 ok2 hP hd,fun ys τ' H'=>∃ w3 δ3 S3 acc,w1.le w3∧Ok K w3 H' S3∧dZ K w3 δ3 τ'∧ak K w3 acc ys∧bR P g t e (ds.drop (i+1)) acc δ3 S3 (fun ds' S2=>Qa (.new (.lst ds')) S2),fun ys σ' H' h=>⟨_,by omega,rfl,hlt,h⟩,fun x H' y => ?_⟩
  obtain ⟨w2',le2',ok2,rx⟩:=it.Az i H2 S2 w2 _ x H' le2 ok2 hP hd y
  replace env2:=env2.le le2'
  replace le2:=le2.trans le2'
  replace reps:=reps.le le2'
  refine ⟨w2',ds[i],δ2,S2,_,ok2,env2,rx,lp,fun δ3 S3 σ3 w3 H3 le3 lG env3 q3 => ?_⟩
  refine ⟨w3,δ3,S3,_,lG,env3,q3,fun k S4 w4 H4 le4 ok4 q4 => ?_⟩
  cases k with
  | false =>
   exact kr ⟨w4,δ3,S4,acc,le2.trans (le3.trans le4),ok4,env3.le le4,reps.le (le3.trans le4),by simpa using q4⟩
  | true =>
   rw [if_pos rfl] at q4
   refine vP ⟨w4,δ3,S4,_,ok4,env3.le le4,q4,.go fun r5 S5 v5 w5 H5 le5 ok5 rep5 ⟨hz,q5⟩ => ?_⟩
   exact ⟨by rw [reps.length];exact hz,w5,δ3,S5,acc++[r5.d],le2.trans (le3.trans (le4.trans le5)),ok5,env3.le (le4.trans le5),(reps.le (le3.trans (le4.trans le5))).snoc rep5,q5⟩
 ·have e:i=ds.length:=by omega
  subst e
  rw [List.drop_length] at lp
  refine .inl ⟨it.stop _ H2 S2 w2 le2 ok2 lp.1 rfl,fun p hp => ?_⟩
  exact bk (.new (.lst acc)) S2 _ w2 _ (le1.trans le2) (ok2.alloc hp) (ok2.fresh hp ⟨xs,rfl,reps⟩) lp.2
theorem F3 {w:Wd}{p:Addr}{xs:List V}{ds:List D} (h1:w.B p=some (.lst xs)) (h:ak K w ds xs):Nf K w (Nd K p) ds (fun _=>True) where
 go:=fun i H S w' d le ok hP e=>by
  obtain ⟨v,e1,_⟩:=h.get e
  exact ⟨xs,v,b9.of ((le.b.trans ok.base) _ _ h1),e1⟩
 Az:=fun i H S w' d x H' le ok hP e y=>by
  obtain ⟨v,e1,e2⟩:=h.get e
  obtain ⟨y1,y2⟩:=y
  have:=y2 xs (b9.of ((le.b.trans ok.base) _ _ h1))
  rw [e1] at this;cases this
  subst y1
  exact ⟨w',.refl,ok,e2.le le⟩
 stop:=fun i H S w' le ok hP e=>⟨xs,b9.of ((le.b.trans ok.base) _ _ h1),by rw [h.length];omega⟩
theorem F4 {w:Wd}{p:Addr}{n:Nat}{ds:List D} (hp:w.r n=some p):Nf K w (Nd K p) ds (fun S=>S[n]? = some (some (.lst ds))) where
 go:=fun i H S w' d le ok hP e=>by
  obtain ⟨b,u,k1,k2,k3,ys,rfl,k5⟩:=ok.live n _ hP
  rw [le.r n p hp] at k1;cases k1
  obtain ⟨v,e1,_⟩:=k5.get e
  exact ⟨ys,v,b9.of k3,e1⟩
 Az:=fun i H S w' d x H' le ok hP e y=>by
  obtain ⟨b,u,k1,k2,k3,ys,rfl,k5⟩:=ok.live n _ hP
  rw [le.r n p hp] at k1;cases k1
  obtain ⟨v,e1,e2⟩:=k5.get e
  obtain ⟨y1,y2⟩:=y
  have:=y2 ys (b9.of k3)
  rw [e1] at this;cases this
  subst y1
  exact ⟨w',.refl,ok,e2⟩
 stop:=fun i H S w' le ok hP e=>by
  obtain ⟨b,u,k1,k2,k3,ys,rfl,k5⟩:=ok.live n _ hP
  rw [le.r n p hp] at k1;cases k1
  exact ⟨ys,b9.of k3,by rw [k5.length];omega⟩
theorem FZ {w:Wd}{p:Addr}{xs:List V}{ds:List D} (h1:w.B p=some (.tup xs)) (h2:ak K w ds xs):Nf K w (NG K p) ds (fun _=>True) where
 go:=fun i H S w' d le ok hP e=>by
  obtain ⟨v,e1,_⟩:=h2.get e
  exact ⟨xs,v,eg.of ((le.b.trans ok.base) _ _ h1),e1⟩
 Az:=fun i H S w' d x H' le ok hP e y=>by
  obtain ⟨v,e1,e2⟩:=h2.get e
  obtain ⟨y1,y2⟩:=y
  have:=y2 xs (eg.of ((le.b.trans ok.base) _ _ h1))
  rw [e1] at this;cases this
  subst y1
  exact ⟨w',.refl,ok,e2.le le⟩
 stop:=fun i H S w' le ok hP e=>⟨xs,eg.of ((le.b.trans ok.base) _ _ h1),by rw [h2.length];omega⟩
theorem F0 {w:Wd}{x:Str}:Nf K w (NH x) (signs x) (fun _=>True) where
 go:=fun i H S w' d le ok hP e=>by
  have:i<(signs x).length:=by
   rcases zcx i (signs x).length with h | h
   ·exact h
   ·rw [zav h] at e;cases e
  show i<x.cps.size
  simpa [signs] using this
 Az:=fun i H S w' d y H' le ok hP e z=>by
  obtain ⟨z1,c,z2,rfl⟩:=z
  subst z1
  refine ⟨w',.refl,ok,?_⟩
  rw [signs,zbh] at e
  have z2':x.cps.toList[i]? = some c:=by simpa using z2
  rw [z2'] at e
  have:D.str ⟨#[c]⟩=d:=by simpa using e
  subst this
  exact .str
 stop:=fun i H S w' le ok hP e=>by
  show _=_
  rw [e];simp [signs]
noncomputable def yp (S1:av) (Q:List D→(av→Prop)→av→Prop):D→Prop
 | .lst ds=>Q ds (fun _=>True) S1
 | .tup ds=>Q ds (fun _=>True) S1
 | .str x=>Q (signs x) (fun _=>True) S1
 | .loc n=>∃ ds,S1[n]? = some (some (.lst ds))∧Q ds (fun S=>S[n]? = some (some (.lst ds))) S1
 | _=>False
noncomputable def zZ (t:AE):AI:=fun δ S Q=>t δ S fun r S1=>yp S1 Q r.d
theorem IS {t:AE}:∀ σ H R,Ae K (zZ t) σ H R→(bu K t) σ H fun x H1=>(∃ a,x = .ref a∧(∃ xs,b9 K H1 a xs)∧R (Nd K a) H1)∨(∃ a,x = .ref a∧(∃ xs,eg K H1 a xs)∧R (NG K a) H1)∨∃ y,x = .str y∧R (NH y) H1:=by
 rintro σ H R ⟨w,δ,S,Qa,ok,env,q,bk⟩
 refine ⟨w,δ,S,_,ok,env,q,.go fun r1 S1 v1 w1 H1 le1 ok1 rep1 q1 => ?_⟩
 generalize r1.d=d at rep1 q1
 cases d with
 | lst ds =>
  simp only [Rep] at rep1
  obtain ⟨p,xs,rfl,h1,h2⟩:=rep1
  exact .inl ⟨p,rfl,⟨xs,b9.of (ok1.base _ _ h1)⟩,bk ds _ S1 _ w1 H1 le1 ok1 (F3 h1 h2) q1⟩
 | tup ds =>
  simp only [Rep] at rep1
  obtain ⟨p,xs,rfl,h1,h2⟩:=rep1
  exact .inr (.inl ⟨p,rfl,⟨xs,eg.of (ok1.base _ _ h1)⟩,bk ds _ S1 _ w1 H1 le1 ok1 (FZ h1 h2) q1⟩)
 | str x=>exact .inr (.inr ⟨x,dW rep1 rfl,bk _ _ S1 _ w1 H1 le1 ok1 F0 q1⟩)
 | loc n =>
  simp only [Rep] at rep1
  obtain ⟨p,hp,rfl⟩:=rep1
  obtain ⟨ds,e,q1⟩:=q1
  obtain ⟨p',u,g1,g2,g3,xs,rfl,g5⟩:=ok1.live n _ e
  rw [hp] at g1;cases g1
  exact .inl ⟨p,rfl,⟨xs,b9.of g3⟩,bk ds _ S1 _ w1 H1 le1 ok1 (F4 hp) q1⟩
 | _=>exact q1.elim
theorem BN {lo:Int}{n i:Nat}{d:D} (e:(cW lo n)[i]? = some d):i<n∧d = .int (lo+(i:Int)):=by
 unfold cW at e
 rw [zbh] at e
 by_cases h:i<n
 ·rw [List.getElem?_range h] at e
  exact ⟨h,by simpa using e.symm⟩
 ·rw [zav (by simpa using h)] at e;cases e
theorem IQ {a:AA}:∀ σ H R,Ae K (tO a) σ H R→CT (k6 K a) σ H R:=by
 rintro σ H R ⟨w,δ,S,Qa,ok,env,q,bk⟩
 refine ⟨w,δ,S,_,ok,env,q,fun ds S1 vs w1 H1 le1 ok1 rep1 ⟨j,hd,⟨h1,h2⟩,q1⟩=>⟨j,?_,h1,h2,?_⟩⟩
 ·subst hd
  simp only [ak,Rep] at rep1
  obtain ⟨x,r,rfl,rfl,rfl⟩:=rep1
  rfl
 ·refine bk _ _ S1 _ w1 H1 le1 ok1 ⟨fun i H S w' d le ok hP e => ?_,fun i H S w' d x H' le ok hP e y => ?_,fun i H S w' le ok hP e => ?_⟩ q1
  ·exact (BN e).1
  ·obtain ⟨y1,y2⟩:=y
   obtain ⟨e1,rfl⟩:=BN e
   subst y2 y1
   exact ⟨w',.refl,ok,.int⟩
  ·show _≤_
   rw [e];simp [cW]
end
end M
namespace M
open PySem PySem.Spec PyProof.Rows L2
section
variable {X:Cx}{pos:Pos}{e a b c:Expr}{es:List Expr}
theorem pv (i:Nat) {x:Str} (hN:X.N[i]? = some x:=by rfl) (hv:MZ X.env.scope x:=by first | exact Or.inl rfl | exact Or.inr (Or.inl rfl) | exact Or.inr (Or.inr rfl)) (hd:(x==("__debug__" : Str))=false:=by decide)
  (hcd:(x==("__classdict__" : Str))=false:=by decide):GE X (.Name x pos) (fJ i):=⟨mE (L2.B8 hN hv hd hcd) Lp⟩
theorem ah {i j}:GE X (.Constant (.int i) j pos) (aC (.int i)):=⟨mE L2.ah (LC fun _=>.int)⟩
theorem fz {i j}:GE X (.Constant (.bool i) j pos) (aC (.bl i)):=⟨mE L2.fz (LC fun _=>.bl)⟩
theorem au {i j}:GE X (.Constant (.str i) j pos) (aC (.str i)):=⟨mE L2.au (LC fun _=>.str)⟩
theorem B9 (T:String) {x:Str} (hg:Gl X x) (hm:X.mg x=none) (hv:bootBuiltins x=some (.type T)) (hn:x ≠ "__name__" := by decide +kernel) (hd:(x==("__debug__" : Str))=false:=by decide +kernel):GE X (.Name x pos) (aC (.ty T)) :=
 ⟨mE (L2.B9 T hg hm hv hn hd) (LC fun _=>.ty)⟩
theorem qI {x:Str}{d:D}{v:V}{u:Value} (hg:Gl X x) (hm:X.mg x=some u) (r:RelV v u) (h:∀ w,Rep X.K w d v) (hd:(x==("__debug__" : Str))=false:=by decide):GE X (.Name x pos) (aC d) :=
 ⟨mE (L2.qI hg hm r hd) (LC h)⟩
theorem aE {op:Operator}{r:A2}{ta tb:AE} (ho:pW X (binaryOp op) r) (ha:GE X a ta) (hb:GE X b tb):GE X (.BinOp a op b pos) (AF r ta tb):=⟨mE (L2.aE ho.p ha.p hb.p) E1⟩
theorem fT {op:CmpOp}{r:A2}{ta tb:AE} (ho:pW X (compareOp op) r) (ha:GE X a ta) (hb:GE X b tb) (hm:behindInMarks op b=false):GE X (.Compare a [op] [b] pos) (AF r ta tb):=⟨mE (L2.fT ho.p ha.p hb.p hm) E1⟩
theorem aH {r:A2}{ta tb:AE} (ho:Po X r) (ha:GE X a ta) (hb:GE X b tb) (hs:rG b):GE X (.Subscript a b pos) (AF r ta tb):=⟨mE (L2.aH ho.p ha.p hb.p hs) E1⟩
theorem aa:GA X [] kG:=⟨mA L2.aa Lw⟩
theorem ao {ta:AE}{t:AA} (ha:GE X e ta) (hr:GA X es t) (hs:notStar e=true:=by rfl):GA X (e::es) (iL ta t):=⟨mA (L2.ao ha.p hr.p hs) IY⟩
theorem bO {k:Nat}{t:AA} (h:GA X es t):GE X (.Tuple es k pos) (Gz t):=⟨mE (L2.bO h.p) Lq⟩
theorem bJ {t:AA} (h:GA X es t):GE X (.List es pos) (DM t):=⟨mE (L2.bJ h.p) Lx⟩
theorem AD {t:AE} (h:GE X e t):GE X e (gH t):=⟨mE h.p s_alloc⟩
theorem m6 {op}{t:AE} (h:GE X a t):GE X (.BoolOp op [a] pos) t:=⟨L2.m6 h.p⟩
theorem iS {rest:List Expr}{ta tb:AE} (ha:GE X a ta) (hb:GE X (.BoolOp .And (b::rest) pos) tb):GE X (.BoolOp .And (a::b::rest) pos) (DV ta tb):=⟨mE (L2.iS ha.p hb.p) IZ⟩
theorem jx {op op':CmpOp}{r r':A2}{ta tb tc:AE} (ho:pW X (compareOp op) r) (ho':pW X (compareOp op') r') (ha:GE X a ta) (hb:GE X b tb) (hc:GE X c tc) (hm:lastMarks [op,op'] [b,c]=false:=by with_unfolding_all rfl) :
  GE X (.Compare a [op,op'] [b,c] pos) (nX r r' ta tb tc):=⟨mE (L2.jx ho.p ho'.p ha.p hb.p hc.p hm) E9⟩
theorem cy:GO X none lV:=⟨mO L2.cy BG⟩
theorem bW {t:AE} (h:GE X e t):GO X (some e) (DJ t):=⟨mO (L2.bW h.p) IJ⟩
structure Pn (X:Cx) (r:D→Option Int→Option Int→av→AK→Prop):Prop where
 p:AL X (HM X.K r)
theorem bI {lo hi:Option Expr}{p2:Pos}{r:D→Option Int→Option Int→av→AK→Prop}{te:AE}{tl th:AO} (hr:Pn X r) (he:GE X e te) (hl:GO X lo tl) (hu:GO X hi th):GE X (.Subscript e (.Slice lo hi none p2) pos) (OW r te tl th) :=
 ⟨mE (L2.bI hr.p he.p hl.p hu.p) NZ⟩
theorem eX {id:String}{r:AN}{t:AA}{x:Str}{p:Pos} (hc:uS X (.builtin id) r) (hg:Gl X x) (hm:X.mg x=none) (hv:bootBuiltins x=some (.builtin id)) (ha:GA X (e::es) t) (hn:x ≠ "__name__" := by decide +kernel) (hdb:(x==("__debug__" : Str))=false:=by decide +kernel)
  (hs:(e::es).all notStar=true:=by rfl):GE X (.Call (.Name x p) (e::es) [] pos) (aCall r t):=⟨mE (L2.eX hc.p hg hm hv ha.p hn hdb hs) LB⟩
theorem qL {T:String}{r:AN}{t:AA}{x:Str}{p:Pos} (hc:uS X (.type T) r) (hg:Gl X x) (hm:X.mg x=none) (hv:bootBuiltins x=some (.type T)) (ha:GA X (e::es) t) (hn:x ≠ "__name__" := by decide +kernel) (hdb:(x==("__debug__" : Str))=false:=by decide +kernel)
  (hs:(e::es).all notStar=true:=by rfl):GE X (.Call (.Name x p) (e::es) [] pos) (aCall r t):=⟨mE (L2.qL hc.p hg hm hv ha.p hn hdb hs) LB⟩
theorem aJ {k:Nat}{ps:List Str}{sp:AN}{t:AA}{x:Str}{p:Pos} (D:Def X.prog X.w X.K X.mg X.base k x ps (aL X.K sp)) (hr:aS k X.A) (hg:Gl X x) (ha:GA X (e::es) t) (hdb:(x==("__debug__" : Str))=false:=by decide +kernel) (hs:(e::es).all notStar=true:=by rfl) :
  GE X (.Call (.Name x p) (e::es) [] pos) (aCall sp t):=⟨mE (L2.aJ D hr hg jy ha.p hdb hs) s_call⟩
theorem qF {t:AE} (h:GE X e t) (he:∀ whole,isTrue e X.env whole=(do let v ← whole;standAt e.pos;holding [v] (truthy v)):=by intro _;rfl):GT X e (Kv t):=⟨mT (L2.B5 h.p he) Lr⟩
theorem aK {op:CmpOp}{r:A2}{ta tb:AE} (ho:pW X (compareOp op) r) (ha:GE X a ta) (hb:GE X b tb) (hm:behindInMarks op b=false):GT X (.Compare a [op] [b] pos) (aB (AF r ta tb)) :=
 ⟨mT (L2.aK ho.p ha.p hb.p hm) fun σ H Q h=>by
  obtain ⟨w,δ,S,Qa,ok,env,q,bk⟩:=s_b σ H Q h
  exact E1 σ H _ ⟨w,δ,S,Qa,ok,env,q,bk⟩⟩
theorem pw_pt {t:AT} (h:GW X e t):GT X e t:=⟨h.p.pt⟩
theorem pw_and1 {t:AT} (h:GT X a t):GW X (.BoolOp .And [a] pos) t:=⟨L2.pw_and1 h.p⟩
theorem pw_or1 {t:AT} (h:GT X a t):GW X (.BoolOp .Or [a] pos) t:=⟨L2.pw_or1 h.p⟩
theorem pw_and {rest:List Expr}{t u:AT} (ha:GT X a t) (hb:GW X (.BoolOp .And (b::rest) pos) u):GW X (.BoolOp .And (a::b::rest) pos) (GP t u):=⟨mW (L2.pw_and ha.p hb.p) LD⟩
theorem pw_or {rest:List Expr}{t u:AT} (ha:GT X a t) (hb:GW X (.BoolOp .Or (b::rest) pos) u):GW X (.BoolOp .Or (a::b::rest) pos) (OY t u):=⟨mW (L2.pw_or ha.p hb.p) N8⟩
theorem vn {t:AT} (h:GT X a t):GT X (.UnaryOp .Not a pos) (KA t):=⟨mT (L2.vn h.p) Lv⟩
theorem bx:NI X [] gg:=⟨mTs L2.bx Lo⟩
theorem fR {t:AT} (h:GT X c t):NI X [c] t:=⟨L2.fR h.p⟩
theorem bG {tg:Expr}{t:AA}{p:Pos} (hg:Gl X "range") (hm:X.mg "range" = none) (ha:GA X [a] t) (hs:starEach [a] X.env=[(false,eval a X.env)]:=by rfl):GI X tg (.Call (.Name "range" p) [a] [] pos) (tO t):=⟨mI (L2.bG hg hm ha.p hs) IQ⟩
theorem Fp {tg l:Expr}{tl:TE} (hl:PE X l tl):PI X tg l (fun σ H R=>tl σ H fun x H1=>(∃ a,x = .ref a∧(∃ xs,b9 X.K H1 a xs)∧R (Nd X.K a) H1)∨(∃ a,x = .ref a∧(∃ xs,eg X.K H1 a xs)∧R (NG X.K a) H1)∨∃ y,x = .str y∧R (NH y) H1):=by
 intro pins s σ H R I h
 refine cA (hl pins s σ H _ I h) fun v s1 ⟨x,H1,I1,r1,q1⟩ => ?_
 rcases q1 with ⟨a,rfl,⟨xs,hq⟩,q⟩ | ⟨a,rfl,⟨xs,hq⟩,q⟩ | ⟨y,rfl,q⟩
 ·cases r1
  obtain ⟨its,rv,p,hz⟩:=I1.list hq
  refine wpAny_pyIter_list p.isList ?_
  refine ⟨s1.heap.objs.size,[s1.heap.objs.size],_,_,H1,rfl,I1.kept (t':=s1.toks) fun b o e=>zas _ e,zk a _,⟨_,zaR _ rfl,rfl,rfl⟩,fun b hb => ?_,q⟩
  have e:b=s1.heap.objs.size:=by simpa using hb
  subst e
  exact I1.tR (zcH _) (I1.hok.fresh (zcH _))
 ·cases r1
  obtain ⟨its,rv,p,hz⟩:=I1.tuple hq
  refine wpAny_pyIter_tuple (show s1.heap.IsTuple a its.toArray from p) ?_
  refine ⟨s1.heap.objs.size,[s1.heap.objs.size],_,_,H1,rfl,I1.kept (t':=s1.toks) fun b o e=>zas _ e,uU a _,⟨_,zaR _ rfl,rfl,rfl⟩,fun b hb => ?_,q⟩
  have e:b=s1.heap.objs.size:=by simpa using hb
  subst e
  exact I1.tR (zcH _) (I1.hok.fresh (zcH _))
 ·obtain ⟨t,rfl⟩:=r1
  refine wpAny_pyIter_strU ?_
  refine ⟨s1.heap.objs.size,[s1.heap.objs.size],_,_,H1,rfl,I1.kept (t':=s1.toks) fun b o e=>zas _ e,AV _ y t,⟨_,zaR _ rfl,rfl,rfl⟩,fun b hb => ?_,q⟩
  have e:b=s1.heap.objs.size:=by simpa using hb
  subst e
  exact I1.tR (zcH _) (I1.hok.fresh (zcH _))
theorem bT {tg l:Expr}{tl:AE} (hl:GE X l tl):GI X tg l (zZ tl):=⟨mI (Fp hl.p) IS⟩
theorem b6 {elt tg iter:Expr}{ifs:List Expr}{scope:Scope}{N:List Str}{caps:List (Option Nat)}{wi:AI}{g:AG}{tt:AT}{te:AE}
  (S:cZ scope N) (hcap:iJ X.N X.env scope N caps=true) (hfr:L2.freeOk X.env scope=true) (hc:X.calm=true) (hi:GI X tg iter wi)
  (hg:∀ s₀ H₀ C fp,GG (i6 X scope N s₀ H₀ C fp) tg g) (ht:∀ s₀ H₀ C fp,NI (i6 X scope N s₀ H₀ C fp) ifs tt) (he:∀ s₀ H₀ C fp,GE (i6 X scope N s₀ H₀ C fp) elt te)
  (hs:∀ x,foldedSetIterable iter X.env x=pure x:=by intro _;rfl):GE X (.ListComp elt [⟨tg,iter,ifs,0⟩] scope pos) (kP caps wi g tt te) :=
 ⟨mE (L2.b6 S hcap hfr hc hi.p (fun s₀ H₀ C fp=>(hg s₀ H₀ C fp).p) (fun s₀ H₀ C fp=>(ht s₀ H₀ C fp).p) (fun s₀ H₀ C fp=>(he s₀ H₀ C fp).p) hs) BI⟩
theorem bz:AU X [] DK:=⟨Pb L2.bz IL⟩
theorem aj {st:Stmt}{t:AS} (h:GS X st t):AU X [st] t:=⟨L2.aj h.p⟩
theorem af {st:Stmt}{rest:List Stmt}{t u:AS} (h:GS X st t) (g:AU X rest u):AU X (st::rest) (uB t u):=⟨Pb (L2.af h.p g.p) Ls⟩
theorem aZ {t:AE} (h:GE X e t) (hs:swapsWith e none pos.line X.env=pure false:=by rfl):GS X (.Expr e pos) (DP t):=⟨mS (L2.aZ h.p hs) IW⟩
theorem aO {t:AE} (h:GE X e t):GS X (.Return (some e) pos) (Ky t):=⟨mS (L2.aO h.p) Lu⟩
theorem cu {p q:List Stmt}{tc:AT}{t u:AS} (hc:GT X c tc) (ha:AU X p t) (hb:AU X q u):GS X (.If c p q pos) (KG tc t u):=⟨mS (L2.cu hc.p ha.p hb.p) Ly⟩
theorem aq {i:Nat}{x:Str} (hN:X.N.Nodup) (hi:X.N[i]? = some x) (hx:Loc X.env.scope x) (hf:X.fn x=true∨X.env.scope.names.lookup x=some .local:=by first | exact .inl rfl | exact .inr rfl | assumption):GG X (.Name x pos) (bD i):=⟨mG (L2.aq hN hi hx hf) qu⟩
theorem dX:NJ X [] DC:=⟨Pc L2.dX IV⟩
theorem br {t:AG}{u:Ez} (h1:GG X e t) (h2:NJ X es u) (hs:(assignEach (e::es) X.env).map (·.2)=assign e X.env::(assignEach es X.env).map (·.2):=by rfl):NJ X (e::es) (rE t u):=⟨Pc (L2.br h1.p h2.p hs) E4⟩
theorem fS {k:Nat}{t:Ez}{n:Nat} (hc:X.calm=true) (h:NJ X es t) (hn:(assignEach es X.env).length=n:=by rfl) (hst:(assignEach es X.env).findIdx? (·.1)=none:=by rfl):GG X (.Tuple es k pos) (DB n t):=⟨mG (L2.fS hc h.p hn hst) IU⟩
theorem vo {tg:Expr}{t:AE}{g:AG} (he:GE X e t) (hg:GG X tg g) (hs:swapsWithSole [tg] e pos.line X.env=pure false:=by rfl) (hw:swappedStores [tg] e X.env=pure none:=by rfl)
  (h1:(assignEach [tg] X.env).map (·.2)=[assign tg X.env]:=by rfl):GS X (.Assign [tg] e pos) (DT t g):=⟨mS (L2.vo he.p hg.p hs hw h1) BJ⟩
theorem aD {i:Nat}{x:Str}{t:AE}{pos':Pos} (hN:X.N.Nodup) (hi:X.N[i]? = some x) (hx:Loc X.env.scope x) (he:GE X e t) (hs:swapsWith e (some (.Name x pos')) pos.line X.env=pure false:=by rfl) (hf:X.fn x=true∨X.env.scope.names.lookup x=some .local:=by first | exact .inl rfl | exact .inr rfl | assumption) :
  GS X (.Assign [.Name x pos'] e pos) (DT t (bD i)):=⟨mS (L2.aD hN hi hx he.p hs hf) fun D σ H h=>by
  obtain ⟨w,δ,S,Qa,ok,env,q,bk⟩:=BJ D σ H h
  exact ⟨w,δ,S,Qa,ok,env,q,fun r S' v w' H' le ok' rep q'=>qu _ _ _ _ (bk r S' v w' H' le ok' rep q')⟩⟩
theorem aU {elt tg iter:Expr}{ifs:List Expr}{scope:Scope}{N:List Str}{caps:List (Option Nat)}{pos' spos:Pos}{wi:AI}{g:AG}{tt:AT}{te:AE}{i:Nat}{x:Str}
  (hN:X.N.Nodup) (hix:X.N[i]? = some x) (hx:X.env.scope.names.lookup x=some .local)
  (S:cZ scope N) (hcap:iJ X.N X.env scope N caps=true) (hfr:L2.freeOk X.env scope=true) (hc:X.calm=true) (hi:GI X tg iter wi)
  (hg:∀ s₀ H₀ C fp,GG (i6 X scope N s₀ H₀ C fp) tg g) (ht:∀ s₀ H₀ C fp,NI (i6 X scope N s₀ H₀ C fp) ifs tt) (he:∀ s₀ H₀ C fp,GE (i6 X scope N s₀ H₀ C fp) elt te)
  (hsw:swapsWith (.ListComp elt [⟨tg,iter,ifs,0⟩] scope pos) (some (.Name x pos')) spos.line X.env=pure true:=by rfl)
  (hs:∀ x,foldedSetIterable iter X.env x=pure x:=by intro _;rfl):GS X (.Assign [.Name x pos'] (.ListComp elt [⟨tg,iter,ifs,0⟩] scope pos) spos) (DT (kP caps wi g tt te) (bD i)) :=
 ⟨mS (L2.aU hN hix hx S hcap hfr hc hi.p (fun s₀ H₀ C fp=>(hg s₀ H₀ C fp).p) (fun s₀ H₀ C fp=>(ht s₀ H₀ C fp).p) (fun s₀ H₀ C fp=>(he s₀ H₀ C fp).p) hsw hs) fun D σ H h=>by
  obtain ⟨w,δ,S,Qa,ok,env,q,bk⟩:=BJ D σ H h
  exact BI _ _ _ ⟨w,δ,S,Qa,ok,env,q,fun r S' v w' H' le ok' rep q'=>qu _ _ _ _ (bk r S' v w' H' le ok' rep q')⟩⟩
theorem cU {tg iter:Expr}{body:List Stmt}{wi:AI}{g:AG}{tb:AS} (hp:PassesOwn (model X.prog X.w) X.A X.env X.xe) (hc:X.calm=true) (hi:GI X tg iter wi) (hg:GG X tg g) (hb:AU X body tb)
  (hs:∀ x,foldedSetIterable iter X.env x=pure x:=by intro _;rfl):GS X (.For tg iter body [] pos) (nW wi g tb):=⟨mS (L2.cU hp hc hi.p hg.p hb.p hs) LA⟩
theorem mY {body:List Stmt}{tc:AT}{tb:AS} (hp:PassesOwn (model X.prog X.w) X.A X.env X.xe) (hc:GT X c tc) (hb:AU X body tb):GS X (.While c body [] pos) (DH tc tb):=⟨mS (L2.mY hp hc.p hb.p) EZ⟩
end
section
variable {X:Cx}
theorem Fx {f:Value→Value→Sem Value}{r r':R2} (h:fj X f r) (h':fj X f r'):fj X f (fun x y H Q=>r x y H Q∨r' x y H Q):=by
 intro pins s σ H x y v u Q I rx ry q
 rcases q with q | q
 ·exact h pins s σ H x y v u Q I rx ry q
 ·exact h' pins s σ H x y v u Q I rx ry q
theorem Pa {f:Value}{r r':List V→Hp→VK→Prop} (h:bS X f r) (h':bS X f r'):bS X f (fun x H Q=>r x H Q∨r' x H Q):=by
 intro pins s σ H x v Q I rx q
 rcases q with q | q
 ·exact h pins s σ H x v Q I rx q
 ·exact h' pins s σ H x v Q I rx q
variable {K:PySem.W.Frag}{w:Wd}{H:Hp}{S:av}{v u:V}{d e:D}
theorem cF {i:Int} (h:Rep K w d v) (z:aV S d = .int i):v = .int i:=by
 cases d <;> simp only [aV] at z
 case loc n=>split at z <;> first | (rename_i o _;cases o <;> simp [MO.d] at z) | cases z
 all_goals first | cases z | skip
 simpa [Rep] using h
theorem bP {i:Str} (h:Rep K w d v) (z:aV S d = .str i):v = .str i:=by
 cases d <;> simp only [aV] at z
 case loc n=>split at z <;> first | (rename_i o _;cases o <;> simp [MO.d] at z) | cases z
 all_goals first | cases z | skip
 simpa [Rep] using h
theorem fO {i:Bool} (h:Rep K w d v) (z:aV S d = .bl i):v = .bl i:=by
 cases d <;> simp only [aV] at z
 case loc n=>split at z <;> first | (rename_i o _;cases o <;> simp [MO.d] at z) | cases z
 all_goals first | cases z | skip
 simpa [Rep] using h
theorem ET (h:Rep K w d v) (z:aV S d = .bH):v = .bH:=by
 cases d <;> simp only [aV] at z
 case loc n=>split at z <;> first | (rename_i o _;cases o <;> simp [MO.d] at z) | cases z
 all_goals first | cases z | skip
 simpa [Rep] using h
theorem g9 {ns:List Int} (k:Ok K w H S) (h:Rep K w d v) (z:aV S d = .kT ns):∃ a,v = .ref a∧b9 K H a (ns.map V.int):=by
 cases d <;> simp only [aV] at z
 case loc n=>split at z <;> first | (rename_i o _;cases o <;> simp [MO.d] at z) | cases z
 all_goals first | cases z | skip
 simp only [Rep] at h
 obtain ⟨a,h1,h2⟩:=h
 exact ⟨a,h1,k.base.seq h2⟩
noncomputable def aI (C:Int→Int→Prop) (g:Int→Int→D):A2:=fun x y S Q=>∃ i j,x = .int i∧y = .int j∧C i j∧Q (.dat (g i j)) S
theorem NC {C:Int→Int→Prop}{g:Int→Int→D}{g':Int→Int→V} (h:∀ w i j,Rep K w (g i j) (g' i j)):∀ x y H Q,ud K (aI C g) x y H Q→rI C g' x y H Q:=by
 rintro x y H Q ⟨w,d,e,S,Qa,ok,r1,r2,⟨i,j,e1,e2,hc,q⟩,bk⟩
 exact ⟨i,j,aY r1 e1,aY r2 e2,hc,bk.dat .refl ok (h w i j) q⟩
theorem BX {g:Int→Int→V}:∀ x y H Q,rI (fun _ _=>True) g x y H Q→BY g x y H Q:=by
 rintro x y H Q ⟨i,j,h1,h2,_,q⟩
 exact ⟨i,j,h1,h2,q⟩
theorem vA:pW X (binaryOp .FloorDiv) (aI Er fun i j=>.int (i / j)):=⟨m2 L2.x9 (NC fun _ _ _=>.int)⟩
theorem Cj:pW X (binaryOp .Mod) (aI (fun _ j=>0<j) fun i j=>.int (i % j)):=⟨m2 L2.eZ (NC fun _ _ _=>.int)⟩
theorem Oq:pW X (compareOp .Gt) (aI (fun _ _=>True) fun i j=>.bl (decide (j<i))):=⟨m2 L2.Cb fun x y H Q h=>BX x y H Q (NC (g':=fun i j=>.bl (decide (j<i))) (fun _ _ _=>.bl) x y H Q h)⟩
theorem Jw:pW X (compareOp .GtE) (aI (fun _ _=>True) fun i j=>.bl (decide (j≤i))):=⟨m2 L2.LU fun x y H Q h=>BX x y H Q (NC (g':=fun i j=>.bl (decide (j≤i))) (fun _ _ _=>.bl) x y H Q h)⟩
noncomputable def Pj:A2:=fun x y S Q=>match x,y with
 | .int i,.int j=>Q (.dat (.bl (decide (i<j)))) S
 | .str i,.str j=>Q (.dat (.bl (decide (i.cps.toList<j.cps.toList)))) S
 | _,_=>False
noncomputable def MX:A2:=fun x y S Q=>match x,y with
 | .int i,.int j=>Q (.dat (.bl (decide (i≤j)))) S
 | .str i,.str j=>Q (.dat (.bl (!decide (j.cps.toList<i.cps.toList)))) S
 | _,_=>False
theorem Oo:pW X (compareOp .Lt) Pj:=⟨m2 (Fx L2.Hy L2.zI) fun x y H Q h=>by
 obtain ⟨w,d,e,S,Qa,ok,r1,r2,q,bk⟩:=h
 cases d <;> cases e <;> first | exact q.elim | skip
 ·exact .inl ⟨_,_,aY r1 rfl,aY r2 rfl,bk.dat .refl ok .bl q⟩
 ·exact .inr ⟨_,_,dW r1 rfl,dW r2 rfl,bk.dat .refl ok .bl q⟩⟩
theorem FD:pW X (compareOp .LtE) MX:=⟨m2 (Fx L2.LR L2.zJ) fun x y H Q h=>by
 obtain ⟨w,d,e,S,Qa,ok,r1,r2,q,bk⟩:=h
 cases d <;> cases e <;> first | exact q.elim | skip
 ·exact .inl ⟨_,_,aY r1 rfl,aY r2 rfl,bk.dat .refl ok .bl q⟩
 ·exact .inr ⟨_,_,dW r1 rfl,dW r2 rfl,bk.dat .refl ok .bl q⟩⟩
noncomputable def wu:A2:=fun x y S Q=>match aV S x,aV S y with
 | .int i,.int j=>Q (.dat (.int (i+j))) S
 | .str i,.str j=>i.length+j.length≤sizeLine∧Q (.dat (.str (i++j))) S
 | .lst xs,.lst ys=>xs.length+ys.length≤sizeLine∧Q (.new (.lst (xs++ys))) S
 | .tup xs,.tup ys=>xs≠[]∧xs.length+ys.length≤sizeLine∧Q (.dat (.tup (xs++ys))) S
 | _,_=>False
theorem dS:pW X (binaryOp .Add) wu:=⟨m2 (Fx L2.dc (Fx L2.iT (Fx L2.Cd L2.Fy))) fun x y H Q h=>by
 obtain ⟨w,d,e,S,Qa,ok,r1,r2,q,bk⟩:=h
 unfold wu at q
 cases z1:aV S d <;> cases z2:aV S e <;> rw [z1,z2] at q <;> first | exact q.elim | skip
 ·exact .inl ⟨_,_,cF r1 z1,cF r2 z2,bk.dat .refl ok .int q⟩
 ·exact .inr (.inl ⟨_,_,bP r1 z1,bP r2 z2,q.1,bk.dat .refl ok .str q.2⟩)
 ·obtain ⟨a,xs,rfl,h1,g1⟩:=dw ok r1 z1
  obtain ⟨b,ys,rfl,h2,g2⟩:=dw ok r2 z2
  obtain ⟨hne,hl,q⟩:=q
  refine .inr (.inr (.inr ⟨a,b,xs,ys,rfl,rfl,eg.of h1,eg.of h2,?_,by rw [g1.length,g2.length];exact hl,fun hy => ?_,fun hy p hp => ?_⟩))
  ·intro z;subst z
   have:=g1.length
   simp at this
   exact hne (zaa this.symm)
  ·subst hy
   have:_=[]:=zaa g2.length.symm
   rw [this,zbQ] at q
   cases d <;> simp only [aV] at z1
   case tup=>cases z1;exact bk.dat .refl ok r1 q
   case loc n=>split at z1 <;> first | (rename_i o _;cases o <;> simp [MO.d] at z1) | cases z1
   all_goals cases z1
  ·obtain ⟨w2,le2,ok2,rep2⟩:=ok.nh hp (g1.append g2)
   exact bk.dat le2 ok2 rep2 q
 ·obtain ⟨a,xs,rfl,h1,g1⟩:=aX ok r1 z1
  obtain ⟨b,ys,rfl,h2,g2⟩:=aX ok r2 z2
  refine .inr (.inr (.inl ⟨a,b,xs,ys,rfl,rfl,h1,h2,by rw [g1.length,g2.length];exact q.1,fun p hp => ?_⟩))
  exact bk (.new (.lst _)) S _ w _ .refl (ok.alloc hp) (ok.fresh hp ⟨_,rfl,g1.append g2⟩) q.2⟩
end
end M
namespace M
open PySem PySem.Spec PyProof.Rows PySem.SeqAt L2
mutual
noncomputable def cg:D→Bool
 | .bH | .bl _ | .int _ | .str _=>true
 | .tup ds | .lst ds=>bN ds
 | _=>false
noncomputable def bN:List D→Bool
 | []=>true
 | d::ds=>cg d&&bN ds
end
mutual
noncomputable def py:D→PyData
 | .bH=>.none
 | .bl b=>.bool b
 | .int i=>.int i
 | .str x=>.str x
 | .tup ds=>.tuple (cR ds)
 | .lst ds=>.list (cR ds)
 | _=>.none
noncomputable def cR:List D→List PyData
 | []=>[]
 | d::ds=>py d::cR ds
end
section
variable {K:PySem.W.Frag}{w:Wd}{H:Hp}{S:av}
mutual
theorem Dg (e:fh w.B H):∀ (d:D) (v:V),cg d=true→Rep K w d v→bE K H (py d) v
 | .bH,v,_,h=>by simpa [Rep,py,bE] using h
 | .bl _,v,_,h=>by simpa [Rep,py,bE] using h
 | .int _,v,_,h=>by simpa [Rep,py,bE] using h
 | .str _,v,_,h=>by simpa [Rep,py,bE] using h
 | .tup ds,v,hp,h=>by
  simp only [Rep,py,bE] at h ⊢
  obtain ⟨a,xs,h1,h2,h3⟩:=h
  exact ⟨a,xs,h1,eg.of (e _ _ h2),lQ e ds xs (by simpa [cg] using hp) h3⟩
 | .lst ds,v,hp,h=>by
  simp only [Rep,py,bE] at h ⊢
  obtain ⟨a,xs,h1,h2,h3⟩:=h
  exact ⟨a,xs,h1,b9.of (e _ _ h2),lQ e ds xs (by simpa [cg] using hp) h3⟩
 | .dct _ _,_,hp,_=>by simp [cg] at hp
 | .loc _,_,hp,_=>by simp [cg] at hp
 | .ty _,_,hp,_=>by simp [cg] at hp
 | .kT _,_,hp,_=>by simp [cg] at hp
 | .Es _,_,hp,_=>by simp [cg] at hp
 | .fd,_,hp,_=>by simp [cg] at hp
 | .fn _,_,hp,_=>by simp [cg] at hp
theorem lQ (e:fh w.B H):∀ (ds:List D) (vs:List V),bN ds=true→ak K w ds vs→c9 K H (cR ds) vs
 | [],vs,_,h=>by simpa [ak,cR,c9] using h
 | d::ds,vs,hp,h=>by
  simp only [bN,zbJ] at hp
  simp only [ak,cR,c9] at h ⊢
  obtain ⟨x,r,h1,h2,h3⟩:=h
  exact ⟨x,r,h1,Dg e d x hp.1 h2,lQ e ds r hp.2 h3⟩
end
theorem qp (k:Ok K w H S) {d:D}{v:V} (h:Rep K w d v) (hp:cg (aV S d)=true):bE K H (py (aV S d)) v:=by
 cases d with
 | loc n =>
  cases z:aV S (.loc n) with
  | lst ds =>
   rw [z] at hp
   obtain ⟨a,xs,rfl,h1,h2⟩:=aX k h z
   simp only [py,bE]
   exact ⟨a,xs,rfl,b9.of h1,lQ k.base ds xs (by simpa [cg] using hp) h2⟩
  | _ =>
   rw [z] at hp
   simp only [aV] at z
   split at z <;> first | (rename_i o _;cases o <;> simp [MO.d] at z) | (cases z;simp [cg] at hp) | cases z
   all_goals simp [cg] at hp
 | _=>exact Dg k.base _ v (by simpa [aV] using hp) h
end
noncomputable def fit (d:D):Bool:=cg d&&shaped (py d)
noncomputable def KI:A2:=fun x y S Q=>match aV S x,aV S y with
 | .str a,.str b=>Q (.dat (.bl (decide (a=b)))) S
 | .int a,.int b=>Q (.dat (.bl (decide (a=b)))) S
 | .bl a,.bl b=>Q (.dat (.bl (decide (a=b)))) S
 | x',y'=>fit x'=true∧fit y'=true∧Q (.dat (.bl (PyData.eqv (py x') (py y')))) S
noncomputable def Ak:A2:=fun x y S Q=>match aV S x,aV S y with
 | .str a,.str b=>Q (.dat (.bl (!decide (a=b)))) S
 | .int a,.int b=>Q (.dat (.bl (!decide (a=b)))) S
 | .bl a,.bl b=>Q (.dat (.bl (!decide (a=b)))) S
 | x',y'=>fit x'=true∧fit y'=true∧Q (.dat (.bl (!PyData.eqv (py x') (py y')))) S
section
variable {X:Cx}
noncomputable def Ol (K:PySem.W.Frag):R2:=fun x y H Q=>∃ a b,bE K H a x∧bE K H b y∧shaped a=true∧shaped b=true∧Q (.bl (PyData.eqv a b)) H
noncomputable def Og (K:PySem.W.Frag):R2:=fun x y H Q=>∃ a b,bE K H a x∧bE K H b y∧shaped a=true∧shaped b=true∧Q (.bl (!PyData.eqv a b)) H
theorem Jt {k:Nat} (hr:aS k X.A):fj X (compareOp .Eq) (Ol X.K):=by
 intro pins s σ H x y v u Q I rx ry h
 obtain ⟨a,b,h1,h2,h3,h4,q⟩:=h
 obtain ⟨as,ra⟩:=I.reads a x v h1 rx
 obtain ⟨bs,rb⟩:=I.reads b y u h2 ry
 exact eq_dataH ra rb h3 h4 hr.units ⟨.bl _,H,I,rfl,q⟩
theorem Jp {k:Nat} (hr:aS k X.A):fj X (compareOp .NotEq) (Og X.K):=by
 intro pins s σ H x y v u Q I rx ry h
 obtain ⟨a,b,h1,h2,h3,h4,q⟩:=h
 obtain ⟨as,ra⟩:=I.reads a x v h1 rx
 obtain ⟨bs,rb⟩:=I.reads b y u h2 ry
 exact ne_dataH ra rb h3 h4 hr.units ⟨.bl _,H,I,rfl,q⟩
theorem dY {K:PySem.W.Frag}{w:Wd}{H:Hp}{S:av}{d:D}{v:V} (k:Ok K w H S) (h:Rep K w d v) (hf:fit (aV S d)=true):bE K H (py (aV S d)) v∧shaped (py (aV S d))=true:=by
 unfold fit at hf
 rw [zbJ] at hf
 exact ⟨qp k h hf.1,hf.2⟩
theorem sS {k:Nat} (hr:aS k X.A):pW X (compareOp .Eq) KI:=⟨m2 (Fx L2.Cc (Jt hr)) fun x y H Q h=>by
 obtain ⟨w,d,e,S,Qa,ok,r1,r2,q,bk⟩:=h
 unfold KI at q
 split at q
 next a b z1 z2 =>
  refine .inl ⟨by rw [bP r1 z1,bP r2 z2];rfl,?_⟩
  rw [bP r1 z1,bP r2 z2]
  exact bk.dat .refl ok (by rw [show decide (V.str a=V.str b)=decide (a=b) by simp];exact .bl) q
 next a b z1 z2 =>
  refine .inl ⟨by rw [cF r1 z1,cF r2 z2];rfl,?_⟩
  rw [cF r1 z1,cF r2 z2]
  exact bk.dat .refl ok (by rw [show decide (V.int a=V.int b)=decide (a=b) by simp];exact .bl) q
 next a b z1 z2 =>
  refine .inl ⟨by rw [fO r1 z1,fO r2 z2];rfl,?_⟩
  rw [fO r1 z1,fO r2 z2]
  exact bk.dat .refl ok (by rw [show decide (V.bl a=V.bl b)=decide (a=b) by simp];exact .bl) q
 next =>
  obtain ⟨f1,f2,q⟩:=q
  obtain ⟨g1,s1⟩:=dY ok r1 f1
  obtain ⟨g2,s2⟩:=dY ok r2 f2
  exact .inr ⟨_,_,g1,g2,s1,s2,bk.dat .refl ok .bl q⟩⟩
theorem vz {k:Nat} (hr:aS k X.A):pW X (compareOp .NotEq) Ak:=⟨m2 (Fx L2.LQ (Jp hr)) fun x y H Q h=>by
 obtain ⟨w,d,e,S,Qa,ok,r1,r2,q,bk⟩:=h
 unfold Ak at q
 split at q
 next a b z1 z2 =>
  refine .inl ⟨by rw [bP r1 z1,bP r2 z2];rfl,?_⟩
  rw [bP r1 z1,bP r2 z2]
  exact bk.dat .refl ok (by rw [show decide (V.str a=V.str b)=decide (a=b) by simp];exact .bl) q
 next a b z1 z2 =>
  refine .inl ⟨by rw [cF r1 z1,cF r2 z2];rfl,?_⟩
  rw [cF r1 z1,cF r2 z2]
  exact bk.dat .refl ok (by rw [show decide (V.int a=V.int b)=decide (a=b) by simp];exact .bl) q
 next a b z1 z2 =>
  refine .inl ⟨by rw [fO r1 z1,fO r2 z2];rfl,?_⟩
  rw [fO r1 z1,fO r2 z2]
  exact bk.dat .refl ok (by rw [show decide (V.bl a=V.bl b)=decide (a=b) by simp];exact .bl) q
 next =>
  obtain ⟨f1,f2,q⟩:=q
  obtain ⟨g1,s1⟩:=dY ok r1 f1
  obtain ⟨g2,s2⟩:=dY ok r2 f2
  exact .inr ⟨_,_,g1,g2,s1,s2,bk.dat .refl ok .bl q⟩⟩
noncomputable def inD (d:D) (ds:List D):Bool:=ds.any fun y=>PyData.eqv (py y) (py d)
noncomputable def AH (neg:Bool):A2:=fun x y S Q=>match aV S y with
 | .tup ds=>fit (aV S x)=true∧fit (.tup ds)=true∧Q (.dat (.bl (neg != inD (aV S x) ds))) S
 | .lst ds=>fit (aV S x)=true∧fit (.lst ds)=true∧Q (.dat (.bl (neg != inD (aV S x) ds))) S
 | .Es ss=>fit (aV S x)=true∧fit (.tup (ss.map D.str))=true∧Q (.dat (.bl (neg != inD (aV S x) (ss.map D.str)))) S
 | _=>False
noncomputable def Ji (K:PySem.W.Frag) (neg:Bool):R2:=fun x y H Q=>∃ d ds,bE K H d x∧(bE K H (.tuple ds) y∨bE K H (.list ds) y)∧shaped d=true∧PyData.canLayAll0 ds=true∧Q (.bl (neg != ds.any fun y=>PyData.eqv y d)) H
theorem Js {k:Nat} (hr:aS k X.A):fj X (compareOp .In) (Ji X.K false):=by
 intro pins s σ H x y v u Q I rx ry h
 obtain ⟨d,ds,h1,h2,h3,h4,q⟩:=h
 obtain ⟨as,ra⟩:=I.reads d x v h1 rx
 have hu:=hr.un
 rcases h2 with h2 | h2
 ·obtain ⟨bs,rb⟩:=I.reads _ y u h2 ry
  exact PySem.SeqAt.in_tuple_reads rb ra h4 (canLay_of_shaped h3) (room_in_shaped h3 (by omega)) ⟨.bl _,H,I,by simp [L2.RelV],q⟩
 ·obtain ⟨bs,rb⟩:=I.reads _ y u h2 ry
  exact PySem.SeqAt.in_list_reads rb ra h4 (canLay_of_shaped h3) (room_in_shaped h3 (by omega)) ⟨.bl _,H,I,by simp [L2.RelV],q⟩
theorem zH {k:Nat} (hr:aS k X.A):fj X (compareOp .NotIn) (Ji X.K true):=by
 intro pins s σ H x y v u Q I rx ry h
 obtain ⟨d,ds,h1,h2,h3,h4,q⟩:=h
 obtain ⟨as,ra⟩:=I.reads d x v h1 rx
 have hu:=hr.un
 rcases h2 with h2 | h2
 ·obtain ⟨bs,rb⟩:=I.reads _ y u h2 ry
  exact PySem.SeqAt.notIn_tuple_reads rb ra h4 (canLay_of_shaped h3) (room_in_shaped h3 (by omega)) ⟨.bl _,H,I,by simp [L2.RelV],q⟩
 ·obtain ⟨bs,rb⟩:=I.reads _ y u h2 ry
  exact PySem.SeqAt.notIn_list_reads rb ra h4 (canLay_of_shaped h3) (room_in_shaped h3 (by omega)) ⟨.bl _,H,I,by simp [L2.RelV],q⟩
theorem Fo (ds:List D):cR ds=ds.map py:=by
 induction ds with
 | nil=>rfl
 | cons d ds ih=>simp [cR,ih]
theorem rD (ds:List D) (p:PyData→Bool):(cR ds).any p=ds.any fun y=>p (py y):=by
 rw [Fo,zcq];rfl
theorem xg {K:PySem.W.Frag}{H:Hp}:∀ (ss:List Str),c9 K H (cR (ss.map D.str)) (ss.map V.str)
 | []=>by simp [cR,c9]
 | s::ss=>by
  simp only [zcj,cR,c9,py,bE]
  exact ⟨_,_,rfl,rfl,xg ss⟩
theorem ER {K:PySem.W.Frag}{w:Wd}{H:Hp}{S:av}{d:D}{v:V}{ss:List Str} (k:Ok K w H S) (h:Rep K w d v) (z:aV S d = .Es ss):∃ a,v = .ref a∧eg K H a (ss.map V.str):=by
 cases d <;> simp only [aV] at z
 case loc n=>split at z <;> first | (rename_i o _;cases o <;> simp [MO.d] at z) | cases z
 all_goals first | cases z | skip
 simp only [Rep] at h
 obtain ⟨a,h1,h2⟩:=h
 exact ⟨a,h1,eg.same k.base h2⟩
theorem yC {ds:List D} (h:fit (.tup ds)=true):PyData.canLayAll0 (cR ds)=true:=by
 unfold fit at h
 rw [zbJ] at h
 have:=canLay_of_shaped h.2
 simpa [py,PyData.canLay0] using this
theorem C7 {ds:List D} (h:fit (.lst ds)=true):PyData.canLayAll0 (cR ds)=true:=by
 unfold fit at h
 rw [zbJ] at h
 have:=canLay_of_shaped h.2
 simpa [py,PyData.canLay0] using this
theorem MN {K:PySem.W.Frag}{neg:Bool}:∀ x y H Q,ud K (AH neg) x y H Q→Ji K neg x y H Q:=by
 rintro x y H Q ⟨w,d,e,S,Qa,ok,r1,r2,q,bk⟩
 unfold AH at q
 split at q
 next ds z =>
  obtain ⟨f1,f2,q⟩:=q
  obtain ⟨g1,s1⟩:=dY ok r1 f1
  obtain ⟨g2,s2⟩:=dY ok r2 (by rw [z];exact f2)
  rw [z] at g2
  refine ⟨_,cR ds,g1,.inl (by simpa only [py] using g2),s1,yC f2,?_⟩
  rw [rD]
  exact bk.dat .refl ok .bl q
 next ds z =>
  obtain ⟨f1,f2,q⟩:=q
  obtain ⟨g1,s1⟩:=dY ok r1 f1
  obtain ⟨g2,s2⟩:=dY ok r2 (by rw [z];exact f2)
  rw [z] at g2
  refine ⟨_,cR ds,g1,.inr (by simpa only [py] using g2),s1,C7 f2,?_⟩
  rw [rD]
  exact bk.dat .refl ok .bl q
 next ss z =>
  obtain ⟨f1,f2,q⟩:=q
  obtain ⟨g1,s1⟩:=dY ok r1 f1
  obtain ⟨a,rfl,g2⟩:=ER ok r2 z
  refine ⟨_,cR (ss.map D.str),g1,.inl ?_,s1,yC f2,?_⟩
  ·simp only [bE]
   exact ⟨a,_,rfl,g2,xg ss⟩
  ·rw [rD]
   exact bk.dat .refl ok .bl q
 next=>exact q.elim
theorem L0 {k:Nat} (hr:aS k X.A):pW X (compareOp .In) (AH false):=⟨m2 (Js hr) MN⟩
theorem yc {k:Nat} (hr:aS k X.A):pW X (compareOp .NotIn) (AH true):=⟨m2 (zH hr) MN⟩
end
section
variable {X:Cx}{K:PySem.W.Frag}{w:Wd}{H:Hp}{S:av}{d:D}{v:V}
theorem sF {ds:List D}{xs:List V}{i:Int}{e:D} (h:ak K w ds xs) (q:nU ds i=some e):∃ u,nU xs i=some u∧Rep K w e u:=by
 unfold nU at q ⊢
 rw [h.length]
 cases z:HE ds.length i with
 | none=>rw [z] at q;cases q
 | some j =>
  rw [z] at q
  exact h.get q
noncomputable def uR:A2:=fun x y S Q=>match aV S x,y with
 | .lst ds,.int i=>∃ e,nU ds i=some e∧Q (.dat e) S
 | .tup ds,.int i=>∃ e,nU ds i=some e∧Q (.dat e) S
 | .str z,.int i=>z.length≤sizeLine∧∃ c,nU z.cps.toList i=some c∧Q (.dat (.str ⟨#[c]⟩)) S
 | .kT ns,.int i=>∃ n,nU ns i=some n∧Q (.dat (.int n)) S
 | _,_=>False
theorem Gw {α β:Type}{f:α→β}{xs:List α}{i:Int}{a:α} (h:nU xs i=some a):nU (xs.map f) i=some (f a):=by
 unfold nU at h ⊢
 rw [zbP]
 cases z:HE xs.length i with
 | none=>rw [z] at h;cases h
 | some j =>
  rw [z] at h
  have h:xs[j]? = some a:=h
  show (xs.map f)[j]? = some (f a)
  rw [zbh,h];rfl
theorem bK:Po X uR:=⟨fun value slice pins s σ H x y v u Q I rx ry h hs=>by
 refine L2.JP value slice pins s σ H x y v u Q I rx ry ?_ hs
 obtain ⟨w,d,e,S,Qa,ok,r1,r2,q,bk⟩:=h
 unfold uR at q
 split at q
 next ds i z =>
  obtain ⟨a,xs,rfl,h1,h2⟩:=aX ok r1 z
  obtain ⟨e',he,q⟩:=q
  obtain ⟨u',g1,g2⟩:=sF h2 he
  exact .inl ⟨a,xs,i,u',rfl,aY r2 rfl,b9.of h1,g1,bk.dat .refl ok g2 q⟩
 next ds i z =>
  obtain ⟨a,xs,rfl,h1,h2⟩:=dw ok r1 z
  obtain ⟨e',he,q⟩:=q
  obtain ⟨u',g1,g2⟩:=sF h2 he
  exact .inr (.inl ⟨a,xs,i,u',rfl,aY r2 rfl,eg.of h1,g1,bk.dat .refl ok g2 q⟩)
 next y i z =>
  obtain ⟨hl,c,hc,q⟩:=q
  exact .inr (.inr ⟨y,i,c,bP r1 z,aY r2 rfl,hl,hc,bk.dat .refl ok .str q⟩)
 next ns i z =>
  obtain ⟨a,rfl,h1⟩:=g9 ok r1 z
  obtain ⟨n,hn,q⟩:=q
  exact .inl ⟨a,_,i,.int n,rfl,aY r2 rfl,h1,Gw hn,bk.dat .refl ok .int q⟩
 next=>exact q.elim⟩
noncomputable def cutD {α:Type} (xs:List α) (lo hi:Option Int):List α:=(xs.drop (HT.bV xs.length 0 lo)).take (HT.bV xs.length xs.length hi - HT.bV xs.length 0 lo)
theorem mK {ds:List D}{xs:List V} (h:ak K w ds xs) (lo hi:Option Int):ak K w (cutD ds lo hi) (kZ xs lo hi):=by
 unfold cutD kZ
 rw [h.length]
 exact (h.drop _).take _
end
section
variable {prog:Program}{w:World}{A:Around}{E:Value→Shared→Prop}{s:Shared}
theorem iz {t sl:Addr}{items:Array Value}{vl vu:Value}{lo hi:Option Int}{Q:Value→Shared→Prop} (ht:IsTup s.heap t items) (hs:s.heap.IsSliceOf sl vl vu .none) (pl:IsPart vl lo) (pu:IsPart vu hi)
  (hw:HT.bV items.size 0 lo=0∧HT.bV items.size items.size hi=items.size) (h:Q (.ref t) s):wpAny (model prog w) A (getItem (.ref t) (.ref sl)) Q E s:=by
 obtain ⟨os,hos,hcs,hds⟩:=id hs
 have hTs:s.TypeIs (.ref sl) "slice" := ⟨os,hos,hcs⟩
 unfold getItem
 try with_reducible refine wpAny_holding ?_
 first | refine wpAny_bind (wpAny_pure ?_) | skip
 refine wpAny_bind (wpAny_sequenceKey ht.typeIs (by decide) ?_)
 refine wpAny_bind (wpAny_callSpecial?_slot (name:=Str.ofString "__getitem__") ht.typeIs PyProof.Rows.slot_tuple_getitem
  (wpAny_call_entry PyProof.Rows.slot_tuple_getitem ht.typeIs PyProof.Rows.entry_tuple_getitem ?_ (PyProof.Rows.args_tuple_getitem _ _)))
 show wpAny _ _ (Builtin.Tuple.tupleItemsOf (.ref t) >>= _) _ _ s
 refine wpAny_bind (PyProof.Rows.tupleItemsOf_ ht ?_)
 refine wpAny_bind (wpAny_typeOf hTs ?_)
 rw [if_pos (by decide)]
 refine wpAny_bind (HT.fq hs pl pu ?_)
 have hyes:(((HT.bV items.size 0 lo:Nat):Int)==0&&(1:Int)==1&&(HT.bV items.size items.size hi - HT.bV items.size 0 lo)==items.size)=true:=by
  rw [hw.1,hw.2];simp
 show wpAny _ _ (if (((HT.bV items.size 0 lo:Nat):Int)==0&&(1:Int)==1&&(HT.bV items.size items.size hi - HT.bV items.size 0 lo)==items.size)=true then _ else _) _ _ s
 rw [if_pos hyes]
 refine wpAny_bind (m:=Builtin.Tuple.tupleIsExact (.ref t)) ?_
 unfold Builtin.Tuple.tupleIsExact
 refine wpAny_bind (wpAny_typeOf ht.typeIs (wpAny_pure ?_))
 rw [if_pos (by decide)]
 exact wpAny_bind (wpAny_rule (wpAny_pure ⟨_,rfl,wpAny_pure h⟩))
end
section
variable {X:Cx}{K:PySem.W.Frag}{w:Wd}{H:Hp}{S:av}{d:D}{v:V}
noncomputable def Kx:D→Option Int→Option Int→av→AK→Prop:=fun x lo hi S Q=>match aV S x with
 | .lst ds=>Q (.new (.lst (cutD ds lo hi))) S
 | .tup ds=>Q (.dat (.tup (cutD ds lo hi))) S
 | .str z=>z.length≤sizeLine∧Q (.dat (.str (Txt.slice z lo hi))) S
 | .kT ns=>Q (.new (.lst ((cutD ns lo hi).map D.int))) S
 | _=>False
noncomputable def Od (K:PySem.W.Frag):V→Option Int→Option Int→Hp→VK→Prop:=fun x lo hi H Q=>∃ a xs,x = .ref a∧eg K H a xs∧(HT.bV xs.length 0 lo=0∧HT.bV xs.length xs.length hi=xs.length)∧Q (.ref a) H
theorem Bw:AL X (Od X.K):=by
 intro pins s σ H x v vl vu lo hi sl Q I rx hs pl pu h
 obtain ⟨a,xs,rfl,hx,hw,q⟩:=h
 cases rx
 obtain ⟨its,r,ht,hz⟩:=I.tuple hx
 have hlen:its.toArray.size=xs.length:=by rw [zbf];exact r.length.symm
 refine ⟨"tuple",_,PyProof.Rows.slot_tuple_getitem.lookup,ht.typeIs,?_⟩
 exact iz ht hs pl pu (by rw [hlen];exact hw) ⟨.ref a,H,I,rfl,q⟩
theorem Ac {α:Type}{xs:List α}{lo hi:Option Int} (h:HT.bV xs.length 0 lo=0∧HT.bV xs.length xs.length hi=xs.length):cutD xs lo hi=xs:=by
 unfold cutD
 rw [h.1,h.2];simp
theorem Gn {α β:Type} (f:α→β) (xs:List α) (lo hi:Option Int):cutD (xs.map f) lo hi=(cutD xs lo hi).map f:=by
 unfold cutD
 rw [zbP,List.map_take,List.map_drop]
theorem ig {w:Wd}:∀ (ns:List Int),ak K w (ns.map D.int) (ns.map V.int)
 | []=>.nil
 | n::ns=>.cons .int (ig ns)
theorem sR:Pn X Kx:=⟨by
 intro pins s σ H x v vl vu lo hi sl Q I rx hs pl pu h
 refine (L2.xA.or (L2.Iu.or (Bw.or L2.ql))) pins s σ H x v vl vu lo hi sl Q I rx hs pl pu ?_
 obtain ⟨w,d,S,Qa,ok,r1,q,bk⟩:=h
 unfold Kx at q
 split at q
 next ds z =>
  obtain ⟨a,xs,rfl,h1,h2⟩:=aX ok r1 z
  exact .inl ⟨a,xs,rfl,b9.of h1,fun p hp=>bk (.new (.lst _)) S _ w _ .refl (ok.alloc hp) (ok.fresh hp ⟨_,rfl,mK h2 lo hi⟩) q⟩
 next ds z =>
  obtain ⟨a,xs,rfl,h1,h2⟩:=dw ok r1 z
  by_cases hw:HT.bV xs.length 0 lo=0∧HT.bV xs.length xs.length hi=xs.length
  ·refine .inr (.inr (.inl ⟨a,xs,rfl,eg.of h1,hw,?_⟩))
   rw [h2.length] at hw
   rw [Ac hw] at q
   cases d <;> simp only [aV] at z
   case tup=>cases z;exact bk.dat .refl ok r1 q
   case loc n=>split at z <;> first | (rename_i o _;cases o <;> simp [MO.d] at z) | cases z
   all_goals cases z
  ·refine .inr (.inl ⟨a,xs,rfl,eg.of h1,hw,fun p hp => ?_⟩)
   obtain ⟨w2,le2,ok2,rep2⟩:=ok.nh hp (mK h2 lo hi)
   exact bk.dat le2 ok2 rep2 q
 next y z=>exact .inr (.inr (.inr ⟨y,bP r1 z,q.1,bk.dat .refl ok .str q.2⟩))
 next ns z =>
  obtain ⟨a,rfl,h1⟩:=g9 ok r1 z
  refine .inl ⟨a,_,rfl,h1,fun p hp=>bk (.new (.lst _)) S _ w _ .refl (ok.alloc hp) (ok.fresh hp ⟨_,rfl,?_⟩) q⟩
  have:=mK (ig (K:=X.K) (w:=w) ns) lo hi
  rw [Gn] at this
  exact this
 next=>exact q.elim⟩
noncomputable def MT:A2:=fun x y S Q=>match aV S x,y with
 | .int i,.int j=>Ay i j∧Q (.dat (.int (i*j))) S
 | .lst ds,.int k=>(-(2 ^ 63)≤k∧k<2 ^ 63)∧ds.length*k.toNat≤sizeLine∧Q (.new (.lst (zcc k.toNat ds).flatten)) S
 | .str z,.int n=>MulOk z n∧Q (.dat (.str (Txt.mul z n))) S
 | _,_=>False
theorem sE {ds:List D}{xs:List V} (h:ak K w ds xs):∀ k:Nat,ak K w (zcc k ds).flatten (zcc k xs).flatten
 | 0=>.nil
 | k+1=>by
  rw [zaK,zaK,zbj,zbj]
  exact h.append (sE h k)
theorem LW:pW X (binaryOp .Mult) MT:=⟨m2 (Fx L2.eY (Fx L2.Jm L2.vt)) fun x y H Q h=>by
 obtain ⟨w,d,e,S,Qa,ok,r1,r2,q,bk⟩:=h
 unfold MT at q
 split at q
 next i j z=>exact .inl ⟨i,j,cF r1 z,aY r2 rfl,q.1,bk.dat .refl ok .int q.2⟩
 next ds k z =>
  obtain ⟨a,xs,rfl,h1,h2⟩:=aX ok r1 z
  obtain ⟨⟨g1,g2⟩,hl,q⟩:=q
  refine .inr (.inl ⟨a,k,xs,rfl,aY r2 rfl,h1,g1,g2,by rw [h2.length];exact hl,fun p hp => ?_⟩)
  exact bk (.new (.lst _)) S _ w _ .refl (ok.alloc hp) (ok.fresh hp ⟨_,rfl,sE h2 k.toNat⟩) q
 next y n z=>exact .inr (.inr ⟨y,n,bP r1 z,aY r2 rfl,q.1,bk.dat .refl ok .str q.2⟩)
 next=>exact q.elim⟩
end
mutual
noncomputable def iK (n:Nat):D→Bool
 | .loc m=>decide (m<n)
 | .tup ds | .lst ds | .dct _ ds=>jK n ds
 | _=>true
noncomputable def jK (n:Nat):List D→Bool
 | []=>true
 | d::ds=>iK n d&&jK n ds
end
noncomputable def oK (n:Nat):MO→Bool
 | .lst ds=>jK n ds
 | .dct _ ds=>jK n ds
 | .feed _=>true
 | .ins _ _ ds=>jK n ds
 | .Ex _ ks=>jK n ks
mutual
theorem yN (n:Nat):∀ d:D,cg d=true→iK n d=true
 | .bH,_=>by simp [iK]
 | .bl _,_=>by simp [iK]
 | .int _,_=>by simp [iK]
 | .str _,_=>by simp [iK]
 | .tup ds,h=>by simp only [iK];exact fH n ds (by simpa [cg] using h)
 | .lst ds,h=>by simp only [iK];exact fH n ds (by simpa [cg] using h)
 | .dct _ _,h=>by simp [cg] at h
 | .loc _,h=>by simp [cg] at h
 | .ty _,h=>by simp [cg] at h
 | .kT _,h=>by simp [cg] at h
 | .Es _,h=>by simp [cg] at h
 | .fd,h=>by simp [cg] at h
 | .fn _,h=>by simp [cg] at h
theorem fH (n:Nat):∀ ds:List D,bN ds=true→jK n ds=true
 | [],_=>by simp [jK]
 | d::ds,h=>by
  simp only [bN,zbJ] at h
  simp only [jK,zbJ]
  exact ⟨yN n d h.1,fH n ds h.2⟩
end
noncomputable def iE (n:Nat) (w:Wd):Wd:=⟨w.B,fun k=>if k<n then w.r k else none⟩
section
variable {K:PySem.W.Frag}{w w1:Wd}{H H1:Hp}{S S0 S1:av}
mutual
theorem oZ (n:Nat):∀ (d:D) (v:V),iK n d=true→Rep K w d v→Rep K (iE n w) d v
 | .bH,_,_,h=>by simpa [Rep] using h
 | .bl _,_,_,h=>by simpa [Rep] using h
 | .int _,_,_,h=>by simpa [Rep] using h
 | .str _,_,_,h=>by simpa [Rep] using h
 | .ty _,_,_,h=>by simpa [Rep] using h
 | .fd,_,_,h=>by simpa [Rep] using h
 | .fn _,_,_,h=>by simpa [Rep] using h
 | .kT _,_,_,h=>by simpa [Rep,iE] using h
 | .Es _,_,_,h=>by simpa [Rep,iE] using h
 | .loc m,v,hb,h=>by
  simp only [iK,decide_eq_true_eq] at hb
  simp only [Rep] at h ⊢
  obtain ⟨a,h1,h2⟩:=h
  exact ⟨a,by show (if m<n then w.r m else none)=_;rw [if_pos hb];exact h1,h2⟩
 | .tup ds,v,hb,h=>by
  simp only [Rep] at h ⊢
  obtain ⟨a,xs,h1,h2,h3⟩:=h
  exact ⟨a,xs,h1,h2,cC n ds xs (by simpa [iK] using hb) h3⟩
 | .lst ds,v,hb,h=>by
  simp only [Rep] at h ⊢
  obtain ⟨a,xs,h1,h2,h3⟩:=h
  exact ⟨a,xs,h1,h2,cC n ds xs (by simpa [iK] using hb) h3⟩
 | .dct ks ds,v,hb,h=>by
  simp only [Rep] at h ⊢
  obtain ⟨a,xs,h1,h2,h3,h4⟩:=h
  exact ⟨a,xs,h1,h2,h3,cC n ds _ (by simpa [iK] using hb) h4⟩
theorem cC (n:Nat):∀ (ds:List D) (vs:List V),jK n ds=true→ak K w ds vs→ak K (iE n w) ds vs
 | [],_,_,h=>by simpa [ak] using h
 | d::ds,vs,hb,h=>by
  simp only [jK,zbJ] at hb
  simp only [ak] at h ⊢
  obtain ⟨x,r,h1,h2,h3⟩:=h
  exact ⟨x,r,h1,oZ n d x hb.1 h2,cC n ds r hb.2 h3⟩
end
mutual
theorem Ff (n:Nat) (ht:∀ k,n≤k→w.r k=none):∀ (d:D) (v:V),Rep K w d v→iK n d=true
 | .bH,_,_=>by simp [iK]
 | .bl _,_,_=>by simp [iK]
 | .int _,_,_=>by simp [iK]
 | .str _,_,_=>by simp [iK]
 | .ty _,_,_=>by simp [iK]
 | .fd,_,_=>by simp [iK]
 | .fn _,_,_=>by simp [iK]
 | .kT _,_,_=>by simp [iK]
 | .Es _,_,_=>by simp [iK]
 | .loc m,v,h=>by
  simp only [Rep] at h
  obtain ⟨a,h1,h2⟩:=h
  simp only [iK,decide_eq_true_eq]
  rcases zcx m n with q | q
  ·exact q
  ·rw [ht m q] at h1;cases h1
 | .tup ds,v,h=>by
  simp only [Rep] at h
  obtain ⟨a,xs,h1,h2,h3⟩:=h
  simp only [iK];exact dJ n ht ds xs h3
 | .lst ds,v,h=>by
  simp only [Rep] at h
  obtain ⟨a,xs,h1,h2,h3⟩:=h
  simp only [iK];exact dJ n ht ds xs h3
 | .dct ks ds,v,h=>by
  simp only [Rep] at h
  obtain ⟨a,xs,h1,h2,h3,h4⟩:=h
  simp only [iK];exact dJ n ht ds _ h4
theorem dJ (n:Nat) (ht:∀ k,n≤k→w.r k=none):∀ (ds:List D) (vs:List V),ak K w ds vs→jK n ds=true
 | [],_,_=>by simp [jK]
 | d::ds,vs,h=>by
  simp only [ak] at h
  obtain ⟨x,r,h1,h2,h3⟩:=h
  simp only [jK,zbJ]
  exact ⟨Ff n ht d x h2,dJ n ht ds r h3⟩
end
theorem iR (n:Nat):∀ {o:MO}{u:HO},oK n o=true→jM K w o u→jM K (iE n w) o u
 | .lst ds,u,hb,⟨xs,h1,h2⟩=>⟨xs,h1,cC n ds xs hb h2⟩
 | .dct ks ds,u,hb,⟨xs,h1,h2,h3⟩=>⟨xs,h1,h2,cC n ds _ hb h3⟩
 | .feed _,u,_,h=>h
 | .ins C ks ds,u,hb,⟨dx,fs,h1,h2,h3⟩=>⟨dx,fs,h1,h2,cC n ds _ hb h3⟩
 | .Ex F ks,u,hb,⟨a,bs,h1,h2⟩=>⟨a,bs,h1,cC n ks _ hb h2⟩
theorem BR (n:Nat) (ht:∀ k,n≤k→w.r k=none):∀ {o:MO}{u:HO},jM K w o u→oK n o=true
 | .lst ds,u,⟨xs,h1,h2⟩=>dJ n ht ds xs h2
 | .dct ks ds,u,⟨xs,h1,h2,h3⟩=>dJ n ht ds _ h3
 | .feed _,u,h=>rfl
 | .ins C ks ds,u,⟨dx,fs,h1,h2,h3⟩=>dJ n ht ds _ h3
 | .Ex F ks,u,⟨a,bs,h1,h2⟩=>dJ n ht ks _ h2
noncomputable def out (n:Nat) (S1:av):R→Option R
 | .dat (.loc m)=>if m<n then some (.dat (.loc m)) else match S1[m]? with
  | some (some o)=>if oK n o=true then some (.new o) else none
  | _=>none
 | .dat d=>if iK n d=true then some (.dat d) else none
 | .new o=>if oK n o=true then some (.new o) else none
noncomputable def chg (S0 S1:av):Prop:=∀ k o,k<S0.length→S1[k]? = some (some o)→S0[k]? = some (some o)∨oK S0.length o=true
noncomputable def ret (S0 S1:av) (r:R) (Q:AK):Prop:=∃ r',out S0.length S1 r=some r'∧chg S0 S1∧Q r' (S1.take S0.length)
theorem BO {r:R}{v:V}{Qa:AK}{Q:VK} (ok:Ok K w H S0) (le:w.le w1) (ok1:Ok K w1 H1 S1) (rep:wB K w1 H1 S1 r v) (h:ret S0 S1 r Qa) (bk:eF K w Qa Q):Q v H1:=by
 obtain ⟨r',ho,hc,q⟩:=h
 generalize hn:S0.length=n at *
 have lt:∀ k a,w.r k=some a→k<n:=fun k a e=>by
  rcases zcx k n with z | z
  ·exact z
  ·rw [ok.top k (by omega)] at e;cases e
 have at_:∀ k o,(S1.take n)[k]? = some (some o)→k<n∧S1[k]? = some (some o):=fun k o e=>by
  rw [List.getElem?_take] at e
  by_cases z:k<n
  ·rw [if_pos z] at e;exact ⟨z,e⟩
  ·rw [if_neg z] at e;cases e
 have le2:w.le (iE n w1):=⟨le.b,fun k a e=>by show (if k<n then w1.r k else none)=_;rw [if_pos (lt k a e)];exact le.r k a e⟩
 have bl:∀ k o,k<n→S1[k]? = some (some o)→oK n o=true:=fun k o hk e=>by
  rcases hc k o (by omega) e with z | z
  ·obtain ⟨a,u,_,_,_,h4⟩:=ok.live k o z
   exact BR n (fun k hk=>ok.top k (by omega)) h4
  ·rw [hn] at z;exact z
 have ok2:Ok K (iE n w1) H1 (S1.take n):=⟨ok1.base,fun k o e=>by
   obtain ⟨hk,e⟩:=at_ k o e
   obtain ⟨a,u,h1,h2,h3,h4⟩:=ok1.live k o e
   exact ⟨a,u,by show (if k<n then w1.r k else none)=_;rw [if_pos hk];exact h1,h2,h3,iR n (bl k o hk e) h4⟩,
  fun k m o o' e e' z=>by
   obtain ⟨hk,e⟩:=at_ k o e
   obtain ⟨hm,e'⟩:=at_ m o' e'
   have z:(if k<n then w1.r k else none)=(if m<n then w1.r m else none):=z
   rw [if_pos hk,if_pos hm] at z
   exact ok1.inj k m o o' e e' z,
  fun k hk=>by
   show (if k<n then w1.r k else none)=none
   by_cases z:k<n
   ·rw [if_pos z]
    rw [zby] at hk
    exact ok1.top k (by omega)
   ·rw [if_neg z]⟩
 refine bk r' (S1.take n) v (iE n w1) H1 le2 ok2 ?_ q
 have fresh:∀ m o a,n≤m→S1[m]? = some (some o)→w1.r m=some a→∀ k o',(S1.take n)[k]? = some (some o')→(iE n w1).r k≠some a:=fun m o a hm e ha k o' e' z=>by
  obtain ⟨hk,e'⟩:=at_ k o' e'
  have z:(if k<n then w1.r k else none)=some a:=z
  rw [if_pos hk] at z
  have:=ok1.inj k m o' o e' e (z.trans ha.symm)
  omega
 cases r with
 | new o =>
  simp only [out] at ho
  split at ho
  next hb =>
   cases ho
   obtain ⟨a,u,rfl,h1,h2,h3,h4⟩:=rep
   refine ⟨a,u,rfl,h1,h2,iR n hb h3,fun k o' e z => ?_⟩
   obtain ⟨hk,e⟩:=at_ k o' e
   have z:(if k<n then w1.r k else none)=some a:=z
   rw [if_pos hk] at z
   exact h4 k o' e z
  next=>cases ho
 | dat d =>
  have gen:(if iK n d=true then some (R.dat d) else none)=some r'→wB K (iE n w1) H1 (S1.take n) r' v:=fun ho=>by
   split at ho
   next hb=>cases ho;exact oZ n d v hb rep
   next=>cases ho
  cases d with
  | loc m =>
   simp only [out] at ho
   split at ho
   next hm=>exact gen (by simp [iK,hm,ho])
   next hm =>
    have hm:n≤m:=by omega
    split at ho
    next o e =>
     split at ho
     next hb =>
      cases ho
      have rep:Rep K w1 (.loc m) v:=rep
      simp only [Rep] at rep
      obtain ⟨a,ha,rfl⟩:=rep
      obtain ⟨a',u,h1,h2,h3,h4⟩:=ok1.live m o e
      rw [ha] at h1;cases h1
      exact ⟨a,u,rfl,h2,h3,iR n hb h4,fresh m o a hm e ha⟩
     next=>cases ho
    next=>cases ho
  | _=>exact gen (by simpa only [out] using ho)
end
noncomputable def aN (N:List Str) (ds:List D):bw:=ds.map some++zcc (N.length - ds.length) none
theorem kB {K:PySem.W.Frag}{w:Wd}{N:List Str}{ds:List D}{vs:List V} (h:ak K w ds vs):dZ K w (aN N ds) (L2.start N vs):=by
 have hl:=h.length
 refine ⟨by simp [aN,L2.start,hl],fun i d e => ?_⟩
 unfold aN at e
 by_cases hi:i<ds.length
 ·rw [zag (by simpa using hi),zbh] at e
  cases z:ds[i]? with
  | none=>rw [z] at e;cases e
  | some d' =>
   rw [z] at e
   have e:d'=d:=by simpa using e
   subst e
   obtain ⟨v,h1,h2⟩:=h.get z
   refine ⟨v,?_,h2⟩
   unfold L2.start
   rw [zag (by rw [zbP,hl];exact hi),zbh,h1];rfl
 ·rw [zab (by simpa using hi),List.getElem?_replicate] at e
  split at e <;> cases e
section
variable {P:Program}{w:World}{K:PySem.W.Frag}{mg:Str→Option Value}{base:Heap}
theorem oF {x:Str}{st:Stmt}{N ps:List Str}{k:Nat}{sp:AN} (F:Src K mg x ps st) (S:az N ps (ai st)) (len:∀ ds S Q,sp ds S Q→ds.length=ps.length)
  (hbody:∀ (f:Addr) (cdv:Value) (A:Around) (outer:List Env) (s:Shared) (H:Hp) (E:XK),aS k (A.deeper (envOfC x (ai st) s.heap.objs.size f cdv)) →
   ∃ a,AU (kE kQ P w K mg base N x (ai st) f cdv A outer s H E).Eu (bB st) a∧∀ ds S Q,sp ds S Q→a { nx:=fun _ S'=>ret S S' (.dat .bH) Q,rt:=fun r S'=>ret S S' r Q } (aN N ds) S):Def P w K mg base (k+1) x ps (aL K sp) :=
 F.def S (fun vs H Q E h=>by
  obtain ⟨w,ds,S,Qa,ok,rep,q,bk⟩:=h
  rw [rep.length];exact len ds S Qa q) fun f cdv A outer s H vs Q E hr h=>by
  obtain ⟨a,ha,hd⟩:=hbody f cdv A outer s H E hr
  obtain ⟨w,ds,S,Qa,ok,rep,q,bk⟩:=h
  refine ⟨_,ha.p,w,aN N ds,S,_,ok,kB rep,hd ds S Qa q,⟨fun δ S' σ w' H' le ok' env q' => ?_,fun r S' v w' H' le ok' rep' q' => ?_,fun _ _ _ _ _ _ _ _ z=>z.elim,fun _ _ _ _ _ _ _ _ z=>z.elim⟩⟩
  ·exact BO (r:=.dat .bH) (v:=.bH) ok le ok' (show Rep K w' .bH .bH from .bH) q' bk
  ·exact BO ok le ok' rep' q' bk
end
section
variable {X:Cx}{K:PySem.W.Frag}{w:Wd}{H:Hp}{S:av}{d:D}{v:V}
theorem c7 {vs:List V} (h:ak K w [d] vs):∃ v,vs=[v]∧Rep K w d v:=by
 simp only [ak] at h
 obtain ⟨x,r,rfl,h1,rfl⟩:=h
 exact ⟨x,rfl,h1⟩
theorem sG {e:D}{vs:List V} (h:ak K w [d,e] vs):∃ v u,vs=[v,u]∧Rep K w d v∧Rep K w e u:=by
 simp only [ak] at h
 obtain ⟨x,r,rfl,h1,y,r',rfl,h2,rfl⟩:=h
 exact ⟨x,y,rfl,h1,h2⟩
noncomputable def qU:D→Option Nat
 | .lst ds=>some ds.length
 | .tup ds=>some ds.length
 | .kT ns=>some ns.length
 | .dct ks _=>some ks.length
 | .str z=>if z.length≤sizeLine then some z.length else none
 | _=>none
noncomputable def MW:AN:=fun ds S Q=>∃ d n,ds=[d]∧qU (aV S d)=some n∧Q (.dat (.int n)) S
theorem fB:uS X (.builtin "len") MW:=⟨mC (Pa L2.ux L2.Aj) fun xs H Q h=>by
 obtain ⟨w,ds,S,Qa,ok,rep,⟨d,n,rfl,e,q⟩,bk⟩:=h
 obtain ⟨v,rfl,r1⟩:=c7 rep
 cases z:aV S d with
 | lst ds =>
  rw [z] at e
  have e:ds.length=n:=by simpa [qU] using e
  obtain ⟨a,xs,rfl,h1,h2⟩:=aX ok r1 z
  exact .inl ⟨_,n,rfl,.inl ⟨xs,b9.of h1,by rw [h2.length,e]⟩,bk.dat .refl ok .int q⟩
 | tup ds =>
  rw [z] at e
  have e:ds.length=n:=by simpa [qU] using e
  obtain ⟨a,xs,rfl,h1,h2⟩:=dw ok r1 z
  exact .inl ⟨_,n,rfl,.inr ⟨xs,eg.of h1,by rw [h2.length,e]⟩,bk.dat .refl ok .int q⟩
 | kT ns =>
  rw [z] at e
  have e:ns.length=n:=by simpa [qU] using e
  obtain ⟨a,rfl,h1⟩:=g9 ok r1 z
  exact .inl ⟨_,n,rfl,.inl ⟨_,h1,by rw [zbP,e]⟩,bk.dat .refl ok .int q⟩
 | str y =>
  rw [z] at e
  simp only [qU] at e
  split at e
  next hl =>
   cases e
   exact .inl ⟨_,_,rfl,(by rw [bP r1 z];exact ⟨hl,rfl⟩),bk.dat .refl ok .int q⟩
  next=>cases e
 | dct ks ds =>
  rw [z] at e
  have e:ks.length=n:=by simpa [qU] using e
  obtain ⟨a,kvs,rfl,h1,h2,_⟩:=ic ok r1 z
  refine .inr ⟨a,kvs,rfl,h1,?_⟩
  rw [← zbP (f:=(·.1)),h2,e]
  exact bk.dat .refl ok .int q
 | _=>rw [z] at e;simp [qU] at e⟩
noncomputable def K3:D→Option String
 | .bH=>some "NoneType"
 | .bl _=>some "bool"
 | .int _=>some "int"
 | .str _=>some "str"
 | .tup _=>some "tuple"
 | .lst _=>some "list"
 | _=>none
noncomputable def Ml (d:D) (T:String):Option Bool:=(K3 d).bind fun t=>if T == "str" || T == "int" || T == "bool" || T == "tuple" || T == "list" then some (t==T||(t == "bool" && T == "int")) else none
noncomputable def MY:AN:=fun ds S Q=>∃ d T b,ds=[d,.ty T]∧Ml (aV S d) T=some b∧Q (.dat (.bl b)) S
theorem HZ (ok:Ok K w H S) (h:Rep K w d v) {t:String} (e:K3 (aV S d)=some t):jL K H v (.type t):=by
 cases z:aV S d with
 | lst ds =>
  rw [z] at e;cases e
  obtain ⟨a,xs,rfl,h1,h2⟩:=aX ok h z
  exact .lst h1
 | tup ds =>
  rw [z] at e;cases e
  obtain ⟨a,xs,rfl,h1,h2⟩:=dw ok h z
  exact .tup h1
 | bH=>rw [z] at e;cases e;rw [ET h z];exact .bH
 | bl b=>rw [z] at e;cases e;rw [fO h z];exact .bl b
 | int b=>rw [z] at e;cases e;rw [cF h z];exact .int b
 | str b=>rw [z] at e;cases e;rw [bP h z];exact .str b
 | _=>rw [z] at e;simp [K3] at e
theorem JJ {t T:String}{b:Bool} (ht:t = "NoneType" ∨ t = "bool" ∨ t = "int" ∨ t = "str" ∨ t = "tuple" ∨ t = "list")
  (e:(if T == "str" || T == "int" || T == "bool" || T == "tuple" || T == "list" then some (t==T||(t == "bool" && T == "int")) else none)=some b):PySem.W.kitOne K (.type t) (.type T)=some b:=by
 split at e
 next hT =>
  simp only [Bool.or_eq_true,beq_iff_eq] at hT
  cases e
  rcases hT with (((rfl | rfl) | rfl) | rfl) | rfl <;> rcases ht with rfl | rfl | rfl | rfl | rfl | rfl <;> rfl
 next=>cases e
theorem Ia {t:String} (e:K3 d=some t):t = "NoneType" ∨ t = "bool" ∨ t = "int" ∨ t = "str" ∨ t = "tuple" ∨ t = "list" := by
 cases d <;> simp [K3] at e <;> subst e <;> simp
theorem LX:uS X (.builtin "isinstance") MY:=⟨mC L2.Ds fun xs H Q h=>by
 obtain ⟨w,ds,S,Qa,ok,rep,⟨d,T,b,rfl,e,q⟩,bk⟩:=h
 obtain ⟨v,u,rfl,r1,r2⟩:=sG rep
 unfold Ml at e
 cases z:K3 (aV S d) with
 | none=>rw [z] at e;cases e
 | some t =>
  rw [z] at e
  refine ⟨v,.ty T,_,_,b,(by rw [Jc r2 rfl]),Hl.1,Hl.2,HZ ok r1 z,JJ (Ia z) e,bk.dat .refl ok .bl q⟩⟩
noncomputable def yP:AN:=fun ds S Q=>∃ d,ds=[d]∧cg (aV S d)=true∧(py (aV S d)).showable=true∧(py (aV S d)).depth≤100∧(py (aV S d)).shown.length≤sizeLine∧Q (.dat (.str (py (aV S d)).shown)) S
theorem kg {k:Nat} (hr:aS k X.A):uS X (.builtin "repr") yP:=⟨mC (L2.Af hr) fun xs H Q h=>by
 obtain ⟨w,ds,S,Qa,ok,rep,⟨d,rfl,h1,h2,h3,h4,q⟩,bk⟩:=h
 obtain ⟨v,rfl,r1⟩:=c7 rep
 exact ⟨v,_,rfl,qp ok r1 h1,h2,h3,h4,bk.dat .refl ok .str q⟩⟩
noncomputable def yS:AN:=fun ds S Q=>∃ d,ds=[d]∧match aV S d with
 | .lst es=>Q (.new (.lst es)) S
 | .tup es=>Q (.new (.lst es)) S
 | .kT ns=>Q (.new (.lst (ns.map D.int))) S
 | _=>False
theorem cL:uS X (.type "list") yS:=⟨mC L2.rA fun xs H Q h=>by
 obtain ⟨w,ds,S,Qa,ok,rep,⟨d,rfl,q⟩,bk⟩:=h
 obtain ⟨v,rfl,r1⟩:=c7 rep
 split at q
 next es z =>
  obtain ⟨a,xs,rfl,h1,h2⟩:=aX ok r1 z
  exact ⟨a,xs,rfl,.inl (b9.of h1),fun p hp=>bk (.new (.lst _)) S _ w _ .refl (ok.alloc hp) (ok.fresh hp ⟨_,rfl,h2⟩) q⟩
 next es z =>
  obtain ⟨a,xs,rfl,h1,h2⟩:=dw ok r1 z
  exact ⟨a,xs,rfl,.inr (eg.of h1),fun p hp=>bk (.new (.lst _)) S _ w _ .refl (ok.alloc hp) (ok.fresh hp ⟨_,rfl,h2⟩) q⟩
 next ns z =>
  obtain ⟨a,rfl,h1⟩:=g9 ok r1 z
  exact ⟨a,_,rfl,.inl h1,fun p hp=>bk (.new (.lst _)) S _ w _ .refl (ok.alloc hp) (ok.fresh hp ⟨_,rfl,ig ns⟩) q⟩
 next=>exact q.elim⟩
noncomputable def DI:AN:=fun ds S Q=>∃ d,ds=[d]∧match aV S d with
 | .lst es=>Q (.dat (.tup es)) S
 | .tup es=>Q (.dat (.tup es)) S
 | _=>False
theorem d7:uS X (.type "tuple") DI:=⟨mC L2.oJ fun xs H Q h=>by
 obtain ⟨w,ds,S,Qa,ok,rep,⟨d,rfl,q⟩,bk⟩:=h
 obtain ⟨v,rfl,r1⟩:=c7 rep
 split at q
 next es z =>
  obtain ⟨a,xs,rfl,h1,h2⟩:=aX ok r1 z
  refine ⟨a,xs,rfl,.inl ⟨b9.of h1,fun p hp => ?_⟩⟩
  obtain ⟨w2,le2,ok2,rep2⟩:=ok.nh hp h2
  exact bk.dat le2 ok2 rep2 q
 next es z =>
  obtain ⟨a,xs,rfl,h1,h2⟩:=dw ok r1 z
  refine ⟨a,xs,rfl,.inr ⟨eg.of h1,?_⟩⟩
  cases d <;> simp only [aV] at z
  case tup=>cases z;exact bk.dat .refl ok r1 q
  case loc n=>split at z <;> first | (rename_i o _;cases o <;> simp [MO.d] at z) | cases z
  all_goals cases z
 next=>exact q.elim⟩
noncomputable def MU:AN:=fun ds S Q=>∃ i j,ds=[.int i,.int j]∧Q (.dat (.int (if j<i then j else i))) S
theorem Ju (hc:X.calm=true):uS X (.builtin "min") MU:=⟨mC (L2.Ag hc) fun xs H Q h=>by
 obtain ⟨w,ds,S,Qa,ok,rep,⟨i,j,rfl,q⟩,bk⟩:=h
 obtain ⟨v,u,rfl,r1,r2⟩:=sG rep
 exact ⟨i,j,by rw [aY r1 rfl,aY r2 rfl],bk.dat .refl ok .int q⟩⟩
theorem uy:∀ {ns:List Bool}{xs:List V},ak K w (ns.map D.bl) xs→xs=ns.map V.bl
 | [],_,h=>by simpa [ak] using h
 | n::ns,xs,h=>by
  simp only [zcj,ak,Rep] at h
  obtain ⟨x,r,rfl,rfl,h⟩:=h
  rw [uy h];rfl
theorem oR:∀ {ns:List Str}{xs:List V},ak K w (ns.map D.str) xs→xs=ns.map V.str
 | [],_,h=>by simpa [ak] using h
 | n::ns,xs,h=>by
  simp only [zcj,ak,Rep] at h
  obtain ⟨x,r,rfl,rfl,h⟩:=h
  rw [oR h];rfl
noncomputable def O0:AN:=fun ds S Q=>∃ (d:D) (bs:List Bool),ds=[d]∧aV S d = .lst (bs.map D.bl)∧Q (.dat (.bl (bs.all id))) S
theorem Hz (hc:X.calm=true):uS X (.builtin "all") O0:=⟨mC (L2.Dt hc) fun xs H Q h=>by
 obtain ⟨w,ds,S,Qa,ok,rep,⟨d,bs,rfl,z,q⟩,bk⟩:=h
 obtain ⟨v,rfl,r1⟩:=c7 rep
 obtain ⟨a,xs,rfl,h1,h2⟩:=aX ok r1 z
 rw [uy h2] at h1
 exact ⟨a,bs,rfl,b9.of h1,bk.dat .refl ok .bl q⟩⟩
end
noncomputable abbrev AM:=D→List D→av→AK→Prop
structure K7 (X:Cx) (id:String) (r:AM):Prop where
 p:wD X id (MF X.K r)
noncomputable def oB (T:String):D→Prop
 | .lst _=>T = "list"
 | .str _=>T = "str"
 | .kT _=>T = "list"
 | .dct _ _=>T = "dict"
 | _=>False
noncomputable def yU (T:String) (r:AM) (a:AE) (b:AA):AE:=fun δ S Q=>a δ S fun x S1=>oB T (aV S1 x.d)∧b δ S1 fun ds S2=>r x.d ds S2 Q
section
variable {X:Cx}{K:PySem.W.Frag}{w:Wd}{H:Hp}{S:av}{d:D}{v:V}
theorem K9 {T:String} (ok:Ok K w H S) (h:Rep K w d v) (t:oB T (aV S d)):NL K T v H:=by
 cases z:aV S d with
 | lst ds =>
  rw [z] at t;cases t
  obtain ⟨a,xs,rfl,h1,h2⟩:=aX ok h z
  exact .inl ⟨rfl,xs,b9.of h1⟩
 | str y=>rw [z] at t;cases t;rw [bP h z];exact rfl
 | kT ns =>
  rw [z] at t;cases t
  obtain ⟨a,rfl,h1⟩:=g9 ok h z
  exact .inl ⟨rfl,_,h1⟩
 | dct ks ds =>
  rw [z] at t;cases t
  obtain ⟨a,kvs,rfl,h1,_⟩:=ic ok h z
  exact .inr (.inr (.inl ⟨rfl,.inl ⟨kvs,h1⟩⟩))
 | _=>rw [z] at t;exact t.elim
theorem N9 {T:String}{r:AM}{a:AE}{b:AA}:∀ σ H Q,bu K (yU T r a b) σ H Q→Nn K T (MF K r) (bu K a) (k6 K b) σ H Q:=by
 rintro σ H Q ⟨w,δ,S,Qa,ok,env,q,bk⟩
 refine ⟨w,δ,S,_,ok,env,q,.go fun r1 S1 v1 w1 H1 le1 ok1 rep1 ⟨ty,q1⟩=>⟨K9 ok1 rep1 ty,?_⟩⟩
 refine ⟨w1,δ,S1,_,ok1,env.le le1,q1,fun ds S2 vs w2 H2 le2 ok2 rep2 q2 => ?_⟩
 exact ⟨w2,r1.d,ds,S2,Qa,ok2,rep1.le le2,rep2,q2,bk.le (le1.trans le2)⟩
theorem c8 {o e:Expr}{es:List Expr}{to:AE}{t:AA}{name:Str}{apos cpos:Pos}{T id:String}{r:AM} (pa:PlainAttrs T) (slot:Slot T name id) (hty:typeOf (.builtin id)=pure (.type "method_descriptor")) (hm:K7 X id r) (ho:GE X o to) (ha:GA X (e::es) t)
  (hbase:attributeBase o name X.env (eval o X.env)=eval o X.env:=by rfl) (hs:(e::es).all notStar=true:=by rfl) (hfew:decide ((e::es).length+0+0<30)=true:=by rfl)
  (hline:(apos.endLine==cpos.line)=true:=by rfl):GE X (.Call (.Attribute o name apos) (e::es) [] cpos) (yU T r to t):=⟨mE (L2.m7 pa slot hty hm.p ho.p ha.p hbase hs hfew hline) N9⟩
theorem mM {id:String}{t u:V→List V→Hp→VK→Prop} (h:wD X id t) (m:∀ x xs H Q,u x xs H Q→t x xs H Q):wD X id u:=fun pins s σ H x xs v us Q I rx rs q=>h pins s σ H x xs v us Q I rx rs (m x xs H Q q)
theorem vN {n:Nat}{ds:List D} (ok:Ok K w H S) (h:Rep K w (.loc n) v) (e:S[n]? = some (some (.lst ds))):∃ a xs,v = .ref a∧w.r n=some a∧H a=some (.lst xs)∧ak K w ds xs:=by
 simp only [Rep] at h
 obtain ⟨a,h1,rfl⟩:=h
 obtain ⟨a',u,g1,g2,g3,xs,rfl,g5⟩:=ok.live n _ e
 rw [h1] at g1;cases g1
 exact ⟨a,xs,rfl,h1,g3,g5⟩
theorem jj {ds:List D}{xs:List V} (h:ak K w ds xs):jM K w (.lst ds) (.lst xs):=⟨xs,rfl,h⟩
noncomputable def GN:AM:=fun x ds S Q=>∃ n es e,x = .loc n∧ds=[e]∧S[n]? = some (some (.lst es))∧es.length<sizeLine∧Q (.dat .bH) (S.set n (some (.lst (es++[e]))))
theorem fE:K7 X "list.append" GN:=⟨mM (X:=X) (t:=xY) L2.pB fun x xs H Q h=>by
 obtain ⟨w,d,ds,S,Qa,ok,r1,r2,⟨n,es,e,rfl,rfl,hS,hl,q⟩,bk⟩:=h
 obtain ⟨a,ys,rfl,ha,hH,hr⟩:=vN ok r1 hS
 obtain ⟨v,rfl,r3⟩:=c7 r2
 exact ⟨a,ys,v,rfl,rfl,hH,by rw [hr.length];exact hl,bk.dat .refl (ok.put hS ha (jj (hr.snoc r3))) .bH q⟩⟩
noncomputable def BZ (K:PySem.W.Frag):V→List V→Hp→VK→Prop:=fun x vs H Q=>∃ l b xs zs,x = .ref l∧vs=[.ref b]∧H l=some (.lst xs)∧H b=some (.tup zs)∧xs.length+zs.length≤sizeLine∧Q .bH (upd H l (.lst (xs++zs)))
theorem F6 {l b:Addr}{xs zs:Array Value}{n k:Nat}{dd:Option Addr}{sl:Array (Option Value)} (h0 : ¬(!xs.isEmpty&&Builtin.List.listTooLong (xs.size+zs.size))=true) (h1:xs.size≤sizeLine) (h2:xs.size+zs.size≤sizeLine+1) :
  Meets (Builtin.«list.extend» ⟨[.ref l,.ref b],[]⟩) (fun _ R s=>s.heap.get? l=some { cls:=.type "list",dict:=none,data:=.seq xs n,slots := #[] }∧s.heap.get? b=some { cls:=.type "tuple",dict:=dd,data:=.seq zs k,slots:=sl }∧R (.ok (.ret Value.none)) { s with heap:=s.heap.update l (Obj.mapSeq fun x=>x++zs),toks:=s.toks }) :=
 .of_wp fun prog w A R s h=>by
  obtain ⟨hl,hb,q⟩:=h
  obtain ⟨hp,g,dr,tk,os⟩:=s
  have e1:=AutoSeq1.idx_int
  have e2:=AutoSeq1.sub_tuple_tuple
  have e3:=AutoSeq1.sub_list_list
  have e4:=AutoSeq1.sub_tuple_list
  have e5:=AutoSeq1.sub_list_tuple
  have z:(xs++zs).size≤sizeLine+1:=by rw [Array.size_append];exact h2
  wp_walk using (wpAny_updateSeq hl rfl (hz:=h1) (_hz':=z)),AutoSeq1.wpAny_loadPart' hl,AutoSeq1.wpAny_loadPart' hb
  exact ⟨_,rfl,q⟩
theorem vD:wD X "list.extend" (BZ X.K):=by
 intro pins s σ H x vs v us Q I rx rv h
 obtain ⟨l,b,xs,zs,rfl,rfl,hH,hB,hz,q⟩:=h
 cases rx
 obtain ⟨u,rfl,ru⟩:=rv.one
 cases ru
 obtain ⟨z,its,n,r,hl,e⟩:=I.tw hH
 obtain ⟨its2,r2,⟨⟨c2,dd,da,sl⟩,e2,hc2,n2,d2⟩,z2⟩:=I.tuple (eg.of hB)
 simp only at hc2 d2
 subst hc2 d2
 have hl2:=r2.length
 have hsz:its.toArray.size+its2.toArray.size≤sizeLine:=by rw [zbf,zbf];omega
 have tP : ¬ (!its.toArray.isEmpty&&Builtin.List.listTooLong (its.toArray.size+its2.toArray.size))=true:=by
  rw [m8 hsz,Bool.and_false]
  exact zbb
 refine call_meets F.slot_list_extend ⟨_,e,rfl⟩ F.entry_list_extend (F.args_list_extend_2 _ _)
  (F6 (n:=n) (k:=n2) (dd:=dd) (sl:=sl) tP (by rw [zbf];omega) (by omega)) ⟨e,e2,?_⟩
 refine ⟨.bH,_,I.FJ (its':=its++its2) hH e (by simp) (r.append r2) ?_,rfl,q⟩
 rw [zaU]
 omega
noncomputable def GK:AM:=fun x ds S Q=>∃ n es e fs,x = .loc n∧ds=[e]∧S[n]? = some (some (.lst es))∧(aV S e = .lst fs∨aV S e = .tup fs)∧es.length+fs.length≤sizeLine∧Q (.dat .bH) (S.set n (some (.lst (es++fs))))
theorem CC:K7 X "list.extend" GK:=⟨mM (wD.or (X:=X) (r:=xX) L2.zM vD) fun x xs H Q h=>by
 obtain ⟨w,d,ds,S,Qa,ok,r1,r2,⟨n,es,e,fs,rfl,rfl,hS,hf,hl,q⟩,bk⟩:=h
 obtain ⟨a,ys,rfl,ha,hH,hr⟩:=vN ok r1 hS
 obtain ⟨v,rfl,r3⟩:=c7 r2
 rcases hf with hf | hf
 ·obtain ⟨b,zs,rfl,g1,g2⟩:=aX ok r3 hf
  exact .inl ⟨a,b,ys,zs,rfl,rfl,hH,g1,by rw [hr.length,g2.length];exact hl,bk.dat .refl (ok.put hS ha (jj (hr.append g2))) .bH q⟩
 ·obtain ⟨b,zs,rfl,g1,g2⟩:=dw ok r3 hf
  exact .inr ⟨a,b,ys,zs,rfl,rfl,hH,g1,by rw [hr.length,g2.length];exact hl,bk.dat .refl (ok.put hS ha (jj (hr.append g2))) .bH q⟩⟩
noncomputable def DN:AM:=fun x ds S Q=>∃ (y:Str) (e:D) (ys:List Str),x = .str y∧ds=[e]∧aV S e = .lst (ys.map D.str)∧(ys.map (·.length)).sum+ys.length*y.length≤16777216∧Q (.dat (.str (Txt.join y ys))) S
theorem fV:K7 X "str.join" DN:=⟨mM L2.yd fun x xs H Q h=>by
 obtain ⟨w,d,ds,S,Qa,ok,r1,r2,⟨y,e,ys,rfl,rfl,z,hl,q⟩,bk⟩:=h
 obtain ⟨v,rfl,r3⟩:=c7 r2
 obtain ⟨a,zs,rfl,g1,g2⟩:=aX ok r3 z
 rw [oR g2] at g1
 exact ⟨y,a,ys,dW r1 rfl,rfl,b9.of g1,hl,bk.dat .refl ok .str q⟩⟩
end
end M
namespace M
open PySem L2
theorem dD {P:av→Prop}{g:AG}{b:AS}{D:gU} (I:List M.D→bw→av→Prop) (hn:∀ δ S,I [] δ S→P S∧D.nx δ S)
  (hc:∀ x xs δ S N,I (x::xs) δ S→(∀ δ' S',I xs δ' S'→N δ' S')→P S∧g x δ S fun δ2 S2=>b { D with nx:=N,ct:=N,bk:=D.nx } δ2 S2):∀ ds δ S,I ds δ S→jB P g b ds D δ S
 | [],δ,S,h=>hn δ S h
 | x::xs,δ,S,h=>hc x xs δ S _ h fun δ' S' h'=>dD I hn hc xs δ' S' h'
theorem rq {P:av→Prop}{g:AG}{t:AT}{e:AE}{Q:List M.D→av→Prop} (I:List M.D→List M.D→bw→av→Prop) (hn:∀ acc δ S,I [] acc δ S→P S∧Q acc S)
  (hc:∀ x xs acc δ S (N:List M.D→bw→av→Prop),I (x::xs) acc δ S→(∀ acc' δ' S',I xs acc' δ' S'→N acc' δ' S')→P S∧g x δ S fun δ2 S2=>t δ2 S2 fun b S3=>if b=true then e δ2 S3 fun r S4=>acc.length<sizeLine∧N (acc++[r.d]) δ2 S4 else N acc δ2 S3) :
  ∀ ds acc δ S,I ds acc δ S→bR P g t e ds acc δ S Q
 | [],acc,δ,S,h=>hn acc δ S h
 | x::xs,acc,δ,S,h=>hc x xs acc δ S (fun acc' δ' S'=>bR P g t e xs acc' δ' S' Q) h fun acc' δ' S' h'=>rq I hn hc xs acc' δ' S' h'
theorem comp_map {P:av→Prop}{e:AE}{Q:List M.D→av→Prop}{δ:bw}{S:av} (f:M.D→M.D) (hP:P S):∀ (xs acc:List M.D) (δ':bw),δ'.set 0 none=δ.set 0 none→(∀ x∈xs,∀ Q:AK,Q (.dat (f x)) S→e (δ.set 0 (some x)) S Q)→acc.length+xs.length≤sizeLine→Q (acc++xs.map f) S →
  bR P (bD 0) gg e xs acc δ' S Q
 | [],acc,δ',_,_,_,q=>⟨hP,by simpa using q⟩
 | x::xs,acc,δ',hd,h,hl,q=>by
  refine ⟨hP,?_⟩
  have e1:δ'.set 0 (some x)=δ.set 0 (some x):=by
   have:=congrArg (fun l=>l.set 0 (some x)) hd
   simpa [zcr] using this
  simp only [bD,gg,if_true]
  rw [e1]
  refine h x (by simp) _ ⟨by simp at hl;omega,?_⟩
  refine comp_map f hP xs _ _ (by simp [zcr]) (fun y hy=>h y (by simp [hy])) (by simp at hl ⊢;omega) ?_
  simpa [R.d,zbk] using q
theorem ES {S:av}{d:D} (h:cg d=true):aV S d=d:=by
 cases d <;> first | rfl | simp [cg] at h
theorem BB {S:av}{i:Int}:aV S (.int i) = .int i:=rfl
theorem sj {S:av}{i:Str}:aV S (.str i) = .str i:=rfl
theorem EV {S:av}{i:Bool}:aV S (.bl i) = .bl i:=rfl
theorem BA {S:av}:aV S .bH = .bH:=rfl
theorem sf {S:av}{i:List D}:aV S (.tup i) = .tup i:=rfl
theorem jg {S:av}{i:List D}:aV S (.lst i) = .lst i:=rfl
theorem By {S:av}{i:List Str}:aV S (.Es i) = .Es i:=rfl
theorem sq {S:av}{i:List Int}:aV S (.kT i) = .kT i:=rfl
theorem gn {d:D}:(R.dat d).d=d:=rfl
theorem BS {o:MO}:(R.new o).d=o.d:=rfl
theorem ye {ds:List D}:(MO.lst ds).d = .lst ds:=rfl
theorem FQ {i j:Int}{S:av}{Q:AK}:MX (.int i) (.int j) S Q=Q (.dat (.bl (decide (i≤j)))) S:=rfl
theorem FH {i j:Int}{S:av}{Q:AK}:Pj (.int i) (.int j) S Q=Q (.dat (.bl (decide (i<j)))) S:=rfl
theorem FP {i j:Str}{S:av}{Q:AK}:MX (.str i) (.str j) S Q=Q (.dat (.bl (!decide (j.cps.toList<i.cps.toList)))) S:=rfl
theorem KH {C:Int→Int→Prop}{g:Int→Int→D}{i j:Int}{S:av}{Q:AK}:aI C g (.int i) (.int j) S Q=(C i j∧Q (.dat (g i j)) S):=by
 refine propext ⟨fun ⟨a,b,e1,e2,h⟩ => ?_,fun h=>⟨i,j,rfl,rfl,h⟩⟩
 cases e1;cases e2;exact h
theorem DF {i j:Int}{S:av}{Q:AK}:wu (.int i) (.int j) S Q=Q (.dat (.int (i+j))) S:=rfl
theorem DE {i j:List D}{S:av}{Q:AK}:wu (.lst i) (.lst j) S Q=(i.length+j.length≤sizeLine∧Q (.new (.lst (i++j))) S):=rfl
theorem F8 {i j:Int}{S:av}{Q:AK}:KI (.int i) (.int j) S Q=Q (.dat (.bl (decide (i=j)))) S:=rfl
theorem lN {i j:Str}{S:av}{Q:AK}:KI (.str i) (.str j) S Q=Q (.dat (.bl (decide (i=j)))) S:=rfl
theorem Ig {b:Bool}:eS (.bl b)=some b:=rfl
theorem EE {ds:List D}:eS (.lst ds)=some (!ds.isEmpty):=rfl
theorem EC {ds:List D}:eS (.tup ds)=some (!ds.isEmpty):=rfl
theorem qM {n:Nat}{S:av}{d:D} (h:cg d=true):out n S (.dat d)=some (.dat d):=by
 have b:=yN n d h
 cases d <;> first | (simp [cg] at h;done) | (simp only [out];rw [if_pos b])
theorem uo {S:av}:chg S S:=fun _ _ _ e=>.inl e
theorem qD {S:av}{d:D}{Q:AK} (h:cg d=true) (q:Q (.dat d) S):ret S S (.dat d) Q:=⟨_,qM h,uo,by rw [zbC];exact q⟩
theorem iP {S:av}{b:Bool}{Q:AK}:ret S S (.dat (.bl b)) Q=Q (.dat (.bl b)) S:=by
 refine propext ⟨fun ⟨r,h1,_,h2⟩ => ?_,qD rfl⟩
 simp [out,iK] at h1
 subst h1
 rw [zbC] at h2;exact h2
theorem Fc {S:av}{b:Int}{Q:AK}:ret S S (.dat (.int b)) Q=Q (.dat (.int b)) S:=by
 refine propext ⟨fun ⟨r,h1,_,h2⟩ => ?_,qD rfl⟩
 simp [out,iK] at h1
 subst h1
 rw [zbC] at h2;exact h2
theorem xV {S:av}{ds:List D}{Q:AK} (h:bN ds=true) (q:Q (.new (.lst ds)) S):ret S S (.new (.lst ds)) Q :=
 ⟨_,by simp only [out];rw [if_pos (show oK _ (.lst ds)=true from fH _ ds h)],uo,by rw [zbC];exact q⟩
theorem Nr {S:av}{ds:List D}{Q:AK}{S':av}{n:Nat} (hn:S.length≤n) (h:bN ds=true) (e:S'[n]? = some (some (.lst ds))) (hs:S'.take S.length=S) (q:Q (.new (.lst ds)) S):ret S S' (.dat (.loc n)) Q:=by
 refine ⟨.new (.lst ds),?_,fun k o hk e=>.inl ?_,by rw [hs];exact q⟩
 ·simp only [out]
  rw [if_neg (by omega),e]
  show (if oK S.length (.lst ds)=true then some (R.new (.lst ds)) else none)=_
  rw [if_pos (show oK _ (.lst ds)=true from fH _ ds h)]
 ·rw [← hs,List.getElem?_take,if_pos hk];exact e
noncomputable def fc (x:Str):Bool:=x.cps.toList.all (fun c=>decide (c<128))&&decide (x.length≤100)
noncomputable def l5:Nat→D→Bool
 | _,.bH=>true
 | _,.bl _=>true
 | _,.int _=>true
 | _,.str x=>fc x
 | n+1,.tup ds=>decide (ds.length≤100)&&ds.all (l5 n)
 | n+1,.lst ds=>decide (ds.length≤100)&&ds.all (l5 n)
 | _,_=>false
theorem iV {x:Str} (h:fc x=true):PyData.strOk x=true:=by
 unfold fc at h
 rw [zbJ] at h
 unfold PyData.strOk
 rw [← Array.all_toList]
 refine zbB.mpr fun c hc => ?_
 have:=of_decide_eq_true (zbB.mp h.1 c hc)
 exact decide_eq_true (by omega)
theorem AW:∀ (n:Nat) (d:D),l5 n d=true→cg d=true∧(py d).canLay0=true∧(py d).depth≤n:=by
 intro n
 induction n with
 | zero =>
  intro d h
  cases d <;> first | (simp [l5] at h;done) | skip
  ·simp [cg,py,PyData.canLay0,PyData.depth]
  ·simp [cg,py,PyData.canLay0,PyData.depth]
  ·simp [cg,py,PyData.canLay0,PyData.depth]
  ·simp only [l5] at h
   simp [cg,py,PyData.canLay0,PyData.depth,iV h]
 | succ n ih =>
  have all:∀ ds:List D,(ds.all (l5 n))=true→bN ds=true∧PyData.canLayAll0 (cR ds)=true∧PyData.depthAll (cR ds)≤n:=by
   intro ds
   induction ds with
   | nil=>intro _;simp [bN,cR,PyData.canLayAll0,PyData.depthAll]
   | cons d ds ih2 =>
    intro h
    rw [zcl,zbJ] at h
    obtain ⟨a1,a2,a3⟩:=ih d h.1
    obtain ⟨b1,b2,b3⟩:=ih2 h.2
    refine ⟨by simp [bN,a1,b1],by simp [cR,PyData.canLayAll0,a2,b2],?_⟩
    simp only [cR,PyData.depthAll]
    omega
  intro d h
  cases d <;> first | (simp [l5] at h;done) | skip
  ·simp [cg,py,PyData.canLay0,PyData.depth]
  ·simp [cg,py,PyData.canLay0,PyData.depth]
  ·simp [cg,py,PyData.canLay0,PyData.depth]
  ·simp only [l5] at h
   simp [cg,py,PyData.canLay0,PyData.depth,iV h]
  ·simp only [l5,zbJ] at h
   obtain ⟨a1,a2,a3⟩:=all _ h.2
   exact ⟨by simpa [cg] using a1,by simpa [py,PyData.canLay0] using a2,by simp only [py,PyData.depth];omega⟩
  ·simp only [l5,zbJ] at h
   obtain ⟨a1,a2,a3⟩:=all _ h.2
   exact ⟨by simpa [cg] using a1,by simpa [py,PyData.canLay0] using a2,by simp only [py,PyData.depth];omega⟩
theorem qd {n:Nat}{d:D} (h:l5 n d=true) (hn:n≤64):fit d=true:=by
 obtain ⟨a,b,c⟩:=AW n d h
 unfold fit PySem.SeqAt.shaped
 rw [a,b,decide_eq_true (by omega)];rfl
end M
namespace M
open PySem PySem.Spec PyProof.Rows L2
theorem jX:∀ {vs:List Value}{ss:List Str},StrsAre vs ss→Vals (ss.map V.str) vs
 | _,_,.nil=>.nil
 | _,_,.cons y t h=>.cons ⟨t,rfl⟩ (jX h)
section
variable {X:Cx}
noncomputable def Je (K:PySem.W.Frag):List V→Hp→VK→Prop:=fun xs H Q=>∃ (a:Addr) (ss:List Str),xs=[.ref a]∧b9 K H a (ss.map V.str)∧ss.length<64∧∀ (p:Addr) (ss':List Str),H p=none→ss'.Perm ss→sortedS ss'=true→Q (.ref p) (upd H p (.lst (ss'.map V.str)))
theorem we:bS X (.builtin "sorted") (Je X.K):=by
 intro pins s σ H xs us Q I r h
 obtain ⟨a,ss,rfl,ha,hl,q⟩:=h
 obtain ⟨u,rfl,ru⟩:=vals1 r
 cases ru
 obtain ⟨its,r1,⟨o,n,e,hc,hd,hda⟩,_⟩:=I.list ha
 have hlen:its.length=ss.length:=by have:=r1.length;rw [zbP] at this;exact this.symm
 refine sorted_strs ⟨o,e,hc,n,hda⟩ (jc r1) (by omega) fun out ss' a1 a2 a3 => ?_
 obtain ⟨ep,he⟩:=sortedAll_at s.heap its out
 have hz:(ss'.map V.str).length≤sizeLine:=by rw [zbP,a2.length_eq,sizeLine_eq];omega
 refine ⟨.ref (s.heap.objs.size+1),_,I.laid (t':=s.toks) (o:=.lst (ss'.map V.str)) (fun b ob q=>sortedAll_old q) (zcJ _) ⟨hz,out.toList,ep,jX a1,he⟩,rfl,q _ ss' (I.hok.fresh (zcJ _)) a2 a3⟩
noncomputable def Jf (K:PySem.W.Frag):List V→Hp→VK→Prop:=fun xs H Q=>∃ (a:Addr) (ns:List Int),xs=[.ref a]∧b9 K H a (ns.map V.int)∧ns.length<64∧∀ (p:Addr) (ns':List Int),H p=none→ns'.Perm ns→ns'.Pairwise (· ≤ ·)→Q (.ref p) (upd H p (.lst (ns'.map V.int)))
theorem wg:bS X (.builtin "sorted") (Jf X.K):=by
 intro pins s σ H xs us Q I r h
 obtain ⟨a,ns,rfl,ha,hl,q⟩:=h
 obtain ⟨u,rfl,ru⟩:=vals1 r
 cases ru
 obtain ⟨its,r1,⟨o,n,e,hc,hd,hda⟩,_⟩:=I.list ha
 have hlen:its.length=ns.length:=by have:=r1.length;rw [zbP] at this;exact this.symm
 refine sorted_ints ⟨o,e,hc,n,hda⟩ (intsAre_of r1) (by omega) fun out ns' a1 a2 a3 => ?_
 obtain ⟨ep,he⟩:=sortedAll_at s.heap its out
 have hz:(ns'.map V.int).length≤sizeLine:=by rw [zbP,a2.length_eq,sizeLine_eq];omega
 refine ⟨.ref (s.heap.objs.size+1),_,I.laid (t':=s.toks) (o:=.lst (ns'.map V.int)) (fun b ob q=>sortedAll_old q) (zcJ _) ⟨hz,out.toList,ep,jY a1,he⟩,rfl,q _ ns' (I.hok.fresh (zcJ _)) a2 a3⟩
noncomputable def GB:AN:=fun ds S Q=>∃ d,ds=[d] ∧
 ((∃ ss:List Str,aV S d = .lst (ss.map D.str)∧ss.length<64∧∀ ss':List Str,ss'.Perm ss→sortedS ss'=true→Q (.new (.lst (ss'.map D.str))) S)∨(∃ ns:List Int,aV S d = .lst (ns.map D.int)∧ns.length<64∧∀ ns':List Int,ns'.Perm ns→ns'.Pairwise (· ≤ ·)→Q (.new (.lst (ns'.map D.int))) S))
theorem iQ {K:PySem.W.Frag}{w:Wd}:∀ {ss:List Str}{xs:List V},ak K w (ss.map D.str) xs→xs=ss.map V.str
 | [],xs,h=>by simpa [ak] using h
 | s::ss,xs,h=>by
  simp only [zcj,ak] at h
  obtain ⟨x,r,rfl,h1,h2⟩:=h
  rw [dW h1 rfl,iQ h2];rfl
theorem mJ {K:PySem.W.Frag}{w:Wd}:∀ {ns:List Int}{xs:List V},ak K w (ns.map D.int) xs→xs=ns.map V.int
 | [],xs,h=>by simpa [ak] using h
 | s::ss,xs,h=>by
  simp only [zcj,ak] at h
  obtain ⟨x,r,rfl,h1,h2⟩:=h
  rw [aY h1 rfl,mJ h2];rfl
theorem dU {K:PySem.W.Frag}{w:Wd}:∀ ss:List Str,ak K w (ss.map D.str) (ss.map V.str)
 | []=>by simp [ak]
 | s::ss=>by
  simp only [zcj,ak]
  exact ⟨_,_,rfl,by simp [Rep],dU ss⟩
theorem sO:uS X (.builtin "sorted") GB:=⟨mC (Pa we wg) fun xs H Q h=>by
 obtain ⟨w,ds,S,Qa,ok,rep,⟨d,rfl,q⟩,bk⟩:=h
 obtain ⟨v,rfl,r1⟩:=c7 rep
 rcases q with ⟨ss,z,hl,q⟩ | ⟨ns,z,hl,q⟩
 ·obtain ⟨a,xs,rfl,h1,h2⟩:=aX ok r1 z
  have:=iQ h2
  subst this
  exact .inl ⟨a,ss,rfl,b9.of h1,hl,fun p ss' hp h3 h4=>bk (.new (.lst _)) S _ w _ .refl (ok.alloc hp) (ok.fresh hp ⟨_,rfl,dU ss'⟩) (q ss' h3 h4)⟩
 ·obtain ⟨a,xs,rfl,h1,h2⟩:=aX ok r1 z
  have:=mJ h2
  subst this
  exact .inr ⟨a,ns,rfl,b9.of h1,hl,fun p ns' hp h3 h4=>bk (.new (.lst _)) S _ w _ .refl (ok.alloc hp) (ok.fresh hp ⟨_,rfl,ig ns'⟩) (q ns' h3 h4)⟩⟩
end
end M
namespace L2
open PySem PySem.Spec PyProof.Rows
theorem rP:∀ {xs:List V}{us:List Value},Vals xs us→Vals xs.reverse us.reverse
 | _,_,.nil=>.nil
 | _,_,.cons r t=>by simpa using (rP t).append (.cons r .nil)
end L2
namespace M
open PySem PySem.Spec PyProof.Rows L2
section
variable {K:PySem.W.Frag}
theorem sD {w:Wd}:∀ {ds:List D}{xs:List V},ak K w ds xs→ak K w ds.reverse xs.reverse
 | [],_,h=>by simp only [ak] at h;subst h;simp [ak]
 | d::ds,xs,h=>by
  simp only [ak] at h
  obtain ⟨x,r,rfl,h1,h2⟩:=h
  rw [List.reverse_cons,List.reverse_cons]
  exact (sD h2).snoc h1
end
section
variable {X:Cx}{e o value:Expr}{es:List Expr}{p p2 pos pos2 apos tpos:Pos}
noncomputable def putD (f:Str) (d:D):List Str→List D→List Str×List D
 | k::ks,e::ds=>if k=f then (k::ks,d::ds) else (k::(putD f d ks ds).1,e::(putD f d ks ds).2)
 | _,_=>([f],[d])
theorem xZ {K:PySem.W.Frag}{w:Wd}{f:Str}{d:D}{v:V} (g:Rep K w d v):∀ (fs:List (Str×V)) (ds:List D),ak K w ds (fs.map (·.2))→(fQ f v fs).map (·.1)=(putD f d (fs.map (·.1)) ds).1∧ak K w (putD f d (fs.map (·.1)) ds).2 ((fQ f v fs).map (·.2))
 | [],ds,h=>by
  cases ds with
  | nil=>exact ⟨rfl,.cons g .nil⟩
  | cons _ _=>exact ⟨rfl,.cons g .nil⟩
 | (k,x)::fs,ds,h=>by
  cases ds with
  | nil=>simp [ak] at h
  | cons e ds =>
   simp only [zcj,ak] at h
   obtain ⟨y,r,h1,h2,h3⟩:=h
   have e1:=(zcN.inj h1).1
   have e2:=(zcN.inj h1).2
   subst e1;subst e2
   obtain ⟨i1,i2⟩:=xZ g fs ds h3
   simp only [fQ,zcj,putD]
   by_cases hk:k=f
   ·rw [if_pos hk,if_pos hk];exact ⟨rfl,.cons g h3⟩
   ·rw [if_neg hk,if_neg hk]
    exact ⟨by rw [zcj,i1],.cons h2 i2⟩
theorem tD {K:PySem.W.Frag}{w:Wd}{f:Str}{d:D}:∀ (fs:List (Str×V)) (ds:List D),ak K w ds (fs.map (·.2))→((fs.map (·.1)).zip ds).lookup f=some d→∃ v,fs.lookup f=some v∧Rep K w d v
 | [],ds,h,q=>by simp at q
 | (k,x)::fs,ds,h,q=>by
  cases ds with
  | nil=>simp at q
  | cons e ds =>
   simp only [zcj,ak] at h
   obtain ⟨y,r,h1,h2,h3⟩:=h
   have e1:=(zcN.inj h1).1
   have e2:=(zcN.inj h1).2
   subst e1;subst e2
   rw [zcj,zaV,zbA] at q
   rw [zbA]
   split at q
   ·rename_i hb
    have:e=d:=by simpa using q
    subst this
    exact ⟨x,by rw [hb],h2⟩
   ·rename_i hb
    obtain ⟨v,e,r⟩:=tD fs ds h3 q
    exact ⟨v,by rw [hb];exact e,r⟩
theorem ko {f:Str}:∀ (fs:List (Str×V)),f ∉ fs.map (·.1)→fs.lookup f=none
 | [],_=>rfl
 | (k,x)::fs,h=>by
  rw [zbA]
  have:(f==k)=false:=by
   rw [beq_eq_false_iff_ne];intro z;exact h (by simp [z])
  rw [this]
  exact ko fs fun z=>h (by simp only [zcj,zci];exact .inr z)
theorem qX {K:PySem.W.Frag}{w:Wd}{H:Hp}{S:av}{n:Nat}{v:V}{C:Addr}{ks:List Str}{ds:List D} (ok:Ok K w H S) (h:Rep K w (.loc n) v) (e:S[n]? = some (some (.ins C ks ds))) :
  ∃ a dx fs,v = .ref a∧w.r n=some a∧H a=some (.ins C dx fs)∧fs.map (·.1)=ks∧ak K w ds (fs.map (·.2)):=by
 simp only [Rep] at h
 obtain ⟨a,h1,rfl⟩:=h
 obtain ⟨a',u,g1,g2,g3,dx,fs,rfl,g5,g6⟩:=ok.live n _ e
 rw [h1] at g1;cases g1
 exact ⟨a,dx,fs,rfl,h1,g3,g5,g6⟩
noncomputable def DO (C:Addr) (a:AE) (f:Str):AE:=fun δ S Q=>a δ S fun r S1=>∃ n ks ds d,r = .dat (.loc n)∧S1[n]? = some (some (.ins C ks ds))∧(ks.zip ds).lookup f=some d∧Q (.dat d) S1
theorem cJ {C:Addr}{f:Str}{ta:AE} (he:GE X e ta) (c:wL X.K C) (nf:eE X.K C f) (hb:attributeBase e f X.env (eval e X.env)=eval e X.env:=by rfl):GE X (.Attribute e f pos) (DO C ta f) :=
 ⟨mE (L2.cJ he.p hb) fun σ H Q h=>by
  obtain ⟨w,δ,S,Qa,ok,env,q,bk⟩:=h
  refine ⟨w,δ,S,_,ok,env,q,fun r S1 v w1 H1 le1 ok1 rep1 ⟨n,ks,ds,d,er,hS,hl,q1⟩ => ?_⟩
  subst er
  obtain ⟨a,dx,fs,rfl,_,ha,hk,hd⟩:=qX ok1 rep1 hS
  subst hk
  obtain ⟨v,l,rv⟩:=tD fs ds hd hl
  exact ⟨a,C,dx,fs,v,rfl,ha,c,nf,l,bk.dat le1 ok1 rv q1⟩⟩
noncomputable def Hi (C:Addr) (a v:AE) (f:Str):AS:=fun D δ S=>v δ S fun y S1=>a δ S1 fun r S2=>∃ n ks ds,r = .dat (.loc n)∧S2[n]? = some (some (.ins C ks ds))∧ks.length<1000∧D.nx δ (S2.set n (some (.ins C (putD f y.d ks ds).1 (putD f y.d ks ds).2)))
theorem mZ {C:Addr}{f:Str}{ta tv:AE} (ha:GE X o ta) (hv:GE X value tv) (c:wL X.K C) (nf:eE X.K C f) (hs:swapsWith value (some (.Attribute o f pos2)) pos.line X.env=pure false:=by rfl) :
  GS X (.Assign [.Attribute o f pos2] value pos) (Hi C ta tv f) :=
 ⟨mS (L2.mZ ha.p hv.p hs) fun Dx σ H h=>by
  obtain ⟨w,δ,S,Da,ok,env,q,bk⟩:=h
  refine ⟨w,δ,S,_,ok,env,q,.go fun y S1 v1 w1 H1 le1 ok1 rep1 q1 => ?_⟩
  refine ⟨w1,δ,S1,_,ok1,env.le le1,q1,fun r S2 v2 w2 H2 le2 ok2 rep2 ⟨n,ks,ds,er,hS,hl,q2⟩ => ?_⟩
  subst er
  obtain ⟨a,dx,fs,rfl,hr,ha,hk,hd⟩:=qX ok2 rep2 hS
  subst hk
  obtain ⟨i1,i2⟩:=xZ (f:=f) (rep1.le le2) fs ds hd
  refine ⟨a,C,dx,fs,rfl,ha,c,nf,by simpa using hl,?_⟩
  exact bk.nx _ _ _ w2 _ (le1.trans le2) (ok2.put hS hr (o':=.ins C (putD f y.d (fs.map (·.1)) ds).1 (putD f y.d (fs.map (·.1)) ds).2) ⟨dx,_,rfl,i1,i2⟩) (env.le (le1.trans le2)) q2⟩
end
structure ef (K:PySem.W.Frag) (C:Addr) (m qual:Str) (ps:List Str) (st:Stmt):Prop where
 ex:∃ f fd,Ey K m qual st f fd∧Meth K C m f∧Binds K fd ps []
structure c6 (P:Program) (w:World) (K:PySem.W.Frag) (mg:Str→Option Value) (base:Heap) (k:Nat) (C:Addr) (m:Str) (ps:List Str) (sp:AN):Prop where
 ex:∃ f fd,dO P w K mg base kQ k f fd ps (aL K sp)∧Meth K C m f∧Binds K fd ps []
section
variable {X:Cx}{e o:Expr}{es:List Expr}{p pos apos:Pos}{C:Addr}{k:Nat}{m:Str}{ps:List Str}{sp:AN}
noncomputable def yQ (C:Addr) (m:Str) (sp:AN) (a:AE) (t:AA):AE:=fun δ S Q=>a δ S fun r S1=>∃ n ks ds,r = .dat (.loc n)∧S1[n]? = some (some (.ins C ks ds))∧m ∉ ks∧t δ S1 fun es S2=>sp (.loc n::es) S2 Q
theorem IM {K:PySem.W.Frag}{E:XK}{a:AE}{t:AA}:∀ σ H Q,bu K (yQ C m sp a t) σ H Q→A4 C m (aL K sp) [] E (bu K a) (k6 K t) σ H Q:=by
 rintro σ H Q ⟨w,δ,S,Qa,ok,env,q,bk⟩
 refine ⟨w,δ,S,_,ok,env,q,fun r S1 v w1 H1 le1 ok1 rep1 ⟨n,ks,ds,er,hS,hm,q1⟩ => ?_⟩
 subst er
 obtain ⟨a,dx,fs,rfl,hr,ha,hk,hd⟩:=qX ok1 rep1 hS
 subst hk
 refine ⟨a,dx,fs,rfl,ha,ko fs hm,w1,δ,S1,_,ok1,env.le le1,q1,fun es S2 vs w2 H2 le2 ok2 rep2 q2 => ?_⟩
 refine ⟨w2,.loc n::es,S2,Qa,ok2,?_,q2,bk.le (le1.trans le2)⟩
 rw [zbQ]
 exact .cons (by simp only [Rep];exact ⟨a,le2.r _ _ hr,rfl⟩) rep2
theorem b5 {pl:Sem Bool}{ta:AE}{t:AA} (he:GE X o ta) (c:wL X.K C) (D:c6 X.prog X.w X.K X.mg X.base k C m ps sp) (hr:aS k X.A) (ha:GA X (e::es) t)
  (hst:starEach (e::es) X.env=(false,eval e X.env)::starEach es X.env:=by rfl) (hpl:(backTo pos (starEach es X.env)).any (·.1)=false:=by rfl)
  (ht:eval (.Call (.Attribute o m apos) (e::es) [] pos) X.env=(do
   let ov ← eval o X.env
   standAt apos.atName
   let (f,first) ← holding [ov] (getMethod ov m pl)
   callWith pos f first (backTo pos (starEach (e::es) X.env)) (backToKw pos (keywordEach [] X.env))):=by rfl) :
  GE X (.Call (.Attribute o m apos) (e::es) [] pos) (yQ C m sp ta t):=by
 obtain ⟨f,fd,F,hm,hb⟩:=D.ex
 exact ⟨mE (L2.b5 he.p c hm F hr hb .nil jy ha.p hst hpl ht) IM⟩
theorem fy {pl:Sem Bool}{ta:AE} (he:GE X o ta) (c:wL X.K C) (D:c6 X.prog X.w X.K X.mg X.base k C m ps sp) (hr:aS k X.A)
  (ht:eval (.Call (.Attribute o m apos) [] [] pos) X.env=(do
   let ov ← eval o X.env
   standAt apos.atName
   let (f,first) ← holding [ov] (getMethod ov m pl)
   callWith pos f first (backTo pos (starEach [] X.env)) (backToKw pos (keywordEach [] X.env))):=by rfl) :
  GE X (.Call (.Attribute o m apos) [] [] pos) (yQ C m sp ta kG):=by
 obtain ⟨f,fd,F,hm,hb⟩:=D.ex
 exact ⟨mE (L2.fy he.p c hm F hr hb .nil jy ht) fun σ H Q h=>by
  obtain ⟨w,δ,S,Qa,ok,env,q,bk⟩:=h
  refine ⟨w,δ,S,_,ok,env,q,fun r S1 v w1 H1 le1 ok1 rep1 ⟨n,ks,ds,er,hS,hm,q1⟩ => ?_⟩
  subst er
  obtain ⟨a,dx,fs,rfl,hr,ha,hk,hd⟩:=qX ok1 rep1 hS
  subst hk
  refine ⟨a,dx,fs,rfl,ha,ko fs hm,w1,[.loc n],S1,Qa,ok1,?_,q1,bk.le le1⟩
  rw [zbU]
  exact .cons rep1 .nil⟩
noncomputable def yR (C:Addr) (sp:AN) (t:AA):AE:=fun δ S Q=>t δ S fun es S1=>sp (.loc S1.length::es) (S1++[some (.ins C [] [])]) fun r S2=>r = .dat .bH∧Q (.dat (.loc S1.length)) S2
noncomputable def KC:AS:=fun _ _ _=>False
theorem dM {st:Stmt}:GS X st KC:=⟨mS L2.dM fun D σ H h=>by obtain ⟨_,_,_,_,_,_,z,_⟩:=h;exact z.elim⟩
end
end M
namespace L2
open PySem PySem.Spec PyProof.Rows
open Builtin Builtin.Str
section
variable {prog:Program}{w:World}{A:Around}{E:Value→Shared→Prop}{s:Shared}{x:Str}{t:Tok}{Q:Value→Shared→Prop}
theorem Bh {y:Str}{u:Tok} (hy:(y.length==0)=false)
  (h:∀ l k,l.map (·.1)=Txt.split x y→Q (.ref s.heap.objs.size) { s with heap:=s.heap.push { cls:=.type "list",data:=.seq (strValues l).toArray },toks:=k })
  (hsz:x.length+2≤sizeLine) :
  wpAny (model prog w) A (call (.builtin "str.split") [.str x t,.str y u]) Q E s:=by
 have hn:(partsBetween x (occurrences x y 0 x.length (x.length+1)) y.length).length≤sizeLine:=by
  have e1:=StrLaws.occ_length_le x y 0 x.length (x.length+1)
  rw [length_partsBetween];omega
 cases h1:(decide (x.length<y.length)||decide (strKind x<strKind y))
 ·cases hf:(occurrences x y 0 x.length (x.length+1)).isEmpty
  ·refine call_meets PySem.F.slot_str_split (typeIs_str _ _ _) PySem.F.entry_str_split (PySem.F.args_str_split_2 _ _) (meets_str_split_sep x y t u h1 hy hf (by omega) hn) ?_
   show wants Q E _ { s with toks:=_,heap:=s.heap.push { cls:=.type "list",data:=.seq (strsFrom s.toks (partsBetween x (occurrences x y 0 x.length (x.length+1)) y.length)).toArray } }
   rw [strsFrom_eq]
   exact h (numbered s.toks _) _ ((numbered_texts _ _).trans ((if_neg (ne_true_of_eq_false h1)).trans (if_neg (ne_true_of_eq_false hf))).symm)
  ·exact call_meets PySem.F.slot_str_split (typeIs_str _ _ _) PySem.F.entry_str_split (PySem.F.args_str_split_2 _ _) (meets_str_split_not_found x y t u h1 hy hf)
    (h [(x,t)] s.toks ((if_neg (ne_true_of_eq_false h1)).trans (if_pos hf)).symm)
 ·exact call_meets PySem.F.slot_str_split (typeIs_str _ _ _) PySem.F.entry_str_split (PySem.F.args_str_split_2 _ _) (meets_str_split_cannot_occur x y t u h1)
   (h [(x,t)] s.toks (if_pos h1).symm)
end
section
variable {X:Cx}
theorem iD:∀ l:List (Str×Tok),Vals ((l.map (·.1)).map V.str) (strValues l)
 | []=>.nil
 | p::r=>.cons ⟨p.2,rfl⟩ (iD r)
theorem Cr:wD X "str.split" (fun x vs H Q=>∃ y z,x = .str y∧vs=[.str z]∧(z.length==0)=false∧y.length+2≤sizeLine∧∀ p,H p=none→Q (.ref p) (upd H p (.lst ((Txt.split y z).map V.str)))):=by
 intro pins s σ H x vs v us Q I rx rv h
 obtain ⟨y,z,rfl,rfl,hz,hy,q⟩:=h
 obtain ⟨t,rfl⟩:=rx
 obtain ⟨u,rfl,ru⟩:=vals1 rv
 obtain ⟨tu,rfl⟩:=ru
 refine Bh hz (fun l k e => ?_) hy
 refine ⟨.ref s.heap.objs.size,_,I.laid (t':=k) (o:=.lst ((Txt.split y z).map V.str)) (fun b o e=>zas _ e) (zcH _) ⟨?_,strValues l,_,by rw [← e];exact iD l,zaR _ rfl⟩,rfl,q _ (I.hok.fresh (zcH _))⟩
 rw [zbP]
 have:=split_le y z
 omega
end
theorem Dk {c:Nat}:∀ {a b r r':List Nat},c ∉ a→c ∉ b→a++c::r=b++c::r'→a=b∧r=r'
 | [],[],_,_,_,_,h=>by simpa using h
 | [],y::b,_,_,_,hb,h=>by
  simp at h;exact absurd h.1 (fun z=>hb (by simp [z]))
 | x::a,[],_,_,ha,_,h=>by
  simp at h;exact absurd h.1 (fun z=>ha (by simp [z]))
 | x::a,y::b,_,_,ha,hb,h=>by
  simp at h
  obtain ⟨h1,h2⟩:=Dk (fun z=>ha (by simp [z])) (fun z=>hb (by simp [z])) h.2
  exact ⟨by rw [h.1,h1],h2⟩
theorem eO (x y:Str):(x++y).cps.toList=x.cps.toList++y.cps.toList:=by
 show (x.cps++y.cps).toList=_
 simp
theorem tN {c:Nat}:∀ {xs ys:List Str},xs≠[]→ys≠[]→(∀ x∈xs,c ∉ x.cps.toList)→(∀ x∈ys,c ∉ x.cps.toList)→(Str.join ⟨#[c]⟩ xs).cps.toList=(Str.join ⟨#[c]⟩ ys).cps.toList→xs=ys
 | [],_,h,_,_,_,_=>absurd rfl h
 | _,[],_,h,_,_,_=>absurd rfl h
 | [x],[y],_,_,_,_,h=>by
  have h:x.cps.toList=y.cps.toList:=h
  rw [Str.ext' (zbK.mp h)]
 | [x],y::z::r,_,_,hx,_,h=>by
  have h:x.cps.toList=(y++⟨#[c]⟩++Str.join ⟨#[c]⟩ (z::r)).cps.toList:=h
  rw [eO,eO] at h
  exact absurd (by rw [h];simp) (hx x (by simp))
 | x::z::r,[y],_,_,_,hy,h=>by
  have h:(x++⟨#[c]⟩++Str.join ⟨#[c]⟩ (z::r)).cps.toList=y.cps.toList:=h
  rw [eO,eO] at h
  exact absurd (by rw [← h];simp) (hy y (by simp))
 | x::z::r,y::z'::r',_,_,hx,hy,h=>by
  have h:(x++⟨#[c]⟩++Str.join ⟨#[c]⟩ (z::r)).cps.toList=(y++⟨#[c]⟩++Str.join ⟨#[c]⟩ (z'::r')).cps.toList:=h
  rw [eO,eO,eO,eO] at h
  have h:x.cps.toList++c::(Str.join ⟨#[c]⟩ (z::r)).cps.toList=y.cps.toList++c::(Str.join ⟨#[c]⟩ (z'::r')).cps.toList:=by simpa using h
  obtain ⟨h1,h2⟩:=Dk (hx x (by simp)) (hy y (by simp)) h
  rw [Str.ext' (zbK.mp h1),tN (by simp) (by simp) (fun w hw=>hx w (by simp only [zci] at hw ⊢;exact .inr hw)) (fun w hw=>hy w (by simp only [zci] at hw ⊢;exact .inr hw)) h2]
theorem mq {ws:List Str} (h0:ws≠[]) (h:∀ x∈ws,(32:Nat) ∉ x.cps.toList):Txt.split (Txt.join " " ws) " " = ws:=by
 have e:(" " : Str)=⟨#[32]⟩:=by decide +kernel
 have j:Txt.join " " ws=Str.join ⟨#[32]⟩ ws:=by rw [e];exact PySem.StrLaws.glued_eq_join _ _
 rw [j,e]
 refine tN (c:=32) (fun z => ?_) h0 (fun x hx=>PySem.StrLaws.split_free _ 32 x hx) h ?_
 ·have:=split_pos (Str.join ⟨#[32]⟩ ws) ⟨#[32]⟩
  rw [z] at this;simp at this
 ·rw [PySem.StrLaws.join_split]
end L2
namespace M
open PySem PySem.Spec PyProof.Rows L2
section
variable {X:Cx}
noncomputable def Kw:AM:=fun x ds S Q=>∃ y z:Str,x = .str y∧ds=[.str z]∧(z.length==0)=false∧y.length+2≤sizeLine∧Q (.new (.lst ((Txt.split y z).map D.str))) S
theorem m_split:K7 X "str.split" Kw:=⟨mM L2.Cr fun x xs H Q h=>by
 obtain ⟨w,d,ds,S,Qa,ok,r1,r2,⟨y,z,rfl,rfl,hz,hy,q⟩,bk⟩:=h
 obtain ⟨v,rfl,r3⟩:=c7 r2
 refine ⟨y,z,dW r1 rfl,by rw [dW r3 rfl],hz,hy,fun p hp => ?_⟩
 exact bk (.new (.lst _)) S _ w _ .refl (ok.alloc hp) (ok.fresh hp ⟨_,rfl,dU _⟩) q⟩
end
end M
namespace Srt
open PySem PySem.W PyProof.Rows
structure Ord (α:Type) where
 lt:α→α→Bool
 irr:∀ a,lt a a=false
 tr:∀ a b c,lt a b=true→lt b c=true→lt a c=true
 nt:∀ a b c,lt a c=true→lt a b=true∨lt b c=true
noncomputable def run {β:Type} (f:Nat→Nat→Bool):KasT β→β
 | .ret a=>a
 | .ask i j k=>run f (k (f i j))
section
variable {α:Type} (O:Ord α)
noncomputable def le (a b:α):Prop:=O.lt b a=false
variable {O}
end
section
variable {α:Type}{O:Ord α}{k:Nat→α}{p:Array Nat}
noncomputable def val (k:Nat→α) (p:Array Nat) (i:Nat):α:=k (p.getD i 0)
variable (O k)
noncomputable def Up (p:Array Nat) (m:Nat):Prop:=∀ i j,i≤j→j<m→le O (val k p i) (val k p j)
noncomputable abbrev ask (i j:Nat):Bool:=O.lt (k i) (k j)
variable {O k}
end
end Srt
namespace M5
open PySem PySem.Spec PyProof.Rows
theorem tK (t:SetTable) (es:Array (Int×Value)) (h:Int) (x:Value):(layNew t es h x).2.1.led=t.led∧((layNew t es h x).2.1.plain=true→t.plain=true):=by
 unfold layNew
 split
 ·unfold SetTable.orStandIn
  dsimp only
  split
  ·exact ⟨rfl,fun z=>z⟩
  ·exact ⟨rfl,fun z=>by cases z⟩
 ·exact ⟨rfl,fun z=>by cases z⟩
theorem kJ {t t':SetTable}{hs:Array Int}{n:Nat}{o:Array Nat} (h:t.relaid hs n=some (t',o)):t'.led=t.led∧t'.plain=t.plain:=by
 unfold SetTable.relaid SetTable.laid at h
 cases hl:SetTable.layClean (SetTable.sizeAbove n - 1) hs with
 | none=>rw [hl] at h;cases h
 | some ow =>
  rw [hl] at h
  have h:some _=some _:=h
  injection h with h
  injection h with h1 h2
  subst h1
  exact ⟨rfl,rfl⟩
theorem om (t:SetTable) (es:Array (Int×Value)) (n:Nat):(relayAll t es n).2.1.led=t.led∧((relayAll t es n).2.1.plain=true→t.plain=true):=by
 unfold relayAll
 split
 ·rename_i t' order he
  dsimp only
  split
  ·exact ⟨(kJ he).1,fun z=>by rw [← (kJ he).2];exact z⟩
  ·exact ⟨rfl,fun z=>by cases z⟩
 ·exact ⟨rfl,fun z=>by cases z⟩
noncomputable def O2 (prog:Program) (w:World) (o:Obj) (S:List Str):Prop :=
 ∃ es ep t,o.ExactSet∧o.data = .set es ep t∧ElemsOf (PySem.strKind prog w) es.toList∧(es.toList.map fun e=>strOf e.2).Perm S∧t.fits es.size=true∧t.led=(!w.params.followText "set-order")∧(es.size≠0→t.plain=false)
noncomputable def AJ (prog:Program) (w:World) (h:Heap) (a:Addr) (S:List Str):Prop:=∃ o,h.get? a=some o∧O2 prog w o S
noncomputable def k7 (S:List Str) (x:Str):List Str:=if x∈S then S else S++[x]
section
variable {prog:Program}{w:World}{A:Around}{E:Value→Shared→Prop}{s:Shared}
theorem OA (x:Str) (t:Tok):(PySem.strKind prog w).is x (.str x t)=true:=by
 show Value.isStrOf x (.str x t)=true
 simp [Value.isStrOf]
theorem Bc {x:Str}{v:Value} (h:(PySem.strKind prog w).is x v=true):strOf v=x:=by
 obtain ⟨t,rfl⟩:=Value.isStrOf_shape h
 rfl
theorem wN {h:Heap}{a:Addr}{o:Obj}{es:Array (Int×Value)}{ep:Nat}{t:SetTable} (es':Array (Int×Value)) (t':SetTable) (ho:h.get? a=some o) (hd:o.data = .set es ep t) :
  (h.update a (Obj.putSet es' t')).get? a=some { o with data:=.set es' (ep+1) t' }:=by
 have e:=zaB (Obj.putSet es' t') ho
 rw [putSet_of es' t' hd] at e
 exact e rfl
theorem add_str {a:Addr}{S:List Str}{x:Str}{tk:Tok}{Q:Bool→Shared→Prop} (hS:AJ prog w s.heap a S) (hn:S.length+1<4096)
  (h:∀ b h',Heap.SameBut a s.heap h'→AJ prog w h' a (k7 S x)→Q b { s with heap:=h' }) :
  wpAny (model prog w) A (setAddHashed a (.str x tk) ((PySem.strKind prog w).hash x)) Q E s:=by
 obtain ⟨o,ho,es,ep,t,hex,hd,hel,hp,hf,hled,hpl⟩:=hS
 have hlen:es.size=S.length:=by rw [← hp.length_eq,zbP,zaP]
 have hb:es.size<scanBound:=by show es.size<4096;omega
 unfold setAddHashed
 unfold setAddHashedIn
 refine wpAny_holding (wpAny_bind (wpAny_setState_of ho hd hf ?_))
 dsimp only
 rw [byScan_of (x:=.str x tk) rfl hb hel,if_pos rfl]
 unfold setAddByScan
 refine wpAny_bind (wpAny_bind (wpAny_rule (wpAny_bind (wpAny_setScan_of (k:=x) (OA x tk) ho hd hf hel ?_))))
 cases hr:List.findIdx? (fun e=>(PySem.strKind prog w).is x e.2) es.toList with
 | some j =>
  obtain ⟨hj,hpj,_⟩:=List.findIdx?_eq_some_iff_getElem.mp hr
  have hx:x∈S:=hp.mem_iff.mp (zcs.mpr ⟨_,zbD hj,Bc hpj⟩)
  dsimp only
  refine wpAny_pure (wpAny_pure ?_)
  have q:=h false s.heap (Heap.SameBut.refl a s.heap) (by
   unfold k7
   rw [if_pos hx]
   exact ⟨o,ho,es,ep,t,hex,hd,hel,hp,hf,hled,hpl⟩)
  exact q
 | none =>
  have hx:x ∉ S:=fun hx=>by
   obtain ⟨e,he,z⟩:=zcs.mp (hp.mem_iff.mpr hx)
   obtain ⟨⟨k,hk,_⟩,_⟩:=hel e he
   rw [Bc hk] at z
   subst z
   have:=List.findIdx?_eq_none_iff.mp hr e he
   rw [hk] at this;cases this
  dsimp only
  have hlp:=layNew_perm t es ((PySem.strKind prog w).hash x) (.str x tk)
  have hlf:=layNew_fits t es ((PySem.strKind prog w).hash x) (.str x tk)
  have hlk:=tK t es ((PySem.strKind prog w).hash x) (.str x tk)
  generalize layNew t es ((PySem.strKind prog w).hash x) (.str x tk)=L at hlp hlf hlk ⊢
  obtain ⟨es1,t1,wd,gv⟩:=L
  dsimp only at hlp hlf hlk ⊢
  rw [zbs] at hlp
  have hel1:ElemsOf (PySem.strKind prog w) es1.toList:=(hel.push (OA x tk) rfl).perm hlp
  have hp1:(es1.toList.map fun e=>strOf e.2).Perm (S++[x]):=by
   refine (hlp.map _).trans ?_
   rw [zbV]
   exact hp.append_right [x]
  have hsz1:es1.size=S.length+1:=by rw [← zaP,← zbP (f:=fun e:Int×Value=>strOf e.2),hp1.length_eq,zaU];rfl
  have gw:∀ (b:Bool) {s₁:Shared}{Q':Unit→Shared→Prop},Q' () s₁→wpAny (model prog w) A (match b with | true=>rule "set.scan.the-table-gave-way" | false=>pure ()) Q' E s₁:=by
   intro b s₁ Q' q
   cases b
   ·exact wpAny_pure q
   ·exact wpAny_rule q
  refine wpAny_bind (gw _ ?_)
  have fin:∀ (t2:SetTable),t2.fits es1.size=true→t2.led=t.led→t2.plain=false→wpAny (model prog w) A (do
    storeSet a es1 t2
    if (!wd&&t2.tooFull)=true then do
      (match (relayAll t2 es1 (SetTable.grown es1.size)).2.2 with | true=>rule "set.scan.the-table-gave-way" | false=>pure ())
      storeSet a (relayAll t2 es1 (SetTable.grown es1.size)).1 (relayAll t2 es1 (SetTable.grown es1.size)).2.1
      pure (some true)
     else pure (some true)) (fun r s'=>r=some true∧Q true s') E s:=by
   intro t2 f2 l2 p2
   refine wpAny_bind (wpAny_storeSet_of ho hd ?_ (by rw [hsz1,sizeLine_eq];omega))
   have ho1:=wN es1 t2 ho hd
   have sb1:=Heap.SameBut.update s.heap a (Obj.putSet es1 t2)
   split
   ·have rp:=relayAll_perm t2 es1 (SetTable.grown es1.size)
    have rf:=relayAll_fits t2 es1 (SetTable.grown es1.size)
    have rk:=om t2 es1 (SetTable.grown es1.size)
    generalize relayAll t2 es1 (SetTable.grown es1.size)=Rl at rp rf rk ⊢
    obtain ⟨es2,t3,g2⟩:=Rl
    dsimp only at rp rf rk ⊢
    have hsz2:es2.size=es1.size:=by rw [← zaP,rp.length_eq,zaP]
    refine wpAny_bind (gw _ ?_)
    refine wpAny_bind (wpAny_storeSet_of ho1 rfl ?_ (by rw [hsz2,hsz1,sizeLine_eq];omega))
    refine wpAny_pure ⟨rfl,h true _ (sb1.trans (Heap.SameBut.update _ a _)) ⟨_,wN es2 t3 ho1 rfl,es2,_,t3,hex,rfl,hel1.perm rp,?_,rf,rk.1.trans (l2.trans hled),fun _ => ?_⟩⟩
    ·unfold k7;rw [if_neg hx];exact (rp.map _).trans hp1
    ·cases hh:t3.plain with
     | false=>rfl
     | true=>rw [rk.2 hh] at p2;cases p2
   ·refine wpAny_pure ⟨rfl,h true _ sb1 ⟨_,ho1,es1,_,t2,hex,rfl,hel1,?_,f2,l2.trans hled,fun _=>p2⟩⟩
    unfold k7;rw [if_neg hx];exact hp1
  cases hpt:t1.plain with
  | true =>
   rw [if_pos rfl]
   refine wpAny_bind ?_
   rw [hashByValue_scannable 8 (x:=.str x tk) rfl]
   refine wpAny_pure ?_
   refine wpAny_mono (fin _ ?_ ?_ ?_) ?_ (fun _ _ z=>z)
   ·rw [if_neg (by simp [plainKind])];exact SetTable.fits_plain_off hlf
   ·rw [if_neg (by simp [plainKind])];exact hlk.1
   ·rw [if_neg (by simp [plainKind])]
   ·rintro r s' ⟨rfl,q⟩
    exact wpAny_pure q
  | false =>
   rw [if_neg (by decide)]
   refine wpAny_bind (wpAny_pure ?_)
   refine wpAny_mono (fin _ ?_ ?_ ?_) ?_ (fun _ _ z=>z)
   ·rw [if_pos rfl];exact hlf
   ·rw [if_pos rfl];exact hlk.1
   ·rw [if_pos rfl];exact hpt
   ·rintro r s' ⟨rfl,q⟩
    exact wpAny_pure q
end
noncomputable def all1 (val:Nat→Str):Nat→List Str
 | 0=>[]
 | i+1=>k7 (all1 val i) (val i)
theorem DG (S:List Str) (x:Str):(k7 S x).length≤S.length+1:=by
 unfold k7
 split
 ·omega
 ·rw [zaU];exact zcH _
theorem nV (val:Nat→Str):∀ i,(all1 val i).length≤i
 | 0=>zcH _
 | i+1=>zcv (DG ..) (Nat.succ_le_succ (nV val i))
theorem AJ.keep {prog:Program}{w:World}{h h':Heap}{a:Addr}{S:List Str} (x:AJ prog w h a S) (e:∀ o,h.get? a=some o→h'.get? a=some o):AJ prog w h' a S :=
 let ⟨o,ho,r⟩:=x;⟨o,e o ho,r⟩
section
variable {prog:Program}{w:World}{A:Around}{R:Result→Shared→Prop}{I:Addr}{fp wr:List Addr}{G:Array GenState→Array GenState→Prop}{n:Nat}{P:Nat→Value→Prop}{St:Nat→Shared→Prop}
theorem CG (W:WalksS prog w A.in1 I fp wr G n P St) (a:Addr) (ha:a ∉ fp) (val:Nat→Str) (hval:∀ i v,P i v→∃ t,v = .str (val i) t) (hn:n<4000) :
  ∀ (k i:Nat) (s:Shared),n - i=k→i≤n→St i s→AJ prog w s.heap a (all1 val i) →
   (∀ s',Moved (a::wr) G s s'→AJ prog w s'.heap a (all1 val n)→R (.ok (.ret .none)) s') →
   codeAny (model prog w) A (.builtin "set.update.loop" ⟨[.ref a,.ref I],[]⟩) R s:=by
 have haw:a ∉ wr:=fun z=>ha (W.sub _ z)
 have sub:∀ b∈wr,b∈a::wr:=fun b z=>zaC _ z
 intro k
 induction k with
 | zero =>
  intro i s hk hi hst hS hR
  obtain rfl:i=n:=by omega
  refine codeAny_builtin PyProof.Rows.F.entry_set_update_loop ?_
  rw [Around.under_plainId PyProof.Rows.F.plain_set_update_loop _]
  show wpAny _ A.in1 (pyNext (.ref I) >>= _) _ _ s
  refine wpAny_bind (W.done s _ _ hst fun s' hm => ?_)
  exact wpAny_pure (hR s' (hm.mono sub) (hS.keep fun o e=>hm.heap a o haw e))
 | succ k ih =>
  intro i s hk hi hst hS hR
  have hlt:i<n:=by omega
  refine codeAny_builtin PyProof.Rows.F.entry_set_update_loop ?_
  rw [Around.under_plainId PyProof.Rows.F.plain_set_update_loop _]
  show wpAny _ A.in1 (pyNext (.ref I) >>= _) _ _ s
  refine wpAny_bind (W.item i s _ _ hlt hst fun v s' hP hst' hm => ?_)
  obtain ⟨t,rfl⟩:=hval i v hP
  have hS':AJ prog w s'.heap a (all1 val i):=hS.keep fun o e=>hm.heap a o haw e
  show wpAny _ A.in1 (holding [Value.str (val i) t] (setAdd a (.str (val i) t)) >>= _) _ _ s'
  refine wpAny_bind (wpAny_holding ?_)
  unfold setAdd
  refine wpAny_holding (wpAny_bind ((PySem.strKind prog w).pyHash (k:=val i) (OA _ _) ?_))
  have:=nV val i
  refine add_str (s:={ s' with toks:=s'.toks+1 }) hS' (by omega) fun b h' hsb hS2 => ?_
  refine wpAny_pure ⟨plainId_quiet PyProof.Rows.F.plain_set_update_loop _,ih (i+1) _ (by omega) hlt (W.frame _ s' _ _ hst' (zcJ _) fun b hb o e => ?_) hS2 fun s'' hm'' hS'' => ?_⟩
  ·rw [hsb.2 b fun z:b=a=>ha (z ▸ hb)];exact e
  ·refine hR s'' (Moved.trans W.gtrans ((hm.mono sub).then_heap (zcJ _) fun b o hb e => ?_) hm'') hS''
   rw [hsb.2 b fun z:b=a=>hb (z ▸ zaS)];exact e
end
noncomputable def b8 (led:Bool):Obj:={ cls:=.type "set",dict:=none,data:=.set #[] 0 (.fresh 0 0 led) }
section
variable {prog:Program}{w:World}{A:Around}{E:Value→Shared→Prop}{s:Shared}
theorem dm (a:Value) {Q₁:Value→Shared→Prop} (h:Q₁ (.ref s.heap.objs.size) { s with heap:=s.heap.push (b8 (!w.params.followText "set-order")) }) :
  codeAny (model prog w) A (.call (.builtin "set.__new__") ⟨[.type "set",a],[]⟩) (wants Q₁ E) s:=by
 refine codeAny_of_tree ?_
 show wpAny _ A.in1 (do checkBuiltinCall "set.__new__" ⟨[.type "set",a],[]⟩;again (.builtin "set.__new__" ⟨[.type "set",a],[]⟩)) _ _ s
 refine wpAny_bind (wpAny_of_eq (PySem.F.newCall_set_1 a) (wpAny_pure ⟨plainId_quiet PySem.F.plain_set_new _,codeAny_builtin PySem.F.entry_set_new ?_⟩))
 rw [Around.under_plainId PySem.F.plain_set_new _]
 unfold Builtin.«set.__new__» Builtin.Frozenset.newClass
 have hsub:=sub_set_self
 obtain ⟨hp,g,d,tk,os⟩:=s
 dsimp only
 wp_walk
 refine wpAny_askSetting (wpAny_pure ?_)
 dsimp only
 simp only [newObj]
 refine wpAny_bind (wpAny_alloc (wpAny_pure ?_))
 exact wpAny_pure h
theorem Am {h:Heap}{a:Addr} (e:h.get? a=some (b8 (!w.params.followText "set-order"))):AJ prog w h a [] :=
 ⟨_,e,#[],0,_,⟨rfl,rfl,rfl⟩,rfl,fun e he=>by simp at he,.nil,rfl,rfl,fun z=>absurd rfl z⟩
theorem Dr {l:Addr}{T:String}{ob:Obj}{n:Nat}{P:Nat→Value→Prop}{St:Addr→Nat→Heap→Prop}{val:Nat→Str}{Q:Value→Shared→Prop}
  (hh:A.handled=none) (hT:s.TypeIs (.ref l) T) (h1:isSubtype (.type T) (.type "set")=pure false) (h2:isSubtype (.type T) (.type "frozenset")=pure false) (h3:(Value.type T==Value.type "dict")=false)
  (it:∀ {A':Around}{s':Shared}{Q':Value→Shared→Prop}{E':Value→Shared→Prop},(∀ b o,s.heap.get? b=some o→s'.heap.get? b=some o)→Q' (.ref s'.heap.objs.size) { s' with heap:=s'.heap.push ob }→wpAny (model prog w) A' (pyIter (.ref l)) Q' E' s')
  (hob:ob.isFreed=false) (W:∀ {A':Around} (I:Addr),A'.handled=none→l≠I→Walks prog w A' I [I,l] [I] n P (St I)) (st0:∀ I h',(∀ b o,s.heap.get? b=some o→h'.get? b=some o)→h'.get? I=some ob→St I 0 h')
  (hval:∀ i v,P i v→∃ t,v = .str (val i) t) (hn:n<4000)
  (h:∀ (h':Heap) (tk:Nat),AJ prog w h' s.heap.objs.size (all1 val n)→(∀ b o,b<s.heap.objs.size→s.heap.get? b=some o→h'.get? b=some o)→Q (.ref s.heap.objs.size) { s with heap:=h',toks:=tk }) :
  wpAny (model prog w) A (call (.type "set") [.ref l]) Q E s:=by
 obtain ⟨c,tl,hmro⟩:=PySem.F.called_set.mro
 have hmade:=PySem.F.called_set.made
 have hsub:=PySem.F.called_set.sub
 have g1:=PySem.F.called_set.notType
 have g2:=PySem.F.called_set.canCreate
 have hct:=PySem.F.typeCall_set_1 (.ref l)
 refine wpAny_call (codeAny_of_tree ?_)
 show wpAny _ _ (callAny (.type "set") _) _ _ _
 refine wpAny_pure ⟨Code.quiet_builtin _ (by decide +kernel),codeAny_builtin PySem.F.entry_type_call ?_⟩
 rw [Around.under_plain (weight_type_call_type "set" [.ref l] []) rfl]
 repeat (any_goals (first | assumption | wp_step))
 generalize hled:(!w.params.followText "set-order")=led
 refine codeAny_mono (dm (.ref l) (E:=E) (Q₁:=fun u s₁=>u = .ref s.heap.objs.size∧s₁={ s with heap:=s.heap.push (b8 led) }) ⟨rfl,by rw [hled]⟩) fun r s₁ hr => ?_
 cases r with
 | error e=>exact hr
 | ok fl =>
  cases fl with
  | ret u =>
   obtain ⟨rfl,rfl⟩:=hr
   have gS:(s.heap.push (b8 led)).get? s.heap.objs.size=some (b8 led):=zaR _ rfl
   have tS:Shared.TypeIs { s with heap:=s.heap.push (b8 led) } (.ref s.heap.objs.size) "set" := ⟨_,gS,rfl⟩
   have hli:=PySem.F.called_set.init.lookup
   have hbi:=PySem.F.called_set.init.bind (.ref s.heap.objs.size)
   repeat (any_goals (first | assumption | wp_step))
   refine codeAny_mono (codeAny_call_builtin (R:=wants (fun r s₂=>r = .none∧∃ h' tk,s₂={ s with heap:=h',toks:=tk }∧AJ prog w h' s.heap.objs.size (all1 val n)∧(∀ b o,b<s.heap.objs.size→s.heap.get? b=some o→h'.get? b=some o)) E) PySem.F.called_set.init.plain PySem.F.entry_set_init (check_set_init_1 tS ?_)) fun r₂ s₂ hr₂ => ?_
   ·have hlS:l<s.heap.objs.size:=by obtain ⟨o,ho,_⟩:=hT;exact zcD ho
    have kp:∀ b o,s.heap.get? b=some o→(s.heap.push (b8 led)).get? b=some o:=fun b o e=>zas _ e
    have tl1:Shared.TypeIs { s with heap:=s.heap.push (b8 led) } (.ref l) T:=by obtain ⟨o,ho,z⟩:=hT;exact ⟨o,kp _ _ ho,z⟩
    unfold Builtin.«set.__init__» noKeywords Builtin.Frozenset.updateFrom
    generalize hPI:pyIter=PI
    wp_walk
    subst hPI
    refine it kp ?_
    have sz:(s.heap.push (b8 led)).objs.size=s.heap.objs.size+1:=zch ..
    have kp2:∀ b o,s.heap.get? b=some o→((s.heap.push (b8 led)).push ob).get? b=some o:=fun b o e=>zas _ (kp b o e)
    have hne:l≠(s.heap.push (b8 led)).objs.size:=by rw [sz];exact zcu (zbr hlS)
    have hSf:s.heap.objs.size ∉ [(s.heap.push (b8 led)).objs.size,l]:=by
     rw [sz]
     simp only [zci,zbE,or_false]
     rintro (z | z)
     ·exact absurd z (by omega)
     ·rw [z] at hlS;exact zcn _ hlS
    refine wpAny_bind (wpAny_runValue ?_)
    refine CG (W (A':=A.in1.in1.in1) _ hh hne).toS s.heap.objs.size hSf val hval hn (n - 0) 0 _ rfl (zcI _) ?_ ?_ ?_
    ·exact st0 _ _ kp2 (zaR _ hob)
    ·exact Am (by rw [hled];exact zas _ gS)
    ·intro s' hm hS'
     obtain ⟨h',g',d',tk',os'⟩:=s'
     obtain rfl:g'=s.gens:=hm.gens
     obtain rfl:d'=s.drawn:=hm.drawn
     obtain rfl:os'=s.os:=hm.os
     refine wpAny_pure (wpAny_pure ⟨rfl,h',tk',rfl,hS',fun b o hb e=>hm.heap b o ?_ (kp2 b o e)⟩)
     rw [sz]
     simp only [zci,zbE,or_false]
     rintro (z | z)
     ·exact zcu hb z
     ·exact zcu (zbr hb) z
   ·cases r₂ with
    | error e=>exact hr₂
    | ok fl₂ =>
     cases fl₂ with
     | ret r =>
      obtain ⟨rfl,h',tk,rfl,hS',hk'⟩:=hr₂
      repeat (any_goals (first | assumption | wp_step))
      exact h _ _ hS' hk'
     | _=>exact hr₂.elim
  | _=>exact hr.elim
theorem set_list {l:Addr}{its:Array Value}{ss:List Str}{Q:Value→Shared→Prop} (hh:A.handled=none) (hl:s.heap.IsList l its) (hS:StrsAre its.toList ss) (hn:ss.length<4000)
  (h:∀ (h':Heap) (tk:Nat),AJ prog w h' s.heap.objs.size (all1 (fun i=>ss.getD i ⟨#[]⟩) ss.length)→(∀ b o,b<s.heap.objs.size→s.heap.get? b=some o→h'.get? b=some o)→Q (.ref s.heap.objs.size) { s with heap:=h',toks:=tk }) :
  wpAny (model prog w) A (call (.type "set") [.ref l]) Q E s:=by
 have el:its.size=ss.length:=by rw [← zaP,hS.length]
 rw [← el] at h
 refine Dr (T := "list") (St:=fun I i h=>h.IsListIter I l i∧h.IsList l its) (ob:={ cls:=.type "list_iterator",data:=.fields #[.ref l,.int 0 0] }) (P:=fun i v=>its[i]? = some v) hh hl.typeIs PySem.F.sub_list_set PySem.F.sub_list_frozenset (by decide) (fun kp q=>wpAny_pyIter_list (hl.at (kp l)) q) rfl (fun I h1 h2=>Walks.list h1 I l h2 its)
  (fun I h' kp e=>⟨⟨_,e,rfl,rfl⟩,hl.at (kp l)⟩) ?_ (by omega) h
 intro i v hv
 rw [← zaA] at hv
 clear h
 revert i
 generalize its.toList=vs at hS
 clear el hn
 induction hS with
 | nil=>intro i hv;simp at hv
 | cons x t r ih =>
  intro i hv
  cases i with
  | zero=>simp at hv;exact ⟨t,by rw [← hv];rfl⟩
  | succ i =>
   rw [zan] at hv
   obtain ⟨t',e⟩:=ih i hv
   exact ⟨t',e⟩
end
theorem Cz {S:List Str}{x y:Str}:y∈k7 S x↔y∈S∨y=x:=by
 unfold k7
 split
 ·exact ⟨.inl,fun z=>z.elim id fun e=>e ▸ ‹_›⟩
 ·simp
theorem vB {S:List Str}{x:Str} (h:S.Nodup):(k7 S x).Nodup:=by
 unfold k7
 split
 ·exact h
 ·rw [zbm]
  refine ⟨h,by simp,fun a ha b hb => ?_⟩
  simp only [zaW] at hb
  subst hb
  intro e
  subst e
  exact absurd ha ‹_›
theorem m9 (val:Nat→Str):∀ n,(all1 val n).Nodup
 | 0=>List.nodup_nil
 | n+1=>vB (m9 val n)
theorem sX (val:Nat→Str) (y:Str):∀ n,y∈all1 val n↔∃ i,i<n∧val i=y
 | 0=>by simp [all1]
 | n+1=>by
  show y∈k7 _ _↔_
  rw [Cz,sX val y n]
  constructor
  ·rintro (⟨i,h,e⟩ | e)
   ·exact ⟨i,by omega,e⟩
   ·exact ⟨n,by omega,e.symm⟩
  ·rintro ⟨i,h,e⟩
   rcases zcx i n with z | z
   ·exact .inl ⟨i,z,e⟩
   ·obtain rfl:i=n:=by omega
    exact .inr e.symm
theorem zP (ss:List Str) (y:Str):y∈all1 (fun i=>ss.getD i ⟨#[]⟩) ss.length↔y∈ss:=by
 rw [sX]
 constructor
 ·rintro ⟨i,h,e⟩
  have:ss.getD i ⟨#[]⟩=ss[i]:=by simp [h]
  rw [this] at e
  exact e ▸ zbD h
 ·intro h
  obtain ⟨i,h1,e⟩:=zaL h
  exact ⟨i,h1,by simp [h1,e]⟩
namespace F
theorem oi:Slot "list_reverseiterator" "__length_hint__" "list_reverseiterator.__length_hint__" :=
 .of (owner := "list_reverseiterator") (n := "__length_hint__") (by rw [typeLookup_type,builtinLookup_eq_fast];kernel_rfl) (by decide +kernel) (by decide +kernel) (by decide +kernel)
  (by first | exact .inl (by decide +kernel) | exact .inr (by decide +kernel)) (by rw [isSubtype_type];kernel_rfl)
theorem vC:typeLookup (.type "list_reverseiterator") "__len__" = pure none:=by rw [typeLookup_type,builtinLookup_eq_fast];kernel_rfl
theorem qf:isSubtype (.type "list_reverseiterator") (.type "list_reverseiterator")=pure true:=by rw [isSubtype_type];kernel_rfl
end F
section
variable {prog:Program}{w:World}{A:Around}{E:Value→Shared→Prop}{s:Shared}
theorem CW {I:Addr}{Q:Bool→Shared→Prop} (hT:s.TypeIs (.ref I) "list_reverseiterator") (h:Q false s):wpAny (model prog w) A (Builtin.List.listLengthHint (.ref I)) Q E s:=by
 unfold Builtin.List.listLengthHint
 refine wpAny_bind (wpAny_specialOf hT F.vC ?_)
 show wpAny _ _ (specialOf (Value.ref I) (Str.ofString "__length_hint__") >>= _) _ _ _
 refine wpAny_bind (wpAny_specialOf hT F.oi.lookup ?_)
 dsimp only
 rw [show splitId "list_reverseiterator.__length_hint__" = some ("list_reverseiterator","__length_hint__") by decide +kernel]
 dsimp only
 refine wpAny_bind (wpAny_isInstance (b:=true) hT F.qf ?_)
 rw [if_neg (by decide)]
 rw [if_pos (by decide +kernel)]
 rw [if_neg (by decide)]
 exact wpAny_pure h
end
end M5
namespace M
open PySem PySem.Spec PyProof.Rows L2
section
variable {K:PySem.W.Frag}
noncomputable def nQ (ks:List Key) (ds:List D) (k:Key):Option D:=((ks.zip ds).find? fun p=>decide (p.1=k)).map (·.2)
noncomputable def nP (ks:List Key) (ds:List D) (k:Key) (d:D):MO:=if (ks.any fun j=>decide (j=k))=true then .dct ks ((ks.zip ds).map fun p=>if p.1=k then d else p.2) else .dct (ks++[k]) (ds++[d])
theorem yv {w:Wd}{k:Key}{d:D}:∀ {kvs:List (Key×V)}{ds:List D},ak K w ds (kvs.map (·.2))→nQ (kvs.map (·.1)) ds k=some d→∃ v,fk kvs k=some v∧Rep K w d v
 | [],ds,h,e=>by simp [nQ] at e
 | (j,u)::r,ds,h,e=>by
  cases ds with
  | nil=>simp [nQ] at e
  | cons x ds =>
   simp only [zcj,ak] at h
   obtain ⟨x',r',e',h1,h2⟩:=h
   injection e' with e1 e2
   subst e1;subst e2
   unfold nQ at e
   unfold fk
   by_cases hj:j=k
   ·rw [zcj,zaV,List.find?_cons_of_pos (by simpa using hj)] at e
    rw [List.find?_cons_of_pos (by simpa using hj)]
    cases e
    exact ⟨u,rfl,h1⟩
   ·rw [zcj,zaV,List.find?_cons_of_neg (by simpa using hj)] at e
    rw [List.find?_cons_of_neg (by simpa using hj)]
    exact yv (kvs:=r) h2 e
theorem sH {w:Wd}{k:Key}{d:D}{v:V} (g:Rep K w d v):∀ {kvs:List (Key×V)}{ds:List D},ak K w ds (kvs.map (·.2)) →
  ak K w (((kvs.map (·.1)).zip ds).map fun p=>if p.1=k then d else p.2) ((kvs.map fun kv=>if kv.1=k then (kv.1,v) else kv).map (·.2))
 | [],ds,h=>by
  cases ds with
  | nil=>exact .nil
  | cons x ds=>simp only [zcp,ak] at h;obtain ⟨_,_,z,_⟩:=h;cases z
 | (j,u)::r,ds,h=>by
  cases ds with
  | nil=>simp only [zcj,ak] at h;cases h
  | cons x ds =>
   simp only [zcj,ak] at h
   obtain ⟨x',r',e',h1,h2⟩:=h
   injection e' with e1 e2
   subst e1;subst e2
   simp only [zcj,zaV]
   refine .cons ?_ (sH g h2)
   by_cases hj:j=k
   ·rw [if_pos hj,if_pos hj];exact g
   ·rw [if_neg hj,if_neg hj];exact h1
theorem sL {w:Wd}{k:Key}{d:D}{v:V}{kvs:List (Key×V)}{ds:List D} (g:Rep K w d v) (h:ak K w ds (kvs.map (·.2))):jM K w (nP (kvs.map (·.1)) ds k d) (.dK (putK kvs k v)):=by
 unfold nP putK
 have e:((kvs.map (·.1)).any fun j=>decide (j=k))=(kvs.any fun kv=>decide (kv.1=k)):=by
  rw [zcq];rfl
 rw [e]
 by_cases hc:(kvs.any fun kv=>decide (kv.1=k))=true
 ·rw [if_pos hc,if_pos hc]
  refine ⟨_,rfl,?_,sH g h⟩
  rw [zct]
  refine zaM fun kv _ => ?_
  show (if kv.1=k then (kv.1,v) else kv).1=kv.1
  split <;> rfl
 ·rw [if_neg hc,if_neg hc]
  refine ⟨_,rfl,by simp,?_⟩
  rw [zbV]
  exact h.snoc g
theorem JZ {w:Wd}{H:Hp}{S:av}{p:Nat}{v:V}{ks:List Key}{ds:List D} (ok:Ok K w H S) (h:Rep K w (.loc p) v) (e:S[p]? = some (some (.dct ks ds))) :
  ∃ a kvs,v = .ref a∧w.r p=some a∧H a=some (.dK kvs)∧kvs.map (·.1)=ks∧ak K w ds (kvs.map (·.2)):=by
 simp only [Rep] at h
 obtain ⟨a,h1,rfl⟩:=h
 obtain ⟨a',u,g1,g2,g3,kvs,rfl,g5,g6⟩:=ok.live p _ e
 rw [h1] at g1;cases g1
 exact ⟨a,kvs,rfl,h1,g3,g5,g6⟩
noncomputable def qb (K:PySem.W.Frag):List Str→List AE→List (TE×TE)
 | k::ks,a::as=>(tC (.str k),bu K a)::qb K ks as
 | _,_=>[]
theorem OC {w:Wd}{H:Hp}{S:av}{m:Nat}{ds:List D} (k:Ok K w H S) (e:S[m]? = some (some (.lst ds))):∃ w',w.le w'∧Ok K w' H (S.set m none)∧∀ v,Rep K w (.loc m) v→Rep K w' (.lst ds) v:=by
 obtain ⟨a,u,h1,h2,h3,xs,rfl,h4⟩:=k.live m _ e
 have le:w.le ⟨upd w.B a (.lst xs),w.r⟩:=⟨al h2,fun _ _ e=>e⟩
 have at_:∀ n o,(S.set m none)[n]? = some (some o)→n≠m∧S[n]? = some (some o):=fun n o z=>by
  by_cases hm:m=n
  ·subst hm
   rw [zbl] at z
   simp at z
  ·rw [zaE hm] at z
   exact ⟨fun y=>hm y.symm,z⟩
 refine ⟨⟨upd w.B a (.lst xs),w.r⟩,le,⟨fun b o z => ?_,fun n o z => ?_,fun n j o o' z1 z2 z => ?_,fun n hn=>k.top n (by rw [zbW] at hn;exact hn)⟩,fun v hv => ?_⟩
 ·by_cases hb:b=a
  ·subst hb
   have z:upd w.B b (.lst xs) b=some o:=z
   rw [aG] at z
   rw [h3];exact z
  ·have z:upd w.B a (.lst xs) b=some o:=z
   rw [aA hb] at z
   exact k.base b o z
 ·obtain ⟨hn,z⟩:=at_ n o z
  obtain ⟨a',u',g1,g2,g3,g4⟩:=k.live n o z
  have hne:a'≠a:=fun y=>hn (k.inj n m _ _ z e (by rw [g1,h1,y]))
  exact ⟨a',u',g1,by show upd w.B a _ a'=none;rw [aA hne];exact g2,g3,g4.le le⟩
 ·exact k.inj n j o o' (at_ n o z1).2 (at_ j o' z2).2 z
 ·simp only [Rep] at hv ⊢
  obtain ⟨a',g1,rfl⟩:=hv
  rw [h1] at g1;cases g1
  exact ⟨a,xs,rfl,aG,h4.le le⟩
noncomputable def sb (m:Nat) (e:D):D→D
 | .loc n=>if n=m then e else .loc n
 | d=>d
theorem BF {w w':Wd}{m:Nat}{ds:List D} (le:w.le w') (f:∀ v,Rep K w (.loc m) v→Rep K w' (.lst ds) v):∀ {es:List D}{xs:List V},ak K w es xs→ak K w' (es.map (sb m (.lst ds))) xs
 | [],xs,h=>by simp only [ak] at h;subst h;exact .nil
 | d::es,xs,h=>by
  simp only [ak] at h
  obtain ⟨x,r,rfl,h1,h2⟩:=h
  refine .cons ?_ (BF le f h2)
  cases d with
  | loc n =>
   show Rep K w' (if n=m then _ else _) x
   by_cases hn:n=m
   ·rw [if_pos hn];subst hn;exact f x h1
   ·rw [if_neg hn];exact h1.le le
  | _=>exact h1.le le
noncomputable def GJ (a:AE):AE:=fun δ S Q=>a δ S fun r S1=>∃ m ds es,r = .dat (.tup es)∧S1[m]? = some (some (.lst ds))∧Q (.dat (.tup (es.map (sb m (.lst ds))))) (S1.set m none)
theorem Lz {a:AE}:∀ σ H Q,bu K (GJ a) σ H Q→bu K a σ H Q:=by
 rintro σ H Q ⟨w,δ,S,Qa,ok,env,q,bk⟩
 refine ⟨w,δ,S,_,ok,env,q,fun r S1 v w1 H1 le1 ok1 rep1 ⟨m,ds,es,er,hS,q1⟩ => ?_⟩
 subst er
 have rep1:Rep K w1 (.tup es) v:=rep1
 simp only [Rep] at rep1
 obtain ⟨t,xs,rfl,hB,hr⟩:=rep1
 obtain ⟨w2,le2,ok2,f⟩:=OC ok1 hS
 refine bk.dat (le1.trans le2) ok2 ?_ q1
 simp only [Rep]
 exact ⟨t,xs,rfl,le2.b _ _ hB,BF le2 f hr⟩
end
section
variable {X:Cx}{e:Expr}{pos:Pos}
theorem OD {t:AE} (h:GE X e t):GE X e (GJ t):=⟨mE h.p Lz⟩
end
end M
namespace M6
open PySem PySem.Spec PyProof.Rows
mutual
noncomputable def cj:PyData→Bool
 | .int _=>true
 | .str x=>(PyData.str x).canLay0
 | .tuple xs=>c5 xs
 | _=>false
noncomputable def c5:List PyData→Bool
 | []=>true
 | x::xs=>cj x&&c5 xs
end
mutual
noncomputable def yr (w:World):PyData→Int
 | .int i=>hashInt i
 | .str x=>hashStr w x
 | .tuple xs=>reduceHash (Builtin.Tuple.tupleHashOf (gB w xs))
 | _=>0
noncomputable def gB (w:World):List PyData→List Int
 | []=>[]
 | x::xs=>yr w x::gB w xs
end
mutual
noncomputable def OM:PyData→Nat
 | .int _=>1
 | .str _=>1
 | .tuple xs=>nN xs+1
 | _=>0
noncomputable def nN:List PyData→Nat
 | []=>0
 | x::xs=>OM x+nN xs
end
theorem iG (w:World):∀ a b,gB w (a++b)=gB w a++gB w b
 | [],b=>rfl
 | x::a,b=>by simp only [zbF,gB,iG w a b]
theorem kN:∀ a b,nN (a++b)=nN a+nN b
 | [],b=>by simp [nN]
 | x::a,b=>by simp only [zbF,nN,kN a b];omega
theorem gx:∀ {xs:List PyData},c5 xs=true→∀ x∈xs,cj x=true
 | [],_,x,hx=>by simp at hx
 | y::xs,h,x,hx=>by
  simp only [c5,zbJ] at h
  rcases zci.mp hx with rfl | hx
  ·exact h.1
  ·exact gx h.2 x hx
theorem dh:∀ {xs:List PyData}{x:PyData},x∈xs→x.depth≤PyData.depthAll xs
 | y::xs,x,hx=>by
  simp only [PyData.depthAll]
  rcases zci.mp hx with rfl | hx
  ·omega
  ·have:=dh hx;omega
theorem cE (xs:List PyData):(PyData.tuple xs).depth=PyData.depthAll xs+1:=by
 simp only [PyData.depth]
section
variable {prog:Program}{w:World}
theorem gX {s:Shared}{a:Addr}{o:Obj} (ho:s.heap.get? a=some o) (hc:o.cls=Value.type "tuple"):s.TypeIs (.ref a) "tuple" := ⟨o,ho,hc⟩
theorem sJ:∀ (n:Nat) (d:PyData) {v:Value}{as:List Addr}{A:Around}{E:Value→Shared→Prop}{s:Shared}{Q:Int→Shared→Prop},d.depth≤n→cj d=true→Reads s.heap v d as→A.units+n<cLine →
  Q (yr w d) { s with toks:=s.toks+OM d }→wpAny (model prog w) A (pyHash v) Q E s:=by
 intro n
 induction n with
 | zero =>
  intro d v as A E s Q hd hk hr hu h
  cases hr with
  | int i t=>exact wpAny_pyHash_int h
  | str x t=>exact wpAny_pyHash_str h
  | tuple ho hc hd' hall=>rw [cE] at hd;omega
  | none=>simp [cj] at hk
  | bool b=>simp [cj] at hk
  | list _ _ _ _=>simp [cj] at hk
  | dict _ _ _ _ _=>simp [cj] at hk
 | succ n ih =>
  intro d v as A E s Q hd hk hr hu h
  cases hr with
  | int i t=>exact wpAny_pyHash_int h
  | str x t=>exact wpAny_pyHash_str h
  | none=>simp [cj] at hk
  | bool b=>simp [cj] at hk
  | list _ _ _ _=>simp [cj] at hk
  | dict _ _ _ _ _=>simp [cj] at hk
  | @tuple a o vs m xs as ho hc hdat hall =>
   have hT:=gX ho hc
   have hk:c5 xs=true:=hk
   rw [cE] at hd
   show wpAny (model prog w) A (pyHashByItsType (.ref a)) Q E s
   refine W.pyHash_slot (T := "tuple") hT F.slot_tuple_hash F.entry_tuple_hash (F.args_tuple_hash_1 (.ref a)) (by decide) (.inr (by omega)) ?_
   show wpAny (model prog w) A.in1 (do
    let __do_lift ← Builtin.Tuple.tupleItemsOf (.ref a)
    let __s ← forIn __do_lift (#[]:Array Int) fun x __s=>do
       let __do_lift ← pyHash x
       pure (ForInStep.yield (__s.push __do_lift))
    retInt (Builtin.Tuple.tupleHashOf __s.toList)) _ E s
   refine wpAny_bind (wpAny_tupleItemsOf ho hdat (wpAny_bind ?_))
   rw [← Array.forIn_toList]
   refine wpAny_forIn_list _ (fun rest b s'=>∃ don left as',xs=don++left∧ReadsAll s.heap rest left as'∧b.toList=gB w don∧s'={ s with toks:=s.toks+nN don }) _ ?_ ?_ vs.toList #[] ⟨[],xs,_,rfl,hall,rfl,rfl⟩
   ·rintro x rest b s' ⟨don,left,as',rfl,hl,hb,rfl⟩
    cases hl with
    | @cons _ _ d' ds as1 bs hx hrest =>
     have hm:d'∈don++d'::ds:=by simp
     refine wpAny_bind (ih d' (as:=as1) (s:={ s with toks:=s.toks+nN don }) (by have:=dh hm;omega) (gx hk d' hm) hx (by show A.units+1+n<cLine;omega) ?_)
     refine wpAny_pure ⟨don++[d'],ds,bs,by simp,hrest,?_,?_⟩
     ·rw [zbs,hb,iG];rfl
     ·rw [kN];simp only [nN,Nat.add_zero,Nat.add_assoc]
   ·rintro b s' ⟨don,left,as',rfl,hl,hb,rfl⟩
    cases hl
    rw [zbQ] at h
    rw [hb]
    refine wpAny_mono (wpAny_ret_mkInt (Q:=fun v s'=>∃ n t,v=Value.int n t∧Q (reduceHash n) s') ⟨_,_,rfl,?_⟩) (fun fin s' => ?_) (fun _ _ z=>z)
    ·have h:Q (reduceHash (Builtin.Tuple.tupleHashOf (gB w don))) { s with toks:=s.toks+(nN don+1) }:=h
     exact h
    ·rintro ⟨v,rfl,n,t,rfl,q⟩
     exact ⟨n,t,rfl,q⟩
theorem vh:∀ (n:Nat) (d:PyData) {v:Value}{as:List Addr}{A:Around}{E:Value→Shared→Prop}{s:Shared}{Q:Bool→Shared→Prop},d.depth≤n→cj d=true→Reads s.heap v d as→Q true s→wpAny (model prog w) A (eqIsQuiet n v) Q E s:=by
 intro n
 induction n with
 | zero =>
  intro d v as A E s Q hd hk hr h
  cases hr with
  | int i t=>rw [eqIsQuiet_byValue 0 rfl];exact wpAny_pure h
  | str x t=>rw [eqIsQuiet_byValue 0 rfl];exact wpAny_pure h
  | tuple ho hc hd' hall=>rw [cE] at hd;omega
  | none=>simp [cj] at hk
  | bool b=>simp [cj] at hk
  | list _ _ _ _=>simp [cj] at hk
  | dict _ _ _ _ _=>simp [cj] at hk
 | succ n ih =>
  intro d v as A E s Q hd hk hr h
  cases hr with
  | int i t=>rw [eqIsQuiet_byValue _ rfl];exact wpAny_pure h
  | str x t=>rw [eqIsQuiet_byValue _ rfl];exact wpAny_pure h
  | none=>simp [cj] at hk
  | bool b=>simp [cj] at hk
  | list _ _ _ _=>simp [cj] at hk
  | dict _ _ _ _ _=>simp [cj] at hk
  | @tuple a o vs m xs as ho hc hdat hall =>
   have hT:=gX ho hc
   have hk:c5 xs=true:=hk
   rw [cE] at hd
   rw [eqIsQuiet.eq_def]
   refine wpAny_bind (wpAny_specialOf hT F.slot_tuple_eq.lookup ?_)
   refine wpAny_bind (wpAny_isInstance hT isSubtype_tuple_tuple ?_)
   rw [if_neg (by decide)]
   refine wpAny_bind (wpAny_seqItems ho hdat (wpAny_bind ?_))
   show wpAny (model prog w) A (forIn vs _ _) _ E s
   rw [← Array.forIn_toList]
   refine wpAny_forIn_list _ (fun rest r s'=>r.1=none∧s'=s∧∃ left as',ReadsAll s.heap rest left as'∧∀ x∈left,x∈xs) _ ?_ ?_ vs.toList (none,()) ⟨rfl,rfl,xs,_,hall,fun _ hx=>hx⟩
   ·rintro y rest ⟨r1,r2⟩ s' ⟨hr,rfl,left,as',hl,hsub⟩
    cases hl with
    | @cons _ _ d' ds as1 bs hx hrest =>
     have hm:d'∈xs:=hsub d' (by simp)
     refine wpAny_bind (ih d' (as:=as1) (by have:=dh hm;omega) (gx hk d' hm) hx ?_)
     exact wpAny_pure ⟨rfl,rfl,ds,bs,hrest,fun x hx=>hsub x (zaC _ hx)⟩
   ·rintro ⟨r1,r2⟩ s' ⟨hr,rfl,_⟩
    have hr:r1=none:=hr
    subst hr
    exact wpAny_pure h
end
noncomputable instance:DecidableEq PyData:=fun _ _=>Classical.propDecidable _
mutual
theorem iu:∀ x y:PyData,cj x=true→cj y=true→PyData.eqv x y=decide (x=y)
 | .int i,.int j,_,_=>by
  simp only [PyData.eqv]
  by_cases h:i=j
  ·subst h;simp
  ·have : ¬ PyData.int i = .int j:=fun e=>h (by injection e)
   rw [decide_eq_false this];simpa using h
 | .str i,.str j,_,_=>by
  simp only [PyData.eqv]
  by_cases h:i=j
  ·subst h;simp
  ·have : ¬ PyData.str i = .str j:=fun e=>h (by injection e)
   rw [decide_eq_false this];simpa using h
 | .tuple xs,.tuple ys,hx,hy=>by
  simp only [PyData.eqv]
  rw [tU xs ys hx hy]
  by_cases h:xs=ys
  ·subst h;simp
  ·have : ¬ PyData.tuple xs = .tuple ys:=fun e=>h (by injection e)
   rw [decide_eq_false this,decide_eq_false h]
 | .int i,.str j,_,_=>by rw [decide_eq_false (fun e=>nomatch e)];rfl
 | .int i,.tuple j,_,_=>by rw [decide_eq_false (fun e=>nomatch e)];rfl
 | .str i,.int j,_,_=>by rw [decide_eq_false (fun e=>nomatch e)];rfl
 | .str i,.tuple j,_,_=>by rw [decide_eq_false (fun e=>nomatch e)];rfl
 | .tuple i,.int j,_,_=>by rw [decide_eq_false (fun e=>nomatch e)];rfl
 | .tuple i,.str j,_,_=>by rw [decide_eq_false (fun e=>nomatch e)];rfl
 | .none,_,h,_=>by simp [cj] at h
 | .bool _,_,h,_=>by simp [cj] at h
 | .list _,_,h,_=>by simp [cj] at h
 | .dict _,_,h,_=>by simp [cj] at h
 | _,.none,_,h=>by simp [cj] at h
 | _,.bool _,_,h=>by simp [cj] at h
 | _,.list _,_,h=>by simp [cj] at h
 | _,.dict _,_,h=>by simp [cj] at h
theorem tU:∀ x y:List PyData,c5 x=true→c5 y=true→PyData.eqvAll x y=decide (x=y)
 | [],[],_,_=>by simp [PyData.eqvAll]
 | [],y::ys,_,_=>by simp [PyData.eqvAll]
 | x::xs,[],_,_=>by simp [PyData.eqvAll]
 | x::xs,y::ys,hx,hy=>by
  simp only [c5,zbJ] at hx hy
  simp only [PyData.eqvAll]
  rw [iu x y hx.1 hy.1,tU xs ys hx.2 hy.2]
  by_cases h:x=y <;> by_cases g:xs=ys <;> simp [h,g]
end
mutual
theorem iX:∀ x:PyData,cj x=true→x.canLay0=true
 | .int i,_=>rfl
 | .str i,h=>h
 | .tuple xs,h=>by simp only [PyData.canLay0];exact yi xs h
 | .none,h=>by simp [cj] at h
 | .bool _,h=>by simp [cj] at h
 | .list _,h=>by simp [cj] at h
 | .dict _,h=>by simp [cj] at h
theorem yi:∀ x:List PyData,c5 x=true→PyData.canLayAll0 x=true
 | [],_=>rfl
 | x::xs,h=>by
  simp only [c5,zbJ] at h
  simp only [PyData.canLayAll0,iX x h.1,yi xs h.2,Bool.and_self]
end
noncomputable def isKey (h:Heap) (d:PyData) (a:Addr):Prop:=cj d=true∧d.depth≤6∧∃ as,Reads h (.ref a) d as
mutual
theorem pe {h h':Heap}{b:Addr}{ob:Obj}{es:Array DictEntry}{ep:Nat} (hb:h.get? b=some ob) (hd:ob.data=Data.dict es ep) (sm:Heap.SameBut b h h'):∀ (d:PyData) {v:Value}{as:List Addr},cj d=true→Reads h v d as→Reads h' v d as
 | .int i,v,as,hk,hr=>by cases hr;exact .int ..
 | .str i,v,as,hk,hr=>by cases hr;exact .str ..
 | .tuple xs,v,as,hk,hr=>by
  cases hr with
  | @tuple a o vs m _ _ ho hc hdat hall =>
   have hne:a≠b:=fun e=>by
    subst e
    rw [hb] at ho;cases ho
    rw [hd] at hdat;cases hdat
   exact .tuple (by rw [sm.2 a hne];exact ho) hc hdat (mU hb hd sm xs hk hall)
 | .none,_,_,h,_=>by simp [cj] at h
 | .bool _,_,_,h,_=>by simp [cj] at h
 | .list _,_,_,h,_=>by simp [cj] at h
 | .dict _,_,_,h,_=>by simp [cj] at h
theorem mU {h h':Heap}{b:Addr}{ob:Obj}{es:Array DictEntry}{ep:Nat} (hb:h.get? b=some ob) (hd:ob.data=Data.dict es ep) (sm:Heap.SameBut b h h'):∀ (ds:List PyData) {vs:List Value}{as:List Addr},c5 ds=true→ReadsAll h vs ds as→ReadsAll h' vs ds as
 | [],vs,as,hk,hr=>by cases hr;exact .nil
 | d::ds,vs,as,hk,hr=>by
  simp only [c5,zbJ] at hk
  cases hr with
  | cons hx hr=>exact .cons (pe hb hd sm d hk.1 hx) (mU hb hd sm ds hk.2 hr)
end
noncomputable def jG (prog:Program) (w:World):HeapKind prog w PyData where
 is:=isKey
 hash:=yr w
 draws:=OM
 room:=fun A=>A.units+10<cLine
 inj:=fun ⟨_,_,as,hx⟩ ⟨_,_,bs,hy⟩=>(Reads.unique hx _ _ hy).1
 keeps:=fun ⟨h1,h2,as,hr⟩ hb hd sm=>⟨h1,h2,as,pe hb hd sm _ h1 hr⟩
 pyHash:=fun hu ⟨h1,h2,as,hr⟩ h=>sJ 6 _ h2 h1 hr (by omega) h
 eqBool:=fun {A E s x y a b Q} hu ⟨h1,h2,as,hr⟩ ⟨g1,g2,bs,gr⟩ h=>SeqAt.eqBoolOverData prog w A E s _ _ _ _ _ _ Q hr gr (iX _ h1) (iX _ g1) (by omega) (by
  rw [iu _ _ h1 g1]
  exact h)
 quiet:=fun ⟨h1,h2,as,hr⟩ h=>vh 8 _ (by omega) h1 hr h
noncomputable def i7 (h:Heap) (d:Addr) (es:Array DictEntry) (ep:Nat):Prop:=∃ o,h.get? d=some o∧o.ExactDict∧o.data=Data.dict es ep
theorem i7.at {h h':Heap}{d:Addr}{es:Array DictEntry}{ep:Nat} (x:i7 h d es ep) (e:∀ o,h.get? d=some o→h'.get? d=some o):i7 h' d es ep:=let ⟨o,ho,r⟩:=x;⟨o,e o ho,r⟩
section
variable {prog:Program}{w:World}{A:Around}{E:Value→Shared→Prop}{s:Shared}
theorem i7.typeIs {d:Addr}{es:Array DictEntry}{ep:Nat} (x:i7 s.heap d es ep):s.TypeIs (.ref d) "dict" := let ⟨o,ho,hc,_⟩:=x;⟨o,ho,hc.1⟩
theorem nextK {it d:Addr}{i ep:Nat}{es:Array DictEntry}{e:DictEntry}{Q:Option Value→Shared→Prop} (hit:s.heap.IsKeyIter it d i es.size ep) (hD:i7 s.heap d es ep) (hx:es[i]? = some e)
  (hQ:∀ h',h'.IsKeyIter it d (i+1) es.size ep→Heap.SameBut it s.heap h'→Q (some e.key) { s with heap:=h' }):wpAny (model prog w) A (pyNext (.ref it)) Q E s:=by
 obtain ⟨o,ho,hc,hd⟩:=id hit
 obtain ⟨od,hod,hcd,hdd⟩:=id hD
 have hT:=Heap.IsKeyIter.typeIs hit
 unfold pyNext
 refine wpAny_bind (wpAny_attempt (wpAny_callSpecial?_slot (name:=Str.ofString "__next__") hT F.slot_dict_keyiterator_next
  (wpAny_call_entry F.slot_dict_keyiterator_next hT F.entry_dict_keyiterator_next ?_ (F.args_dict_keyiterator_next_1 _))))
 unfold Builtin.«dict_keyiterator.__next__»
 refine wpAny_bind (wpAny_pure ?_)
 refine wpAny_bind ?_
 refine wpAny_bind ?_
 refine wpAny_bind (wpAny_typeNameOfWhole_keyiter hT (wpAny_pure ?_))
 have hown:Builtin.Dict_items.ownsTuple "dict_keyiterator" = false:=by decide +kernel
 refine wpAny_bind (wpAny_fieldsOf ho hd ?_)
 simp only [hown,zbc,if_false,List.drop_zero]
 show wpAny (model prog w) A.in1 (if (Value.ref d==Value.none)=true then _ else _) _ _ s
 rw [if_neg (by exact zbb)]
 refine wpAny_bind (wpAny_pure ?_)
 refine wpAny_bind (wpAny_dictEntries hod hdd ?_)
 rw [if_neg (by simp)]
 refine wpAny_bind (wpAny_pure ?_)
 refine wpAny_bind (wpAny_dictEpoch hod hdd ?_)
 rw [if_neg (by simp)]
 refine wpAny_pure ?_
 dsimp only
 rw [if_neg (by omega),show ((i:Int)).toNat=i from Int.toNat_natCast i,hx]
 dsimp only
 refine wpAny_bind (?_)
 refine wpAny_bind (wpAny_typeNameOfWhole_keyiter hT (wpAny_pure ?_))
 simp only [hown,zbc,if_false]
 refine wpAny_bind (wpAny_isOneOf_keyiter hT ?_)
 refine wpAny_bind (wpAny_setField ho hd (by simp) ?_)
 have e1:∀ b:Bool,b=false→(if b=true then (i:Int) - 1 else (i:Int)+1)=((i+1:Nat):Int):=fun b hb=>by subst hb;simp
 rw [e1 _ (by decide +kernel)]
 refine wpAny_bind (wpAny_holding ?_)
 have ho2:=zaB (Obj.mapFields (·.setIfInBounds (0+1) (rawInt ((i+1:Nat):Int)))) ho (Obj.isFreed_of_fields (Obj.data_mapFields hd _))
 have hc2:=(Obj.cls_mapFields o (·.setIfInBounds (0+1) (rawInt ((i+1:Nat):Int)))).trans hc
 refine wpAny_bind (wpAny_isOneOf_keyiter ⟨_,ho2,hc2⟩ ?_)
 rw [if_pos (by decide +kernel)]
 refine wpAny_pure (wpAny_pure ⟨e.key,rfl,wpAny_pure (hQ _ ?_ (Heap.SameBut.update ..))⟩)
 exact ⟨_,ho2,hc2,by rw [Obj.data_mapFields hd];simp [rawInt]⟩
theorem OJ {it d:Addr}{ep:Nat}{es:Array DictEntry}{Q:Option Value→Shared→Prop} (hh:A.handled=none) (hit:s.heap.IsKeyIter it d es.size es.size ep) (hD:i7 s.heap d es ep)
  (hQ:∀ h',Heap.ExtBut it s.heap h'→Q none { s with heap:=h' }):wpAny (model prog w) A (pyNext (.ref it)) Q E s:=by
 obtain ⟨o,ho,hc,hd⟩:=id hit
 obtain ⟨od,hod,hcd,hdd⟩:=id hD
 have hT:=Heap.IsKeyIter.typeIs hit
 unfold pyNext
 refine wpAny_bind (wpAny_attempt (wpAny_callSpecial?_slot (name:=Str.ofString "__next__") hT F.slot_dict_keyiterator_next
  (wpAny_call_entry F.slot_dict_keyiterator_next hT F.entry_dict_keyiterator_next ?_ (F.args_dict_keyiterator_next_1 _))))
 unfold Builtin.«dict_keyiterator.__next__»
 refine wpAny_bind (wpAny_pure ?_)
 refine wpAny_bind ?_
 refine wpAny_bind ?_
 refine wpAny_bind (wpAny_typeNameOfWhole_keyiter hT (wpAny_pure ?_))
 have hown:Builtin.Dict_items.ownsTuple "dict_keyiterator" = false:=by decide +kernel
 refine wpAny_bind (wpAny_fieldsOf ho hd ?_)
 simp only [hown,zbc,if_false,List.drop_zero]
 show wpAny (model prog w) A.in1 (if (Value.ref d==Value.none)=true then _ else _) _ _ s
 rw [if_neg (by exact zbb)]
 refine wpAny_bind (wpAny_pure ?_)
 refine wpAny_bind (wpAny_dictEntries hod hdd ?_)
 rw [if_neg (by simp)]
 refine wpAny_bind (wpAny_pure ?_)
 refine wpAny_bind (wpAny_dictEpoch hod hdd ?_)
 rw [if_neg (by simp)]
 refine wpAny_pure ?_
 dsimp only
 rw [if_neg (by omega),show ((es.size:Int)).toNat=es.size from Int.toNat_natCast _,Array.getElem?_eq_none (zcH _)]
 dsimp only
 refine wpAny_bind ?_
 refine wpAny_bind (wpAny_typeNameOfWhole_keyiter hT (wpAny_pure ?_))
 simp only [hown,zbc,if_false]
 refine wpAny_bind (wpAny_setField ho hd (by simp) ?_)
 refine wpAny_bind ?_
 simp only [newExc,newTuple]
 refine wpAny_bind (wpAny_newObj_type ?_ (by size_fits))
 refine wpAny_bind (m:=firstArgMember _ _) (wpAny_of_eq (a:=Value.none) (by first | rfl | (simp only [firstArgMember];rfl)) ?_)
 refine wpAny_newObj_type ?_ (by size_fits)
 simp only [raiseNew]
 refine wpAny_bind (wpAny_handled ?_)
 first | rw [show A.in1.handled=none from hh] | rw [hh]
 refine wpAny_bind (wpAny_pure (wpAny_throw ?_))
 refine wpAny_bind (wpAny_isInstance (T := "StopIteration") (b:=true) ⟨_,zaR _ rfl,rfl⟩ isSubtype_stop ?_)
 refine wpAny_pure (hQ _ (Heap.ExtBut.push (Heap.ExtBut.push ?_ _) _))
 exact fun b ob hb e=>(zat _ _ (Ne.symm hb)).trans e
theorem Mj {d:Addr}{ep:Nat}{es:Array DictEntry}{Q:Value→Shared→Prop} (hd:(d==sysModules)=false) (hD:i7 s.heap d es ep)
  (hQ:Q (.ref s.heap.objs.size) { s with heap:=s.heap.push { cls:=.type "dict_keyiterator",data:=.fields #[.ref d,.int 0 0,.int es.size 0,.int ep 0] } }):wpAny (model prog w) A (pyIter (.ref d)) Q E s:=by
 obtain ⟨od,hod,hcd,hdd⟩:=id hD
 have hT:=hD.typeIs
 refine wpAny_pyIter_slot hT F.slot_dict_iter (wpAny_call_entry F.slot_dict_iter hT F.entry_dict_iter ?_ (F.args_dict_iter_1 _))
 unfold Builtin.«dict.__iter__»
 refine wpAny_bind (wpAny_bind (wpAny_notOrdered_dict hT (wpAny_pure ?_)))
 refine wpAny_bind (wpAny_pure ?_)
 unfold Builtin.Dict.showsAll
 rw [if_neg (by rw [hd];exact zbb)]
 refine wpAny_bind (wpAny_pure ?_)
 refine wpAny_bind (wpAny_dictEntries hod hdd ?_)
 refine wpAny_bind (wpAny_dictEpoch hod hdd ?_)
 refine wpAny_bind (wpAny_newObj_type ?_ (by size_fits))
 exact wpAny_pure ⟨_,rfl,"dict_keyiterator",_,⟨_,zaR _ rfl,rfl⟩,F.slot_dict_keyiterator_next.lookup,hQ⟩
theorem HY (hh:A.handled=none) (I d:Addr) (hne:d≠I) (es:Array DictEntry) (ep:Nat) :
  Walks prog w A I [I,d] [I] es.size (fun i v=>∃ e,es[i]? = some e∧v=e.key) (fun i h=>h.IsKeyIter I d i es.size ep∧i7 h d es ep) where
 sub:=fun b hb=>by simp only [zaW] at hb;simp [hb]
 frame:=fun i h h' st hk=>⟨Heap.IsKeyIter.at st.1 fun o e=>hk I (by simp) o e,st.2.at fun o e=>hk d (by simp) o e⟩
 item:=fun i s Q E hi st hQ=>by
  have hx:es[i]? = some es[i]:=zak hi
  refine nextK st.1 st.2 hx fun h' hit' hs'=>hQ es[i].key h' s.toks ⟨es[i],hx,rfl⟩ ⟨hit',st.2.at fun o e=>by rw [hs'.2 d hne];exact e⟩ fun b o hb e => ?_
  rw [hs'.2 b (fun z=>hb (by simp [z]))];exact e
 done:=fun s Q E st hQ=>OJ hh st.1 st.2 fun h' he=>hQ h' s.toks fun b o hb e=>he b o (fun z=>hb (by simp [z])) e
 self:=fun i s Q E st hQ=>wpAny_pyIter_keyiter st.1 hQ
theorem NU {d:Addr}{es:Array DictEntry}{ep:Nat} (lo:(d==sysModules)=false):W.KdlSrc prog w "dict" d d es.size (fun i v=>∃ e,es[i]? = some e∧v=e.key) (fun h=>i7 h d es ep) where
 type:=fun s hm=>hm.typeIs
 there:=fun h hm=>by obtain ⟨o,ho,_⟩:=hm;exact ⟨zcD ho,zcD ho⟩
 keep:=fun h h' hm hk=>hm.at fun o e=>hk d (.inl rfl) o e
 notList:=by decide
 notTuple:=by decide
 hint:=fun A E s Q hm hq=>W.kdl_hint_dict hm.typeIs hq
 iter:=fun A s hh hm=>by
  have hlt:d<s.heap.objs.size:=by obtain ⟨o,ho,_⟩:=hm;exact zcD ho
  exact ⟨_,_,fun E Q hq=>Mj lo hm hq,HY hh s.heap.objs.size d (zcu hlt) es ep,⟨_,zaR _ rfl,rfl,rfl⟩,hm.at fun o e=>zas _ e⟩
theorem uf {d:Addr}{es:Array DictEntry}{ep:Nat}{R:List Value→Shared→Prop} (lo:(d==sysModules)=false) (hh:A.handled=none) (hD:i7 s.heap d es ep) (hl:es.size≤sizeLine)
  (h:∀ (h':Heap) (tk:Nat),(∀ b o,s.heap.get? b=some o→h'.get? b=some o)→R (es.toList.map (·.key)) { s with heap:=h',toks:=tk }):wpAny (model prog w) A (collect (.ref d)) R E s:=by
 refine W.kdu_collect (NU lo) hh hD hl fun h' tk acc kp hacc => ?_
 have:acc.toList=es.toList.map (·.key):=by
  refine List.ext_getElem? fun i => ?_
  rw [zaA,zbh,zaA]
  cases z:acc[i]? with
  | some v =>
   obtain ⟨e,he,rfl⟩:=hacc.2 i v z
   rw [he];rfl
  | none =>
   have:es.size≤i:=by rw [← hacc.1];exact Array.getElem?_eq_none_iff.mp z
   rw [Array.getElem?_eq_none this];rfl
 rw [this]
 exact h h' tk kp
end
mutual
noncomputable def dQ:PyData→PyData→Bool
 | .int i,.int j=>decide (i<j)
 | .str i,.str j=>decide (i.cps.toList<j.cps.toList)
 | .tuple xs,.tuple ys=>cG xs ys
 | _,_=>false
noncomputable def cG:List PyData→List PyData→Bool
 | [],[]=>false
 | [],_::_=>true
 | _::_,[]=>false
 | x::xs,y::ys=>if x=y then cG xs ys else dQ x y
end
mutual
noncomputable def aF:PyData→PyData→Bool
 | .int _,.int _=>true
 | .str _,.str _=>true
 | .tuple xs,.tuple ys=>cX xs ys
 | _,_=>false
noncomputable def cX:List PyData→List PyData→Bool
 | x::xs,y::ys=>aF x y&&cX xs ys
 | _,_=>true
end
theorem fu {h:Heap}:∀ {ds:List PyData}{vs:List Value}{as:List Addr},ReadsAll h vs ds as→vs.length=ds.length
 | [],_,_,h=>by cases h;rfl
 | _::_,_,_,h=>by cases h with | cons _ r=>simp [fu r]
section
variable {prog:Program}{w:World}
theorem FI:∀ (n:Nat) (x y:PyData) {u v:Value}{as bs:List Addr}{A:Around}{E:Value→Shared→Prop}{s:Shared}{Q:Value→Shared→Prop},x.depth≤n→y.depth≤n→cj x=true→cj y=true→aF x y=true→Reads s.heap u x as→Reads s.heap v y bs→A.units+n<cLine →
  Q (.bool (dQ x y)) s→wpAny (model prog w) A (compareOp .Lt u v) Q E s:=by
 intro n
 induction n with
 | zero =>
  intro x y u v as bs A E s Q hx hy kx ky hc hr gr hu h
  cases hr with
  | int i t =>
   cases gr with
   | int j t'=>exact wpAny_lt_int h
   | _=>simp [aF] at hc
  | str i t =>
   cases gr with
   | str j t'=>exact lt_str h
   | _=>simp [aF] at hc
  | tuple ho hc hd' hall=>rw [cE] at hx;omega
  | none=>simp [cj] at kx
  | bool b=>simp [cj] at kx
  | list _ _ _ _=>simp [cj] at kx
  | dict _ _ _ _ _=>simp [cj] at kx
 | succ n ih =>
  intro x y u v as bs A E s Q hx hy kx ky hc hr gr hu h
  cases hr with
  | int i t =>
   cases gr with
   | int j t'=>exact wpAny_lt_int h
   | _=>simp [aF] at hc
  | str i t =>
   cases gr with
   | str j t'=>exact lt_str h
   | _=>simp [aF] at hc
  | none=>simp [cj] at kx
  | bool b=>simp [cj] at kx
  | list _ _ _ _=>simp [cj] at kx
  | dict _ _ _ _ _=>simp [cj] at kx
  | @tuple a o us m xs as ho hcl hdat hall =>
   cases gr with
   | @tuple b o2 vs m2 ys bs ho2 hcl2 hdat2 hall2 =>
    have hT:=gX ho hcl
    have hT2:=gX ho2 hcl2
    rw [cE] at hx hy
    have kx:c5 xs=true:=kx
    have ky:c5 ys=true:=ky
    have hc:cX xs ys=true:=hc
    show wpAny (model prog w) A (richCompare .Lt (.ref a) (.ref b)) Q E s
    refine wpAny_richCompare_same_room hT hT2 F.slot_tuple_lt ?_ (by omega)
    refine wpAny_call_entry F.slot_tuple_lt hT F.entry_tuple_lt ?_ (F.args_tuple_lt_2 _ _)
    unfold Builtin.«tuple.__lt__»
    refine wpAny_bind (wpAny_pure ?_)
    refine wpAny_bind (wpAny_isInstance hT2 isSubtype_tuple_tuple ?_)
    rw [if_neg (by decide)]
    refine wpAny_bind (wpAny_tupleItemsOf ho hdat (wpAny_bind (wpAny_tupleItemsOf ho2 hdat2 (wpAny_bind ?_))))
    refine wpAny_forIn_list _ (fun rest r s'=>r.1=none∧s'=s∧∃ lx ly lu lv as' bs',rest=lu.zip lv∧ReadsAll s.heap lu lx as'∧ReadsAll s.heap lv ly bs'∧cG xs ys=cG lx ly∧(∀ z∈lx,z∈xs)∧(∀ z∈ly,z∈ys)∧cX lx ly=true∧us.size+ly.length=vs.size+lx.length) _ ?_ ?_ (us.toList.zip vs.toList) (none,())
     ⟨rfl,rfl,xs,ys,us.toList,vs.toList,_,_,rfl,hall,hall2,rfl,fun _ z=>z,fun _ z=>z,hc,by
      have h1:=fu hall
      have h2:=fu hall2
      rw [zaP] at h1 h2
      omega⟩
    ·rintro ⟨p,q⟩ rest ⟨r1,r2⟩ s' ⟨hr,rfl,lx,ly,lu,lv,as',bs',hz,h1,h2,hl,m1,m2,hcc,hsz⟩
     cases h1 with
     | nil=>simp at hz
     | @cons _ _ d1 ds1 a1 b1 g1 t1 =>
      cases h2 with
      | nil=>simp at hz
      | @cons _ _ d2 ds2 a2 b2 g2 t2 =>
       rw [zaV] at hz
       injection hz with e1 e2
       injection e1 with e3 e4
       subst e3;subst e4;subst e2
       have n1:=m1 d1 (by simp)
       have n2:=m2 d2 (by simp)
       have k1:=gx kx d1 n1
       have k2:=gx ky d2 n2
       have dd1:=dh n1
       have dd2:=dh n2
       simp only [cX,zbJ] at hcc
       dsimp only
       refine wpAny_bind (SeqAt.eqBoolOverData prog w _ _ _ _ _ _ _ _ _ _ g1 g2 (iX _ k1) (iX _ k2) (by show A.units+1+_<cLine;omega) ?_)
       rw [iu _ _ k1 k2]
       by_cases he:d1=d2
       ·rw [decide_eq_true he]
        refine wpAny_pure ⟨rfl,rfl,ds1,ds2,_,_,_,_,rfl,t1,t2,?_,fun z hz=>m1 z (zaC _ hz),fun z hz=>m2 z (zaC _ hz),hcc.2,by simp only [zbx] at hsz;omega⟩
        rw [hl]
        simp only [cG]
        rw [if_pos he]
       ·rw [decide_eq_false he]
        have hl2:cG xs ys=dQ d1 d2:=by
         rw [hl]
         simp only [cG]
         rw [if_neg he]
        refine wpAny_bind (wpAny_rule ?_)
        refine wpAny_bind (ih d1 d2 (u:=p) (v:=q) (A:=A.in1) (by omega) (by omega) k1 k2 hcc.1 g1 g2 (by show A.units+1+n<cLine;omega) ?_)
        refine wpAny_bind (wpAny_pure (wpAny_pure ?_))
        refine wpAny_pure ⟨_,rfl,(fun z=>by cases z),?_⟩
        rw [← hl2];exact h
    ·rintro ⟨r1,r2⟩ s' ⟨hr,rfl,lx,ly,lu,lv,as',bs',hz,h1,h2,hl,m1,m2,hcc,hsz⟩
     have hr:r1=none:=hr
     subst hr
     refine wpAny_pure ⟨_,rfl,(fun z=>by cases z),?_⟩
     have OB:decide (us.size<vs.size)=cG xs ys:=by
      rw [hl]
      cases h1 with
      | nil =>
       cases ly with
       | nil=>simp only [cG,zbT] at hsz ⊢;exact decide_eq_false (by omega)
       | cons _ _=>simp only [cG,zbx,zbT] at hsz ⊢;exact decide_eq_true (by omega)
      | cons g1 t1 =>
       cases h2 with
       | nil=>simp only [cG,zbx,zbT] at hsz ⊢;exact decide_eq_false (by omega)
       | cons g2 t2=>simp at hz
     show Q (.bool (decide (us.size<vs.size))) s'
     rw [OB];exact h
   | _=>simp [aF] at hc
theorem Cf {A:Around}{E:Value→Shared→Prop}{s:Shared}{x y:PyData}{u v:Value}{as bs:List Addr}{Q:Bool→Shared→Prop} (n:Nat) (hx:x.depth≤n) (hy:y.depth≤n) (kx:cj x=true) (ky:cj y=true) (hc:aF x y=true) (hr:Reads s.heap u x as) (gr:Reads s.heap v y bs) (hu:A.units+n<cLine)
  (h:Q (dQ x y) s):wpAny (model prog w) A (PyProof.Rows.oneLt' false u v) Q E s:=W.kat_one u v (FI n x y hx hy kx ky hc hr gr hu h)
end
section
variable {prog:Program}{w:World}{A:Around}{E:Value→Shared→Prop}{s:Shared}
noncomputable def dB (h:Heap) (a:Addr) (vs:List Value):Heap:=((h.update a (Obj.mapSeq fun _ => #[])).push (seqObj "tuple" vs.toArray 0)).push (seqObj "list" #[] 0)
mutual
theorem o7 {h h':Heap}{b:Addr}{ob:Obj} (hb:h.get? b=some ob) (hd:ob.cls ≠ .type "tuple") (kp:∀ c o,c≠b→h.get? c=some o→h'.get? c=some o):∀ (d:PyData) {v:Value}{as:List Addr},cj d=true→Reads h v d as→Reads h' v d as
 | .int i,v,as,hk,hr=>by cases hr;exact .int ..
 | .str i,v,as,hk,hr=>by cases hr;exact .str ..
 | .tuple xs,v,as,hk,hr=>by
  cases hr with
  | @tuple a o vs m _ _ ho hc hdat hall =>
   have hne:a≠b:=fun e=>by
    subst e
    rw [hb] at ho;cases ho
    exact hd hc
   exact .tuple (kp a o hne ho) hc hdat (mQ hb hd kp xs hk hall)
 | .none,_,_,h,_=>by simp [cj] at h
 | .bool _,_,_,h,_=>by simp [cj] at h
 | .list _,_,_,h,_=>by simp [cj] at h
 | .dict _,_,_,h,_=>by simp [cj] at h
theorem mQ {h h':Heap}{b:Addr}{ob:Obj} (hb:h.get? b=some ob) (hd:ob.cls ≠ .type "tuple") (kp:∀ c o,c≠b→h.get? c=some o→h'.get? c=some o):∀ (ds:List PyData) {vs:List Value}{as:List Addr},c5 ds=true→ReadsAll h vs ds as→ReadsAll h' vs ds as
 | [],vs,as,hk,hr=>by cases hr;exact .nil
 | d::ds,vs,as,hk,hr=>by
  simp only [c5,zbJ] at hk
  cases hr with
  | cons hx hr=>exact .cons (o7 hb hd kp d hk.1 hx) (mQ hb hd kp ds hk.2 hr)
end
theorem dN {α β:Type}{f:α→β}:∀ {ks:List α}{out:List β},out.Perm (ks.map f)→∃ o':List α,o'.Perm ks∧out=o'.map f
 | [],out,h=>⟨[],.refl _,by simpa using h⟩
 | k::ks,out,h=>by
  have hm:f k∈out:=h.mem_iff.mpr (by simp)
  obtain ⟨l1,l2,rfl⟩:=List.append_of_mem hm
  have h2:(l1++l2).Perm (ks.map f):=by
   have:=List.perm_middle.symm.trans h
   rw [zcj] at this
   exact this.cons_inv
  obtain ⟨o',p1,p2⟩:=dN h2
  obtain ⟨o1,o2,e1,e2,e3⟩:=List.map_eq_append_iff.mp p2.symm
  subst e1
  refine ⟨o1++k::o2,List.perm_middle.trans (p1.cons k),?_⟩
  rw [zbV,zcj,e2,e3]
mutual
theorem vL:∀ x:PyData,dQ x x=false
 | .int i=>by simp only [dQ];exact decide_eq_false (Int.lt_irrefl i)
 | .str i=>by simp only [dQ];exact decide_eq_false (zcd _)
 | .tuple xs=>by simp only [dQ];exact yg xs
 | .none=>by simp only [dQ]
 | .bool _=>by simp only [dQ]
 | .list _=>by simp only [dQ]
 | .dict _=>by simp only [dQ]
theorem yg:∀ x:List PyData,cG x x=false
 | []=>by simp only [cG]
 | x::xs=>by simp only [cG];rw [if_pos trivial];exact yg xs
end
mutual
theorem sY:∀ x y z:PyData,aF x y=true→aF y z=true→aF x z=true→dQ x y=true→dQ y z=true→dQ x z=true
 | .int i,.int j,.int k,_,_,_,h,g=>by simp only [dQ,decide_eq_true_eq] at h g ⊢;omega
 | .str i,.str j,.str k,_,_,_,h,g=>by simp only [dQ,decide_eq_true_eq] at h g ⊢;exact zcm h g
 | .tuple xs,.tuple ys,.tuple zs,a,b,c,h,g=>by simp only [dQ] at h g ⊢;exact CD xs ys zs a b c h g
 | .none,_,_,a,_,_,_,_=>by simp [aF] at a
 | .bool _,_,_,a,_,_,_,_=>by simp [aF] at a
 | .list _,_,_,a,_,_,_,_=>by simp [aF] at a
 | .dict _,_,_,a,_,_,_,_=>by simp [aF] at a
 | .int i,.str j,_,a,_,_,_,_=>by simp [aF] at a
 | .int i,.tuple j,_,a,_,_,_,_=>by simp [aF] at a
 | .int i,.none,_,a,_,_,_,_=>by simp [aF] at a
 | .int i,.bool j,_,a,_,_,_,_=>by simp [aF] at a
 | .int i,.list j,_,a,_,_,_,_=>by simp [aF] at a
 | .int i,.dict j,_,a,_,_,_,_=>by simp [aF] at a
 | .str i,.int j,_,a,_,_,_,_=>by simp [aF] at a
 | .str i,.tuple j,_,a,_,_,_,_=>by simp [aF] at a
 | .str i,.none,_,a,_,_,_,_=>by simp [aF] at a
 | .str i,.bool j,_,a,_,_,_,_=>by simp [aF] at a
 | .str i,.list j,_,a,_,_,_,_=>by simp [aF] at a
 | .str i,.dict j,_,a,_,_,_,_=>by simp [aF] at a
 | .tuple i,.int j,_,a,_,_,_,_=>by simp [aF] at a
 | .tuple i,.str j,_,a,_,_,_,_=>by simp [aF] at a
 | .tuple i,.none,_,a,_,_,_,_=>by simp [aF] at a
 | .tuple i,.bool j,_,a,_,_,_,_=>by simp [aF] at a
 | .tuple i,.list j,_,a,_,_,_,_=>by simp [aF] at a
 | .tuple i,.dict j,_,a,_,_,_,_=>by simp [aF] at a
 | .int i,.int j,.str _,_,a,_,_,_=>by simp [aF] at a
 | .int i,.int j,.tuple _,_,a,_,_,_=>by simp [aF] at a
 | .int i,.int j,.none,_,a,_,_,_=>by simp [aF] at a
 | .int i,.int j,.bool _,_,a,_,_,_=>by simp [aF] at a
 | .int i,.int j,.list _,_,a,_,_,_=>by simp [aF] at a
 | .int i,.int j,.dict _,_,a,_,_,_=>by simp [aF] at a
 | .str i,.str j,.int _,_,a,_,_,_=>by simp [aF] at a
 | .str i,.str j,.tuple _,_,a,_,_,_=>by simp [aF] at a
 | .str i,.str j,.none,_,a,_,_,_=>by simp [aF] at a
 | .str i,.str j,.bool _,_,a,_,_,_=>by simp [aF] at a
 | .str i,.str j,.list _,_,a,_,_,_=>by simp [aF] at a
 | .str i,.str j,.dict _,_,a,_,_,_=>by simp [aF] at a
 | .tuple i,.tuple j,.int _,_,a,_,_,_=>by simp [aF] at a
 | .tuple i,.tuple j,.str _,_,a,_,_,_=>by simp [aF] at a
 | .tuple i,.tuple j,.none,_,a,_,_,_=>by simp [aF] at a
 | .tuple i,.tuple j,.bool _,_,a,_,_,_=>by simp [aF] at a
 | .tuple i,.tuple j,.list _,_,a,_,_,_=>by simp [aF] at a
 | .tuple i,.tuple j,.dict _,_,a,_,_,_=>by simp [aF] at a
theorem CD:∀ x y z:List PyData,cX x y=true→cX y z=true→cX x z=true→cG x y=true→cG y z=true→cG x z=true
 | [],[],z,_,_,_,h,_=>by simp [cG] at h
 | [],y::ys,[],_,_,_,_,g=>by simp [cG] at g
 | [],y::ys,z::zs,_,_,_,_,_=>by simp only [cG]
 | x::xs,[],z,_,_,_,h,_=>by simp [cG] at h
 | x::xs,y::ys,[],_,_,_,_,g=>by simp [cG] at g
 | x::xs,y::ys,z::zs,a,b,c,h,g=>by
  simp only [cX,zbJ] at a b c
  simp only [cG] at h g ⊢
  by_cases e1:x=y
  ·rw [if_pos e1] at h
   subst e1
   by_cases e2:x=z
   ·rw [if_pos e2] at g ⊢
    exact CD xs ys zs a.2 b.2 c.2 h g
   ·rw [if_neg e2] at g ⊢
    exact g
  ·rw [if_neg e1] at h
   by_cases e2:y=z
   ·subst e2
    rw [if_neg e1]
    exact h
   ·rw [if_neg e2] at g
    have t:=sY x y z a.1 b.1 c.1 h g
    rw [if_neg (fun e3=>by subst e3;rw [vL] at t;cases t)]
    exact t
end
mutual
theorem qT:∀ x y:PyData,aF x y=true→x≠y→dQ x y=true∨dQ y x=true
 | .int i,.int j,_,n=>by
  have:i≠j:=fun e=>n (by rw [e])
  simp only [dQ,decide_eq_true_eq];omega
 | .str i,.str j,_,n=>by
  simp only [dQ,decide_eq_true_eq]
  by_cases h:i.cps.toList<j.cps.toList
  ·exact .inl h
  ·by_cases g:j.cps.toList<i.cps.toList
   ·exact .inr g
   ·refine absurd ?_ n
    have e:i.cps.toList=j.cps.toList:=List.le_antisymm g h
    obtain ⟨i⟩:=i
    obtain ⟨j⟩:=j
    have e:i.toList=j.toList:=e
    rw [show i=j from zbK.mp e]
 | .tuple xs,.tuple ys,a,n=>by
  simp only [dQ]
  exact yf xs ys a fun e=>n (by rw [e])
 | .none,_,a,_=>by simp [aF] at a
 | .bool _,_,a,_=>by simp [aF] at a
 | .list _,_,a,_=>by simp [aF] at a
 | .dict _,_,a,_=>by simp [aF] at a
 | .int i,.str j,a,_=>by simp [aF] at a
 | .int i,.tuple j,a,_=>by simp [aF] at a
 | .int i,.none,a,_=>by simp [aF] at a
 | .int i,.bool j,a,_=>by simp [aF] at a
 | .int i,.list j,a,_=>by simp [aF] at a
 | .int i,.dict j,a,_=>by simp [aF] at a
 | .str i,.int j,a,_=>by simp [aF] at a
 | .str i,.tuple j,a,_=>by simp [aF] at a
 | .str i,.none,a,_=>by simp [aF] at a
 | .str i,.bool j,a,_=>by simp [aF] at a
 | .str i,.list j,a,_=>by simp [aF] at a
 | .str i,.dict j,a,_=>by simp [aF] at a
 | .tuple i,.int j,a,_=>by simp [aF] at a
 | .tuple i,.str j,a,_=>by simp [aF] at a
 | .tuple i,.none,a,_=>by simp [aF] at a
 | .tuple i,.bool j,a,_=>by simp [aF] at a
 | .tuple i,.list j,a,_=>by simp [aF] at a
 | .tuple i,.dict j,a,_=>by simp [aF] at a
theorem yf:∀ x y:List PyData,cX x y=true→x≠y→cG x y=true∨cG y x=true
 | [],[],_,n=>absurd rfl n
 | [],y::ys,_,_=>.inl (by simp only [cG])
 | x::xs,[],_,_=>.inr (by simp only [cG])
 | x::xs,y::ys,a,n=>by
  simp only [cX,zbJ] at a
  simp only [cG]
  by_cases e:x=y
  ·subst e
   rw [if_pos rfl,if_pos rfl]
   exact yf xs ys a.2 fun e=>n (by rw [e])
  ·rw [if_neg e,if_neg (Ne.symm e)]
   exact qT x y a.1 e
end
theorem pC {h:Heap}{a:Addr}{vs:List Value}{b:Addr}{o:Obj} (hb:b≠a) (e:h.get? b=some o):(dB h a vs).get? b=some o :=
 zas _ (zas _ ((zat _ _ (Ne.symm hb)).trans e))
end
end M6
namespace L2
open PySem PySem.Spec PyProof.Rows M6
noncomputable def kU (W:World) (a:Addr) (xs:List (PyData×Addr)):Heap→Prop:=fun h=>(a==sysModules)=false∧∃ o es ep,h.get? a=some o∧o.ExactDict∧o.data=Data.dict es ep ∧
 es.toList=xs.map (fun x=>({ hash:=yr W x.1,key:=.ref x.2,val:=.bool true }:DictEntry))∧(xs.map (·.1)).Nodup
theorem kU.at {W:World}{a:Addr}{xs:List (PyData×Addr)}{h h':Heap} (x:kU W a xs h) (e:∀ o,h.get? a=some o→h'.get? a=some o):kU W a xs h':=by
 obtain ⟨z,o,es,ep,h1,r⟩:=x
 exact ⟨z,o,es,ep,e o h1,r⟩
theorem kU.ok {P:Program}{w W:World}{H:Hp}{h:Heap}{a:Addr}{xs:List (PyData×Addr)} (x:kU W a xs h):aW P w H h a (.ext (kU W a xs)):=by
 obtain ⟨z,o,es,ep,h1,r⟩:=id x
 exact ⟨x,⟨o,h1⟩,fun h1 h2 y e=>y.at e⟩
theorem lJ {P:Program}{w W:World}{H:Hp}{h:Heap}{a b:Addr}{xs:List (PyData×Addr)} (x:aW P w H h a (.ext (kU W b xs))):b=a:=by
 obtain ⟨y,⟨o,e⟩,st⟩:=x
 apply Classical.byContradiction
 intro hne
 obtain ⟨z,ob,es,ep,h1,h2,h3,r⟩:=id y
 have g1:(h.update b fun _=>{ cls:=.none }).get? a=some o:=(zat _ _ hne).trans e
 have g2:(h.update b fun _=>{ cls:=.none }).get? b=some { cls:=.none }:=zaB (fun _=>{ cls:=.none }) h1 rfl
 obtain ⟨_,o2,es2,ep2,k1,k2,k3,_⟩:=st h (h.update b fun _=>{ cls:=.none }) y fun o' e'=>by rw [e] at e';cases e';exact g1
 rw [g2] at k1
 cases k1
 cases k3
noncomputable def vm (xs:List (PyData×Addr)) (d:PyData) (b:Addr):List (PyData×Addr):=if (xs.any fun x=>decide (x.1=d))=true then xs else xs++[(d,b)]
theorem sM (xs:List (PyData×Addr)) (d:PyData) (b:Addr):storedH (xs.map fun x=>(x.1,x.2,Value.bool true)) d b (.bool true)=(vm xs d b).map fun x=>(x.1,x.2,Value.bool true):=by
 have e:(atKey (xs.map fun x=>(x.1,x.2,Value.bool true)) d).isSome=(xs.any fun x=>decide (x.1=d)):=by
  unfold atKey
  rw [zbv]
  induction xs with
  | nil=>rfl
  | cons x xs ih =>
   rw [zcj,zbS,zck]
   by_cases h:x.1=d
   ·simp [h]
   ·simp only [h,decide_false,Bool.false_or];exact ih
 unfold storedH vm
 rw [e]
 by_cases h:(xs.any fun x=>decide (x.1=d))=true
 ·rw [if_pos h,if_pos h,zct]
  refine zaM fun x _ => ?_
  simp only [Function.comp,putAt]
  split <;> rfl
 ·rw [if_neg h,if_neg h,zbV];rfl
section
variable {X:Cx}{pins:List (Addr×Obj)}{σ:St}{H:Hp}{s:Shared}{A:Around}{E:Value→Shared→Prop}
noncomputable def pZ (K:PySem.W.Frag) (H:Hp) (xs:List (PyData×Addr)):Prop:=∀ x∈xs,cj x.1=true∧x.1.depth≤6∧bE K H x.1 (.ref x.2)
theorem Inv.key (I:Inv X pins σ H s) {d:PyData}{b:Addr} (h1:cj d=true) (h2:d.depth≤6) (h3:bE X.K H d (.ref b)):isKey s.heap d b :=
 ⟨h1,h2,I.reads d (.ref b) (.ref b) h3 rfl⟩
theorem zL {a b:Addr}{xs:List (PyData×Addr)}{d:PyData}{Q:Unit→Shared→Prop} (hu:A.units+20<cLine) (I:Inv X pins σ H s) (e:H a=some (.ext (kU X.w a xs))) (hk:pZ X.K H xs) (h1:cj d=true) (h2:d.depth≤6) (h3:bE X.K H d (.ref b)) (hl:xs.length<1000)
  (h:∀ s',Inv X pins σ (upd H a (.ext (kU X.w a (vm xs d b)))) s'→Q () s'):wpAny (model X.prog X.w) A (setItem (.ref a) (.ref b) (.bool true)) Q E s:=by
 obtain ⟨⟨z,o,es,ep,ho,hx,hd,hes,hn⟩,_,_⟩:=(show aW X.prog X.w H s.heap a (.ext (kU X.w a xs)) from I.hok a _ e)
 have dd:Heap.DictOfH (jG X.prog X.w) s.heap a (xs.map fun x=>(x.1,x.2,Value.bool true)):=by
  refine ⟨o,es,ep,ho,hx,hd,?_,fun x hx' => ?_,?_⟩
  ·rw [hes,zct];rfl
  ·obtain ⟨y,hy,rfl⟩:=zcs.mp hx'
   obtain ⟨k1,k2,k3⟩:=hk y hy
   exact I.key k1 k2 k3
  ·rw [zct];exact hn
 refine wpAny_setItem_heap (knd:=jG X.prog X.w) (hsz:=by rw [zbP,sizeLine_eq];omega) (show A.units+1+10<cLine by omega) (I.key h1 h2 h3) dd fun h' dd' hs=>h _ ?_
 rw [sM] at dd'
 obtain ⟨q,es',ep',hq,x1,x2,x3,_,x5⟩:=dd'
 have nn:kU X.w a (vm xs d b) h':=⟨z,q,es',ep',hq,x1,x2,by rw [x3,zct];rfl,by rw [zct] at x5;exact x5⟩
 exact lR I (by rw [e];exact True.intro) hs ⟨q,hq⟩ nn.ok
end
noncomputable def A7 (W:World):TE:=fun _ H Q=>∀ p,H p=none→Q (.ref p) (upd H p (.ext (kU W p [])))
noncomputable def Hh (K:PySem.W.Frag) (W:World) (td ty tv:TE):TS:=fun D σ H=>tv σ H fun v H1=>td σ H1 fun x H2=>ty σ H2 fun y H3=>∃ (a a' b:Addr) (xs:List (PyData×Addr)) (d:PyData),v = .bl true∧x = .ref a∧y = .ref b∧H3 a=some (.ext (kU W a' xs)) ∧
 pZ K H3 xs∧cj d=true∧d.depth≤6∧bE K H3 d (.ref b)∧xs.length<1000∧(a'=a→D.nx σ (upd H3 a (.ext (kU W a (vm xs d b)))))
theorem gW {α:Type} (f:α→Addr):∀ l:List α,Vals (l.map fun x=>V.ref (f x)) (l.map fun x=>Value.ref (f x))
 | []=>.nil
 | x::l=>.cons rfl (gW f l)
section
variable {X:Cx}{o i value:Expr}{td ty tv:TE}{pos pos':Pos}
theorem ju:PE X (.Dict [] [] pos) (A7 X.w):=fun pins s σ H Q I h =>
 wpAny_Dict_empty ⟨.ref s.heap.objs.size,_,I.laid (a:=s.heap.objs.size) (o:=.ext (kU X.w s.heap.objs.size [])) (t':=s.toks) (fun _ _ q=>zas _ q) (zcH _)
  (kU.ok ⟨beq_eq_false_iff_ne.mpr (Ne.symm (zcu I.big)),_,#[],0,zaR _ rfl,⟨rfl,rfl,rfl⟩,rfl,rfl,List.nodup_nil⟩),rfl,h _ (I.hok.fresh (zcH _))⟩
theorem jq (hu:X.A.units+20<cLine) (ho:PE X o td) (hi:PE X i ty) (hv:PE X value tv) (hs:swapsWith value (some (.Subscript o i pos')) pos.line X.env=pure false) :
  PS X (.Assign [.Subscript o i pos'] value pos) (Hh X.K X.w td ty tv):=by
 intro pins s σ H D I h
 refine wpAny_Assign_Subscript (cA (hv pins s σ H _ I h) fun r s1 ⟨v,H1,I1,rv,q1⟩=>cA (ho pins s1 σ H1 _ I1 q1) fun u s2 ⟨x,H2,I2,rx,q2⟩=>cA (hi pins s2 σ H2 _ I2 q2) fun iv s3 ⟨y,H3,I3,ry,a,a',b,xs,d,ev,ex,ey,e,k1,k2,k3,k4,k5,q3⟩ => ?_) hs
 subst ev ex ey
 obtain rfl:u=Value.ref a:=rx
 obtain rfl:iv=Value.ref b:=ry
 obtain rfl:r=Value.bool true:=rv
 obtain rfl:=lJ (show aW X.prog X.w H3 s3.heap a (.ext (kU X.w a' xs)) from I3.hok a _ e)
 exact zL hu I3 e k1 k2 k3 k4 k5 fun s4 I4=>⟨σ,_,I4,q3 rfl⟩
end
theorem JO {k:Key}{u:Value} (h:nC k u=true):RelV (kV k) u:=by
 rcases bF h with ⟨i,t,rfl,rfl⟩ | ⟨x,t,rfl,rfl⟩
 ·exact ⟨t,rfl⟩
 ·exact ⟨t,rfl⟩
theorem tL {prog:Program}{w:World}:∀ {kvs:List (Key×V)}{vs:List (Key×Value)}{es:List DictEntry},KV kvs vs→Pairs (bA prog w) es vs→Vals (kvs.map fun p=>kV p.1) (es.map (·.key))
 | [],_,es,h1,h2=>by cases h1;cases h2;exact .nil
 | p::kvs,_,es,h1,h2=>by
  cases h1 with
  | cons r t =>
   cases h2 with
   | cons g1 g2 g3 =>
    refine .cons ?_ (tL t g3)
    show RelV (kV p.1) _
    rw [r.1]
    exact JO g1
noncomputable def Jh (neg:Bool):R2:=fun y x H Q=>∃ a kvs k,x = .ref a∧y=kV k∧H a=some (.dK kvs)∧Q (.bl (neg != (fk kvs k).isSome)) H
section
variable {X:Cx}
theorem Jd {pins:List (Addr×Obj)}{σ:St}{H:Hp}{s:Shared}{a:Addr}{kvs:List (Key×V)} (I:Inv X pins σ H s) (e:H a=some (.dK kvs)):(a==sysModules)=false∧kvs.length≤sizeLine∧∃ es ep,i7 s.heap a es ep∧Vals (kvs.map fun x=>kV x.1) (es.toList.map (·.key)):=by
 obtain ⟨z,hd,vs,rel,o,es,ep,ho,hx,hdat,hk,hp,hn⟩:=Dd I.hok e
 exact ⟨hd,z,es,ep,⟨o,ho,hx,hdat⟩,tL rel hp⟩
theorem Jr (hu:X.A.units+1<cLine):fj X (compareOp .In) (Jh false):=by
 intro pins s σ H y x v u Q I ry rx h
 obtain ⟨a,kvs,k,rfl,rfl,e,q⟩:=h
 obtain rfl:u=Value.ref a:=rx
 exact ON hu I (iC.k e) ry fun s3 I3=>⟨.bl (fk kvs k).isSome,H,I3,rfl,by simpa using q⟩
theorem zG (hu:X.A.units+1<cLine):fj X (compareOp .NotIn) (Jh true):=by
 intro pins s σ H y x v u Q I ry rx h
 obtain ⟨a,kvs,k,rfl,rfl,e,q⟩:=h
 obtain rfl:u=Value.ref a:=rx
 exact Ga hu I (iC.k e) ry fun s3 I3=>⟨.bl (!(fk kvs k).isSome),H,I3,rfl,by simpa using q⟩
end
end L2
namespace M6
open PySem PySem.Spec PyProof.Rows
theorem zN:typeLookup (.type "list") (Str.ofString "keys")=pure none:=by rw [typeLookup_type];kernel_rfl
section
variable {prog:Program}{w:World}{A:Around}{E:Value→Shared→Prop}{s:Shared}
theorem zT {a:Addr}{xs:Array Value}{k:Nat}{Q:Option Value→Shared→Prop} (hx:s.heap.get? a=some { cls:=.type "list",data:=.seq xs k }) (hA:A.handled=none)
  (h:∀ (h':Heap) (tk:Nat),(∀ b o,s.heap.get? b=some o→h'.get? b=some o)→Q none { s with heap:=h',toks:=tk }):wpAny (model prog w) A (getAttr? (.ref a) (Str.ofString "keys")) Q E s:=by
 have f1:=sub_AttributeError
 have f3:=PySem.F.slot_list_getattribute.lookup
 have f4:=PySem.F.slot_list_getattribute.bind (Value.ref a)
 have f5:=am_list_getattr_none
 have f6:=zN
 obtain ⟨hp,g,d,tk,os⟩:=s
 dsimp only at h hx ⊢
 have hT:Shared.TypeIs ⟨hp,g,d,tk,os⟩ (.ref a) "list" := ⟨_,hx,rfl⟩
 unfold getAttr? getAttrBy? getAttrBy getAttrByItsOwn callGetattribute boundAndCalled
 generalize hC:@PySem.call=C
 wp_walk
 subst hC
 refine call_meets PySem.F.slot_list_getattribute (s:=⟨hp,g,d,tk+1,os⟩) ⟨_,hx,rfl⟩ am_entry_list_getattribute (PySem.F.args_list_getattribute_2 (Value.ref a) (Value.str (Str.ofString "keys") tk)) (meets_getattribute_miss_list a xs k #[] (Str.ofString "keys") tk f6 (by decide +kernel)) ⟨hx,hA,fun h' tk' e hx' => ?_⟩
 obtain ⟨t,u,he⟩:=hx'.there
 have hT2:Shared.TypeIs ⟨h',g,d,tk',os⟩ (.ref e) "AttributeError" := ⟨_,he,rfl⟩
 have hk:=hx'.keeps
 show wpAny (model prog w) A (getattributeRaised (Value.ref a) (Value.str (Str.ofString "keys") tk) (Value.type "list") (.ref e) none false false) _ _ _
 unfold getattributeRaised
 refine wpAny_bind (wpAny_isInstance hT2 f1 ?_)
 rw [if_pos rfl]
 refine wpAny_bind (wpAny_of_eq f5 ?_)
 show wpAny (model prog w) A (do let _ ← throw (Value.ref e);_) _ _ _
 refine wpAny_bind (wpAny_throw ?_)
 show wpAny (model prog w) A (do
       let __do_lift ← isInstance (Value.ref e) (Value.type "AttributeError")
       if __do_lift=true then pure none else throw (Value.ref e)) Q E _
 refine wpAny_bind (wpAny_isInstance hT2 f1 ?_)
 rw [if_pos rfl]
 exact wpAny_pure (h h' tk' hk)
end
theorem pM:entryFor table "dict.update.loop" = some Builtin.«dict.update.loop» := entryFor_of_tree (by kernel_rfl)
theorem ir:plainId "dict.update.loop" = true:=by decide +kernel
noncomputable def bY {K:Type} [DecidableEq K] (ps:List (K×Value)):List (K×Value):=ps.foldl (fun acc p=>stored acc p.1 p.2) []
section
variable {prog:Program}{w:World}{A:Around}{E:Value→Shared→Prop}{s:Shared}{K:Type} [DecidableEq K] {knd:KeyKind prog w K}
noncomputable def i8 (knd:KeyKind prog w K) (h:Heap) (v:Value) (p:K×Value):Prop:=∃ t ku o n,v = .ref t∧h.get? t=some o∧o.cls = .type "tuple" ∧ o.data = .seq #[ku,p.2] n∧knd.is p.1 ku=true
theorem i8.at {h h':Heap}{v:Value}{p:K×Value} (x:i8 knd h v p) (e:∀ b o,o.cls = .type "tuple" → h.get? b=some o→h'.get? b=some o):i8 knd h' v p:=by
 obtain ⟨t,ku,o,n,h1,h2,h3,h4⟩:=x
 exact ⟨t,ku,o,n,h1,e t o h3 h2,h3,h4⟩
theorem lO {h h':Heap}{d:Addr}{kvs:List (K×Value)} (x:Heap.DictOf knd h d kvs) (e:∀ o,h.get? d=some o→h'.get? d=some o):Heap.DictOf knd h' d kvs:=by
 obtain ⟨o,es,ep,h1,r⟩:=x
 exact ⟨o,es,ep,e o h1,r⟩
theorem uY (kvs:List (K×Value)) (k:K) (v:Value):(stored kvs k v).length≤kvs.length+1:=by
 unfold stored
 split
 ·rw [zbP];omega
 ·rw [zaU];exact zcH _
theorem l7 (ps:List (K×Value)) (p:K×Value):bY (ps++[p])=stored (bY ps) p.1 p.2:=by
 unfold bY
 rw [List.foldl_append];rfl
theorem oh (ps:List (K×Value)):(bY ps).length≤ps.length:=by
 have:∀ (l acc:List (K×Value)),(l.foldl (fun acc p=>stored acc p.1 p.2) acc).length≤acc.length+l.length:=by
  intro l
  induction l with
  | nil=>intro acc;simp
  | cons a r ih=>intro acc;rw [List.foldl_cons,zbx];have:=ih (stored acc a.1 a.2);have:=uY acc a.1 a.2;omega
 have:=this ps []
 simpa [bY] using this
theorem zQ {I l d:Addr}{its:Array Value}{ps:List (K×Value)}{R:Result→Shared→Prop}{St:Nat→Heap→Prop} (W:Walks prog w A.in1 I [I,l] [I] its.size (fun i v=>its[i]? = some v) St) (hSt:∀ i h,St i h→∀ o,h.get? I=some o→o.cls ≠ .type "tuple") (hdI:d≠I) (hdl:d≠l) (hlen:its.size=ps.length) (hn:ps.length≤1000) :
  ∀ (k i:Nat) (s:Shared),its.size - i=k→i≤its.size→St i s.heap→Heap.DictOf knd s.heap d (bY (ps.take i))→(∀ (i:Nat) (v:Value) (p:K×Value),its[i]? = some v→ps[i]? = some p→i8 knd s.heap v p) →
   (∀ (h':Heap) (tk:Nat),Heap.DictOf knd h' d (bY ps)→(∀ b o,b≠d→b≠I→s.heap.get? b=some o→h'.get? b=some o)→R (.ok (.ret .none)) { s with heap:=h',toks:=tk }) →
   codeAny (model prog w) A (.builtin "dict.update.loop" ⟨[.ref d,.ref I,rawInt i,.none],[]⟩) R s:=by
 intro k
 induction k with
 | zero =>
  intro i s hk hi hst hD hp hR
  obtain rfl:i=its.size:=by omega
  refine codeAny_builtin pM ?_
  rw [Around.under_plainId ir _]
  show wpAny _ A.in1 (pyNext (.ref I) >>= _) _ _ s
  refine wpAny_bind (W.done s _ _ hst fun h' tk hm => ?_)
  rw [hlen,zbC] at hD
  refine wpAny_bind (wpAny_pure ?_)
  exact wpAny_pure (hR h' tk (lO hD fun o e=>hm d o (by simpa using hdI) e) fun b o h1 h2 e=>hm b o (by simpa using h2) e)
 | succ k ih =>
  intro i s hk hi hst hD hp hR
  have hlt:i<its.size:=by omega
  refine codeAny_builtin pM ?_
  rw [Around.under_plainId ir _]
  show wpAny _ A.in1 (pyNext (.ref I) >>= _) _ _ s
  refine wpAny_bind (W.item i s _ _ hlt hst fun v h' tk hP hst' hm => ?_)
  have hpi:ps[i]? = some ps[i]:=zam (by omega)
  have hp2:∀ (i:Nat) (v:Value) (p:K×Value),its[i]? = some v→ps[i]? = some p→i8 knd h' v p:=fun j v p h1 h2=>(hp j v p h1 h2).at fun b o hc e=>hm b o (by
   intro z
   simp only [zaW] at z
   subst z
   exact hSt i _ hst o e hc) e
  obtain ⟨t,ku,o,m,rfl,ho,hc,hd,hku⟩:=hp2 i v _ hP hpi
  have hD2:Heap.DictOf knd h' d (bY (ps.take i)):=lO hD fun o e=>hm d o (by simpa using hdI) e
  dsimp only
  refine wpAny_bind (wpAny_holding ?_)
  refine wpAny_bind (wpAny_tryCatch ?_)
  unfold Builtin.Dict.pairItems
  refine wpAny_bind (wpAny_typeOf (T := "tuple") ⟨o,ho,hc⟩ ?_)
  rw [if_pos (by decide)]
  refine wpAny_bind (wpAny_seqItems ho hd (wpAny_pure ?_))
  have h2:=oh (ps.take i)
  rw [zby] at h2
  refine wpAny_holding (wpAny_dictSet_pairs hku hD2 (fun h'' hD'' hs => ?_) (by rw [sizeLine_eq];omega))
  have e9:∀ b o,b≠d→h'.get? b=some o→h''.get? b=some o:=fun b o hb e=>(hs.2 b hb).trans e
  refine wpAny_pure ⟨plainId_quiet ir _,?_⟩
  rw [show ((i:Int)+1)=((i+1:Nat):Int) by omega]
  refine ih (i+1) { s with heap:=h'',toks:=tk+1 } (by omega) hlt (W.frame _ h' h'' hst' fun b hb o e=>e9 b o ?_ e) ?_ (fun j v p h1 h2=>(hp2 j v p h1 h2).at fun b o hc e=>e9 b o ?_ e) fun h3 tk3 hD3 kp3 => ?_
  ·simp only [zci,zbE,or_false] at hb
   rcases hb with rfl | rfl
   ·exact Ne.symm hdI
   ·exact Ne.symm hdl
  ·rw [List.take_succ,hpi]
   show Heap.DictOf knd h'' d (bY (ps.take i++[ps[i]]))
   rw [l7]
   exact hD''
  ·intro z
   subst z
   obtain ⟨od,_,_,hod,hcd,_⟩:=hD2
   rw [hod] at e;cases e
   rw [hcd.1] at hc
   injection hc with hc
   exact absurd hc (by decide)
  ·exact hR h3 tk3 hD3 fun b o h1 h2 e=>kp3 b o h1 h2 (e9 b o h1 (hm b o (by simpa using h2) e))
theorem wj {l:Addr}{its:Array Value}{ps:List (K×Value)}{Q:Value→Shared→Prop} (hh:A.handled=none) {c:Nat} (hl:s.heap.get? l=some { cls:=.type "list",data:=.seq its c }) (hlen:its.size=ps.length) (hp:∀ (i:Nat) (v:Value) (p:K×Value),its[i]? = some v→ps[i]? = some p→i8 knd s.heap v p) (hn:ps.length≤1000)
  (h:∀ (h':Heap) (tk:Nat),Heap.DictOf knd h' s.heap.objs.size (bY ps)→(∀ b o,s.heap.get? b=some o→h'.get? b=some o)→Q (.ref s.heap.objs.size) { s with heap:=h',toks:=tk }) :
  wpAny (model prog w) A (call (.type "dict") [.ref l]) Q E s:=by
 refine callType_codes PySem.F.kt_called_dict (PySem.F.kt_typeCall_dict_1 (.ref l)) PySem.F.entry_dict_init (kt_code_dict_new (.ref l) (Q₁:=fun u s₁=>u = .ref s.heap.objs.size∧s₁={ s with heap:=s.heap.push { cls:=.type "dict",data:=.dict #[] } }) ⟨rfl,rfl⟩) fun obj s₁ z => ?_
 obtain ⟨rfl,rfl⟩:=z
 have hnew:Heap.DictOf knd (s.heap.push { cls:=Value.type "dict",data:=Data.dict #[] }) s.heap.objs.size []:=Heap.DictOf.new s.heap
 have hl1:(s.heap.push { cls:=Value.type "dict",data:=Data.dict #[] }).get? l=some { cls:=.type "list",data:=.seq its c }:=zas _ hl
 refine ⟨Heap.DictOf.typeIs hnew,PySem.F.args_dict_init_2 _ _,?_⟩
 unfold Builtin.«dict.__init__»
 refine wpAny_bind (wpAny_bind (wpAny_notOrdered_dict (Heap.DictOf.typeIs hnew) (wpAny_pure ?_)))
 show wpAny _ _ (Builtin.Dict.updateFrom "dict.__init__" s.heap.objs.size (.ref l) [] .none) _ _ _
 unfold Builtin.Dict.updateFrom
 refine wpAny_bind (wpAny_typeOf (T := "list") ⟨_,hl1,rfl⟩ ?_)
 rw [if_pos (by decide)]
 refine wpAny_bind (zT hl1 hh fun h1 tk1 kp1 => ?_)
 rw [if_pos (by decide)]
 refine wpAny_bind (wpAny_rule ?_)
 have hl2:h1.IsList l its:=⟨_,kp1 _ _ hl1,rfl,c,rfl⟩
 refine wpAny_bind (wpAny_pyIter_list hl2 ?_)
 have hD1:Heap.DictOf knd h1 s.heap.objs.size []:=lO hnew fun o e=>kp1 _ _ e
 refine wpAny_pure ⟨plainId_quiet ir _,?_⟩
 have lS:s.heap.objs.size<h1.objs.size:=by obtain ⟨o,_,_,ho,_⟩:=hD1;exact zcD ho
 have ll:l<s.heap.objs.size:=zcD hl
 have kp2:∀ b o,s.heap.get? b=some o→h1.get? b=some o:=fun b o e=>kp1 b o (zas _ e)
 refine zQ (ps:=ps) (Walks.list (A:=A.in1.in1) hh h1.objs.size l (zcu (Nat.lt_trans ll lS)) its) (fun i h z o e => ?_) (zcu lS) (zcw ll) hlen hn its.size 0 _ rfl (zcI _) ?_ ?_ ?_ fun h' tk hD' kp'=>⟨rfl,h h' tk hD' fun b o e => ?_⟩
 ·obtain ⟨o',ho',hc',_⟩:=z.1
  rw [e] at ho';cases ho'
  rw [hc']
  intro z
  injection z with z
  exact absurd z (by decide)
 ·exact ⟨⟨_,zaR _ rfl,rfl,rfl⟩,hl2.at fun o e=>zas _ e⟩
 ·exact lO hD1 fun o e=>zas _ e
 ·exact fun i v p h2 h3=>(hp i v p h2 h3).at fun b o _ e=>zas _ (kp2 b o e)
 ·have lb:=zcD e
  exact kp' b o (zcu lb) (zcu (Nat.lt_trans lb lS)) (zas _ (kp2 b o e))
end
end M6
namespace L2
open PySem PySem.Spec PyProof.Rows M6
noncomputable def putAll (kvs:List (Key×V)):List (Key×V):=kvs.foldl (fun acc p=>putK acc p.1 p.2) []
theorem mV:∀ {kvs:List (Key×V)}{vs:List (Key×Value)},KV kvs vs→∀ {a:List (Key×V)}{b:List (Key×Value)},KV a b→KV (kvs.foldl (fun acc p=>putK acc p.1 p.2) a) (vs.foldl (fun acc p=>stored acc p.1 p.2) b)
 | [],_,h,a,b,g=>by cases h;exact g
 | p::kvs,_,h,a,b,g=>by
  cases h with
  | @cons _ q _ vs r t =>
   show KV (kvs.foldl _ (putK a p.1 p.2)) (vs.foldl _ (stored b q.1 q.2))
   rw [← r.1]
   exact mV t (g.put p.1 r.2)
theorem vj (kvs:List (Key×V)):(putAll kvs).length≤kvs.length:=by
 have:∀ (l acc:List (Key×V)),(l.foldl (fun acc p=>putK acc p.1 p.2) acc).length≤acc.length+l.length:=by
  intro l
  induction l with
  | nil=>intro acc;simp
  | cons a r ih=>intro acc;rw [List.foldl_cons,zbx];have:=ih (putK acc a.1 a.2);have:=eN acc a.1 a.2;omega
 have:=this kvs []
 simpa [putAll] using this
noncomputable def KP (H:Hp) (ts:List Addr) (kvs:List (Key×V)):Prop:=Paired (fun t (p:Key×V)=>H t=some (.tup [kV p.1,p.2])) ts kvs
noncomputable def Jj:List V→Hp→VK→Prop:=fun xs H Q=>∃ (a:Addr) (ts:List Addr) (kvs:List (Key×V)),xs=[.ref a]∧H a=some (.lst (ts.map V.ref))∧KP H ts kvs∧kvs.length≤1000∧∀ p,H p=none→Q (.ref p) (upd H p (.dK (putAll kvs)))
theorem o6:∀ {ts:List Addr}{us:List Value},Vals (ts.map V.ref) us→us=ts.map Value.ref
 | [],us,h=>by cases h;rfl
 | t::ts,us,h=>by
  cases h with
  | cons r g =>
   obtain rfl:_=Value.ref t:=r
   rw [o6 g];rfl
section
variable {X:Cx}
theorem B6 {pins:List (Addr×Obj)}{σ:St}{H:Hp}{s:Shared} (I:Inv X pins σ H s):∀ {ts:List Addr}{kvs:List (Key×V)},KP H ts kvs→∃ ps:List (Key×Value),KV kvs ps∧ps.length=ts.length∧∀ (i:Nat) (v:Value) (p:Key×Value),(ts.map Value.ref)[i]? = some v→ps[i]? = some p→i8 (bA X.prog X.w) s.heap v p
 | [],_,h=>by cases h;exact ⟨[],.nil,rfl,fun i v p h=>by simp at h⟩
 | t::ts,_,h=>by
  cases h with
  | @cons _ q _ kvs r g =>
   obtain ⟨ps,h1,h2,h3⟩:=B6 I g
   obtain ⟨_,its,rv,o,ho,hc,n,hd⟩:=(show aW X.prog X.w H s.heap t (.tup [kV q.1,q.2]) from I.hok t _ r)
   cases rv with
   | @cons _ ku _ its' g1 rv =>
    cases rv with
    | @cons _ u _ its'' g2 rv =>
     cases rv
     refine ⟨(q.1,u)::ps,.cons ⟨rfl,g2⟩ h1,by simp [h2],fun i v p e1 e2 => ?_⟩
     cases i with
     | zero =>
      simp only [zcj,zao,zcL.injEq] at e1 e2
      subst e1;subst e2
      exact ⟨t,ku,o,n,rfl,ho,hc,hd,nD g1⟩
     | succ i =>
      simp only [zcj,zan] at e1 e2
      exact h3 i v p e1 e2
theorem wk {k:Nat} (hr:aS k X.A):bS X (.type "dict") Jj:=by
 intro pins s σ H xs us Q I r h
 obtain ⟨a,ts,kvs,rfl,e,hp,hl,q⟩:=h
 obtain ⟨u,rfl,ru⟩:=vals1 r
 cases ru
 obtain ⟨hz,its,c,rv,g⟩:=(show aW X.prog X.w H s.heap a (.lst (ts.map V.ref)) from I.hok a _ e)
 have ei:=o6 rv
 obtain ⟨ps,p1,p2,p3⟩:=B6 I hp
 have p4:=Paired.length p1
 refine wj (knd:=bA X.prog X.w) (its:=its.toArray) (ps:=ps) hr.hd g (by rw [zbf,ei,zbP];exact p2.symm) (fun i v p h1 h2=>p3 i v p (by rw [← ei];simpa using h1) h2) (by omega) fun h' tk dd kp => ?_
 have dd':h'.DictOf (bA X.prog X.w) s.heap.objs.size (bY ps):=dd
 refine ⟨.ref s.heap.objs.size,_,I.laid (a:=s.heap.objs.size) (t':=tk) (o:=.dK (putAll kvs)) kp (zcH _) ⟨by have:=vj kvs;rw [sizeLine_eq];omega,beq_eq_false_iff_ne.mpr (Ne.symm (zcu I.big)),_,mV p1 .nil,dd'⟩,rfl,q _ (I.hok.fresh (zcH _))⟩
end
end L2
namespace M
open PySem PySem.Spec PyProof.Rows L2 M6
noncomputable def keyOf:D→Option Key
 | .int i=>some (.inl i)
 | .str x=>some (.inr x)
 | _=>none
noncomputable def kD:Key→D
 | .inl i=>.int i
 | .inr x=>.str x
noncomputable def oG (ks:List Key) (k:Key):Bool:=ks.any fun j=>decide (j=k)
section
variable {K:PySem.W.Frag}
theorem qE {w:Wd}{d:D}{v:V}{k:Key} (h:Rep K w d v) (e:keyOf d=some k):v=kV k:=by
 cases d <;> simp only [keyOf] at e <;> cases e
 ·simpa [Rep,kV] using h
 ·simpa [Rep,kV] using h
theorem EU {w:Wd}{S:av}{d:D}{v:V}{k:Key} (h:Rep K w d v) (e:keyOf (aV S d)=some k):v=kV k:=by
 cases z:aV S d <;> rw [z] at e <;> simp only [keyOf] at e <;> cases e
 ·exact cF h z
 ·exact bP h z
noncomputable def DS:AE:=fun _ S Q=>Q (.new (.dct [] [])) S
theorem E7:∀ σ H Q,bu K DS σ H Q→A8 σ H Q:=by
 rintro σ H Q ⟨w,δ,S,Qa,ok,env,q,bk⟩ p hp
 exact bk (.new (.dct [] [])) S _ w _ .refl (ok.alloc hp) (ok.fresh hp ⟨[],rfl,rfl,.nil⟩) q
noncomputable def wo (a b:AE):AE:=fun δ S Q=>a δ S fun r1 S1=>b δ S1 fun r2 S2=>∃ ks ds k d,aV S2 r1.d = .dct ks ds∧keyOf r2.d=some k∧nQ ks ds k=some d∧Q (.dat d) S2
theorem E8 {a b:AE}:∀ σ H Q,bu K (wo a b) σ H Q→A9 (bu K a) (bu K b) σ H Q:=by
 rintro σ H Q ⟨w,δ,S,Qa,ok,env,q,bk⟩
 refine ⟨w,δ,S,_,ok,env,q,.go fun r1 S1 v1 w1 H1 le1 ok1 rep1 q1 => ?_⟩
 refine ⟨w1,δ,S1,_,ok1,env.le le1,q1,.go fun r2 S2 v2 w2 H2 le2 ok2 rep2 ⟨ks,ds,k,d,z1,z2,z3,q2⟩ => ?_⟩
 obtain ⟨a,kvs,rfl,h1,rfl,h3⟩:=ic ok2 (rep1.le le2) z1
 obtain ⟨v,g1,g2⟩:=yv h3 z3
 rw [qE rep2 z2]
 refine ⟨a,v,rfl,?_,bk.dat (le1.trans le2) ok2 g2 q2⟩
 rw [← g1]
 exact iC.k h1
noncomputable def DQ (a b c:AE):AS:=fun D δ S=>c δ S fun r3 S1=>a δ S1 fun r1 S2=>b δ S2 fun r2 S3=>∃ n ks ds k,r1.d = .loc n∧keyOf r2.d=some k∧S3[n]? = some (some (.dct ks ds))∧ds.length<1000∧D.nx δ (S3.set n (some (nP ks ds k r3.d)))
theorem E5 {a b c:AE}:∀ D σ H,gf K (DQ a b c) D σ H→BK (bu K a) (bu K b) (bu K c) D σ H:=by
 rintro D σ H ⟨w,δ,S,Da,ok,env,q,bk⟩
 refine ⟨w,δ,S,_,ok,env,q,.go fun r3 S1 v3 w1 H1 le1 ok1 rep3 q1 => ?_⟩
 refine ⟨w1,δ,S1,_,ok1,env.le le1,q1,.go fun r1 S2 v1 w2 H2 le2 ok2 rep1 q2 => ?_⟩
 refine ⟨w2,δ,S2,_,ok2,(env.le le1).le le2,q2,.go fun r2 S3 v2 w3 H3 le3 lG rep2 ⟨n,ks,ds,k,z1,z2,z3,hl,q3⟩ => ?_⟩
 rw [z1] at rep1
 obtain ⟨a,kvs,rfl,h0,h1,rfl,h3⟩:=JZ lG (rep1.le le3) z3
 rw [qE rep2 z2]
 have hlen:kvs.length=ds.length:=by have:=h3.length;rw [zbP] at this;exact this
 refine ⟨a,_,rfl,wK.k h1 (by rw [hlen,sizeLine_eq];omega),?_⟩
 have ok4:=lG.put z3 h0 (sL (k:=k) (rep3.le (le2.trans le3)) h3)
 exact bk.nx δ _ σ w3 _ ((le1.trans le2).trans le3) ok4 (((env.le le1).le le2).le le3) q3
noncomputable def Al (neg:Bool):A2:=fun x y S Q=>match aV S y with
 | .dct ks _=>∃ k,keyOf (aV S x)=some k∧Q (.dat (.bl (neg != oG ks k))) S
 | _=>False
theorem HN {neg:Bool}:∀ x y H Q,ud K (Al neg) x y H Q→Jh neg x y H Q:=by
 intro x y H Q h
 obtain ⟨w,d,e,S,Qa,ok,r1,r2,q,bk⟩:=h
 unfold Al at q
 cases z:aV S e <;> rw [z] at q <;> first | exact q.elim | skip
 obtain ⟨k,z1,q⟩:=q
 obtain ⟨a,kvs,rfl,h1,rfl,h3⟩:=ic ok r2 z
 refine ⟨a,kvs,k,rfl,EU r1 z1,h1,bk.dat .refl ok .bl ?_⟩
 have e2:oG (kvs.map (·.1)) k=(fk kvs k).isSome:=by
  unfold oG
  rw [zcq]
  exact lY k kvs
 rw [← e2];exact q
noncomputable def AB (a:List Key×List D) (p:Key×D):List Key×List D:=if oG a.1 p.1=true then (a.1,(a.1.zip a.2).map fun x=>if x.1=p.1 then p.2 else x.2) else (a.1++[p.1],a.2++[p.2])
noncomputable def rm (ps:List (Key×D)):List Key×List D:=ps.foldl AB ([],[])
noncomputable def KJ:AN:=fun ds S Q=>∃ d,∃ ps:List (Key×D),ds=[d]∧aV S d = .lst (ps.map fun p=>.tup [kD p.1,p.2])∧ps.length≤1000∧Q (.new (.dct (rm ps).1 (rm ps).2)) S
theorem Gk (a:List Key×List D) (p:Key×D):nP a.1 a.2 p.1 p.2 = .dct (AB a p).1 (AB a p).2:=by
 unfold nP AB oG
 split <;> rfl
theorem t7 {w:Wd}:∀ {ps:List (Key×D)}{kvs:List (Key×V)},Paired (fun (p:Key×D) (q:Key×V)=>p.1=q.1∧Rep K w p.2 q.2) ps kvs→∀ {a:List Key×List D}{b:List (Key×V)},b.map (·.1)=a.1→ak K w a.2 (b.map (·.2)) →
  (kvs.foldl (fun acc p=>putK acc p.1 p.2) b).map (·.1)=(ps.foldl AB a).1∧ak K w (ps.foldl AB a).2 ((kvs.foldl (fun acc p=>putK acc p.1 p.2) b).map (·.2))
 | [],_,h,a,b,g1,g2=>by cases h;exact ⟨g1,g2⟩
 | p::ps,_,h,a,b,g1,g2=>by
  cases h with
  | @cons _ q _ kvs r t =>
   have hr:=sL (K:=K) (k:=p.1) r.2 g2
   rw [g1] at hr
   rw [show nP a.1 a.2 p.1 p.2=_ from Gk a p] at hr
   obtain ⟨kvs',e1,e2,e3⟩:=hr
   injection e1 with e1
   subst e1
   rw [r.1] at e2 e3
   exact t7 t e2 e3
theorem pA {w:Wd}{H:Hp}{S:av} (ok:Ok K w H S):∀ {ps:List (Key×D)}{xs:List V},ak K w (ps.map fun p=>D.tup [kD p.1,p.2]) xs→∃ ts kvs,xs=ts.map V.ref∧KP H ts kvs∧Paired (fun (p:Key×D) (q:Key×V)=>p.1=q.1∧Rep K w p.2 q.2) ps kvs
 | [],xs,h=>⟨[],[],by simpa [ak] using h,.nil,.nil⟩
 | p::ps,xs,h=>by
  simp only [zcj,ak] at h
  obtain ⟨x,r,rfl,h1,h2⟩:=h
  obtain ⟨ts,kvs,rfl,g1,g2⟩:=pA ok h2
  simp only [Rep] at h1
  obtain ⟨t,ys,rfl,hB,hy⟩:=h1
  simp only [ak] at hy
  obtain ⟨y1,r1,rfl,k1,y2,r2,rfl,k2,rfl⟩:=hy
  have e1:y1=kV p.1:=qE k1 (by cases p.1 <;> rfl)
  subst e1
  exact ⟨t::ts,(p.1,y2)::kvs,rfl,.cons (ok.base _ _ hB) g1,.cons ⟨rfl,k2⟩ g2⟩
end
section
variable {X:Cx}{o i value:Expr}{pos pos':Pos}
theorem jv:GE X (.Dict [] [] pos) DS:=⟨mE L2.jv E7⟩
theorem jw {ta tb:AE} (hu:X.A.units+1<cLine) (ho:GE X o ta) (hi:GE X i tb) (hs:G0 i):GE X (.Subscript o i pos) (wo ta tb):=⟨mE (L2.cV hu ho.p hi.p hs) E8⟩
theorem sN {ta tb tc:AE} (hu:X.A.units+1<cLine) (ho:GE X o ta) (hi:GE X i tb) (hv:GE X value tc) (hs:swapsWith value (some (.Subscript o i pos')) pos.line X.env=pure false):GS X (.Assign [.Subscript o i pos'] value pos) (DQ ta tb tc) :=
 ⟨mS (L2.jr hu ho.p hi.p hv.p hs) E5⟩
theorem LZ {k:Nat} (hr:aS k X.A):pW X (compareOp .In) (Al false):=⟨m2 (Jr (jD hr)) HN⟩
theorem Ci {k:Nat} (hr:aS k X.A):pW X (compareOp .NotIn) (Al true):=⟨m2 (zG (jD hr)) HN⟩
theorem FE {k:Nat} (hr:aS k X.A):uS X (.type "dict") KJ:=⟨mC (wk hr) fun xs H Q h=>by
 obtain ⟨w,ds,S,Qa,ok,rep,⟨d,ps,rfl,z,hl,q⟩,bk⟩:=h
 obtain ⟨v,rfl,r1⟩:=c7 rep
 obtain ⟨a,xs,rfl,h1,h2⟩:=aX ok r1 z
 obtain ⟨ts,kvs,rfl,g1,g2⟩:=pA ok h2
 have hlen:=Paired.length g2
 obtain ⟨e1,e2⟩:=t7 g2 (a:=([],[])) (b:=[]) rfl .nil
 exact ⟨a,ts,kvs,rfl,h1,g1,by omega,fun p hp=>bk (.new (.dct (rm ps).1 (rm ps).2)) S _ w _ .refl (ok.alloc hp) (ok.fresh hp ⟨_,rfl,e1,e2⟩) q⟩⟩
end
noncomputable def nF (W:World) (ks:List D):Addr→List Addr→Heap→Prop:=fun a bs=>kU W a ((ks.map py).zip bs)
noncomputable def nO (W:World) (ks:List D):MO:=.Ex (nF W ks) ks
noncomputable def iM (d:D):Prop:=cg d=true∧cj (py d)=true∧(py d).depth≤6∧∃ es,d = .tup es
noncomputable def putN (ks:List D) (k:D):List D:=if (ks.any fun j=>decide (py j=py k))=true then ks else ks++[k]
section
variable {K:PySem.W.Frag}
theorem nI {w:Wd}{H:Hp}{S:av}{d:D}{v:V} (ok:Ok K w H S) (h:Rep K w d v) (g:iM d):∃ b,v = .ref b∧bE K H (py d) (.ref b):=by
 obtain ⟨g1,g2,g3,es,rfl⟩:=g
 have h2:=h
 simp only [Rep] at h2
 obtain ⟨b,ys,rfl,_⟩:=h2
 have:=qp ok h (by simpa [aV] using g1)
 exact ⟨b,rfl,by simpa [aV] using this⟩
theorem gA {w:Wd}{H:Hp}{S:av} (ok:Ok K w H S):∀ {ks:List D}{bs:List Addr},ak K w ks (bs.map V.ref)→(∀ k∈ks,iM k)→pZ K H ((ks.map py).zip bs)
 | [],bs,_,_=>fun x hx=>by simp at hx
 | k::ks,[],h,_=>by simp only [zcp,ak] at h;obtain ⟨_,_,z,_⟩:=h;cases z
 | k::ks,b::bs,h,g=>by
  simp only [zcj,ak] at h
  obtain ⟨x,r,e,h1,h2⟩:=h
  injection e with e1 e2
  subst e1;subst e2
  intro y hy
  rw [zcj,zaV] at hy
  rcases zci.mp hy with rfl | hy
  ·obtain ⟨b',e,hd⟩:=nI ok h1 (g k (by simp))
   cases e
   exact ⟨(g k (by simp)).2.1,(g k (by simp)).2.2.1,hd⟩
  ·exact gA ok h2 (fun k hk=>g k (zaC _ hk)) y hy
noncomputable def DR (W:World):AE:=fun _ S Q=>Q (.new (nO W [])) S
theorem E6 {W:World}:∀ σ H Q,bu K (DR W) σ H Q→A7 W σ H Q:=by
 rintro σ H Q ⟨w,δ,S,Qa,ok,env,q,bk⟩ p hp
 exact bk (.new (nO W [])) S _ w _ .refl (ok.alloc hp) (ok.fresh hp ⟨p,[],rfl,.nil⟩) q
noncomputable def DL (W:World) (a b c:AE):AS:=fun D δ S=>c δ S fun r3 S1=>a δ S1 fun r1 S2=>b δ S2 fun r2 S3=>∃ n ks,r3.d = .bl true∧r1.d = .loc n∧S3[n]? = some (some (nO W ks))∧iM r2.d∧(∀ k∈ks,iM k)∧ks.length<1000∧D.nx δ (S3.set n (some (nO W (putN ks r2.d))))
theorem B4 {ks:List D}{bs:List Addr}{k:D}{b:Addr} (h:ks.length=bs.length):∃ bs',vm ((ks.map py).zip bs) (py k) b=((putN ks k).map py).zip bs'∧(bs'=bs∧putN ks k=ks∨bs'=bs++[b]∧putN ks k=ks++[k]):=by
 have e:(((ks.map py).zip bs).any fun x=>decide (x.1=py k))=(ks.any fun j=>decide (py j=py k)):=by
  have:((ks.map py).zip bs).map (·.1)=ks.map py:=zbG (by rw [zbP];omega)
  have h1:(((ks.map py).zip bs).any fun x=>decide (x.1=py k))=((((ks.map py).zip bs).map (·.1)).any fun d=>decide (d=py k)):=by rw [zcq];rfl
  rw [h1,this,zcq];rfl
 unfold vm putN
 rw [e]
 by_cases hc:(ks.any fun j=>decide (py j=py k))=true
 ·rw [if_pos hc,if_pos hc]
  exact ⟨bs,rfl,.inl ⟨rfl,rfl⟩⟩
 ·rw [if_neg hc,if_neg hc]
  refine ⟨bs++[b],?_,.inr ⟨rfl,rfl⟩⟩
  rw [zbV,List.zip_append (by rw [zbP];exact h)];rfl
theorem IK {W:World}{a b c:AE}:∀ D σ H,gf K (DL W a b c) D σ H→Hh K W (bu K a) (bu K b) (bu K c) D σ H:=by
 rintro D σ H ⟨w,δ,S,Da,ok,env,q,bk⟩
 refine ⟨w,δ,S,_,ok,env,q,.go fun r3 S1 v3 w1 H1 le1 ok1 rep3 q1 => ?_⟩
 refine ⟨w1,δ,S1,_,ok1,env.le le1,q1,.go fun r1 S2 v1 w2 H2 le2 ok2 rep1 q2 => ?_⟩
 refine ⟨w2,δ,S2,_,ok2,(env.le le1).le le2,q2,.go fun r2 S3 v2 w3 H3 le3 lG rep2 ⟨n,ks,z0,z1,z2,g1,g2,hl,q3⟩ => ?_⟩
 rw [z1] at rep1
 have rep1:=rep1.le le3
 simp only [Rep] at rep1
 obtain ⟨a,h0,rfl⟩:=rep1
 obtain ⟨a1,u,k1,k2,k3,a',bs,rfl,k5⟩:=lG.live n _ z2
 rw [h0] at k1;cases k1
 obtain ⟨b,rfl,hb⟩:=nI lG rep2 g1
 have hlen:ks.length=bs.length:=by have:=k5.length;rw [zbP] at this;exact this.symm
 refine ⟨a,a',b,_,py r2.d,?_,rfl,rfl,k3,gA lG k5 g2,g1.2.1,g1.2.2.1,hb,?_,fun e => ?_⟩
 ·rw [mP rep3 z0]
 ·rw [zbX,zbP];omega
 ·subst e
  obtain ⟨bs',e1,e2⟩:=B4 (k:=r2.d) (b:=b) hlen
  rw [e1]
  refine bk.nx δ _ σ w3 _ ((le1.trans le2).trans le3) (lG.put z2 h0 (o':=nO W (putN ks r2.d)) ⟨a',bs',rfl,?_⟩) (((env.le le1).le le2).le le3) q3
  rcases e2 with ⟨rfl,e⟩ | ⟨rfl,e⟩
  ·rw [e];exact k5
  ·rw [e,zbV];exact k5.snoc rep2
theorem p6 {w:Wd}:∀ {ks:List D}{bs:List Addr},ak K w ks (bs.map V.ref)→∀ x∈ks.zip bs,Rep K w x.1 (.ref x.2)
 | [],_,_,x,hx=>by simp at hx
 | _::_,[],_,x,hx=>by simp at hx
 | k::ks,b::bs,h,x,hx=>by
  simp only [zcj,ak] at h
  obtain ⟨y,r,e,h1,h2⟩:=h
  injection e with e1 e2
  subst e1;subst e2
  rw [zaV] at hx
  rcases zci.mp hx with rfl | hx
  ·exact h1
  ·exact p6 h2 x hx
theorem eW {w:Wd}:∀ {o:List (D×Addr)},(∀ x∈o,Rep K w x.1 (.ref x.2))→ak K w (o.map (·.1)) (o.map fun x=>V.ref x.2)
 | [],_=>.nil
 | x::o,h=>.cons (h x (by simp)) (eW fun y hy=>h y (zaC _ hy))
end
section
variable {X:Cx}{o i value:Expr}{pos pos':Pos}
theorem ju:GE X (.Dict [] [] pos) (DR X.w):=⟨mE L2.ju E6⟩
theorem jq {k:Nat} (hr:aS k X.A) {ta tb tc:AE} (ho:GE X o ta) (hi:GE X i tb) (hv:GE X value tc) (hs:swapsWith value (some (.Subscript o i pos')) pos.line X.env=pure false):GS X (.Assign [.Subscript o i pos'] value pos) (DL X.w ta tb tc) :=
 ⟨mS (L2.jq (by have:=hr.units;omega) ho.p hi.p hv.p hs) IK⟩
end
end M
namespace M8
open PySem PySem.Spec PyProof.Rows
open PySem.SetTable (Probe bits runEnd leap turns)
noncomputable def Ph (m:Nat) (p:Probe):Probe :=
 if p.more > 0 then { p with j:=p.j+1,more:=p.more - 1 } else
 { p with j:=(leap m p.i p.perturb).1,more:=runEnd m (leap m p.i p.perturb).1 - (leap m p.i p.perturb).1,i:=(leap m p.i p.perturb).1,perturb:=(leap m p.i p.perturb).2 }
theorem OU (t:SetTable) (p:Probe):t.advance p=Ph t.mask p:=rfl
noncomputable def at0 (m:Nat) (q:Nat×Nat):Probe:={ j:=q.1,more:=runEnd m q.1 - q.1,i:=q.1,perturb:=q.2,dummy:=none }
noncomputable def ru (m:Nat) (h:Int):Nat→Nat×Nat
 | 0=>(bits h % (m+1),bits h)
 | k+1=>leap m (ru m h k).1 (ru m h k).2
noncomputable def road (m:Nat) (h:Int):Nat→Probe
 | 0=>at0 m (ru m h 0)
 | n+1=>Ph m (road m h n)
theorem Lg (t:SetTable) (h:Int):t.probeStart h=road t.mask h 0:=rfl
noncomputable def lcg (m i:Nat):Nat:=(i*5+1) % (m+1)
noncomputable def it (m:Nat):Nat→Nat→Nat
 | 0,i=>i
 | k+1,i=>it m k (lcg m i)
noncomputable abbrev Ent:=Nat×(Int×Value)
noncomputable def fs (l:List Ent):List Nat:=l.map (·.1)
section
variable {t:SetTable}{es:Array (Int×Value)}{l:List Ent}
noncomputable def more (l:List Ent) (p:Nat) (e:Ent):List Ent:=l.take p++e::l.drop p
end
end M8
namespace L2
open PySem PySem.Spec PyProof.Rows M6 M8
section
variable {X:Cx}{e:Expr}{ta:TE}{p p2 pos pos2:Pos}
theorem eT {α:Type} (f:α→Addr):∀ {l:List α}{us:List Value},Vals (l.map fun x=>V.ref (f x)) us→us=l.map fun x=>Value.ref (f x)
 | [],us,h=>by cases h;rfl
 | x::l,us,h=>by
  cases h with
  | cons h1 h2=>cases h1;rw [eT f h2];rfl
end
end L2
namespace M
open PySem PySem.Spec PyProof.Rows L2 M6
section
variable {K:PySem.W.Frag}
theorem j6 {w:Wd}:∀ {ks:List D}{xs:List V},ak K w ks xs→(∀ k∈ks,∃ es,k = .tup es)→∃ bs:List Addr,xs=bs.map V.ref
 | [],xs,h,_=>by simp only [ak] at h;exact ⟨[],h⟩
 | k::ks,xs,h,g=>by
  simp only [ak] at h
  obtain ⟨x,r,rfl,h1,h2⟩:=h
  obtain ⟨es,rfl⟩:=g k (by simp)
  simp only [Rep] at h1
  obtain ⟨b,ys,rfl,_⟩:=h1
  obtain ⟨bs,rfl⟩:=j6 h2 fun k hk=>g k (zaC _ hk)
  exact ⟨b::bs,rfl⟩
end
end M
namespace M9
open PySem PySem.Spec PyProof.Rows
section
variable {prog:Program}{w:World}{A:Around}{E:Value→Shared→Prop}{s:Shared}
noncomputable abbrev NR (l:Addr):Obj:={ cls:=.type "tuple_iterator",data:=.fields #[.ref l,.int 0 0] }
noncomputable abbrev O9 (a b:Value):Obj:={ cls:=.type "tuple",data:=.seq #[a,b] }
noncomputable abbrev zO (a b:Addr):Obj:={ cls:=.type "zip",data:=.fields #[.none,.bool false,.bool false,.ref a,.ref b] }
noncomputable abbrev q2 (h:Heap) (l1 l2:Addr):Heap:=(h.push (NR l1)).push (NR l2)
noncomputable abbrev q3 (h:Heap) (l1 l2:Addr):Heap:=(q2 h l1 l2).push (O9 (.ref h.objs.size) (.ref (h.push (NR l1)).objs.size))
noncomputable abbrev q4 (h:Heap) (l1 l2:Addr):Heap:=(q3 h l1 l2).push (O9 .none .none)
noncomputable abbrev q5 (h:Heap) (l1 l2:Addr):Heap:=(q4 h l1 l2).push (zO (q2 h l1 l2).objs.size (q3 h l1 l2).objs.size)
end
end M9
namespace L2
open PySem PySem.Spec PyProof.Rows M9
section
variable {X:Cx}{pins:List (Addr×Obj)}{σ:List (Option V)}{H:Hp}{s:Shared}{h':Heap}
theorem Inv.wO {t':Nat}{ch:List Addr} (I:Inv X pins σ H s) (k:∀ b o,b ∉ ch→s.heap.get? b=some o→h'.get? b=some o) (hf:∀ b∈ch,kH X pins H b):Inv X pins σ H { s with heap:=h',toks:=t' }:=by
 have nit:∀ b u,H b=some u→b ∉ ch:=fun b u e z=>by rw [(hf b z).1] at e;cases e
 refine I.step (g':=s.gens) (d':=s.drawn) (ch:=ch) (fun b hb => ?_) (fun b o _ _ hc e _=>k b o hc e) (fun b o _ _ hc e _=>⟨o.slots,k b o hc e⟩) (fun _ _ _ _ n=>n)
  (fun b o hc e=>⟨o,k b o hc e⟩) (fun _ _ e=>e) (fun _ _ _ e=>e) (fun b ps e=>⟨#[],by rw [e];simp⟩) (fun m hm => ?_) (fun b u e => ?_) I.bare
 ·exact ⟨(hf b hb).2.2.2.1,(hf b hb).2.1,(hf b hb).2.2.2.2.1,(hf b hb).2.2.2.2.2⟩
 ·obtain ⟨o,es,ep,ho,r⟩:=hm
  exact ⟨o,es,ep,k _ o (fun z=>(hf _ z).2.1 rfl) ho,r⟩
 ·refine (I.hok b u e).stay (fun c v hc q=>k c v ?_ q) (fun _ q=>q) fun _ _ q=>q
  rcases hc with z | z
  ·rw [z];exact nit b u e
  ·exact nit c _ z
end
end L2
namespace M10
open PySem PyProof.Rows
noncomputable def qZ:Bool→Keyed→Array Keyed→Nat→Nat→Nat→StateT SortSt Sem (Option Nat):=sortPriv% PySem.Builtin.gallop
noncomputable def Cw:Array Keyed→Array Keyed→StateT SortSt Sem (Array Keyed):=sortPriv% PySem.Builtin.mergeLo
noncomputable def Cy:Array Keyed→Array Keyed→StateT SortSt Sem (Array Keyed):=sortPriv% PySem.Builtin.mergeHi
noncomputable def beyond (left:Bool) (key:Keyed) (arr:Array Keyed) (base i:Nat):StateT SortSt Sem (Option Bool):=do
 let x ← elem' arr (base+i)
 if left then lt' x key else return (← lt' key x).map (!·)
noncomputable def yt (left:Bool) (key:Keyed) (arr:Array Keyed) (base n lo hi:Nat):StateT SortSt Sem (Option Nat):=do
 let mut lo:=lo
 let mut hi:=hi
 for _ in [0:n] do
  if lo≥hi then break
  let m:=lo+(hi - lo) / 2
  let some more ← beyond left key arr base m | return none
  if more then lo:=m+1 else hi:=m
 return some hi
section
variable {prog:Program}{w:World}{A:Around}{E:Value→Shared→Prop}{s:Shared}
theorem tQ {left:Bool}{key:Keyed}{arr:Array Keyed}{base n lo hi:Nat}{st:SortSt}{Q:Option Nat→SortSt→Prop}{P:Nat→Bool} (hP:∀ i j,i≤j→j<n→P j=true→P i=true)
  (hb:∀ i,i<n→∀ Q:Option Bool→SortSt→Prop,Q (some (P i)) st→wpS (model prog w) A E s (beyond left key arr base i) Q st)
  (h1:lo≤hi) (h2:hi≤n) (h3:∀ i,i<lo→P i=true) (h4:∀ i,hi≤i→i<n→P i=false)
  (h:∀ k,k≤n→(∀ i,i<k→P i=true)→(∀ i,k≤i→i<n→P i=false)→Q (some k) st):wpS (model prog w) A E s (yt left key arr base n lo hi) Q st:=by
 unfold yt
 dsimp only
 refine wpS_bind (wpS_mono (wpS_forRange
  (I:=fun x c st'=>st'=st∧∃ l r,c=(none,l,r)∧l≤r∧r≤n∧r - l≤n - x∧(∀ i,i<l→P i=true)∧∀ i,r≤i→i<n→P i=false)
  (Q:=fun c st'=>st'=st∧∃ k,c=(none,k,k)∧k≤n∧(∀ i,i<k→P i=true)∧∀ i,k≤i→i<n→P i=false) ?step ?fin ⟨rfl,lo,hi,rfl,h1,h2,by omega,h3,h4⟩) ?post)
 case post =>
  rintro c st' ⟨rfl,k,rfl,k1,k2,k3⟩
  exact wpS_pure (h k k1 k2 k3)
 case fin =>
  rintro c st' ⟨rfl,l,r,rfl,a1,a2,a3,a4,a5⟩
  obtain rfl:l=r:=by omega
  exact ⟨rfl,l,rfl,a2,a4,a5⟩
 case step =>
  rintro x c st' _ hx ⟨rfl,l,r,rfl,a1,a2,a3,a4,a5⟩
  dsimp only
  by_cases hge:l≥r
  ·rw [if_pos hge]
   obtain rfl:l=r:=by omega
   exact wpS_pure ⟨rfl,l,rfl,a2,a4,a5⟩
  ·rw [if_neg hge]
   refine wpS_bind (hb _ (by omega) _ ?_)
   dsimp only
   cases hm:P (l+(r - l) / 2) with
   | true =>
    rw [if_pos rfl]
    refine wpS_pure ⟨rfl,_,_,rfl,by omega,a2,by omega,fun i hi => ?_,a5⟩
    exact hP i _ (by omega) (by omega) hm
   | false =>
    rw [if_neg (by decide)]
    refine wpS_pure ⟨rfl,_,_,rfl,by omega,by omega,by omega,a4,fun i h1 h2 => ?_⟩
    cases hi:P i with
    | false=>rfl
    | true=>rw [hP _ i h1 h2 hi] at hm;cases hm
theorem Pf {left:Bool}{key:Keyed}{arr:Array Keyed}{base n hint:Nat}{st:SortSt}{Q:Option Nat→SortSt→Prop}{P:Nat→Bool} (hh:hint<n) (hP:∀ i j,i≤j→j<n→P j=true→P i=true)
  (hb:∀ i,i<n→∀ Q:Option Bool→SortSt→Prop,Q (some (P i)) st→wpS (model prog w) A E s (beyond left key arr base i) Q st)
  (h:∀ k,k≤n→(∀ i,i<k→P i=true)→(∀ i,k≤i→i<n→P i=false)→Q (some k) st):wpS (model prog w) A E s (qZ left key arr base n hint) Q st:=by
 have hN:∀ i j,i≤j→j<n→P i=false→P j=false:=fun i j h1 h2 h3=>by
  cases hj:P j with
  | false=>rfl
  | true=>rw [hP i j h1 h2 hj] at h3;cases h3
 refine wpS_bind (hb hint hh _ ?_)
 dsimp only
 cases hr:P hint with
 | true =>
  rw [if_pos rfl]
  refine wpS_bind (wpS_mono (wpS_forRange
   (I:=fun x c st'=>st'=st∧∃ l o,c=(none,l,o)∧l<o∧hint+l<n∧P (hint+l)=true∧x+1≤o)
   (Q:=fun c st'=>st'=st∧∃ l o,c=(none,l,o)∧l<o∧hint+l<n∧P (hint+l)=true∧(n - hint≤o∨(hint+o<n∧P (hint+o)=false))) ?step ?fin ⟨rfl,0,1,rfl,by omega,by omega,hr,by omega⟩) ?post)
  case fin =>
   rintro c st' ⟨rfl,l,o,rfl,a1,a2,a3,a4⟩
   exact ⟨rfl,l,o,rfl,a1,a2,a3,.inl (by omega)⟩
  case step =>
   rintro x c st' _ hx ⟨rfl,l,o,rfl,a1,a2,a3,a4⟩
   dsimp only
   by_cases hge:o≥n - hint
   ·rw [if_pos hge]
    exact wpS_pure ⟨rfl,l,o,rfl,a1,a2,a3,.inl hge⟩
   ·rw [if_neg hge]
    refine wpS_bind (hb _ (by omega) _ ?_)
    dsimp only
    cases hm:P (hint+o) with
    | true =>
     rw [if_neg (by decide)]
     exact wpS_pure ⟨rfl,o,2*o+1,rfl,by omega,by omega,hm,by omega⟩
    | false =>
     rw [if_pos (by decide)]
     exact wpS_pure ⟨rfl,l,o,rfl,a1,a2,a3,.inr ⟨by omega,hm⟩⟩
  case post =>
   rintro c st' ⟨rfl,l,o,rfl,a1,a2,a3,a4⟩
   show wpS _ _ _ _ (yt left key arr base n (hint+l+1) (hint+min o (n - hint))) _ _
   refine tQ hP hb (by omega) (by omega) (fun i hi=>hP i _ (by omega) (by omega) a3) (fun i h1 h2 => ?_) h
   rcases a4 with a4 | ⟨a4,a5⟩
   ·omega
   ·exact hN _ i (by omega) h2 a5
 | false =>
  rw [if_neg (by decide)]
  refine wpS_bind (wpS_mono (wpS_forRange
   (I:=fun x c st'=>st'=st∧∃ l o,c=(none,l,o)∧l<o∧l≤hint∧P (hint - l)=false∧x+1≤o)
   (Q:=fun c st'=>st'=st∧∃ l o,c=(none,l,o)∧l<o∧l≤hint∧P (hint - l)=false∧(hint+1≤o∨(o≤hint∧P (hint - o)=true))) ?step ?fin ⟨rfl,0,1,rfl,by omega,by omega,hr,by omega⟩) ?post)
  case fin =>
   rintro c st' ⟨rfl,l,o,rfl,a1,a2,a3,a4⟩
   exact ⟨rfl,l,o,rfl,a1,a2,a3,.inl (by omega)⟩
  case step =>
   rintro x c st' _ hx ⟨rfl,l,o,rfl,a1,a2,a3,a4⟩
   dsimp only
   by_cases hge:o≥hint+1
   ·rw [if_pos hge]
    exact wpS_pure ⟨rfl,l,o,rfl,a1,a2,a3,.inl hge⟩
   ·rw [if_neg hge]
    refine wpS_bind (hb _ (by omega) _ ?_)
    dsimp only
    cases hm:P (hint - o) with
    | true =>
     rw [if_pos rfl]
     exact wpS_pure ⟨rfl,l,o,rfl,a1,a2,a3,.inr ⟨by omega,hm⟩⟩
    | false =>
     rw [if_neg (by decide)]
     exact wpS_pure ⟨rfl,o,2*o+1,rfl,by omega,by omega,hm,by omega⟩
  case post =>
   rintro c st' ⟨rfl,l,o,rfl,a1,a2,a3,a4⟩
   show wpS _ _ _ _ (yt left key arr base n (hint+1 - min o (hint+1)) (hint - l)) _ _
   refine tQ hP hb (by omega) (by omega) (fun i hi => ?_) (fun i h1 h2=>hN _ i h1 h2 a3) h
   rcases a4 with a4 | ⟨a4,a5⟩
   ·omega
   ·exact hP i _ (by omega) (by omega) a5
end
noncomputable def Iz:Nat→StateT SortSt Sem Unit:=sortPriv% PySem.Builtin.setMinGallop
section
variable {R:Keyed→Int}
noncomputable def bg (R:Keyed→Int) (l:List Keyed):Prop:=l.Pairwise fun a b=>R a≤R b
structure MI (R:Keyed→Int) (X Y o:List Keyed) (i j:Nat):Prop where
 perm:(o++(X.drop i++Y.drop j)).Perm (X++Y)
 so:bg R o
 le:∀ a∈o,∀ b∈X.drop i++Y.drop j,R a≤R b
theorem bg.drop {l:List Keyed} (h:bg R l) (n:Nat):bg R (l.drop n):=h.sublist (List.drop_sublist n l)
theorem bg.take {l:List Keyed} (h:bg R l) (n:Nat):bg R (l.take n):=h.sublist (zbi n l)
theorem bg.app {l m:List Keyed} (h:bg R l) (g:bg R m) (c:∀ a∈l,∀ b∈m,R a≤R b):bg R (l++m):=zaF.mpr ⟨h,g,c⟩
theorem bg.at {l:List Keyed} (h:bg R l) {i j:Nat} (hij:i≤j) (hj:j<l.length) (hi:i<l.length):R l[i]≤R l[j]:=by
 rcases Nat.eq_or_lt_of_le hij with e | e
 ·subst e;exact zcK _
 ·exact (zai.mp h) i j hi hj e
theorem bg.ge {l:List Keyed} (h:bg R l) {i:Nat} (hi:i<l.length):∀ b∈l.drop i,R l[i]≤R b:=fun b hb=>by
 obtain ⟨k,hk,rfl⟩:=zaL hb
 rw [zbz] at hk
 rw [zbn]
 exact h.at (by omega) (by omega) hi
theorem MI.xs {X Y o:List Keyed}{i j:Nat} (M:MI R X Y o i j) (hX:bg R X) (k:Nat) (h:∀ a∈(X.drop i).take k,∀ b∈Y.drop j,R a≤R b):MI R X Y (o++(X.drop i).take k) (i+k) j:=by
 have e:X.drop i=(X.drop i).take k++X.drop (i+k):=by rw [← List.drop_drop];exact (zaw k _).symm
 refine ⟨?_,M.so.app ((hX.drop i).take k) fun a ha b hb=>M.le a ha b (zaD _ (zaG hb)),fun a ha b hb => ?_⟩
 ·refine List.Perm.trans ?_ M.perm
  rw [zbk,← zbk ((X.drop i).take k),← e]
 ·rcases zbO.mp ha with ha | ha
  ·refine M.le a ha b ?_
   rcases zbO.mp hb with hb | hb
   ·exact zaD _ (by rw [e];exact zau _ hb)
   ·exact zau _ hb
  ·rcases zbO.mp hb with hb | hb
   ·have:=hX.drop i
    rw [e] at this
    exact (zaF.mp this).2.2 a ha b hb
   ·exact h a ha b hb
theorem MI.ys {X Y o:List Keyed}{i j:Nat} (M:MI R X Y o i j) (hY:bg R Y) (k:Nat) (h:∀ a∈(Y.drop j).take k,∀ b∈X.drop i,R a≤R b):MI R X Y (o++(Y.drop j).take k) i (j+k):=by
 have e:Y.drop j=(Y.drop j).take k++Y.drop (j+k):=by rw [← List.drop_drop];exact (zaw k _).symm
 refine ⟨?_,M.so.app ((hY.drop j).take k) fun a ha b hb=>M.le a ha b (zau _ (zaG hb)),fun a ha b hb => ?_⟩
 ·refine List.Perm.trans ?_ M.perm
  rw [zbk]
  refine List.Perm.append_left o ?_
  conv=>rhs;rw [e]
  rw [← zbk,← zbk]
  exact List.Perm.append_right _ zax
 ·rcases zbO.mp ha with ha | ha
  ·refine M.le a ha b ?_
   rcases zbO.mp hb with hb | hb
   ·exact zaD _ hb
   ·exact zau _ (by rw [e];exact zau _ hb)
  ·rcases zbO.mp hb with hb | hb
   ·exact h a ha b hb
   ·have:=hY.drop j
    rw [e] at this
    exact (zaF.mp this).2.2 a ha b hb
theorem take1 {l:List Keyed}{i:Nat} (hi:i<l.length):(l.drop i).take 1=[l[i]]:=by
 rw [zah hi];rfl
theorem MI.x1 {X Y o:List Keyed}{i j:Nat} (M:MI R X Y o i j) (hX:bg R X) (hi:i<X.length) (h:∀ b∈Y.drop j,R X[i]≤R b):MI R X Y (o++[X[i]]) (i+1) j:=by
 have:=M.xs hX 1 fun a ha b hb=>by rw [take1 hi] at ha;rw [zaW.mp ha];exact h b hb
 rw [take1 hi] at this;exact this
theorem MI.y1 {X Y o:List Keyed}{i j:Nat} (M:MI R X Y o i j) (hY:bg R Y) (hj:j<Y.length) (h:∀ b∈X.drop i,R Y[j]≤R b):MI R X Y (o++[Y[j]]) i (j+1):=by
 have:=M.ys hY 1 fun a ha b hb=>by rw [take1 hj] at ha;rw [zaW.mp ha];exact h b hb
 rw [take1 hj] at this;exact this
noncomputable def Told (R:Keyed→Int) (X Y:List Keyed) (r:Array Keyed):Prop:=bg R r.toList∧r.toList.Perm (X++Y)
theorem MI.OF {X Y o:List Keyed}{i j:Nat} (M:MI R X Y o i j) (hX:bg R X) (hj:Y.length≤j):bg R (o++X.drop i)∧(o++X.drop i).Perm (X++Y):=by
 have e:Y.drop j=[]:=zaq hj
 refine ⟨M.so.app (hX.drop i) fun a ha b hb=>M.le a ha b (zaD _ hb),?_⟩
 have:=M.perm
 rw [e,zbQ] at this;exact this
theorem MI.OE {X Y o:List Keyed}{i j:Nat} (M:MI R X Y o i j) (hY:bg R Y) (hi:X.length≤i):bg R (o++Y.drop j)∧(o++Y.drop j).Perm (X++Y):=by
 have e:X.drop i=[]:=zaq hi
 refine ⟨M.so.app (hY.drop j) fun a ha b hb=>M.le a ha b (zau _ hb),?_⟩
 have:=M.perm
 rw [e,zbU] at this;exact this
theorem MI.last {X Y o:List Keyed}{i j:Nat} (M:MI R X Y o i j) (hX:bg R X) (hY:bg R Y) (h:∀ a∈Y.drop j,∀ b∈X.drop i,R a≤R b):bg R (o++Y.drop j++X.drop i)∧(o++Y.drop j++X.drop i).Perm (X++Y):=by
 refine ⟨(M.so.app (hY.drop j) fun a ha b hb=>M.le a ha b (zau _ hb)).app (hX.drop i) fun a ha b hb => ?_,?_⟩
 ·rcases zbO.mp ha with ha | ha
  ·exact M.le a ha b (zaD _ hb)
  ·exact h a ha b hb
 ·rw [zbk]
  exact (List.Perm.append_left o zax).trans M.perm
end
section
variable {prog:Program}{w:World}{A:Around}{E:Value→Shared→Prop}{s:Shared}{R:Keyed→Int}{κ:SortKind}{T:Keyed→Prop}
noncomputable def rN (prog:Program) (w:World) (A:Around) (s:Shared) (κ:SortKind) (R:Keyed→Int) (T:Keyed→Prop):Prop :=
 ∀ x y,T x→T y→∀ (E:Value→Shared→Prop) (Q:Bool→Shared→Prop),Q (decide (R x<R y)) s→wpAny (model prog w) A (keyLt' κ x.1 y.1) Q E s
theorem sZ (C:rN prog w A s κ R T) {x y:Keyed}{st:SortSt}{Q:Option Bool→SortSt→Prop} (hk:kindOf st=κ) (hx:T x) (hy:T y) (h:Q (some (decide (R x<R y))) st):wpS (model prog w) A E s (lt' x y) Q st:=by
 rw [lt'_eq]
 refine wpS_bind (wpS_get ?_)
 rw [hk]
 refine wpS_bind (wpS_lift (wpAny_attempt (C x y hx hy _ _ ⟨rfl,?_⟩)))
 exact wpS_pure h
theorem lz {g:Nat}{st:SortSt}{Q:Unit→SortSt→Prop} (h:Q () (SortSt.mk' (kindOf st) (arrOf st) (pendingOf st) g (failedOf st))):wpS (model prog w) A E s (Iz g) Q st:=wpS_modify h
theorem aT {arr:Array Keyed}{i:Nat}{st:SortSt}{Q:Keyed→SortSt→Prop} (hi:i<arr.toList.length) (h:Q arr.toList[i] st):wpS (model prog w) A E s (elem' arr i) Q st:=by
 rw [elem'_eq,← zaA,zam hi]
 exact wpS_pure h
theorem C3 (C:rN prog w A s κ R T) {key:Keyed}{arr:Array Keyed}{base n hint:Nat}{st:SortSt}{Q:Option Nat→SortSt→Prop} (hk:kindOf st=κ) (hT:∀ x∈arr.toList,T x) (hkey:T key) (hs:∀ i j (hi:base+i<arr.toList.length) (hj:base+j<arr.toList.length),i≤j→j<n→R arr.toList[base+i]≤R arr.toList[base+j]) (hh:hint<n) (hn:base+n≤arr.toList.length)
  (h:∀ k,k≤n→(∀ i (hi:base+i<arr.toList.length),i<k→R arr.toList[base+i]≤R key)→(∀ i (hi:base+i<arr.toList.length),k≤i→i<n→R key<R arr.toList[base+i])→Q (some k) st) :
  wpS (model prog w) A E s (qZ false key arr base n hint) Q st:=by
 refine Pf (P:=fun i => !decide (R key<R (arr.toList.getD (base+i) (.none,.none)))) hh (fun i j hij hj hp => ?_) (fun i hi Q q => ?_) (fun k k1 k2 k3=>h k k1 (fun i hi hik => ?_) fun i hi hik hin => ?_)
 ·have hi':base+i<arr.toList.length:=by omega
  have hj':base+j<arr.toList.length:=by omega
  simp only [zcO,zam hi',zam hj',zbM,Bool.not_eq_true',decide_eq_false_iff_not] at hp ⊢
  have:=hs i j hi' hj' hij hj
  omega
 ·have hi':base+i<arr.toList.length:=by omega
  unfold beyond
  refine wpS_bind (aT hi' ?_)
  rw [if_neg (by decide)]
  refine wpS_bind (sZ C hk hkey (hT _ (zbD hi')) (wpS_pure ?_))
  simp only [zcO,zam hi',zbM] at q
  exact q
 ·have:=k2 i hik
  simp only [zcO,zam hi,zbM,Bool.not_eq_true',decide_eq_false_iff_not] at this
  omega
 ·have:=k3 i hik hin
  simp only [zcO,zam hi,zbM,Bool.not_eq_false',decide_eq_true_eq] at this
  exact this
theorem C4 (C:rN prog w A s κ R T) {key:Keyed}{arr:Array Keyed}{base n hint:Nat}{st:SortSt}{Q:Option Nat→SortSt→Prop} (hk:kindOf st=κ) (hT:∀ x∈arr.toList,T x) (hkey:T key) (hs:∀ i j (hi:base+i<arr.toList.length) (hj:base+j<arr.toList.length),i≤j→j<n→R arr.toList[base+i]≤R arr.toList[base+j]) (hh:hint<n) (hn:base+n≤arr.toList.length)
  (h:∀ k,k≤n→(∀ i (hi:base+i<arr.toList.length),i<k→R arr.toList[base+i]<R key)→(∀ i (hi:base+i<arr.toList.length),k≤i→i<n→R key≤R arr.toList[base+i])→Q (some k) st) :
  wpS (model prog w) A E s (qZ true key arr base n hint) Q st:=by
 refine Pf (P:=fun i=>decide (R (arr.toList.getD (base+i) (.none,.none))<R key)) hh (fun i j hij hj hp => ?_) (fun i hi Q q => ?_) (fun k k1 k2 k3=>h k k1 (fun i hi hik => ?_) fun i hi hik hin => ?_)
 ·have hi':base+i<arr.toList.length:=by omega
  have hj':base+j<arr.toList.length:=by omega
  simp only [zcO,zam hi',zam hj',zbM,decide_eq_true_eq] at hp ⊢
  have:=hs i j hi' hj' hij hj
  omega
 ·have hi':base+i<arr.toList.length:=by omega
  unfold beyond
  refine wpS_bind (aT hi' ?_)
  rw [if_pos rfl]
  refine sZ C hk (hT _ (zbD hi')) hkey ?_
  simp only [zcO,zam hi',zbM] at q
  exact q
 ·have:=k2 i hik
  simp only [zcO,zam hi,zbM,decide_eq_true_eq] at this
  exact this
 ·have:=k3 i hik hin
  simp only [zcO,zam hi,zbM,decide_eq_false_iff_not] at this
  omega
end
noncomputable abbrev eK (st:SortSt) (g:Nat):SortSt:=SortSt.mk' (kindOf st) (arrOf st) (pendingOf st) g (failedOf st)
theorem lK (x:Array Keyed) (i:Nat):(x.extract i x.size).toList=x.toList.drop i:=by
 rw [zaJ]
 exact zar (by simp)
theorem yE (x:Array Keyed) (i k:Nat):(x.extract i (i+k)).toList=(x.toList.drop i).take k:=by
 rw [zaJ,zaj]
 have:i+k - i=k:=by omega
 rw [this]
section
variable {prog:Program}{w:World}{A:Around}{E:Value→Shared→Prop}{s:Shared}{R:Keyed→Int}{κ:SortKind}{T:Keyed→Prop}
noncomputable def MB (R:Keyed→Int) (x y o:Array Keyed) (i j:Nat):Prop:=MI R x.toList y.toList o.toList i j∧i+1<x.size∧j<y.size
theorem gk {x y o:Array Keyed}{i j:Nat} (M:MI R x.toList y.toList o.toList i j) (hX:bg R x.toList) (hY:bg R y.toList) (h:y.size≤j∨x.size≤i):Told R x.toList y.toList (o++x.extract i x.size++y.extract j y.size):=by
 unfold Told
 rw [zaQ,zaQ,lK,lK]
 rcases h with h | h
 ·have e:y.toList.drop j=[]:=zaq (by simpa using h)
  rw [e,zbQ]
  exact M.OF hX (by simpa using h)
 ·have e:x.toList.drop i=[]:=zaq (by simpa using h)
  rw [e,zbQ]
  exact M.OE hY (by simpa using h)
theorem jb {x y o:Array Keyed}{i j:Nat} (M:MI R x.toList y.toList o.toList i j) (hX:bg R x.toList) (hY:bg R y.toList) (hl:∀ a∈y.toList,∀ b∈x.toList.drop (x.size - 1),R a≤R b) (h:i+1=x.size):Told R x.toList y.toList (o++y.extract j y.size++x.extract i x.size):=by
 unfold Told
 rw [zaQ,zaQ,lK,lK]
 have e:i=x.size - 1:=by omega
 exact M.last hX hY fun a ha b hb=>hl a (zaH ha) b (by rw [← e];exact hb)
theorem lU {l:List Keyed}{i:Nat}{P:Keyed→Prop} (h:∀ u (hu:i≤u∧u<l.length),P (l[u]'hu.2)):∀ b∈l.drop i,P b:=fun b hb=>by
 obtain ⟨k,hk,rfl⟩:=zaL hb
 rw [zbz] at hk
 rw [zbn]
 exact h (i+k) ⟨by omega,by omega⟩
theorem lT {l:List Keyed}{i k:Nat}{P:Keyed→Prop} (h:∀ u (hu:i+u<l.length),u<k→P l[i+u]):∀ b∈(l.drop i).take k,P b:=fun b hb=>by
 obtain ⟨v,hv,rfl⟩:=zaL hb
 rw [zby,zbz] at hv
 rw [zbo,zbn]
 exact h v (by omega) (by omega)
theorem Pd {α γ:Type}{c:Prop} [Decidable c] {Q:α→SortSt→Prop}{st:SortSt}{n m:γ} (F:Unit→γ→StateT SortSt Sem α) (h:∀ k,wpS (model prog w) A E s (F () k) Q st):wpS (model prog w) A E s (if c then F () n else F () m) Q st:=by
 split <;> exact h _
theorem Nx {α γ δ:Type}{c:Prop} [Decidable c] {p:StateT SortSt Sem α}{Q:α→SortSt→Prop}{st:SortSt}{n:γ}{m:δ} (F:Unit→γ→δ→StateT SortSt Sem α) (P:γ→δ→Prop) (J:∀ b g,P b g→wpS (model prog w) A E s (F () b g) Q st)
  (hp:c→(∀ b g,P b g→wpS (model prog w) A E s (F () b g) Q st)→wpS (model prog w) A E s p Q st) (hq : ¬ c→P n m):wpS (model prog w) A E s (if c then p else F () n m) Q st:=by
 split
 ·next h=>exact hp h J
 ·next h=>exact J _ _ (hq h)
theorem vF (C:rN prog w A s κ R T) {x y:Array Keyed}{st:SortSt}{Q:Array Keyed→SortSt→Prop} (hk:kindOf st=κ) (hTx:∀ a∈x.toList,T a) (hTy:∀ a∈y.toList,T a) (hX:bg R x.toList) (hY:bg R y.toList) (hx:0<x.size) (hy:0<y.size)
  (h0:∀ b∈x.toList,R (y.toList[0]'(by simpa using hy))≤R b) (hl:∀ a∈y.toList,∀ b∈x.toList.drop (x.size - 1),R a≤R b)
  (h:∀ r g,Told R x.toList y.toList r→Q r (eK st g)):wpS (model prog w) A E s (Cw x y) Q st:=by
 have lx:x.toList.length=x.size:=by simp
 have ly:y.toList.length=y.size:=by simp
 have M0:MI R x.toList y.toList [] 0 0:=⟨by simp,.nil,fun a ha=>by simp at ha⟩
 have M1:=M0.y1 hY (by omega) (fun b hb=>h0 b (by simpa using hb))
 refine wpS_bind (wpS_lift (wpAny_rule ⟨rfl,?_⟩))
 refine wpS_bind (aT (by omega) ?_)
 show wpS (model prog w) A E s (ite _ _ _) _ _
 have M1':MI R x.toList y.toList (#[y.toList[0]'(by omega)]:Array Keyed).toList 0 1:=M1
 by_cases c1:1=y.size
 ·rw [if_pos (by simpa using c1)]
  exact wpS_pure (h _ (gallopOf st) (gk M1' hX hY (.inl (by omega))))
 rw [if_neg (by simpa using c1)]
 by_cases c2:0+1=x.size
 ·rw [if_pos (by simpa using c2)]
  exact wpS_pure (h _ (gallopOf st) (jb M1' hX hY hl c2))
 rw [if_neg (by simpa using c2)]
 refine wpS_bind (wpS_get ?_)
 refine wpS_bind (wpS_mono (wpS_forRange
  (I:=fun n c st'=>(∃ g,st'=eK st g)∧∃ o i j mg,c=(none,o,i,j,mg)∧MB R x y o i j∧1+n≤i+j)
  (Q:=fun c st'=>(∃ g,st'=eK st g)∧((∃ r o i j mg,c=(some r,o,i,j,mg)∧Told R x.toList y.toList r)∨∃ o i j mg,c=(none,o,i,j,mg)∧MB R x y o i j∧1+(x.size+y.size)≤i+j)) ?step ?fin ⟨⟨gallopOf st,rfl⟩,_,0,1,_,rfl,⟨M1',by omega,by omega⟩,by omega⟩) ?post)
 case fin =>
  rintro c st' ⟨hg,o,i,j,mg,rfl,M,hn⟩
  exact ⟨hg,.inr ⟨o,i,j,mg,rfl,M,by omega⟩⟩
 case post =>
  rintro c st' ⟨⟨g,rfl⟩,⟨r,o,i,j,mg,rfl,ht⟩ | ⟨o,i,j,mg,rfl,M,hn⟩⟩
  ·exact wpS_pure (h r g ht)
  ·have:=M.2.1
   have:=M.2.2
   omega
 case step =>
  rintro n c st' _ hn ⟨⟨g,rfl⟩,o,i,j,mg,rfl,M,hp⟩
  refine wpS_bind (wpS_mono (wpS_forRange
   (I:=fun n' c st'=>st'=eK st g∧∃ o' i' j' p q,c=(none,o',i',j',p,q)∧MB R x y o' i' j'∧i+j+n'≤i'+j')
   (Q:=fun c st'=>st'=eK st g∧((∃ r o' i' j' p q,c=(some r,o',i',j',p,q)∧Told R x.toList y.toList r)∨∃ o' i' j' p q,c=(none,o',i',j',p,q)∧MB R x y o' i' j'∧i+j+1≤i'+j')) ?oU ?fin1 ⟨rfl,o,i,j,0,0,rfl,M,by omega⟩) ?post1)
  case fin1 =>
   rintro c st' ⟨rfl,o',i',j',p,q,rfl,M',hn'⟩
   exact ⟨rfl,.inr ⟨o',i',j',p,q,rfl,M',by omega⟩⟩
  case oU =>
   rintro n' c st' _ hn' ⟨rfl,o',i',j',p,q,rfl,⟨M',b1,b2⟩,hp'⟩
   dsimp only
   refine wpS_bind (aT (by omega) (wpS_bind (aT (by omega) (wpS_bind (sZ C hk (hTy _ (zbD _)) (hTx _ (zbD _)) ?_)))))
   dsimp only
   by_cases hlt:R (y.toList[j']'(by omega))<R (x.toList[i']'(by omega))
   ·rw [decide_eq_true hlt,if_pos rfl]
    refine wpS_bind (aT (by omega) ?_)
    have N:=M'.y1 hY (by omega) (fun b hb=>zcy (zcz hlt) (hX.ge (by omega) b hb))
    rw [← zbs] at N
    by_cases e:j'+1=y.size
    ·rw [if_pos (by simpa using e)]
     exact wpS_pure ⟨rfl,.inl ⟨_,_,_,_,_,_,rfl,gk N hX hY (.inl (by omega))⟩⟩
    ·rw [if_neg (by simpa using e)]
     split
     ·exact wpS_pure ⟨rfl,.inr ⟨_,_,_,_,_,rfl,⟨N,b1,by omega⟩,by omega⟩⟩
     ·exact wpS_pure ⟨rfl,_,_,_,_,_,rfl,⟨N,b1,by omega⟩,by omega⟩
   ·rw [decide_eq_false hlt,if_neg (by decide)]
    refine wpS_bind (aT (by omega) ?_)
    have N:=M'.x1 hX (by omega) (fun b hb=>zcy (Int.not_lt.mp hlt) (hY.ge (by omega) b hb))
    rw [← zbs] at N
    by_cases e:i'+1+1=x.size
    ·rw [if_pos (by simpa using e)]
     exact wpS_pure ⟨rfl,.inl ⟨_,_,_,_,_,_,rfl,jb N hX hY hl e⟩⟩
    ·rw [if_neg (by simpa using e)]
     split
     ·exact wpS_pure ⟨rfl,.inr ⟨_,_,_,_,_,rfl,⟨N,by omega,b2⟩,by omega⟩⟩
     ·exact wpS_pure ⟨rfl,_,_,_,_,_,rfl,⟨N,by omega,b2⟩,by omega⟩
  case post1 =>
   rintro c st' ⟨rfl,⟨r,o',i',j',p,q,rfl,ht⟩ | ⟨o',i',j',p,q,rfl,M',hp'⟩⟩
   ·exact wpS_pure ⟨⟨g,rfl⟩,.inl ⟨r,_,_,_,_,rfl,ht⟩⟩
   ·refine wpS_bind (wpS_lift (wpAny_rule ⟨rfl,?_⟩))
    refine wpS_bind (wpS_mono (wpS_forRange
     (I:=fun _ c st'=>(∃ g,st'=eK st g)∧∃ o2 i2 j2 mg p q,c=(none,o2,i2,j2,mg,p,q)∧MB R x y o2 i2 j2∧i'+j'≤i2+j2)
     (Q:=fun c st'=>(∃ g,st'=eK st g)∧((∃ r o2 i2 j2 mg p q,c=(some r,o2,i2,j2,mg,p,q)∧Told R x.toList y.toList r)∨∃ o2 i2 j2 mg p q,c=(none,o2,i2,j2,mg,p,q)∧MB R x y o2 i2 j2∧i'+j'≤i2+j2)) ?step2 ?fin2 ⟨⟨g,rfl⟩,o',i',j',_,_,_,rfl,M',by omega⟩) ?post2)
    case fin2 =>
     rintro c st' ⟨hg,o2,i2,j2,mg,p,q,rfl,M2,hp2⟩
     exact ⟨hg,.inr ⟨o2,i2,j2,mg,p,q,rfl,M2,hp2⟩⟩
    case post2 =>
     rintro c st' ⟨⟨g2,rfl⟩,⟨r,o2,i2,j2,mg2,p,q,rfl,ht⟩ | ⟨o2,i2,j2,mg2,p,q,rfl,M2,hp2⟩⟩
     ·exact wpS_pure ⟨⟨g2,rfl⟩,.inl ⟨r,_,_,_,_,rfl,ht⟩⟩
     ·dsimp only
      refine wpS_bind (lz (wpS_pure ⟨⟨mg2+1,rfl⟩,_,_,_,_,rfl,M2,by omega⟩))
    case step2 =>
     rintro n2 c st' _ hn2 ⟨⟨g2,rfl⟩,o2,i2,j2,mg2,p,q,rfl,⟨M2,b1,b2⟩,hp2⟩
     dsimp -zeta only
     extract_lets s1 out s2 ia s3 ib s4 mg s5 ac bc ib1 jp mg1
     refine Pd jp fun m => ?_
     dsimp -zeta only [jp,out,ia,ib,ib1,ac,bc,s1,s2,s3,s4,s5]
     clear jp
     refine wpS_bind (lz (wpS_bind (aT (by omega) (wpS_bind (C3 C hk hTx (hTy _ (zbD _)) (fun a b ha hb h1 h2=>hX.at (by omega) hb ha) (by omega) (by omega) fun k k1 k2 k3 => ?_)))))
     dsimp -zeta only
     extract_lets ac2 jp o9 i9
     have gtn:k=0∨0<k:=by omega
     refine Nx jp (fun o3 i3=>MI R x.toList y.toList o3.toList i3 j2∧(∀ b∈x.toList.drop i3,R (y.toList[j2]'(by omega))≤R b)∧i3+1<x.size∧i2≤i3) (fun o3 i3 hP => ?_) (fun kp J => ?_) (fun kp=>⟨M2,lU fun u hu=>zcz ?_,b1,zcH _⟩)
     ·obtain ⟨N,gt,b3,l3⟩:=hP
      dsimp -zeta only [jp,ac2]
      clear jp
      refine wpS_bind (aT (by omega) ?_)
      have N2:=N.y1 hY (by omega) gt
      rw [← zbs] at N2
      show wpS (model prog w) A E s (ite _ _ _) _ _
      by_cases e3:j2+1=y.size
      ·rw [if_pos (by simpa using e3)]
       exact wpS_pure ⟨⟨_,rfl⟩,.inl ⟨_,_,_,_,_,_,_,rfl,gk N2 hX hY (.inl (by omega))⟩⟩
      rw [if_neg (by simpa using e3)]
      refine wpS_bind (aT (by omega) (wpS_bind (C4 C hk hTy (hTx _ (zbD _)) (fun a b ha hb h1 h2=>hY.at (by omega) hb ha) (by omega) (by omega) fun k' q1 q2 q3 => ?_)))
      dsimp -zeta only
      extract_lets bc2 ia1 jp o9 j9
      refine Nx jp (fun o4 j4=>MI R x.toList y.toList o4.toList i3 j4∧(∀ b∈y.toList.drop j4,R (x.toList[i3]'(by omega))≤R b)∧j4<y.size∧j2+1≤j4) (fun o4 j4 hP => ?_) (fun kp' J => ?_) (fun kp'=>⟨N2,lU fun u hu => ?_,by omega,zcH _⟩)
      ·obtain ⟨N3,gt3,b4,l4⟩:=hP
       dsimp -zeta only [jp,bc2,ia1]
       clear jp
       refine wpS_bind (aT (by omega) ?_)
       have N4:=N3.x1 hX (by omega) gt3
       rw [← zbs] at N4
       dsimp only
       by_cases e5:i3+1+1=x.size
       ·rw [if_pos (by simpa using e5)]
        exact wpS_pure ⟨⟨_,rfl⟩,.inl ⟨_,_,_,_,_,_,_,rfl,jb N4 hX hY hl e5⟩⟩
       rw [if_neg (by simpa using e5)]
       split
       ·exact wpS_pure ⟨⟨_,rfl⟩,.inr ⟨_,_,_,_,_,_,rfl,⟨N4,by omega,by omega⟩,by omega⟩⟩
       ·exact wpS_pure ⟨⟨_,rfl⟩,_,_,_,_,_,_,rfl,⟨N4,by omega,by omega⟩,by omega⟩
      ·have N3:=N2.ys hY k' (fun a ha b hb=>zcy (zcz (lT (P:=fun a=>R a<R (x.toList[i3]'(by omega))) (fun u hu huk=>q2 u hu huk) a ha)) (hX.ge (by omega) b hb))
       rw [← yE,← zaQ] at N3
       show wpS (model prog w) A E s (ite _ _ _) _ _
       by_cases e4:j2+1+k'=y.size
       ·rw [if_pos (by simpa using e4)]
        exact wpS_pure ⟨⟨_,rfl⟩,.inl ⟨_,_,_,_,_,_,_,rfl,gk N3 hX hY (.inl (by omega))⟩⟩
       rw [if_neg (by simpa using e4)]
       refine J _ _ ⟨N3,lU (P:=fun b=>R (x.toList[i3]'(by omega))≤R b) fun u (hu:j2+1+k'≤u∧u<y.toList.length) => ?_,by omega,by omega⟩
       obtain ⟨v,rfl⟩:∃ v,u=j2+1+v:=⟨u - (j2+1),by omega⟩
       exact q3 v (by omega) (by omega) (by omega)
      ·obtain ⟨v,rfl⟩:∃ v,u=j2+1+v:=⟨u - (j2+1),by omega⟩
       exact q3 v (by omega) (by omega) (by omega)
     ·have N:=M2.xs hX k (fun a ha b hb=>zcy (lT (P:=fun a=>R a≤R (y.toList[j2]'(by omega))) (fun u hu huk=>k2 u hu huk) a ha) (hY.ge (by omega) b hb))
      rw [← yE,← zaQ] at N
      show wpS (model prog w) A E s (ite _ _ _) _ _
      by_cases e1:i2+k+1=x.size
      ·rw [if_pos (by simpa using e1)]
       exact wpS_pure ⟨⟨_,rfl⟩,.inl ⟨_,_,_,_,_,_,_,rfl,jb N hX hY hl e1⟩⟩
      rw [if_neg (by simpa using e1)]
      by_cases e2:i2+k=x.size
      ·rw [if_pos (by simpa using e2)]
       exact wpS_pure ⟨⟨_,rfl⟩,.inl ⟨_,_,_,_,_,_,_,rfl,gk N hX hY (.inr (by omega))⟩⟩
      rw [if_neg (by simpa using e2)]
      refine J _ _ ⟨N,lU fun u hu=>zcz ?_,by omega,by omega⟩
      obtain ⟨v,rfl⟩:∃ v,u=i2+v:=⟨u - i2,by omega⟩
      exact k3 v (by omega) (by omega) (by omega)
     ·obtain ⟨v,rfl⟩:∃ v,u=i2+v:=⟨u - i2,by omega⟩
      exact k3 v (by omega) (by omega) (by omega)
end
section
variable {R:Keyed→Int}
structure MH (R:Keyed→Int) (X Y O:List Keyed) (p q:Nat):Prop where
 perm:(X.take p++Y.take q++O).Perm (X++Y)
 so:bg R O
 le:∀ a∈X.take p++Y.take q,∀ b∈O,R a≤R b
theorem tk {X:List Keyed}{m p:Nat} (h:m≤p):X.take p=X.take m++(X.take p).drop m:=by
 have:=(zaw m (X.take p)).symm
 rwa [List.take_take,Nat.min_eq_left h] at this
theorem MH.xs {X Y O:List Keyed}{p q:Nat} (M:MH R X Y O p q) (hX:bg R X) {m:Nat} (hm:m≤p) (h:∀ a∈(X.take p).drop m,∀ b∈Y.take q,R b≤R a):MH R X Y ((X.take p).drop m++O) m q:=by
 have e:=tk (X:=X) hm
 refine ⟨?_,(((hX.take p).drop m).app M.so fun a ha b hb=>M.le a (zaD _ (zaH ha)) b hb),fun a ha b hb => ?_⟩
 ·refine List.Perm.trans ?_ M.perm
  conv=>rhs;rw [e]
  rw [← zbk]
  refine List.Perm.append_right O ?_
  rw [zbk,zbk]
  exact List.Perm.append_left _ zax
 ·rcases zbO.mp hb with hb | hb
  ·rcases zbO.mp ha with ha | ha
   ·have:=hX.take p
    rw [e] at this
    exact (zaF.mp this).2.2 a ha b hb
   ·exact h b hb a ha
  ·refine M.le a ?_ b hb
   rcases zbO.mp ha with ha | ha
   ·exact zaD _ (by rw [e];exact zaD _ ha)
   ·exact zau _ ha
theorem MH.ys {X Y O:List Keyed}{p q:Nat} (M:MH R X Y O p q) (hY:bg R Y) {m:Nat} (hm:m≤q) (h:∀ a∈(Y.take q).drop m,∀ b∈X.take p,R b≤R a):MH R X Y ((Y.take q).drop m++O) p m:=by
 have e:=tk (X:=Y) hm
 refine ⟨?_,(((hY.take q).drop m).app M.so fun a ha b hb=>M.le a (zau _ (zaH ha)) b hb),fun a ha b hb => ?_⟩
 ·refine List.Perm.trans ?_ M.perm
  conv=>rhs;rw [e]
  rw [zbk,zbk,zbk]
 ·rcases zbO.mp hb with hb | hb
  ·rcases zbO.mp ha with ha | ha
   ·exact h b hb a ha
   ·have:=hY.take q
    rw [e] at this
    exact (zaF.mp this).2.2 a ha b hb
  ·refine M.le a ?_ b hb
   rcases zbO.mp ha with ha | ha
   ·exact zaD _ ha
   ·exact zau _ (by rw [e];exact zaD _ ha)
theorem Nz {X:List Keyed}{p:Nat} (h1:0<p) (h2:p≤X.length):(X.take p).drop (p - 1)=[X[p - 1]'(by omega)]:=by
 apply List.ext_getElem
 ·simp;omega
 ·intro i h3 h4
  simp at h4
  subst h4
  simp
theorem MH.x1 {X Y O:List Keyed}{p q:Nat} (M:MH R X Y O p q) (hX:bg R X) (h1:0<p) (h2:p≤X.length) (h:∀ b∈Y.take q,R b≤R (X[p - 1]'(by omega))):MH R X Y (X[p - 1]'(by omega)::O) (p - 1) q:=by
 have:=M.xs hX (m:=p - 1) (by omega) fun a ha b hb=>by rw [Nz h1 h2] at ha;rw [zaW.mp ha];exact h b hb
 rw [Nz h1 h2] at this;exact this
theorem MH.y1 {X Y O:List Keyed}{p q:Nat} (M:MH R X Y O p q) (hY:bg R Y) (h1:0<q) (h2:q≤Y.length) (h:∀ b∈X.take p,R b≤R (Y[q - 1]'(by omega))):MH R X Y (Y[q - 1]'(by omega)::O) p (q - 1):=by
 have:=M.ys hY (m:=q - 1) (by omega) fun a ha b hb=>by rw [Nz h1 h2] at ha;rw [zaW.mp ha];exact h b hb
 rw [Nz h1 h2] at this;exact this
theorem bg.le {l:List Keyed} (h:bg R l) {i:Nat} (h1:0<i) (hi:i≤l.length):∀ b∈l.take i,R b≤R (l[i - 1]'(by omega)):=fun b hb=>by
 obtain ⟨k,hk,rfl⟩:=zaL hb
 rw [zby] at hk
 rw [zbo]
 exact h.at (by omega) (by omega) (by omega)
theorem yF (x:Array Keyed) (p:Nat):(x.extract 0 p).toList=x.toList.take p:=by
 rw [zaJ,zaj];simp
theorem HJ (x:Array Keyed) (m p:Nat):(x.extract m p).toList=(x.toList.take p).drop m:=by
 rw [zaJ,zaj,List.drop_take]
theorem ji (o:Array Keyed) (a:Keyed):(o.push a).toList.reverse=a::o.toList.reverse:=by simp
theorem xU (o:Array Keyed) (a:Array Keyed):(o++a.reverse).toList.reverse=a.toList++o.toList.reverse:=by simp
theorem rQ {x y o:Array Keyed}{p q:Nat} (M:MH R x.toList y.toList o.toList.reverse p q) (hX:bg R x.toList) (hY:bg R y.toList) (h:p=0∨q=0):Told R x.toList y.toList (x.extract 0 p++y.extract 0 q++o.reverse):=by
 unfold Told
 rw [zaQ,zaQ,yF,yF,Array.toList_reverse]
 refine ⟨bg.app (bg.app (hX.take p) (hY.take q) fun a ha b hb => ?_) M.so M.le,M.perm⟩
 rcases h with rfl | rfl
 ·simp at ha
 ·simp at hb
theorem wR {x y o:Array Keyed}{p q:Nat} (M:MH R x.toList y.toList o.toList.reverse p q) (hX:bg R x.toList) (hY:bg R y.toList) (h0:∀ a∈y.toList.take 1,∀ b∈x.toList,R a≤R b) (h:q=1):Told R x.toList y.toList (y.extract 0 q++x.extract 0 p++o.reverse):=by
 unfold Told
 rw [zaQ,zaQ,yF,yF,Array.toList_reverse]
 refine ⟨bg.app (bg.app (hY.take q) (hX.take p) fun a ha b hb=>h0 a (by rw [← h];exact ha) b (zaG hb)) M.so fun a ha b hb=>M.le a ?_ b hb,?_⟩
 ·rcases zbO.mp ha with ha | ha
  ·exact zau _ ha
  ·exact zaD _ ha
 ·exact (List.Perm.append_right _ zax).trans M.perm
theorem HQ {l:List Keyed}{i:Nat}{P:Keyed→Prop} (h:∀ u (hu:u<l.length),u<i→P l[u]):∀ b∈l.take i,P b:=fun b hb=>by
 obtain ⟨v,hv,rfl⟩:=zaL hb
 rw [zby] at hv
 rw [zbo]
 exact h v (by omega) (by omega)
theorem Dy {l:List Keyed}{m p:Nat}{P:Keyed→Prop} (h:∀ u (hu:u<l.length),m≤u→u<p→P l[u]):∀ b∈(l.take p).drop m,P b:=fun b hb=>by
 obtain ⟨v,hv,rfl⟩:=zaL hb
 rw [zbz,zby] at hv
 rw [zbn,zbo]
 exact h (m+v) (by omega) (by omega) (by omega)
end
section
variable {prog:Program}{w:World}{A:Around}{E:Value→Shared→Prop}{s:Shared}{R:Keyed→Int}{κ:SortKind}{T:Keyed→Prop}
noncomputable def K8 (R:Keyed→Int) (x y o:Array Keyed) (p q:Nat):Prop:=MH R x.toList y.toList o.toList.reverse p q∧(0<p∧p≤x.size)∧(1<q∧q≤y.size)
theorem vG (C:rN prog w A s κ R T) {x y:Array Keyed}{st:SortSt}{Q:Array Keyed→SortSt→Prop} (hk:kindOf st=κ) (hTx:∀ a∈x.toList,T a) (hTy:∀ a∈y.toList,T a) (hX:bg R x.toList) (hY:bg R y.toList) (hx:0<x.size) (hy:0<y.size)
  (h0:∀ a∈y.toList.take 1,∀ b∈x.toList,R a≤R b) (hl:∀ a∈y.toList,R a≤R (x.toList[x.size - 1]'(by rw [zaP];omega)))
  (h:∀ r g,Told R x.toList y.toList r→Q r (eK st g)):wpS (model prog w) A E s (Cy x y) Q st:=by
 have lx:x.toList.length=x.size:=by simp
 have ly:y.toList.length=y.size:=by simp
 have M0:MH R x.toList y.toList [] x.size y.size:=⟨by rw [zar (by omega),zar (by omega),zbQ],.nil,fun a ha b hb=>by simp at hb⟩
 have M1:=M0.x1 hX (by omega) (by omega) (fun b hb=>hl b (zaG hb))
 refine wpS_bind (wpS_lift (wpAny_rule ⟨rfl,?_⟩))
 refine wpS_bind (aT (i:=x.size - 1) (by omega) ?_)
 show wpS (model prog w) A E s (ite _ _ _) _ _
 have M1':MH R x.toList y.toList (#[x.toList[x.size - 1]'(by omega)]:Array Keyed).toList.reverse (x.size - 1) y.size:=M1
 by_cases c1:x.size - 1=0
 ·rw [if_pos (by simpa using c1)]
  exact wpS_pure (h _ (gallopOf st) (rQ M1' hX hY (.inl c1)))
 rw [if_neg (by simpa using c1)]
 by_cases c2:y.size=1
 ·rw [if_pos (by simpa using c2)]
  exact wpS_pure (h _ (gallopOf st) (wR M1' hX hY h0 c2))
 rw [if_neg (by simpa using c2)]
 refine wpS_bind (wpS_get ?_)
 refine wpS_bind (wpS_mono (wpS_forRange
  (I:=fun n c st'=>(∃ g,st'=eK st g)∧∃ p q o mg,c=(none,p,q,o,mg)∧K8 R x y o p q∧n+p+q≤x.size+y.size)
  (Q:=fun c st'=>(∃ g,st'=eK st g)∧((∃ r p q o mg,c=(some r,p,q,o,mg)∧Told R x.toList y.toList r)∨∃ p q o mg,c=(none,p,q,o,mg)∧K8 R x y o p q∧x.size+y.size+p+q≤x.size+y.size)) ?step ?fin ⟨⟨gallopOf st,rfl⟩,_,_,_,_,rfl,⟨M1',⟨by omega,by omega⟩,by omega,by omega⟩,by omega⟩) ?post)
 case fin =>
  rintro c st' ⟨hg,p,q,o,mg,rfl,M,hn⟩
  exact ⟨hg,.inr ⟨p,q,o,mg,rfl,M,by omega⟩⟩
 case post =>
  rintro c st' ⟨⟨g,rfl⟩,⟨r,p,q,o,mg,rfl,ht⟩ | ⟨p,q,o,mg,rfl,M,hn⟩⟩
  ·exact wpS_pure (h r g ht)
  ·have:=M.2.1
   have:=M.2.2
   omega
 case step =>
  rintro n c st' _ hn ⟨⟨g,rfl⟩,p,q,o,mg,rfl,M,hp⟩
  refine wpS_bind (wpS_mono (wpS_forRange
   (I:=fun n' c st'=>st'=eK st g∧∃ p' q' o' u v,c=(none,p',q',o',u,v)∧K8 R x y o' p' q'∧n'+p'+q'≤p+q)
   (Q:=fun c st'=>st'=eK st g∧((∃ r p' q' o' u v,c=(some r,p',q',o',u,v)∧Told R x.toList y.toList r)∨∃ p' q' o' u v,c=(none,p',q',o',u,v)∧K8 R x y o' p' q'∧p'+q'+1≤p+q)) ?oU ?fin1 ⟨rfl,p,q,o,0,0,rfl,M,by omega⟩) ?post1)
  case fin1 =>
   rintro c st' ⟨rfl,p',q',o',u,v,rfl,M',hn'⟩
   exact ⟨rfl,.inr ⟨p',q',o',u,v,rfl,M',by omega⟩⟩
  case oU =>
   rintro n' c st' _ hn' ⟨rfl,p',q',o',u,v,rfl,⟨M',b1,b2⟩,hp'⟩
   dsimp only
   refine wpS_bind (aT (by omega) (wpS_bind (aT (by omega) (wpS_bind (sZ C hk (hTy _ (zbD _)) (hTx _ (zbD _)) ?_)))))
   dsimp only
   by_cases hlt:R (y.toList[q' - 1]'(by omega))<R (x.toList[p' - 1]'(by omega))
   ·rw [decide_eq_true hlt,if_pos rfl]
    refine wpS_bind (aT (by omega) ?_)
    have N:=M'.x1 hX (by omega) (by omega) (fun b hb=>zcy (hY.le (by omega) (by omega) b hb) (zcz hlt))
    rw [← ji] at N
    by_cases e:p' - 1=0
    ·rw [if_pos (by simpa using e)]
     exact wpS_pure ⟨rfl,.inl ⟨_,_,_,_,_,_,rfl,rQ N hX hY (.inl e)⟩⟩
    ·rw [if_neg (by simpa using e)]
     split
     ·exact wpS_pure ⟨rfl,.inr ⟨_,_,_,_,_,rfl,⟨N,⟨by omega,by omega⟩,b2⟩,by omega⟩⟩
     ·exact wpS_pure ⟨rfl,_,_,_,_,_,rfl,⟨N,⟨by omega,by omega⟩,b2⟩,by omega⟩
   ·rw [decide_eq_false hlt,if_neg (by decide)]
    refine wpS_bind (aT (by omega) ?_)
    have N:=M'.y1 hY (by omega) (by omega) (fun b hb=>zcy (hX.le (by omega) (by omega) b hb) (Int.not_lt.mp hlt))
    rw [← ji] at N
    by_cases e:q' - 1=1
    ·rw [if_pos (by simpa using e)]
     exact wpS_pure ⟨rfl,.inl ⟨_,_,_,_,_,_,rfl,wR N hX hY h0 e⟩⟩
    ·rw [if_neg (by simpa using e)]
     split
     ·exact wpS_pure ⟨rfl,.inr ⟨_,_,_,_,_,rfl,⟨N,b1,by omega,by omega⟩,by omega⟩⟩
     ·exact wpS_pure ⟨rfl,_,_,_,_,_,rfl,⟨N,b1,by omega,by omega⟩,by omega⟩
  case post1 =>
   rintro c st' ⟨rfl,⟨r,p',q',o',u,v,rfl,ht⟩ | ⟨p',q',o',u,v,rfl,M',hp'⟩⟩
   ·exact wpS_pure ⟨⟨g,rfl⟩,.inl ⟨r,_,_,_,_,rfl,ht⟩⟩
   ·refine wpS_bind (wpS_lift (wpAny_rule ⟨rfl,?_⟩))
    refine wpS_bind (wpS_mono (wpS_forRange
     (I:=fun _ c st'=>(∃ g,st'=eK st g)∧∃ p2 q2 o2 mg u v,c=(none,p2,q2,o2,mg,u,v)∧K8 R x y o2 p2 q2∧p2+q2≤p'+q')
     (Q:=fun c st'=>(∃ g,st'=eK st g)∧((∃ r p2 q2 o2 mg u v,c=(some r,p2,q2,o2,mg,u,v)∧Told R x.toList y.toList r)∨∃ p2 q2 o2 mg u v,c=(none,p2,q2,o2,mg,u,v)∧K8 R x y o2 p2 q2∧p2+q2≤p'+q')) ?step2 ?fin2 ⟨⟨g,rfl⟩,p',q',o',_,_,_,rfl,M',by omega⟩) ?post2)
    case fin2 =>
     rintro c st' ⟨hg,p2,q2,o2,mg,u,v,rfl,M2,hp2⟩
     exact ⟨hg,.inr ⟨p2,q2,o2,mg,u,v,rfl,M2,hp2⟩⟩
    case post2 =>
     rintro c st' ⟨⟨g2,rfl⟩,⟨r,p2,q2,o2,mg2,u,v,rfl,ht⟩ | ⟨p2,q2,o2,mg2,u,v,rfl,M2,hp2⟩⟩
     ·exact wpS_pure ⟨⟨g2,rfl⟩,.inl ⟨r,_,_,_,_,rfl,ht⟩⟩
     ·dsimp only
      refine wpS_bind (lz (wpS_pure ⟨⟨mg2+1,rfl⟩,_,_,_,_,rfl,M2,by omega⟩))
    case step2 =>
     rintro n2 c st' _ hn2 ⟨⟨g2,rfl⟩,p2,q2,o2,mg2,u,v,rfl,⟨M2,b1,b2⟩,hp2⟩
     dsimp -zeta only
     extract_lets s1 na s2 nb s3 out s4 mg s5 ac bc nb1 jp mg1
     refine Pd jp fun m => ?_
     dsimp -zeta only [jp,out,na,nb,nb1,ac,bc,s1,s2,s3,s4,s5]
     clear jp
     refine wpS_bind (lz (wpS_bind (aT (by omega) (wpS_bind (C3 C hk hTx (hTy _ (zbD _)) (fun a b ha hb h1 h2=>hX.at (by omega) hb ha) (by omega) (by omega) fun k k1 k2 k3 => ?_)))))
     simp only [Nat.zero_add] at k2 k3
     dsimp -zeta only
     extract_lets k9 ac2 jp o9 i9
     have gt:∀ b∈x.toList.take k,R b≤R (y.toList[q2 - 1]'(by omega)):=HQ fun u hu huk=>k2 u hu huk
     refine Nx jp (fun p3 o3=>MH R x.toList y.toList o3.toList.reverse p3 q2∧(∀ b∈x.toList.take p3,R b≤R (y.toList[q2 - 1]'(by omega)))∧0<p3∧p3≤p2) (fun p3 o3 hP => ?_) (fun kp J => ?_) (fun kp => ?_)
     ·obtain ⟨N,gt,b3,l3⟩:=hP
      dsimp -zeta only [jp,ac2,k9]
      clear jp
      refine wpS_bind (aT (by omega) ?_)
      have N2:=N.y1 hY (q:=q2) (by omega) (by omega) gt
      rw [← ji] at N2
      show wpS (model prog w) A E s (ite _ _ _) _ _
      by_cases e3:q2 - 1=1
      ·rw [if_pos (by simpa using e3)]
       exact wpS_pure ⟨⟨_,rfl⟩,.inl ⟨_,_,_,_,_,_,_,rfl,wR N2 hX hY h0 e3⟩⟩
      rw [if_neg (by simpa using e3)]
      refine wpS_bind (aT (by omega) (wpS_bind (C4 C hk hTy (hTx _ (zbD _)) (fun a b ha hb h1 h2=>hY.at (by omega) hb ha) (by omega) (by omega) fun k' q1 q2' q3 => ?_)))
      simp only [Nat.zero_add] at q2' q3
      dsimp -zeta only
      extract_lets k8 bc2 p8 jp o9 j9
      have gt3:∀ b∈y.toList.take k',R b≤R (x.toList[p3 - 1]'(by omega)):=HQ fun u hu huk=>zcz (q2' u hu huk)
      refine Nx jp (fun q4 o4=>MH R x.toList y.toList o4.toList.reverse p3 q4∧(∀ b∈y.toList.take q4,R b≤R (x.toList[p3 - 1]'(by omega)))∧1<q4∧q4≤q2 - 1) (fun q4 o4 hP => ?_) (fun kp' J => ?_) (fun kp' => ?_)
      ·obtain ⟨N3,gt4,b4,l4⟩:=hP
       dsimp -zeta only [jp,bc2,k8,p8]
       clear jp
       refine wpS_bind (aT (by omega) ?_)
       have N4:=N3.x1 hX (p:=p3) (by omega) (by omega) gt4
       rw [← ji] at N4
       dsimp only
       by_cases e5:p3 - 1=0
       ·rw [if_pos (by simpa using e5)]
        exact wpS_pure ⟨⟨_,rfl⟩,.inl ⟨_,_,_,_,_,_,_,rfl,rQ N4 hX hY (.inl e5)⟩⟩
       rw [if_neg (by simpa using e5)]
       split
       ·exact wpS_pure ⟨⟨_,rfl⟩,.inr ⟨_,_,_,_,_,_,rfl,⟨N4,⟨by omega,by omega⟩,⟨by omega,by omega⟩⟩,by omega⟩⟩
       ·exact wpS_pure ⟨⟨_,rfl⟩,_,_,_,_,_,_,rfl,⟨N4,⟨by omega,by omega⟩,⟨by omega,by omega⟩⟩,by omega⟩
      ·have N3:=N2.ys hY (m:=k') (by omega) (fun a ha b hb=>zcy (hX.le (by omega) (by omega) b hb) (Dy (P:=fun a=>R (x.toList[p3 - 1]'(by omega))≤R a) (fun u hu h1 h2=>q3 u hu h1 h2) a ha))
       rw [← HJ,← xU] at N3
       show wpS (model prog w) A E s (ite _ _ _) _ _
       by_cases e4:k'=1
       ·rw [if_pos (by simpa using e4)]
        exact wpS_pure ⟨⟨_,rfl⟩,.inl ⟨_,_,_,_,_,_,_,rfl,wR N3 hX hY h0 e4⟩⟩
       rw [if_neg (by simpa using e4)]
       by_cases e6:k'=0
       ·rw [if_pos (by simpa using e6)]
        exact wpS_pure ⟨⟨_,rfl⟩,.inl ⟨_,_,_,_,_,_,_,rfl,rQ N3 hX hY (.inr e6)⟩⟩
       rw [if_neg (by simpa using e6)]
       exact J _ _ ⟨N3,gt3,by omega,by omega⟩
      ·obtain rfl:k'=q2 - 1:=by omega
       exact ⟨N2,gt3,by omega,zcH _⟩
     ·have N:=M2.xs hX (m:=k) (by omega) (fun a ha b hb=>zcy (hY.le (by omega) (by omega) b hb) (zcz (Dy (P:=fun a=>R (y.toList[q2 - 1]'(by omega))<R a) (fun u hu h1 h2=>k3 u hu h1 h2) a ha)))
      rw [← HJ,← xU] at N
      show wpS (model prog w) A E s (ite _ _ _) _ _
      by_cases e1:k=0
      ·rw [if_pos (by simpa using e1)]
       exact wpS_pure ⟨⟨_,rfl⟩,.inl ⟨_,_,_,_,_,_,_,rfl,rQ N hX hY (.inl e1)⟩⟩
      rw [if_neg (by simpa using e1)]
      exact J _ _ ⟨N,gt,by omega,by omega⟩
     ·obtain rfl:k=p2:=by omega
      exact ⟨M2,gt,b1.1,zcH _⟩
end
noncomputable def KR (R:Keyed→Int) (xs:Array Keyed) (i:Nat):Int:=(xs[i]?.map R).getD 0
theorem cN {R:Keyed→Int}{xs ys:Array Keyed}{i j:Nat} (h:xs[i]? = ys[j]?):KR R xs i=KR R ys j:=by unfold KR;rw [h]
noncomputable def Up (R:Keyed→Int) (xs:Array Keyed) (lo m:Nat):Prop:=∀ i j,lo≤i→i≤j→j<lo+m→KR R xs i≤KR R xs j
noncomputable def Dn (R:Keyed→Int) (xs:Array Keyed) (lo m:Nat):Prop:=∀ i j,lo≤i→i≤j→j<lo+m→KR R xs j≤KR R xs i
structure G (a₀:Array Keyed) (κ:SortKind) (p:Array (Nat×Nat×Nat)) (lo:Nat) (b:Array Keyed) (st:SortSt):Prop where
 perm:(arrOf st).Perm a₀
 kind:kindOf st=κ
 failed:failedOf st=none
 pend:pendingOf st=p
 below:∀ k,k<lo→(arrOf st)[k]? = b[k]?
theorem G.size {a₀ κ p lo b}{st:SortSt} (h:G a₀ κ p lo b st):(arrOf st).size=a₀.size:=h.perm.size_eq
theorem G.arr {a₀ κ p lo b}{st:SortSt} (h:G a₀ κ p lo b st) {xs:Array Keyed} (hp:xs.Perm (arrOf st)) (hb:∀ k,k<lo→xs[k]? = (arrOf st)[k]?):G a₀ κ p lo b (setArr st xs) :=
 ⟨hp.trans h.perm,h.kind,h.failed,h.pend,fun k hk=>(hb k hk).trans (h.below k hk)⟩
theorem G.Nu {a₀ κ p lo b}{st:SortSt} (h:G a₀ κ p lo b st) {i j:Nat} (hi:lo≤i) (hj:j≤a₀.size):G a₀ κ p lo b (setArr st (mirror (arrOf st) i j ((j - i) / 2))) :=
 h.arr (mirror_perm _ _ _ _) fun k hk=>by
  rw [getElem?_mirror_all (by rw [h.size];exact hj),if_neg (by omega)]
theorem wG {R:Keyed→Int}{xs:Array Keyed}{i j:Nat} (hj:j≤xs.size) (k:Nat):KR R (mirror xs i j ((j - i) / 2)) k=if i≤k∧k<j then KR R xs (i+j - 1 - k) else KR R xs k:=by
 have e:=getElem?_mirror_all (i:=i) hj k
 by_cases h1:i≤k∧k<j
 ·rw [if_pos h1] at e ⊢;exact cN e
 ·rw [if_neg h1] at e ⊢;exact cN e
theorem jV {R:Keyed→Int}{xs:Array Keyed}{i j:Nat} (hj:j≤xs.size) (he:∀ k,i≤k→k<j→KR R xs k=KR R xs (j - 1)) (k:Nat):KR R (mirror xs i j ((j - i) / 2)) k=KR R xs k:=by
 rw [wG hj]
 split
 ·rw [he _ (by omega) (by omega),he k (by omega) (by omega)]
 ·rfl
theorem Ej {R:Keyed→Int}{xs:Array Keyed}{src d:Nat} (hs:src<xs.size) (hd:d≤src) (k:Nat) :
  KR R (bubble xs src d) k=if k=src - d then KR R xs src else if src - d<k∧k≤src then KR R xs (k - 1) else KR R xs k:=by
 have e:=getElem?_bubble hs d hd k
 by_cases h1:k=src - d
 ·rw [if_pos h1] at e ⊢;exact cN e
 ·rw [if_neg h1] at e ⊢
  by_cases h2:src - d<k∧k≤src
  ·rw [if_pos h2] at e ⊢;exact cN e
  ·rw [if_neg h2] at e ⊢;exact cN e
section
variable {prog:Program}{w:World}{A:Around}{E:Value→Shared→Prop}{s:Shared}{R:Keyed→Int}{κ:SortKind}{T:Keyed→Prop}{a₀ b:Array Keyed}{p:Array (Nat×Nat×Nat)}{lo:Nat}
theorem G.at {st:SortSt} (h:G a₀ κ p lo b st) (hT:∀ a∈a₀.toList,T a) {i:Nat} (hi:i<a₀.size):∃ hi':i<(arrOf st).toList.length,T ((arrOf st).toList[i])∧KR R (arrOf st) i=R ((arrOf st).toList[i]):=by
 have hi':i<(arrOf st).toList.length:=by rw [zaP,h.size];exact hi
 refine ⟨hi',hT _ ((zad.mp h.perm).mem_iff.mp (zbD _)),?_⟩
 unfold KR
 rw [← zaA,zam hi']
 rfl
theorem Mf (C:rN prog w A s κ R T) (hT:∀ a∈a₀.toList,T a) {st:SortSt}{i j:Nat}{Q:Option Bool→SortSt→Prop} (hB:G a₀ κ p lo b st) (hi:i<a₀.size) (hj:j<a₀.size)
  (h:Q (some (decide (KR R (arrOf st) i<KR R (arrOf st) j))) st):wpS (model prog w) A E s (ltAt' i j) Q st:=by
 obtain ⟨e1,t1,r1⟩:=hB.at (R:=R) hT hi
 obtain ⟨e2,t2,r2⟩:=hB.at (R:=R) hT hj
 rw [r1,r2] at h
 rw [ltAt'_eq]
 exact wpS_bind (wpS_get (wpS_bind (aT e1 (wpS_bind (aT e2 (sZ C hB.kind t1 t2 h))))))
noncomputable def t3 (lo n nrem:Nat):StateT SortSt Sem (Option Nat):=do
 let mut n:=n
 reverseSlice' lo (lo+n)
 for _ in [n:nrem] do
  let some sm ← ltAt' (lo+n) (lo+n - 1) | return none
  if sm then break
  n:=n+1
 return some n
noncomputable def dP (lo n nrem:Nat):StateT SortSt Sem (Option Nat):=do
 let mut n:=n
 rule "list.sort.descending-run"
 n:=n+1
 let mut neq:=0
 for _ in [n:nrem] do
  let some sm ← ltAt' (lo+n) (lo+n - 1) | return none
  if sm then
   if neq > 0 then reverseSlice' (lo+n - (neq+1)) (lo+n)
   neq:=0
  else
   let some la ← ltAt' (lo+n - 1) (lo+n) | return none
   if la then break
   neq:=neq+1
  n:=n+1
 if neq > 0 then reverseSlice' (lo+n - (neq+1)) (lo+n)
 t3 lo n nrem
noncomputable def MQ (lo n nrem:Nat):StateT SortSt Sem (Option (Option Nat)×Nat) :=
 forIn [n:nrem] ((none,n):Option (Option Nat)×Nat) fun _ c=>do
  let x ← ltAt' (lo+c.2) (lo+c.2 - 1)
  match x with
  | some sm=>if sm=true then pure (ForInStep.done (none,c.2)) else pure (ForInStep.yield (none,c.2+1))
  | _=>pure (ForInStep.done (some none,c.2))
theorem DA (C:rN prog w A s κ R T) (hT:∀ a∈a₀.toList,T a) {st:SortSt}{n nrem:Nat}{Q:Option (Option Nat)×Nat→SortSt→Prop} (hB:G a₀ κ p lo b st) (hn:lo+nrem≤a₀.size) (h1:1≤n) (hnn:n≤nrem) (hs:Up R (arrOf st) lo n)
  (h:∀ m,n≤m→m≤nrem→Up R (arrOf st) lo m→(m=nrem∨KR R (arrOf st) (lo+m)<KR R (arrOf st) (lo+m - 1))→Q (none,m) st):wpS (model prog w) A E s (MQ lo n nrem) Q st:=by
 unfold MQ
 refine wpS_forRange (I:=fun x c st'=>st'=st∧c=(none,x)∧Up R (arrOf st) lo x) ?step ?fin ⟨rfl,rfl,hs⟩
 case fin =>
  rintro c st' ⟨rfl,rfl,hs'⟩
  rw [show max n nrem=nrem by omega] at hs' ⊢
  exact h nrem hnn (zcH _) hs' (.inl rfl)
 case step =>
  rintro x c st' hax hxn ⟨rfl,rfl,hs'⟩
  dsimp only
  refine wpS_bind (Mf C hT hB (by omega) (by omega) ?_)
  by_cases hl:KR R (arrOf st') (lo+x)<KR R (arrOf st') (lo+x - 1)
  ·simp only [hl,decide_true,if_true]
   exact wpS_pure (h x hax (by omega) hs' (.inr hl))
  ·simp only [hl,decide_false,zbc,if_false]
   refine wpS_pure ⟨rfl,rfl,fun i j hi hij hj => ?_⟩
   by_cases hjx:j<lo+x
   ·exact hs' i j hi hij hjx
   ·obtain rfl:j=lo+x:=by omega
    by_cases hi':i=lo+x
    ·subst hi';exact zcK _
    ·exact zcy (hs' i (lo+x - 1) hi (by omega) (by omega)) (Int.not_lt.mp hl)
theorem G5 (C:rN prog w A s κ R T) (hT:∀ a∈a₀.toList,T a) {st:SortSt}{n nrem:Nat}{Q:Option Nat→SortSt→Prop} (hB:G a₀ κ p lo b st) (hn:lo+nrem≤a₀.size) (h1:1≤n) (hnn:n≤nrem) (hs:Dn R (arrOf st) lo n)
  (h:∀ m st',G a₀ κ p lo b st'→1≤m→m≤nrem→Up R (arrOf st') lo m→Q (some m) st'):wpS (model prog w) A E s (t3 lo n nrem) Q st:=by
 unfold t3
 dsimp only
 have hz:lo+n≤(arrOf st).size:=by rw [hB.size];omega
 rw [reverseSlice'_eq]
 refine wpS_bind (wpS_modify ?_)
 have hB':=hB.Nu (i:=lo) (j:=lo+n) (by omega) (by omega)
 have hs':Up R (arrOf (setArr st (mirror (arrOf st) lo (lo+n) ((lo+n - lo) / 2)))) lo n:=by
  intro i j hi hij hj
  show KR R (mirror (arrOf st) lo (lo+n) ((lo+n - lo) / 2)) i≤KR R (mirror (arrOf st) lo (lo+n) ((lo+n - lo) / 2)) j
  rw [wG hz,wG hz,if_pos (by omega),if_pos (by omega)]
  exact hs _ _ (by omega) (by omega) (by omega)
 generalize setArr st (mirror (arrOf st) lo (lo+n) ((lo+n - lo) / 2))=st1 at hB' hs' ⊢
 refine wpS_bind (DA C hT hB' hn h1 hnn hs' fun m m1 m2 m3 _=>wpS_pure (h m _ hB' (by omega) m2 m3))
noncomputable def MA (lo n nrem:Nat):StateT SortSt Sem (Option (Option Nat)×Nat×Nat) :=
 forIn [n:nrem] ((none,n,0):Option (Option Nat)×Nat×Nat) fun _ c=>do
  let x ← ltAt' (lo+c.2.1) (lo+c.2.1 - 1)
  match x with
  | some sm =>
   if sm=true then
    if c.2.2 > 0 then do
     reverseSlice' (lo+c.2.1 - (c.2.2+1)) (lo+c.2.1)
     pure (ForInStep.yield (none,c.2.1+1,0))
    else pure (ForInStep.yield (none,c.2.1+1,0))
   else do
    let x ← ltAt' (lo+c.2.1 - 1) (lo+c.2.1)
    match x with
    | some la=>if la=true then pure (ForInStep.done (none,c.2.1,c.2.2)) else pure (ForInStep.yield (none,c.2.1+1,c.2.2+1))
    | _=>pure (ForInStep.done (some none,c.2.1,c.2.2))
  | _=>pure (ForInStep.done (some none,c.2.1,c.2.2))
theorem JX (C:rN prog w A s κ R T) (hT:∀ a∈a₀.toList,T a) {st:SortSt}{n nrem:Nat}{Q:Option (Option Nat)×Nat×Nat→SortSt→Prop} (hB:G a₀ κ p lo b st) (hn:lo+nrem≤a₀.size) (h1:1≤n) (hnn:n≤nrem) (hs:Dn R (arrOf st) lo n)
  (h:∀ m neq st',G a₀ κ p lo b st'→n≤m→m≤nrem→Dn R (arrOf st') lo m→neq+1≤m→(∀ i,lo+m - (neq+1)≤i→i<lo+m→KR R (arrOf st') i=KR R (arrOf st') (lo+m - 1))→Q (none,m,neq) st'):wpS (model prog w) A E s (MA lo n nrem) Q st:=by
 unfold MA
 refine wpS_forRange (I:=fun x c st'=>∃ neq,c=(none,x,neq)∧G a₀ κ p lo b st'∧Dn R (arrOf st') lo x∧neq+1≤x ∧
   (∀ i,lo+x - (neq+1)≤i→i<lo+x→KR R (arrOf st') i=KR R (arrOf st') (lo+x - 1))) ?step ?fin ⟨0,rfl,hB,hs,by omega,fun i h1 h2=>by congr 1;omega⟩
 case fin =>
  rintro c st' ⟨neq,rfl,hB',hs',hq,he⟩
  rw [show max n nrem=nrem by omega] at hs' hq he ⊢
  exact h nrem neq st' hB' hnn (zcH _) hs' hq he
 case step =>
  rintro x c st' hax hxn ⟨neq,rfl,hB',hs',hq,he⟩
  dsimp only
  have hz:lo+x≤(arrOf st').size:=by rw [hB'.size];omega
  refine wpS_bind (Mf C hT hB' (by omega) (by omega) ?_)
  by_cases hl:KR R (arrOf st') (lo+x)<KR R (arrOf st') (lo+x - 1)
  ·simp only [hl,decide_true,if_true]
   have oU:∀ xs:Array Keyed,(∀ k,KR R xs k=KR R (arrOf st') k)→Dn R xs lo (x+1):=by
    intro xs hk i j hi hij hj
    rw [hk,hk]
    by_cases hjx:j<lo+x
    ·exact hs' i j hi hij hjx
    ·obtain rfl:j=lo+x:=by omega
     by_cases hi':i=lo+x
     ·subst hi';exact zcK _
     ·exact zcy (zcz hl) (hs' i (lo+x - 1) hi (by omega) (by omega))
   by_cases hneq:neq > 0
   ·rw [if_pos hneq,reverseSlice'_eq]
    exact wpS_bind (wpS_modify (wpS_pure ⟨0,rfl,hB'.Nu (by omega) (by omega),oU _ (jV hz he),by omega,fun i h1 h2=>by congr 1;omega⟩))
   ·rw [if_neg hneq]
    exact wpS_pure ⟨0,rfl,hB',oU _ (fun _=>rfl),by omega,fun i h1 h2=>by congr 1;omega⟩
  ·simp only [hl,decide_false,zbc,if_false]
   refine wpS_bind (Mf C hT hB' (by omega) (by omega) ?_)
   by_cases hg:KR R (arrOf st') (lo+x - 1)<KR R (arrOf st') (lo+x)
   ·simp only [hg,decide_true,if_true]
    exact wpS_pure (h x neq st' hB' hax (by omega) hs' hq he)
   ·simp only [hg,decide_false,zbc,if_false]
    have hx:KR R (arrOf st') (lo+x)=KR R (arrOf st') (lo+x - 1):=by omega
    refine wpS_pure ⟨neq+1,rfl,hB',fun i j hi hij hj => ?_,by omega,fun i h1 h2 => ?_⟩
    ·by_cases hjx:j<lo+x
     ·exact hs' i j hi hij hjx
     ·obtain rfl:j=lo+x:=by omega
      by_cases hi':i=lo+x
      ·subst hi';exact zcK _
      ·rw [hx];exact hs' i (lo+x - 1) hi (by omega) (by omega)
    ·rw [show lo+(x+1) - 1=lo+x by omega]
     by_cases hix:i=lo+x
     ·subst hix;rfl
     ·rw [hx];exact he i (by omega) (by omega)
theorem HL (C:rN prog w A s κ R T) (hT:∀ a∈a₀.toList,T a) {st:SortSt}{n nrem:Nat}{Q:Option Nat→SortSt→Prop} (hB:G a₀ κ p lo b st) (hn:lo+nrem≤a₀.size) (hnn:n+1≤nrem) (hs:Dn R (arrOf st) lo (n+1))
  (h:∀ m st',G a₀ κ p lo b st'→1≤m→m≤nrem→Up R (arrOf st') lo m→Q (some m) st'):wpS (model prog w) A E s (dP lo n nrem) Q st:=by
 unfold dP
 refine wpS_bind (wpS_lift (wpAny_rule ⟨rfl,?_⟩))
 refine wpS_bind (JX C hT hB hn (by omega) hnn hs fun m neq st' hB' m1 m2 hs' hq he => ?_)
 dsimp only
 have hz:lo+m≤(arrOf st').size:=by rw [hB'.size];omega
 by_cases hneq:neq > 0
 ·rw [if_pos hneq,reverseSlice'_eq]
  refine wpS_bind (wpS_modify (G5 C hT (hB'.Nu (by omega) (by omega)) hn (by omega) m2 ?_ h))
  intro i j hi hij hj
  show KR R (mirror (arrOf st') _ _ _) j≤KR R (mirror (arrOf st') _ _ _) i
  rw [jV hz he,jV hz he]
  exact hs' i j hi hij hj
 ·rw [if_neg hneq]
  exact G5 C hT hB' hn (by omega) m2 hs' h
theorem Ja (C:rN prog w A s κ R T) (hT:∀ a∈a₀.toList,T a) {st:SortSt}{nrem:Nat}{Q:Option Nat→SortSt→Prop} (hB:G a₀ κ p lo b st) (hn:lo+nrem≤a₀.size) (h1:1≤nrem)
  (h:∀ m st',G a₀ κ p lo b st'→1≤m→m≤nrem→Up R (arrOf st') lo m→Q (some m) st'):wpS (model prog w) A E s (countRun' lo nrem) Q st:=by
 rw [countRun'_eq]
 refine wpS_bind (DA C hT hB hn (zcH 1) h1 (fun i j hi hij hj=>by
  obtain rfl:i=j:=by omega
  exact zcK _) fun n hn1 hn2 hsn hor => ?_)
 dsimp only
 by_cases hnn:n=nrem
 ·rw [if_pos (by simpa using hnn)]
  exact wpS_pure (h n st hB hn1 hn2 hsn)
 ·rw [if_neg (by simpa using hnn)]
  have hlt:KR R (arrOf st) (lo+n)<KR R (arrOf st) (lo+n - 1):=hor.resolve_left hnn
  have hz:lo+n≤(arrOf st).size:=by rw [hB.size];omega
  by_cases hgt:n > 1
  ·rw [if_pos hgt]
   refine wpS_bind (Mf C hT hB (by omega) (by omega) ?_)
   by_cases hr:KR R (arrOf st) lo<KR R (arrOf st) (lo+n - 1)
   ·simp only [hr,decide_true,if_true]
    exact wpS_pure (h n st hB hn1 hn2 hsn)
   ·rw [decide_eq_false hr]
    dsimp only
    rw [if_neg (by decide),reverseSlice'_eq]
    have hall:∀ k,lo≤k→k<lo+n→KR R (arrOf st) k=KR R (arrOf st) (lo+n - 1):=by
     intro k k1 hk
     have a1:=hsn lo k (by omega) k1 hk
     have a2:=hsn k (lo+n - 1) k1 (by omega) (by omega)
     omega
    refine wpS_bind (wpS_modify ?_)
    show wpS _ _ _ _ (dP lo n nrem) _ _
    refine HL C hT (hB.Nu (by omega) (by omega)) hn (by omega) ?_ h
    intro i j hi hij hj
    show KR R (mirror (arrOf st) _ _ _) j≤KR R (mirror (arrOf st) _ _ _) i
    rw [jV hz hall,jV hz hall]
    by_cases hjn:j<lo+n
    ·rw [hall i (by omega) (by omega),hall j (by omega) hjn];exact zcK _
    ·obtain rfl:j=lo+n:=by omega
     by_cases hi':i=lo+n
     ·subst hi';exact zcK _
     ·rw [hall i (by omega) (by omega)];exact zcz hlt
  ·rw [if_neg hgt]
   obtain rfl:n=1:=by omega
   show wpS _ _ _ _ (dP lo 1 nrem) _ _
   refine HL C hT hB hn (by omega) ?_ h
   intro i j hi hij hj
   by_cases hi':i=j
   ·subst hi';exact zcK _
   ·obtain rfl:i=lo:=by omega
    obtain rfl:j=i+1:=by omega
    exact zcz hlt
theorem Kp (C:rN prog w A s κ R T) (hT:∀ a∈a₀.toList,T a) {st:SortSt}{n ok:Nat}{Q:Bool→SortSt→Prop} (hB:G a₀ κ p lo b st) (hn:lo+n≤a₀.size) (hok:ok≤n) (hs:Up R (arrOf st) lo ok)
  (h:∀ st',G a₀ κ p lo b st'→Up R (arrOf st') lo n→Q true st'):wpS (model prog w) A E s (binarySort' lo n ok) Q st:=by
 rw [binarySort'_eq]
 refine wpS_bind (wpS_mono (wpS_forRange (I:=fun k c st'=>c=(none,())∧G a₀ κ p lo b st'∧Up R (arrOf st') lo (min k n))
  (Q:=fun c st'=>c=(none,())∧G a₀ κ p lo b st'∧Up R (arrOf st') lo n) ?step ?fin ?init) ?post)
 case post =>
  rintro c st' ⟨rfl,hB',hs'⟩
  exact wpS_pure (h st' hB' hs')
 case init =>
  refine ⟨rfl,hB,fun i j hi hij hj => ?_⟩
  by_cases h1:ok=0
  ·obtain rfl:i=j:=by omega
   exact zcK _
  ·exact hs i j hi hij (by omega)
 case fin =>
  rintro c st' ⟨hc,hB',hs'⟩
  refine ⟨hc,hB',?_⟩
  rwa [show min (max (max ok 1) n) n=n by omega] at hs'
 case step =>
  rintro k c st' hak hkn ⟨rfl,hB',hs'⟩
  rw [show min k n=k by omega] at hs'
  refine wpS_bind (wpS_mono (wpS_forRange (I:=fun x c st2=>st2=st'∧∃ l r,c=(none,l,r)∧l≤r∧r≤k∧r - l≤k - x ∧
    (∀ i,lo≤i→i<lo+l→KR R (arrOf st') i≤KR R (arrOf st') (lo+k))∧(∀ i,lo+r≤i→i<lo+k→KR R (arrOf st') (lo+k)<KR R (arrOf st') i))
   (Q:=fun c st2=>st2=st'∧∃ l r,c=(none,l,r)∧l≤k ∧
    (∀ i,lo≤i→i<lo+l→KR R (arrOf st') i≤KR R (arrOf st') (lo+k))∧(∀ i,lo+l≤i→i<lo+k→KR R (arrOf st') (lo+k)<KR R (arrOf st') i)) ?istep ?ifin ?iinit) ?ipost)
  case iinit=>exact ⟨rfl,0,k,rfl,by omega,by omega,by omega,fun i _ hi=>by omega,fun i h1 h2=>by omega⟩
  case ifin =>
   rintro c st2 ⟨rfl,l,r,rfl,hlr,hrk,hm,hlo,hhi⟩
   obtain rfl:l=r:=by omega
   exact ⟨rfl,l,l,rfl,hrk,hlo,hhi⟩
  case istep =>
   rintro x c st2 _ hxk ⟨rfl,l,r,rfl,hlr,hrk,hm,hlo,hhi⟩
   dsimp only
   by_cases hge:l≥r
   ·rw [if_pos hge]
    obtain rfl:l=r:=by omega
    exact wpS_pure ⟨rfl,l,l,rfl,hrk,hlo,hhi⟩
   ·rw [if_neg hge]
    refine wpS_bind (Mf C hT hB' (by omega) (by omega) ?_)
    by_cases hl:KR R (arrOf st2) (lo+k)<KR R (arrOf st2) (lo+(l+r) / 2)
    ·simp only [hl,decide_true,if_true]
     refine wpS_pure ⟨rfl,l,(l+r) / 2,rfl,by omega,by omega,by omega,hlo,fun i h1 h2 => ?_⟩
     exact Int.lt_of_lt_of_le hl (hs' _ _ (by omega) h1 h2)
    ·simp only [hl,decide_false,zbc,if_false]
     refine wpS_pure ⟨rfl,(l+r) / 2+1,r,rfl,by omega,by omega,by omega,fun i h0 h1 => ?_,hhi⟩
     exact zcy (hs' i (lo+(l+r) / 2) h0 (by omega) (by omega)) (Int.not_lt.mp hl)
  case ipost =>
   rintro c st2 ⟨rfl,l,r,rfl,hlk,hlo,hhi⟩
   show wpS _ _ _ _ (do moveDown' (lo+k) (lo+l);pure (ForInStep.yield (none,()))) _ _
   rw [moveDown'_eq]
   have hks:lo+k<(arrOf st2).size:=by rw [hB'.size];omega
   refine wpS_bind (wpS_modify (wpS_pure ⟨rfl,hB'.arr (bubble_perm _ _ _) (fun i hi => ?_),?_⟩))
   ·rw [getElem?_bubble hks _ (by omega),if_neg (by omega),if_neg (by omega)]
   rw [show min (k+1) n=k+1 by omega]
   intro i j hi hij hj
   show KR R (bubble (arrOf st2) (lo+k) (lo+k - (lo+l))) i≤KR R (bubble (arrOf st2) (lo+k) (lo+k - (lo+l))) j
   rw [Ej hks (by omega),Ej hks (by omega),show lo+k - (lo+k - (lo+l))=lo+l by omega]
   repeat' split
   all_goals first
    | (exfalso;omega)
    | exact zcK _
    | exact hlo _ (by omega) (by omega)
    | exact zcz (hhi _ (by omega) (by omega))
    | exact hs' _ _ (by omega) (by omega) (by omega)
end
theorem EA {σ:Type}{M:Model}{A:Around}{E:Value→Shared→Prop}{s:Shared}{st st':σ}{Q:PUnit→σ→Prop} (h:Q ⟨⟩ st'):wpS M A E s (set st':StateT σ Sem PUnit) Q st:=by
 unfold wpS;rw [StateT.run_set];exact wpAny_pure ⟨rfl,h⟩
theorem wr (c:Nat):∀ (l:List Keyed) (n:Nat) (xs:Array Keyed),c+n+l.length≤xs.size→((l.zipIdx n).foldl (fun a (p,j)=>a.setIfInBounds (c+j) p) xs).toList=xs.toList.take (c+n)++(l++xs.toList.drop (c+n+l.length))
 | [],n,xs,h=>by simp
 | p::l,n,xs,h=>by
  have h':c+n<xs.toList.length:=by simp at h ⊢;omega
  rw [List.zipIdx_cons,List.foldl_cons,wr c l (n+1) _ (by simp at h ⊢;omega)]
  simp only [zae]
  rw [List.drop_set_of_lt (by omega),show c+(n+1)=(c+n)+1 by omega,List.take_succ_eq_append_getElem (by rw [zbW];exact h'),List.getElem_set_self,List.take_set_of_le (zcH _),zbk]
  simp only [zbF,zbU,zbx]
  rw [show c+n+1+l.length=c+n+(l.length+1) by omega]
noncomputable def Runs (R:Keyed→Int) (xs:Array Keyed):List (Nat×Nat×Nat)→Nat→Nat→Prop
 | [],a,b=>a=b
 | (s,n,_)::t,a,b=>s=a∧1≤n∧Up R xs a n∧Runs R xs t (a+n) b
section
variable {R:Keyed→Int}{xs ys:Array Keyed}
theorem Runs.le:∀ {t:List (Nat×Nat×Nat)}{a b:Nat},Runs R xs t a b→a+t.length≤b
 | [],a,b,h=>by
  have:a=b:=h
  simp;omega
 | (s,n,q)::t,a,b,h=>by
  have:=Runs.le h.2.2.2
  have:=h.2.1
  rw [zbx];omega
theorem Up.of {lo m:Nat} (h:Up R xs lo m) (e:∀ k,lo≤k→k<lo+m→KR R ys k=KR R xs k):Up R ys lo m:=fun i j hi hij hj=>by
 rw [e i hi (by omega),e j (by omega) hj];exact h i j hi hij hj
theorem Runs.of:∀ {t:List (Nat×Nat×Nat)}{a b:Nat},Runs R xs t a b→(∀ k,a≤k→k<b→KR R ys k=KR R xs k)→Runs R ys t a b
 | [],a,b,h,e=>h
 | (s,n,q)::t,a,b,h,e=>by
  have:=h.2.2.2.le
  exact ⟨h.1,h.2.1,h.2.2.1.of fun k h1 h2=>e k h1 (by omega),h.2.2.2.of fun k h1 h2=>e k (by omega) h2⟩
theorem Runs.app:∀ {t u:List (Nat×Nat×Nat)}{a b c:Nat},Runs R xs t a b→Runs R xs u b c→Runs R xs (t++u) a c
 | [],u,a,b,c,h,g=>by
  have:a=b:=h
  subst this;exact g
 | (s,n,q)::t,u,a,b,c,h,g=>⟨h.1,h.2.1,h.2.2.1,h.2.2.2.app g⟩
theorem Runs.O8:∀ {t u:List (Nat×Nat×Nat)}{a c:Nat},Runs R xs (t++u) a c→∃ b,Runs R xs t a b∧Runs R xs u b c
 | [],u,a,c,h=>⟨a,rfl,h⟩
 | (s,n,q)::t,u,a,c,h=>by
  obtain ⟨b,h1,h2⟩:=Runs.O8 h.2.2.2
  exact ⟨b,⟨h.1,h.2.1,h.2.2.1,h1⟩,h2⟩
theorem cO {k:Nat} (h:k<xs.toList.length):KR R xs k=R xs.toList[k]:=by
 unfold KR
 rw [← zaA,zam h];rfl
theorem Up.cT {lo m:Nat} (h:Up R xs lo m) (hm:lo+m≤xs.size):bg R ((xs.toList.drop lo).take m):=by
 refine zai.mpr fun i j hi hj hij => ?_
 have ll:xs.toList.length=xs.size:=by simp
 rw [zby,zbz] at hi hj
 rw [zbo,zbo,zbn,zbn,← cO (R:=R) (xs:=xs),← cO (R:=R) (xs:=xs)]
 exact h _ _ (by omega) (by omega) (by omega)
theorem Up.ofL {lo m:Nat}{P M S:List Keyed} (e:xs.toList=P++(M++S)) (hP:P.length=lo) (hM:M.length=m) (h:bg R M):Up R xs lo m:=by
 intro i j hi hij hj
 have ll:xs.toList.length=P.length+(M.length+S.length):=by rw [e];simp
 have g:∀ u (hu:u<xs.toList.length),lo≤u→(hm:u<lo+m)→xs.toList[u]=M[u - lo]'(by omega):=fun u hu h1 h2=>by
  simp only [e]
  rw [List.getElem_append_right (by omega),List.getElem_append_left (by omega)]
  congr 1;omega
 rw [cO (by omega),cO (by omega),g i (by omega) hi (by omega),g j (by omega) (by omega) hj]
 exact h.at (by omega) (by omega) (by omega)
theorem Nc {zs:Array Keyed}{P M M' S:List Keyed} (e:xs.toList=P++(M++S)) (e':zs.toList=P++(M'++S)) (hM:M'.length=M.length) {k:Nat} (hk:k<P.length∨P.length+M.length≤k):zs[k]? = xs[k]? := by
 rw [← zaA,← zaA,e,e']
 rcases hk with hk | hk
 ·rw [zag hk,zag hk]
 ·rw [zab (by omega),zab (by omega),zab (by omega),zab (by omega),hM]
end
section
variable {prog:Program}{w:World}{A:Around}{E:Value→Shared→Prop}{s:Shared}{R:Keyed→Int}{κ:SortKind}{T:Keyed→Prop}{a₀:Array Keyed}
theorem JB (C:rN prog w A s κ R T) {xs:Array Keyed}{p:Array (Nat×Nat×Nat)}{g:Nat} (hT:∀ a∈xs.toList,T a) {i sa na pw sb nb q:Nat}{Q:Bool→SortSt→Prop} (h1:p[i]? = some (sa,na,pw)) (h2:p[i+1]? = some (sb,nb,q))
  (hsb:sb=sa+na) (na1:1≤na) (nb1:1≤nb) (hz:sb+nb≤xs.size) (ua:Up R xs sa na) (ub:Up R xs sb nb)
  (h:∀ ys g',ys.Perm xs→Up R ys sa (na+nb)→(∀ k,k<sa∨sb+nb≤k→ys[k]? = xs[k]?)→Q true (SortSt.mk' κ ys ((p.setIfInBounds i (sa,na+nb,pw)).eraseIdxIfInBounds (i+1)) g' none)) :
  wpS (model prog w) A E s (mergeAt' i) Q (SortSt.mk' κ xs p g none):=by
 have ll:xs.toList.length=xs.size:=zaP
 refine wpS_bind (wpS_get ?_)
 dsimp only
 rw [h1,h2]
 dsimp only
 refine wpS_bind (EA ?_)
 generalize (p.setIfInBounds i (sa,na+nb,pw)).eraseIdxIfInBounds (i+1)=p' at h ⊢
 have hU:∀ {lo m:Nat},Up R xs lo m→lo+m≤xs.size→∀ (i j:Nat) (hi:lo+i<xs.toList.length) (hj:lo+j<xs.toList.length),i≤j→j<m→R xs.toList[lo+i]≤R xs.toList[lo+j]:=by
  intro lo m u um i j hi hj hij hjm
  rw [← cO (R:=R) hi,← cO (R:=R) hj]
  exact u _ _ (by omega) (by omega) (by omega)
 refine wpS_bind (aT (by omega) (wpS_bind (C3 C rfl hT (hT _ (zbD _)) (hU ua (by omega)) (by omega) (by omega) fun k k1 k2 k3 => ?_)))
 dsimp only
 by_cases c1:na - k=0
 ·rw [if_pos (by simpa using c1)]
  refine wpS_pure (h xs g (Array.Perm.refl _) ?_ (fun _ _=>rfl))
  intro i j hi hij hj
  by_cases c2:j<sb
  ·exact ua i j hi hij (by omega)
  by_cases c3:sb≤i
  ·exact ub i j c3 hij (by omega)
  refine zcy ?_ (ub sb j (by omega) (by omega) (by omega))
  rw [cO (by omega),cO (by omega)]
  have:=k2 (i - sa) (by omega) (by omega)
  simpa only [show sa+(i - sa)=i by omega] using this
 rw [if_neg (by simpa using c1)]
 refine wpS_bind (aT (by omega) (wpS_bind (C4 C rfl hT (hT _ (zbD _)) (hU ub (by omega)) (by omega) (by omega) fun m m1 m2 m3 => ?_)))
 have el:sa+k+(na - k) - 1=sb - 1:=by omega
 simp only [el] at m2 m3
 dsimp only
 by_cases c2:m=0
 ·rw [if_pos (by simpa using c2)]
  refine wpS_pure (h xs g (Array.Perm.refl _) ?_ (fun _ _=>rfl))
  intro i j hi hij hj
  by_cases c2:j<sb
  ·exact ua i j hi hij (by omega)
  by_cases c3:sb≤i
  ·exact ub i j c3 hij (by omega)
  refine zcy (ua i (sb - 1) (by omega) (by omega) (by omega)) ?_
  rw [cO (by omega),cO (by omega)]
  have:=m3 (j - sb) (by omega) (by omega) (by omega)
  simpa only [show sb+(j - sb)=j by omega] using this
 rw [if_neg (by simpa using c2)]
 have ex:(xs.extract (sa+k) sb).toList=(xs.toList.drop (sa+k)).take (na - k):=by
  rw [show sb=sa+k+(na - k) by omega];exact yE _ _ _
 have ey:(xs.extract sb (sb+m)).toList=(xs.toList.drop sb).take m:=yE _ _ _
 have zx:(xs.extract (sa+k) sb).size=na - k:=by rw [Array.size_extract];omega
 have zy:(xs.extract sb (sb+m)).size=m:=by rw [Array.size_extract];omega
 generalize hx:xs.extract (sa+k) sb=x at *
 generalize hy:xs.extract sb (sb+m)=y at *
 have tx:∀ (P:Keyed→Prop),(∀ u (hu:u<xs.toList.length),sa+k≤u→u<sb→P xs.toList[u])→∀ a∈x.toList,P a:=fun P hP a ha=>by
  rw [ex] at ha
  exact lT (fun u hu huk=>hP _ hu (by omega) (by omega)) a ha
 have ty:∀ (P:Keyed→Prop),(∀ u (hu:u<xs.toList.length),sb≤u→u<sb+m→P xs.toList[u])→∀ a∈y.toList,P a:=fun P hP a ha=>by
  rw [ey] at ha
  exact lT (fun u hu huk=>hP _ hu (by omega) (by omega)) a ha
 have sx:bg R x.toList:=by
  rw [ex];exact Up.cT (fun i j hi hij hj=>ua i j (by omega) hij (by omega)) (by omega)
 have sy:bg R y.toList:=by
  rw [ey];exact Up.cT (fun i j hi hij hj=>ub i j (by omega) hij (by omega)) (by omega)
 have low:∀ b∈x.toList,R (xs.toList[sb]'(by omega))<R b:=tx _ fun u hu h1 h2=>by
  have:=k3 (u - sa) (by omega) (by omega) (by omega)
  simpa only [show sa+(u - sa)=u by omega] using this
 have hgh:∀ a∈y.toList,R a<R (xs.toList[sb - 1]'(by omega)):=ty _ fun u hu h1 h2=>by
  have:=m2 (u - sb) (by omega) (by omega)
  simpa only [show sb+(u - sb)=u by omega] using this
 have y0:∀ hh,y.toList[0]'hh=xs.toList[sb]'(by omega):=fun hh=>by
  simp only [ey,zbo,zbn,Nat.add_zero]
 have xl:∀ hh,x.toList[x.size - 1]'hh=xs.toList[sb - 1]'(by omega):=fun hh=>by
  simp only [ex,zbo,zbn,zx]
  congr 1;omega
 have lxx:x.toList.length=na - k:=by rw [zaP,zx]
 have lyy:y.toList.length=m:=by rw [zaP,zy]
 have tail:∀ r g',Told R x.toList y.toList r→wpS (model prog w) A E s (do
   modify fun st:SortSt=>SortSt.mk' (kindOf st) (r.toList.zipIdx.foldl (fun a (p,j)=>a.setIfInBounds (sa+k+j) p) (arrOf st)) (pendingOf st) (gallopOf st) (failedOf st)
   let st ← get
   return (failedOf st).isNone) Q (SortSt.mk' κ xs p' g' none):=by
  intro r g' ht
  have rl:r.toList.length=na - k+m:=by rw [ht.2.length_eq,zaU,lxx,lyy]
  refine wpS_bind (wpS_modify (wpS_bind (wpS_get (wpS_pure ?_))))
  have e:xs.toList=xs.toList.take (sa+k)++((x.toList++y.toList)++xs.toList.drop (sb+m)):=by
   rw [ex,ey]
   have e1:=(zaw (sa+k) xs.toList).symm
   have e2:=(zaw (na - k) (xs.toList.drop (sa+k))).symm
   have e3:=(zaw m (xs.toList.drop sb)).symm
   rw [List.drop_drop] at e2 e3
   rw [show sa+k+(na - k)=sb by omega] at e2
   rw [zbk,← e3,← e2,← e1]
  have e':=wr (sa+k) r.toList 0 xs (by rw [rl];omega)
  rw [Nat.add_zero,rl,show sa+k+(na - k+m)=sb+m by omega] at e'
  generalize r.toList.zipIdx.foldl (fun a (p,j)=>a.setIfInBounds (sa+k+j) p) xs=ys at e' ⊢
  have lM:r.toList.length=(x.toList++y.toList).length:=ht.2.length_eq
  have lP:(xs.toList.take (sa+k)).length=sa+k:=by rw [zby];omega
  refine h ys g' ?_ ?_ fun u hu=>Nc e e' lM (by rw [lP,← lM,rl];omega)
  ·rw [zad,e']
   conv=>rhs;rw [e]
   exact List.Perm.append_left _ (List.Perm.append_right _ ht.2)
  ·have same:∀ u,u<sa+k∨sb+m≤u→KR R ys u=KR R xs u:=fun u hu=>cN (Nc e e' lM (by rw [lP,← lM,rl];omega))
   have um:Up R ys (sa+k) (na - k+m):=Up.ofL e' lP rl ht.1
   have inn:∀ u,sa+k≤u→u<sb+m→∃ a∈x.toList++y.toList,KR R ys u=R a:=by
    intro u h1 h2
    have hh:u<ys.toList.length:=by rw [e',zaU,zaU,lP,rl];omega
    refine ⟨ys.toList[u],ht.2.mem_iff.mp ?_,cO hh⟩
    simp only [e']
    rw [List.getElem_append_right (by omega),List.getElem_append_left (by omega)]
    exact zbD _
   have A1:∀ u,sa≤u→u<sa+k→∀ a∈x.toList++y.toList,KR R xs u≤R a:=by
    intro u h1 h2 a ha
    rcases zbO.mp ha with ha | ha
    ·refine tx (fun a=>KR R xs u≤R a) (fun v hv q1 q2 => ?_) a ha
     rw [← cO (R:=R) hv];exact ua u v h1 (by omega) (by omega)
    ·refine ty (fun a=>KR R xs u≤R a) (fun v hv q1 q2 => ?_) a ha
     rw [← cO (R:=R) hv]
     refine zcy ?_ (ub sb v (by omega) (by omega) (by omega))
     rw [cO (by omega),cO (by omega)]
     have:=k2 (u - sa) (by omega) (by omega)
     simpa only [show sa+(u - sa)=u by omega] using this
   have A2:∀ u,sb+m≤u→u<sb+nb→∀ a∈x.toList++y.toList,R a≤KR R xs u:=by
    intro u h1 h2 a ha
    rcases zbO.mp ha with ha | ha
    ·refine tx (fun a=>R a≤KR R xs u) (fun v hv q1 q2 => ?_) a ha
     rw [← cO (R:=R) hv]
     refine zcy (ua v (sb - 1) (by omega) (by omega) (by omega)) ?_
     rw [cO (by omega),cO (by omega)]
     have:=m3 (u - sb) (by omega) (by omega) (by omega)
     simpa only [show sb+(u - sb)=u by omega] using this
    ·refine ty (fun a=>R a≤KR R xs u) (fun v hv q1 q2 => ?_) a ha
     rw [← cO (R:=R) hv];exact ub v u (by omega) (by omega) (by omega)
   have A3:∀ u v,sa≤u→u<sa+k→sb+m≤v→v<sb+nb→KR R xs u≤KR R xs v:=by
    intro u v h1 h2 h3 h4
    refine zcy ?_ (ub sb v (by omega) (by omega) (by omega))
    rw [cO (by omega),cO (by omega)]
    have:=k2 (u - sa) (by omega) (by omega)
    simpa only [show sa+(u - sa)=u by omega] using this
   intro i j hi hij hj
   by_cases q1:i<sa+k
   ·rw [same i (.inl q1)]
    by_cases q2:j<sa+k
    ·rw [same j (.inl q2)];exact ua i j hi hij (by omega)
    by_cases q3:j<sb+m
    ·obtain ⟨a,ha,he⟩:=inn j (by omega) q3
     rw [he];exact A1 i hi q1 a ha
    ·rw [same j (.inr (by omega))];exact A3 i j hi q1 (by omega) (by omega)
   by_cases q2:i<sb+m
   ·by_cases q3:j<sb+m
    ·exact um i j (by omega) hij (by omega)
    ·obtain ⟨a,ha,he⟩:=inn i (by omega) q2
     rw [he,same j (.inr (by omega))];exact A2 j (by omega) (by omega) a ha
   ·rw [same i (.inr (by omega)),same j (.inr (by omega))]
    exact ub i j (by omega) hij (by omega)
 have TX:∀ a∈x.toList,T a:=tx T fun u hu _ _=>hT _ (zbD _)
 have TY:∀ a∈y.toList,T a:=ty T fun u hu _ _=>hT _ (zbD _)
 by_cases c3:na - k≤m
 ·rw [if_pos c3]
  refine wpS_bind (vF C rfl TX TY sx sy (by omega) (by omega) (fun b hb => ?_) (fun a ha b hb => ?_) fun r g' ht=>tail r g' ht)
  ·rw [y0];exact zcz (low b hb)
  ·obtain ⟨v,hv,rfl⟩:=zaL hb
   rw [zbz,lxx] at hv
   rw [zbn]
   have:v=0:=by omega
   subst this
   have:=xl (by omega)
   simp only [Nat.add_zero]
   rw [this];exact zcz (hgh a ha)
 ·rw [if_neg c3]
  refine wpS_bind (vG C rfl TX TY sx sy (by omega) (by omega) (fun a ha b hb => ?_) (fun a ha => ?_) fun r g' ht=>tail r g' ht)
  ·obtain ⟨v,hv,rfl⟩:=zaL ha
   rw [zby] at hv
   obtain rfl:v=0:=by omega
   rw [zbo,y0]
   exact zcz (low b hb)
  ·rw [xl];exact zcz (hgh a ha)
theorem pL {α:Type} (P:List α) (x y v:α) (S:List α):((P++x::y::S).set P.length v).eraseIdx (P.length+1)=P++v::S:=by
 induction P with
 | nil=>rfl
 | cons a P ih=>simpa using ih
theorem zW (c:Prop) [Decidable c] {n:Nat} (h : ¬ n≤1):(if c then n - 2 - 1 else n - 2)+1<n:=by split <;> omega
theorem Cu (C:rN prog w A s κ R T) {xs:Array Keyed}{p:Array (Nat×Nat×Nat)}{g lo i:Nat} (hT:∀ a∈xs.toList,T a) {Q:Bool→SortSt→Prop} (hr:Runs R xs p.toList 0 lo) (hlo:lo≤xs.size) (hi:i+1<p.size)
  (h:∀ ys p' g',ys.Perm xs→Runs R ys p'.toList 0 lo→p'.size+1=p.size→(∀ k,lo≤k→ys[k]? = xs[k]?)→Q true (SortSt.mk' κ ys p' g' none)) :
  wpS (model prog w) A E s (mergeAt' i) Q (SortSt.mk' κ xs p g none):=by
 have lp:p.toList.length=p.size:=zaP
 have e:p.toList=p.toList.take i++p.toList[i]'(by omega)::p.toList[i+1]'(by omega)::p.toList.drop (i+2):=by
  conv=>lhs;rw [← zaw i p.toList,zah (by omega:i<p.toList.length),zah (by omega:i+1<p.toList.length)]
 have lP:(p.toList.take i).length=i:=by rw [zby];omega
 have g1:p[i]? = some (p.toList[i]'(by omega)):=by rw [← zaA];exact zam _
 have g2:p[i+1]? = some (p.toList[i+1]'(by omega)):=by rw [← zaA];exact zam _
 generalize p.toList[i]'(by omega)=x at e g1
 generalize p.toList[i+1]'(by omega)=y at e g2
 generalize p.toList.take i=P at e lP
 generalize p.toList.drop (i+2)=S at e
 obtain ⟨sa,na,pw⟩:=x
 obtain ⟨sb,nb,q⟩:=y
 rw [e] at hr
 obtain ⟨b,r1,r2⟩:=hr.O8
 obtain ⟨rfl,n1,u1,rfl,n2,u2,r3⟩:=r2
 have l1:=r1.le
 have l3:=r3.le
 refine JB C hT g1 g2 rfl n1 n2 (by omega) u1 u2 fun ys g' hp hu hk => ?_
 refine h ys _ g' hp ?_ ?_ fun k hk'=>hk k (.inr (by omega))
 ·rw [Array.toList_eraseIdxIfInBounds,zae,e]
  subst lP
  rw [pL]
  refine (r1.of fun k h1 h2=>cN (hk k (.inl h2))).app ⟨rfl,by omega,hu,?_⟩
  rw [← Nat.add_assoc]
  exact r3.of fun k h1 h2=>cN (hk k (.inr h1))
 ·rw [← zaP,Array.toList_eraseIdxIfInBounds,zae,← zaP,e]
  subst lP
  rw [pL]
  simp only [zaU,zbx]
  omega
theorem Runs.pow:∀ {t u:List (Nat×Nat×Nat)}{xs:Array Keyed}{a b:Nat},t.map (fun x=>(x.1,x.2.1))=u.map (fun x=>(x.1,x.2.1))→Runs R xs t a b→Runs R xs u a b
 | [],[],_,_,_,_,h=>h
 | [],_::_,_,_,_,e,_=>by simp at e
 | _::_,[],_,_,_,e,_=>by simp at e
 | (s,n,q)::t,(s',n',q')::u,xs,a,b,e,h=>by
  simp only [zcj,zcN.injEq,Prod.mk.injEq] at e
  obtain ⟨⟨rfl,rfl⟩,e⟩:=e
  exact ⟨h.1,h.2.1,h.2.2.1,h.2.2.2.pow e⟩
theorem FF (l:List (Nat×Nat×Nat)) (i pw:Nat):l.map (fun x=>(x.1,x.2.1))=(l.modify i fun (a,b,_)=>(a,b,pw)).map (fun x=>(x.1,x.2.1)):=by
 apply List.ext_getElem?
 intro j
 rw [zbh,zbh,List.getElem?_modify]
 cases l[j]? with
 | none=>rfl
 | some x =>
  obtain ⟨a,b,c⟩:=x
  show some _=some _
  congr 1
  by_cases h:i=j <;> simp [h]
noncomputable def RI (R:Keyed→Int) (κ:SortKind) (a₀:Array Keyed) (lo:Nat) (st:SortSt):Prop:=∃ xs p g,st=SortSt.mk' κ xs p g none∧xs.Perm a₀∧Runs R xs p.toList 0 lo
theorem G.ri {st:SortSt}{p:Array (Nat×Nat×Nat)}{lo:Nat}{b:Array Keyed} (B:G a₀ κ p lo b st) (hr:Runs R b p.toList 0 lo):∃ ys g,st=SortSt.mk' κ ys p g none∧ys.Perm a₀∧Runs R ys p.toList 0 lo:=by
 obtain ⟨k,ys,p',g,f⟩:=st
 obtain ⟨h1,h2,h3,h4,h5⟩:=B
 obtain rfl:k=κ:=h2
 obtain rfl:f=none:=h3
 obtain rfl:p'=p:=h4
 exact ⟨ys,g,rfl,h1,hr.of fun k _ hk=>cN (h5 k hk)⟩
set_option hygiene false in
local macro_rules | `(tactic| exact_mod_cast ⟨1,$N⟩) => `(tactic| (
 obtain ⟨ys,g3,rfl,hp3,hr3⟩:=B3.ri hr
 refine wpS_bind (wpS_get ?_)
 have fin:∀ (zs:Array Keyed) (p':Array (Nat×Nat×Nat)) (g':Nat),zs.Perm a₀→Runs R zs p'.toList 0 lo→(∀ k,lo≤k→zs[k]? = ys[k]?)→RI R κ a₀ (lo + $N) (SortSt.mk' κ zs (p'.push (lo,$N,0)) g' none):=fun zs p' g' q1 q2 q3 =>
  ⟨zs,_,g',rfl,q1,by
   rw [zbs]
   exact q2.app ⟨rfl,n1,hu3.of fun k k1 k2=>cN (q3 k k1),rfl⟩⟩
 split
 ·rename_i s1 n1' q' hb
  refine wpS_bind (wpS_mono (wpS_forRange
   (I:=fun x c st'=>c=(none,())∧∃ zs p g,st'=SortSt.mk' κ zs p g none∧zs.Perm a₀∧Runs R zs p.toList 0 lo∧∀ k,lo≤k→zs[k]? = ys[k]?)
   (Q:=fun c st'=>c=(none,())∧∃ zs p g,st'=SortSt.mk' κ zs p g none∧zs.Perm a₀∧Runs R zs p.toList 0 lo∧∀ k,lo≤k→zs[k]? = ys[k]?) ?step3 (fun _ _ h=>h) ⟨rfl,ys,p,g3,rfl,hp3,hr3,fun _ _=>rfl⟩) ?post3)
  case step3 =>
   rintro x3 c st' _ _ ⟨rfl,zs,p4,g4,rfl,hp4,hr4,hk4⟩
   refine wpS_bind (wpS_get ?_)
   split
   ·rename_i o1 o2 o3 ho
    split
    ·exact wpS_pure ⟨rfl,zs,p4,g4,rfl,hp4,hr4,hk4⟩
    ·have hs4:p4.size > 1:=by
      by_cases hc:p4.size > 1
      ·exact hc
      ·rw [if_neg hc] at ho;cases ho
     refine wpS_bind (Cu C (tp hp4) hr4 (by rw [hp4.size_eq];omega) (show p4.size - 2+1<p4.size by omega) fun z5 p5 g5 q1 q2 q3 q4 => ?_)
     rw [if_neg (by decide)]
     exact wpS_pure ⟨rfl,z5,p5,g5,rfl,q1.trans hp4,q2,fun k hk=>(q4 k hk).trans (hk4 k hk)⟩
   ·exact wpS_pure ⟨rfl,zs,p4,g4,rfl,hp4,hr4,hk4⟩
  case post3 =>
   rintro c st' ⟨rfl,zs,p4,g4,rfl,hp4,hr4,hk4⟩
   refine wpS_bind (wpS_modify (wpS_bind (wpS_modify (wpS_pure ⟨_,rfl,by omega,n2,fin zs _ g4 hp4 ?_ hk4⟩))))
   refine hr4.pow ?_
   rw [Array.toList_modify]
   exact FF _ _ _
 ·exact wpS_bind (wpS_modify (wpS_pure ⟨_,rfl,by omega,n2,fin ys p g3 hp3 hr3 fun _ _=>rfl⟩))))
theorem Iq (C:rN prog w A s κ R T) {g:Nat} (hT:∀ a∈a₀.toList,T a) {Q:Unit→SortSt→Prop} (h:∀ ys p g',ys.Perm a₀→Up R ys 0 a₀.size→Q () (SortSt.mk' κ ys p g' none)):wpS (model prog w) A E s sortRuns' Q (SortSt.mk' κ a₀ #[] g none):=by
 have tp:∀ {xs:Array Keyed},xs.Perm a₀→∀ a∈xs.toList,T a:=fun hp a ha=>hT a ((zad.mp hp).mem_iff.mp ha)
 rw [sortRuns'_eq]
 refine wpS_bind (wpS_get ?_)
 dsimp only
 generalize hz:(arrOf (SortSt.mk' κ a₀ #[] g none)).size=z
 obtain rfl:a₀.size=z:=hz
 generalize minRun' a₀.size a₀.size 0=mr
 refine wpS_bind (wpS_mono (wpS_forRange
  (I:=fun x c st'=>∃ lo,c=(none,lo)∧x≤lo∧lo≤a₀.size∧RI R κ a₀ lo st')
  (Q:=fun c st'=>c=(none,a₀.size)∧RI R κ a₀ a₀.size st') ?step ?fin ⟨0,rfl,zcH _,zcI _,a₀,#[],g,rfl,Array.Perm.refl _,rfl⟩) ?post)
 case fin =>
  rintro c st' ⟨lo,rfl,h1,h2,hR⟩
  obtain rfl:lo=a₀.size:=by omega
  exact ⟨rfl,hR⟩
 case post =>
  rintro c st' ⟨rfl,xs,p,g1,rfl,hp,hr⟩
  dsimp only
  have zz:=hr.le
  rw [zaP] at zz
  refine wpS_bind (wpS_mono (wpS_forRange
   (I:=fun x c st'=>c=(none,())∧∃ xs p g,st'=SortSt.mk' κ xs p g none∧xs.Perm a₀∧Runs R xs p.toList 0 a₀.size∧p.size+x≤max 1 a₀.size+1)
   (Q:=fun c st'=>c=(none,())∧∃ xs p g,st'=SortSt.mk' κ xs p g none∧xs.Perm a₀∧Runs R xs p.toList 0 a₀.size∧p.size≤1) ?step2 ?fin2 ⟨rfl,xs,p,g1,rfl,hp,hr,by omega⟩) ?post2)
  case fin2 =>
   rintro c st' ⟨rfl,xs,p,g,rfl,hp,hr,hn⟩
   have:=hr.le
   rw [zaP] at this
   exact ⟨rfl,xs,p,g,rfl,hp,hr,by omega⟩
  case post2 =>
   rintro c st' ⟨rfl,xs,p,g,rfl,hp,hr,hn⟩
   refine wpS_pure (h xs p g hp ?_)
   obtain ⟨p⟩:=p
   match p,hr,hn with
   | [],hr,_ =>
    have:0=a₀.size:=hr
    intro i j _ _ hj
    omega
   | [(a,n,q)],hr,_ =>
    obtain ⟨rfl,h1,h2,h3⟩:=hr
    have:0+n=a₀.size:=h3
    rw [show a₀.size=n by omega];exact h2
   | _::_::_,_,hn=>simp at hn
  case step2 =>
   rintro x c st' _ hx ⟨rfl,xs,p,g,rfl,hp,hr,hn⟩
   refine wpS_bind (wpS_get ?_)
   change wpS _ _ _ _ (if p.size≤1 then _ else _) _ _
   by_cases c1:p.size≤1
   ·rw [if_pos c1]
    exact wpS_pure ⟨rfl,xs,p,g,rfl,hp,hr,c1⟩
   ·rw [if_neg c1]
    have key:∀ i,i+1<p.size→wpS (model prog w) A E s (mergeAt' i) (fun b st'=>b=true∧∃ xs p g,st'=SortSt.mk' κ xs p g none∧xs.Perm a₀∧Runs R xs p.toList 0 a₀.size∧p.size+(x+1)≤max 1 a₀.size+1) (SortSt.mk' κ xs p g none):=fun i hi =>
     Cu C (tp hp) hr (by rw [hp.size_eq];exact zcH _) hi fun ys p' g' q1 q2 q3 q4=>⟨rfl,ys,p',g',rfl,q1.trans hp,q2,by omega⟩
    refine wpS_bind (wpS_mono (key _ ?_) ?_)
    ·exact zW _ c1
    ·rintro b st' ⟨rfl,hq⟩
     rw [if_neg (by decide)]
     exact wpS_pure ⟨rfl,hq⟩
 case step =>
  rintro x c st' _ hx ⟨lo,rfl,hxl,hlo,xs,p,g1,rfl,hp,hr⟩
  dsimp only
  by_cases c0:lo≥a₀.size
  ·rw [if_pos c0]
   obtain rfl:lo=a₀.size:=by omega
   exact wpS_pure ⟨rfl,xs,p,g1,rfl,hp,hr⟩
  rw [if_neg c0]
  have B:G a₀ κ p lo xs (SortSt.mk' κ xs p g1 none):=⟨hp,rfl,rfl,rfl,fun _ _=>rfl⟩
  refine wpS_bind (Ja C hT B (by omega) (by omega) fun m st2 B2 m1 m2 hu => ?_)
  dsimp only
  by_cases c1:m<mr
  ·rw [if_pos c1]
   refine wpS_bind (wpS_lift (wpAny_rule ⟨rfl,?_⟩))
   have n1:1≤min (a₀.size - lo) mr:=by omega
   have n2:lo+min (a₀.size - lo) mr≤a₀.size:=by omega
   have n3:m≤min (a₀.size - lo) mr:=by omega
   generalize min (a₀.size - lo) mr=n at n1 n2 n3 ⊢
   refine wpS_bind (Kp C hT B2 n2 n3 hu fun st3 B3 hu3 => ?_)
   rw [if_neg (by decide)]
   exact_mod_cast ⟨1,n⟩
  ·rw [if_neg c1]
   have n1:=m1
   have n2:lo+m≤a₀.size:=by omega
   have B3:=B2
   have hu3:=hu
   exact_mod_cast ⟨1,m⟩
end
end M10
namespace M10
open PySem PySem.Spec PyProof.Rows
section
variable {prog:Program}{w:World}{A:Around}{E:Value→Shared→Prop}{s:Shared}{R:Keyed→Int}{T:Keyed→Prop}
theorem NV {vs:List Value}{ys:Array Keyed} (hp:ys.Perm (pairsOf vs)) (hu:Up R ys 0 (pairsOf vs).size):(ys.map (·.2)).toList.Perm vs∧(ys.map (·.2)).toList.Pairwise (fun x y=>R (x,x)≤R (y,y)):=by
 have hl:ys.toList.Perm (vs.zip vs):=by rw [← pairsOf_toList];exact zad.mp hp
 have hm:∀ p∈ys.toList,p=(p.2,p.2):=fun p h=>by
  have:=(mem_zip_self (hl.mem_iff.mp h)).1
  exact Prod.ext this rfl
 rw [Array.toList_map]
 constructor
 ·have:=hl.map (·.2)
  rwa [zbH (zcH _)] at this
 ·rw [zbp]
  have h2:bg R ys.toList:=by
   have:=hu.cT (by rw [hp.size_eq];omega)
   rw [List.drop_zero,zar (by rw [zaP,hp.size_eq];exact zcH _)] at this
   exact this
  refine List.Pairwise.imp_of_mem (fun {a b} ha hb h => ?_) h2
  rw [← hm a ha,← hm b hb];exact h
theorem nk {a:Addr}{vs:List Value}{n:Nat}{P:PySem.Fin→Shared→Prop} (ho:s.heap.get? a=some (seqObj "list" vs.toArray n)) (hz:vs.length≤sizeLine)
  (hk:2≤vs.length→∃ κ,(∀ (Q:SortKind→Shared→Prop),Q κ { s with heap:=M6.dB s.heap a vs }→wpAny (model prog w) A (keyKind' vs.toArray) Q (fun _ _=>False) { s with heap:=M6.dB s.heap a vs }) ∧
   rN prog w A { s with heap:=M6.dB s.heap a vs } κ R T) (hT:∀ v∈vs,T (v,v))
  (h:∀ out:Array Value,out.toList.Perm vs→out.toList.Pairwise (fun x y=>R (x,x)≤R (y,y))→P (.done (.ret .none)) { s with heap:=sortedHeap s.heap a vs out }) :
  wpAny (model prog w) A (Builtin.«list.sort» ⟨[.ref a],[]⟩) P E s:=by
 obtain ⟨e1,ho1⟩:∃ e1,(s.heap.update a (Obj.mapSeq fun _ => #[])).get? a=some (seqObj "list" #[] e1):=⟨_,get?_update_seq ho fun _ => #[]⟩
 have ho2:(M6.dB s.heap a vs).get? a=some (seqObj "list" #[] e1):=zas _ (zas _ ho1)
 have hz':vs.toArray.size≤sizeLine:=by rw [zbf];exact hz
 rw [list_sort_plain a]
 refine wpAny_bind (listItems_at ho rfl (wpAny_bind (listUpdate_at ho rfl ?_ hz' (zcI _))))
 refine wpAny_bind (seqEpoch_at ho1 rfl (wpAny_bind (wpAny_newTuple ?_ (by simpa using hz))))
 refine wpAny_bind (wpAny_newList (wpAny_holding ?_) (zcI _))
 show wpAny (model prog w) A (if vs.toArray.size<2 then _ else _) P E { s with heap:=M6.dB s.heap a vs }
 by_cases h2:vs.length<2
 ·rw [if_pos (by rw [zbf];exact h2)]
  refine wpAny_bind (wpAny_pure ?_)
  dsimp only
  rw [if_pos (by rw [zbf];exact h2)]
  refine wpAny_bind (wpAny_pure ?_)
  have e2:((vs.toArray.zip vs.toArray).map (·.2)).toList=vs:=by
   rw [List.zip_toArray,List.map_toArray,zbH (zcH _)]
  refine wpAny_bind (seqEpoch_at ho2 rfl (wpAny_bind (listUpdate_at ho2 rfl ?_ (zcI _) ?_)))
  ·show wpAny (model prog w) A (if (e1 != e1)=true then _ else _) P E _
   rw [if_neg (by simp)]
   refine wpAny_pure (h _ (by rw [e2]) ?_)
   rw [e2]
   match vs,h2 with
   | [],_=>exact .nil
   | [v],_=>exact List.pairwise_singleton ..
   | _::_::_,h2=>simp at h2;omega
  ·show ((vs.toArray.zip vs.toArray).map (·.2)).size≤_
   rw [← zaP,e2];omega
 ·rw [if_neg (by rw [zbf];exact h2)]
  obtain ⟨κ,k1,k2⟩:=hk (by omega)
  refine wpAny_bind (wpAny_mono (k1 (fun κ' s'=>κ'=κ∧s'={ s with heap:=M6.dB s.heap a vs }) ⟨rfl,rfl⟩) (fun κ' s' z => ?_) (fun _ _ z=>z.elim))
  obtain ⟨rfl,rfl⟩:=z
  dsimp only
  rw [if_neg (by rw [zbf];exact h2)]
  have run:wpS (model prog w) A E { s with heap:=M6.dB s.heap a vs } sortRuns' (fun _ st=>∃ ys p g',st=SortSt.mk' κ' ys p g' none∧ys.Perm (pairsOf vs)∧Up R ys 0 (pairsOf vs).size) (SortSt.mk' κ' (pairsOf vs) #[] 7 none):=by
   refine Iq k2 (fun p hp => ?_) fun ys p g' q1 q2=>⟨ys,p,g',rfl,q1,q2⟩
   rw [pairsOf_toList] at hp
   have:=mem_zip_self hp
   have e:p=(p.1,p.1):=Prod.ext rfl this.1.symm
   rw [e];exact hT _ this.2
  unfold wpS at run
  rw [show vs.toArray.zip vs.toArray=pairsOf vs from rfl]
  refine wpAny_bind (wpAny_mono run ?_ (fun _ _ z=>z))
  ·rintro ⟨⟨⟩,st⟩ s' ⟨rfl,ys,p,g',rfl,q1,q2⟩
   dsimp only
   have q3:=NV (R:=R) q1 q2
   refine wpAny_bind (seqEpoch_at ho2 rfl (wpAny_bind (listUpdate_at ho2 rfl ?_ (zcI _) ?_)))
   ·rw [if_neg (by simp)]
    exact wpAny_pure (h _ q3.1 q3.2)
   ·show (ys.map (·.2)).size≤_
    rw [Array.size_map,q1.size_eq,pairsOf_size];omega
noncomputable def jm (ss:List Str) (x:Str):Nat:=ss.countP fun z=>decide (z.cps.toList<x.cps.toList)
theorem wc {α:Type}{p q:α→Bool}:∀ {l:List α},(∀ x∈l,p x=true→q x=true)→l.countP p≤l.countP q:=fun h=>List.countP_mono_left h
theorem vZ {α:Type}{p q:α→Bool}{y:α}:∀ {l:List α},(∀ x∈l,p x=true→q x=true)→y∈l→p y=false→q y=true→l.countP p<l.countP q
 | [],_,hm,_,_=>by simp at hm
 | x::l,h,hm,h1,h2=>by
  have h':∀ x∈l,p x=true→q x=true:=fun z hz=>h z (zaC _ hz)
  rw [List.countP_cons,List.countP_cons]
  rcases zci.mp hm with rfl | hm
  ·have:=wc h'
   rw [h1,h2,if_pos rfl,if_neg (by decide)];omega
  ·have:=vZ h' hm h1 h2
   by_cases c:p x=true
   ·rw [if_pos c,if_pos (h x (by simp) c)];omega
   ·rw [if_neg c];split <;> omega
theorem xW {ss:List Str}{x y:Str} (hx:x∈ss):(jm ss x<jm ss y)↔x.cps.toList<y.cps.toList:=by
 constructor
 ·intro h
  by_cases c:x.cps.toList<y.cps.toList
  ·exact c
  ·exfalso
   have:jm ss y≤jm ss x:=wc fun z _ hz=>by
    simp only [decide_eq_true_eq] at hz ⊢
    by_cases d:z.cps.toList<x.cps.toList
    ·exact d
    ·exact absurd (List.lt_of_le_of_lt (zcG.mp d) hz) c
   omega
 ·intro h
  refine vZ (y:=x) (fun z _ hz => ?_) hx (by simpa using zcd _) (by simpa using h)
  simp only [decide_eq_true_eq] at hz ⊢
  exact zcm hz h
noncomputable def TS (ss:List Str) (p:Keyed):Prop:=∃ x t,p.1 = .str x t∧x∈ss
end
end M10
namespace L2
open PySem PySem.Spec PyProof.Rows
section
variable {X:Cx}{e:Expr}{ta:TE}{p p2 pos pos2:Pos}
theorem kh {α:Type} [DecidableEq α]:∀ {l m:List α},l.Nodup→(∀ y∈l,y∈m)→l.length≤m.length
 | [],_,_,_=>zcI _
 | x::l,m,h,hs=>by
  rw [zbR] at h
  have hx:=hs x (by simp)
  have:=kh (l:=l) (m:=m.erase x) h.2 fun y hy=>(List.mem_erase_of_ne (fun e:y=x=>h.1 (by rw [← e];exact hy))).mpr (hs y (by simp [hy]))
  rw [List.length_erase_of_mem hx] at this
  have:0<m.length:=List.length_pos_of_mem hx
  rw [zbx];omega
end
end L2
namespace M6
open PySem PySem.Spec PyProof.Rows
section
variable {prog:Program}{w:World}
theorem ya {A:Around}{E:Value→Shared→Prop}{s:Shared}{i j:Str}{t u:Tok}{Q:Bool→Shared→Prop} (h:Q (decide (i.cps.toList<j.cps.toList)) s):wpAny (model prog w) A (PyProof.Rows.oneLt' true (.str i t) (.str j u)) Q E s:=PyProof.Rows.oneLt_str h
theorem pF {A:Around}{Q:Bool→Shared→Prop}{s:Shared}{m1 m2:Nat}:∀ (lx ly:List PyData) {lu lv:List Value}{as bs:List Addr} (i:Nat),(∀ z∈lx,z.depth≤6)→(∀ z∈ly,z.depth≤6)→c5 lx=true→c5 ly=true→cX lx ly=true→ReadsAll s.heap lu lx as→ReadsAll s.heap lv ly bs→A.units+6<cLine →
  (i=0→∃ p q lx' ly',lx = .str p::lx'∧ly = .str q::ly')→m1+ly.length=m2+lx.length→Q (cG lx ly) s→W.KatLex prog w A true (decide (m1<m2)) Q (lu.zip lv) i s
 | [],ly,lu,lv,as,bs,i,d1,d2,k1,k2,hc,h1,h2,hu,h0,hm,h=>by
  cases h1
  show Q (decide (m1<m2)) s
  cases ly with
  | nil=>simp only [cG,zbT] at hm h;rw [decide_eq_false (by omega)];exact h
  | cons _ _=>simp only [cG,zbT,zbx] at hm h;rw [decide_eq_true (by omega)];exact h
 | x::lx,[],lu,lv,as,bs,i,d1,d2,k1,k2,hc,h1,h2,hu,h0,hm,h=>by
  cases h2
  rw [List.zip_nil_right]
  show Q (decide (m1<m2)) s
  simp only [cG,zbT,zbx] at hm h
  rw [decide_eq_false (by omega)];exact h
 | x::lx,y::ly,lu,lv,as,bs,i,d1,d2,k1,k2,hc,h1,h2,hu,h0,hm,h=>by
  simp only [c5,zbJ] at k1 k2
  simp only [cX,zbJ] at hc
  have dx:=d1 x (by simp)
  have dy:=d2 y (by simp)
  cases h1 with
  | @cons u us _ _ a1 b1 g1 t1 =>
   cases h2 with
   | @cons v vs _ _ a2 b2 g2 t2 =>
    rw [zaV,W.KatLex.eq_2]
    refine SeqAt.eqBoolOverData prog w _ _ _ _ _ _ _ _ _ _ g1 g2 (iX _ k1.1) (iX _ k2.1) (by omega) ?_
    rw [iu _ _ k1.1 k2.1]
    simp only [cG] at h
    by_cases he:x=y
    ·rw [decide_eq_true he,if_pos rfl]
     rw [if_pos he] at h
     exact pF lx ly (i+1) (fun z hz=>d1 z (zaC _ hz)) (fun z hz=>d2 z (zaC _ hz)) k1.2 k2.2 hc.2 t1 t2 hu (fun z=>by omega) (by simp only [zbx] at hm;omega) h
    ·rw [decide_eq_false he,if_neg (by decide)]
     rw [if_neg he] at h
     by_cases hi:i=0
     ·obtain ⟨p,q,lx',ly',e1,e2⟩:=h0 hi
      injection e1 with e1 _
      injection e2 with e2 _
      subst e1;subst e2;subst hi
      cases g1
      cases g2
      exact ya h
     ·have:(true&&i==0)=false:=by simp [hi]
      rw [this]
      exact Cf 6 dx dy k1.1 k2.1 hc.1 g1 g2 hu h
end
section
variable {prog:Program}{w:World}{A:Around}{E:Value→Shared→Prop}{s:Shared}
noncomputable def jW (h:Heap) (k:PyData×Addr):Prop:=isKey h k.1 k.2∧∃ p r,k.1 = .tuple (.str p::r)
theorem pH {h:Heap}:∀ {ks:List (PyData×Addr)},(∀ k∈ks,jW h k)→∃ fs,W.KatTups h (ks.map fun k=>.ref k.2) fs∧fs.length=ks.length∧∀ f∈fs,∃ i t,f=Value.str i t
 | [],_=>⟨[],.nil,rfl,by simp⟩
 | (d,a)::ks,hk=>by
  obtain ⟨fs,h1,h2,h3⟩:=pH fun k hk'=>hk k (zaC _ hk')
  obtain ⟨⟨k1,k2,as,hr⟩,p,r,e⟩:=hk (d,a) (by simp)
  have e:d = .tuple (.str p::r):=e
  subst e
  cases hr with
  | @tuple _ o vs m _ _ ho hc hdat hall =>
   generalize hvs:vs.toList=l at hall
   cases hall with
   | @cons v l' _ _ a1 b1 g1 t1 =>
    cases g1 with
    | str _ t =>
     refine ⟨.str p t::fs,.cons ho hc hdat ?_ h1,by simp [h2],fun f hf => ?_⟩
     ·rw [← zaA,hvs];rfl
     ·rcases zci.mp hf with rfl | hf
      ·exact ⟨p,t,rfl⟩
      ·exact h3 f hf
theorem Dz {ks:List (PyData×Addr)} (hk:∀ k∈ks,jW s.heap k) (hc:∀ k∈ks,∀ l∈ks,aF k.1 l.1=true) (hu:A.units+6<cLine) (i j:Nat) (C:Bool→Shared→Prop) (hi:i<ks.length) (hj:j<ks.length) (h:C (dQ ks[i].1 ks[j].1) s) :
  W.kas_ask prog w A (tuples' true) (ks.map fun k=>.ref k.2) i j C s:=by
 have hx:=hk ks[i] (zbD hi)
 have hy:=hk ks[j] (zbD hj)
 have hxy:=hc ks[i] (zbD hi) ks[j] (zbD hj)
 have e:∀ n (hn:n<ks.length),(ks.map fun k=>Value.ref k.2).getD n Value.none = .ref ks[n].2:=fun n hn=>by simp [zcO,hn]
 unfold W.kas_ask
 rw [e i hi,e j hj]
 generalize ks[i]=x at hx hxy h
 generalize ks[j]=y at hy hxy h
 obtain ⟨⟨k1,k2,as,hr⟩,p,r,e1⟩:=hx
 obtain ⟨⟨l1,l2,bs,gr⟩,q,t,e2⟩:=hy
 obtain ⟨dx,ax⟩:=x
 obtain ⟨dy,ay⟩:=y
 have e1:dx = .tuple (.str p::r):=e1
 have e2:dy = .tuple (.str q::t):=e2
 subst e1;subst e2
 have k2:(PyData.tuple (.str p::r)).depth≤6:=k2
 have l2:(PyData.tuple (.str q::t)).depth≤6:=l2
 rw [cE] at k2 l2
 cases hr with
 | @tuple _ o us m _ _ ho hcl hdat hall =>
  cases gr with
  | @tuple _ o2 vs m2 _ _ ho2 hcl2 hdat2 hall2 =>
   have n1:=fu hall
   have n2:=fu hall2
   rw [zaP] at n1 n2
   exact W.kat_lt ho hdat ho2 hdat2 (pF _ _ 0 (fun z hz=>by have:=dh hz;omega) (fun z hz=>by have:=dh hz;omega) k1 l1 hxy hall hall2 hu (fun _=>⟨p,q,r,t,rfl,rfl⟩) (by omega) h)
end
end M6
namespace M5
open PySem PySem.Spec PyProof.Rows
section
variable {prog:Program}{w:World}{A:Around}{E:Value→Shared→Prop}{s:Shared}
theorem vH {d:Addr} (hd:(d==sysModules)=false) :
  MeetsIn prog w (Builtin.«dict.__len__» ⟨[.ref d],[]⟩) (fun _ R s=>∃ es ep,M6.i7 s.heap d es ep∧R (.ok (.ret (.int es.size s.toks))) { s with toks:=s.toks+1 }) :=
 .of_wp fun A R s ⟨es,ep,⟨o,ho,hx,hdat⟩,h⟩=>by
  show wpAny _ _ (dictSize d >>= _) _ _ s
  unfold dictSize
  refine wpAny_bind (wpAny_bind (wpAny_dictEntries ho hdat (wpAny_pure ?_)))
  show wpAny _ _ (Builtin.Dict.pendingCount d >>= _) _ _ s
  refine wpAny_bind (wpAny_pendingCount_other hd ?_)
  refine wpAny_ret_mkInt ?_
  rw [Nat.add_zero];exact h
theorem zS {d:Addr}{es:Array DictEntry}{ep:Nat}{Q:Value→Shared→Prop} (hd:(d==sysModules)=false) (hm:M6.i7 s.heap d es ep) (hfit:(es.size:Int)<2 ^ 63)
  (h:Q (.int es.size (s.toks+1)) { s with toks:=s.toks+1+1 }):wpAny (model prog w) A (Builtin.«len» ⟨[.ref d],[]⟩) (fun fin s'=>∃ r,fin = .done (.ret r)∧Q r s') E s:=by
 unfold Builtin.«len»
 refine wpAny_bind (m:=oneArg "len" _) (wpAny_pure ?_)
 refine wpAny_bind (m:=callSpecial? (.ref d) (Str.ofString "__len__")) (wpAny_callSpecial?_slot (name:=Str.ofString "__len__") hm.typeIs PySem.F.slot_dict_len
  (call_meetsIn PySem.F.slot_dict_len hm.typeIs PySem.F.entry_dict_len (PySem.F.args_dict_len_1 _) (vH hd) ⟨es,ep,hm,?_⟩))
 show wpAny _ _ _ _ _ { s with toks:=s.toks+1 }
 refine wpAny_bind (wpAny_holding (wpAny_pure ?_))
 refine wpAny_bind (wpAny_letGo ?_)
 show wpAny _ _ (if ((es.size:Nat):Int)<0 then _ else _) _ _ _
 rw [if_neg (by omega)]
 show wpAny _ _ (if ((es.size:Nat):Int)≥2 ^ 63 then _ else _) _ _ _
 rw [if_neg (by omega)]
 exact wpAny_bind (wpAny_mkInt (wpAny_pure ⟨_,rfl,h⟩))
theorem r6 {d:Addr}{es:Array DictEntry}{ep:Nat}{ss:List Str}{Q:Value→Shared→Prop} (hh:A.handled=none) (lo:(d==sysModules)=false) (hD:M6.i7 s.heap d es ep) (hes:StrsAre (es.toList.map (·.key)) ss) (h64:es.size<64)
  (h:∀ (h1 h2:Heap) (tk:Nat) (out:List Value) (ss':List Str) (c:Nat),(∀ b o,s.heap.get? b=some o→h1.get? b=some o)→(∀ b o,h1.get? b=some o→h2.get? b=some o)→h2.get? h1.objs.size=some (seqObj "list" out.toArray c)→StrsAre out ss'→ss'.Perm ss→sortedS ss'=true→Q (.ref h1.objs.size) { s with heap:=h2,toks:=tk }) :
  wpAny (model prog w) A (call (.builtin "sorted") [.ref d]) Q E s:=by
 refine zal kind_sorted plain_sorted entry_sorted (args_sorted1 _) ?_
 unfold Builtin.«sorted»
 refine wpAny_bind (m:=checkCount "sorted" 1 1 _) (wpAny_pure ?_)
 refine wpAny_bind (M6.uf lo ?_ hD (by rw [sizeLine_eq];omega) fun h1 tk kp => ?_)
 ·exact hh
 have hvl:(es.toList.map (·.key)).length=es.size:=by rw [zbP,zaP]
 generalize (es.toList.map (·.key))=vs at hes hvl
 refine wpAny_bind (wpAny_newList ?_ (by first | (rw [sizeLine_eq];omega) | (rw [zbf,sizeLine_eq];omega)))
 have gL:(h1.push (seqObj "list" vs.toArray 0)).get? h1.objs.size=some (seqObj "list" vs.toArray 0):=zaR _ rfl
 refine wpAny_bind (wpAny_holding (wpAny_call_entry slot_list_sort ⟨_,gL,rfl⟩ entry_list_sort (list_sort_treeK (κ:=PyProof.Rows.strKind) strKind_oneLt gL hes.keysOf (fun v₁ v₂ rest e=>keyKind_strs (by rw [← e];exact hes)) (by omega) fun st' a1 a2=>⟨_,rfl,?_⟩) (args_list_sort _)))
 obtain ⟨ss',b1,b2,b3⟩:=sorted_out_str hes a1 a2
 obtain ⟨c,hcc⟩:=sortedHeap_at (out:=(arrOf st').map (·.2)) gL
 refine wpAny_pure ⟨_,rfl,h h1 _ tk ((arrOf st').map (·.2)).toList ss' c kp (fun b o e => ?_) (by rw [Array.toArray_toList];exact hcc) b1 b2 b3⟩
 have lb:=zcD e
 show (sortedHeap _ _ _ _).get? b=some o
 rw [sortedHeap_old (zcu lb) (by rw [size_push'];exact zbr lb)]
 exact zas _ e
end
end M5
namespace L2
open PySem PySem.Spec PyProof.Rows M6
noncomputable def Fl:List V→Hp→VK→Prop:=fun xs H Q=>∃ (a:Addr) (kvs:List (Key×V)) (ss:List Str),xs=[.ref a]∧H a=some (.dK kvs)∧(kvs.map fun x=>kV x.1)=ss.map V.str∧ss.length<64∧∀ p (ss':List Str),H p=none→ss'.Perm ss→sortedS ss'=true→Q (.ref p) (upd H p (.lst (ss'.map V.str)))
noncomputable def LH (W:World):List V→Hp→VK→Prop:=fun vs H Q=>∃ (a a':Addr) (ks:List (PyData×Addr)),vs=[.ref a]∧H a=some (.ext (kU W a' ks))∧ks.length≤1000∧Q (.int ks.length) H
noncomputable def Oj (K:PySem.W.Frag) (W:World) (neg:Bool):R2:=fun y x H Q=>∃ (a a' b:Addr) (ks:List (PyData×Addr)) (d:PyData),x = .ref a∧y = .ref b∧H a=some (.ext (kU W a' ks))∧pZ K H ks∧cj d=true∧d.depth≤6∧bE K H d (.ref b)∧Q (.bl (neg != (ks.any fun x=>decide (x.1=d)))) H
section
variable {X:Cx}
theorem uw {k:Nat} (hr:aS k X.A):bS X (.builtin "sorted") Fl:=by
 intro pins s σ H xs us Q I r h
 obtain ⟨a,kvs,ss,rfl,e,hi,h64,q⟩:=h
 obtain ⟨u,rfl,ru⟩:=vals1 r
 cases ru
 obtain ⟨lo,hz,es,ep,hD,hv⟩:=Jd I e
 have hl:es.size=kvs.length:=by have:=hv.length;simpa using this.symm
 rw [hi] at hv
 have hl2:es.size=ss.length:=by have:=hv.length;simpa using this.symm
 refine M5.r6 hr.hd lo hD (jc hv) (by omega) fun h1 h2 tk out ss' c kp1 kp2 g a1 a2 a3 => ?_
 have I1:Inv X pins σ H { s with heap:=h1,toks:=tk }:=I.kept (t':=tk) kp1
 refine ⟨.ref h1.objs.size,_,I1.laid (a:=h1.objs.size) (t':=tk) (o:=.lst (ss'.map V.str)) kp2 (zcH _) ⟨by rw [zbP,a2.length_eq];omega,out,c,M.jX a1,g⟩,rfl,q _ ss' (I1.hok.fresh (zcH _)) a2 a3⟩
theorem pU (d:PyData):∀ ks:List (PyData×Addr),(atKey (ks.map fun x=>(x.1,x.2,Value.bool true)) d).isSome=(ks.any fun x=>decide (x.1=d))
 | []=>rfl
 | x::xs=>by
  have ih:=pU d xs
  unfold atKey at ih ⊢
  rw [zbv] at ih ⊢
  rw [zcj,zbS,zck]
  by_cases h:x.1=d
  ·simp [h]
  ·simp only [h,decide_false,Bool.false_or];exact ih
theorem Jq {k:Nat} (hr:aS k X.A):fj X (compareOp .In) (Oj X.K X.w false):=by
 intro pins s σ H y x v u Q I ry rx h
 obtain ⟨a,a',b,ks,d,rfl,rfl,e,hk,h1,h2,h3,q⟩:=h
 obtain rfl:u=Value.ref a:=rx
 obtain rfl:v=Value.ref b:=ry
 have ob:=(show aW X.prog X.w H s.heap a (.ext (kU X.w a' ks)) from I.hok a _ e)
 obtain rfl:=lJ ob
 obtain ⟨⟨z,o,es,ep,ho,hx,hd,hes,hn⟩,_,_⟩:=ob
 have dd:Heap.DictOfH (jG X.prog X.w) s.heap a' (ks.map fun x=>(x.1,x.2,Value.bool true)):=by
  refine ⟨o,es,ep,ho,hx,hd,?_,fun x hx' => ?_,?_⟩
  ·rw [hes,zct];rfl
  ·obtain ⟨y,hy,rfl⟩:=zcs.mp hx'
   obtain ⟨k1,k2,k3⟩:=hk y hy
   exact I.key k1 k2 k3
  ·rw [zct];exact hn
 have hu:=hr.units
 refine wpAny_in_heap (knd:=jG X.prog X.w) (show X.A.units+1+10<cLine by omega) (I.key h1 h2 h3) z dd ?_
 rw [pU d ks]
 exact ⟨.bl (ks.any fun x=>decide (x.1=d)),H,I.tok _,rfl,by simpa using q⟩
theorem Ai:bS X (.builtin "len") (LH X.w):=by
 intro pins s σ H xs us Q I r h
 obtain ⟨a,a',ks,rfl,e,hl,q⟩:=h
 obtain ⟨u,rfl,ru⟩:=vals1 r
 cases ru
 have ob:=(show aW X.prog X.w H s.heap a (.ext (kU X.w a' ks)) from I.hok a _ e)
 obtain rfl:=lJ ob
 obtain ⟨⟨z,o,es,ep,ho,hx,hd,hes,hn⟩,_,_⟩:=ob
 have hsz:es.size=ks.length:=by have:=congrArg zcF hes;simpa using this
 refine zal kind_len plain_len entry_len (args_len1 _) (M5.zS z ⟨o,ho,hx,hd⟩ (by omega) ?_)
 rw [hsz]
 exact ⟨.int ks.length,H,I.tok _,⟨_,rfl⟩,q⟩
end
end L2
namespace M
open PySem PySem.Spec PyProof.Rows L2 M6
section
variable {P:Program}{w:World}{K:PySem.W.Frag}{mg:Str→Option Value}{base:Heap}{C:Addr}
theorem Om {x qual:Str}{st:Stmt}{f:Addr}{fd:FuncData}{N ps:List Str}{k:Nat}{sp:AN} (F:Ey K x qual st f fd) (S:az N ps (ai st)) (len:∀ ds S Q,sp ds S Q→ds.length=ps.length)
  (hbody:∀ (f:Addr) (cdv:Value) (A:Around) (outer:List Env) (s:Shared) (H:Hp) (E:XK),aS k (A.deeper (PyProof.Rows.envOfC qual (ai st) s.heap.objs.size f cdv)) →
   ∃ a,AU (kE kQ P w K mg base N qual (ai st) f cdv A outer s H E).Eu (bB st) a∧∀ ds S Q,sp ds S Q→a { nx:=fun _ S'=>Q (.dat .bH) S',rt:=Q } (aN N ds) S):dO P w K mg base kQ (k+1) f fd ps (aL K sp) :=
 F.ok S (fun vs H Q E h=>by
  obtain ⟨w,ds,S,Qa,ok,rep,q,bk⟩:=h
  rw [rep.length];exact len ds S Qa q) fun cdv A outer s H vs Q E hr h=>by
  obtain ⟨a,ha,hd⟩:=hbody f cdv A outer s H E hr
  obtain ⟨w,ds,S,Qa,ok,rep,q,bk⟩:=h
  refine ⟨_,ha.p,w,aN N ds,S,_,ok,kB rep,hd ds S Qa q,⟨fun δ S' σ w' H' le ok' env q' => ?_,bk,fun _ _ _ _ _ _ _ _ z=>z.elim,fun _ _ _ _ _ _ _ _ z=>z.elim⟩⟩
  exact bk (.dat .bH) S' .bH w' H' le ok' (show Rep K w' .bH .bH from .bH) q'
theorem iH {m qual:Str}{st:Stmt}{N ps:List Str}{k:Nat}{sp:AN} (F:ef K C m qual ps st) (S:az N ps (ai st)) (len:∀ ds S Q,sp ds S Q→ds.length=ps.length)
  (hbody:∀ (f:Addr) (cdv:Value) (A:Around) (outer:List Env) (s:Shared) (H:Hp) (E:XK),aS k (A.deeper (PyProof.Rows.envOfC qual (ai st) s.heap.objs.size f cdv)) →
   ∃ a,AU (kE kQ P w K mg base N qual (ai st) f cdv A outer s H E).Eu (bB st) a∧∀ ds S Q,sp ds S Q→a { nx:=fun _ S'=>Q (.dat .bH) S',rt:=Q } (aN N ds) S):c6 P w K mg base (k+1) C m ps sp:=by
 obtain ⟨f,fd,F,hm,hb⟩:=F.ex
 exact ⟨f,fd,Om F S len hbody,hm,hb⟩
theorem JY {x:Str}{st:Stmt}{N ps:List Str}{k:Nat}{sp:AN} (F:Src K mg x ps st) (S:az N ps (ai st)) (len:∀ ds S Q,sp ds S Q→ds.length=ps.length)
  (hbody:∀ (f:Addr) (cdv:Value) (A:Around) (outer:List Env) (s:Shared) (H:Hp) (E:XK),aS k (A.deeper (PyProof.Rows.envOfC x (ai st) s.heap.objs.size f cdv)) →
   ∃ a,AU (kE kQ P w K mg base N x (ai st) f cdv A outer s H E).Eu (bB st) a∧∀ ds S Q,sp ds S Q→a { nx:=fun _ S'=>Q (.dat .bH) S',rt:=Q } (aN N ds) S):Def P w K mg base (k+1) x ps (aL K sp) :=
 F.def S (fun vs H Q E h=>by
  obtain ⟨w,ds,S,Qa,ok,rep,q,bk⟩:=h
  rw [rep.length];exact len ds S Qa q) fun f cdv A outer s H vs Q E hr h=>by
  obtain ⟨a,ha,hd⟩:=hbody f cdv A outer s H E hr
  obtain ⟨w,ds,S,Qa,ok,rep,q,bk⟩:=h
  refine ⟨_,ha.p,w,aN N ds,S,_,ok,kB rep,hd ds S Qa q,⟨fun δ S' σ w' H' le ok' env q' => ?_,bk,fun _ _ _ _ _ _ _ _ z=>z.elim,fun _ _ _ _ _ _ _ _ z=>z.elim⟩⟩
  exact bk (.dat .bH) S' .bH w' H' le ok' (show Rep K w' .bH .bH from .bH) q'
end
section
variable {X:Cx}{e o:Expr}{es:List Expr}{p p2 pos pos2:Pos}{C:Addr}{k:Nat}{m:Str}{ps:List Str}{sp:AN}{K:PySem.W.Frag}
theorem gq {x:Str}{f:Addr}{fd:FuncData} (MK:Mk X.K C f) (F:dO X.prog X.w X.K X.mg X.base kQ k f fd ps (aL X.K sp)) (hb:Binds X.K fd ps []) (hr:aS (k+1) X.A) (hg:Gl X x) (hm:X.mg x=some (.ref C))
  (hdb:(x==("__debug__" : Str))=false:=by decide +kernel):GE X (.Call (.Name x p) [] [] pos) (yR C sp kG):=by
 refine ⟨mE (L2.gq MK F hr hg hm hb .nil jy hdb) fun σ H Q h => ?_⟩
 obtain ⟨w,δ,S,Qa,ok,env,q,bk⟩:=h
 refine fun a dx na nd ne => ?_
 have hax:(upd H dx (HO.own a)) a=none:=by rw [aA (Ne.symm ne)];exact na
 have ok2:=(ok.alloc (o:=.own a) nd)
 obtain ⟨w2,le2,lG,rep3⟩:=store (ok2.alloc (o:=.ins C dx []) hax) (ok2.fresh hax (m:=.ins C [] []) ⟨dx,[],rfl,rfl,.nil⟩)
 refine ⟨w2,_,_,_,lG,by rw [zbQ];exact .cons rep3 .nil,q,fun r S2 v w3 H3 le3 ok4 rep4 ⟨er,q4⟩ => ?_⟩
 subst er
 have ev:=Fe rep4 rfl
 exact ⟨ev,bk.dat (le2.trans le3) ok4 (rep3.le le3) q4⟩
structure yV (ks:List D):Prop where
 good:∀ k∈ks,iM k
 fst:∀ k∈ks,∃ p r,py k=PyData.tuple (.str p::r)
 cmp:∀ k∈ks,∀ l∈ks,aF (py k) (py l)=true
noncomputable def uN (ks:List D):Prop:=ks.Pairwise (fun x y=>dQ (py y) (py x)=false)
noncomputable def GH:AN:=fun ds S Q=>∃ d es,∃ ss:List Str,ds=[d]∧aV S d = .dct (ss.map Sum.inr) es∧ss.length<64∧∀ ss':List Str,ss'.Perm ss→sortedS ss'=true→Q (.new (.lst (ss'.map D.str))) S
noncomputable def MV (W:World):AN:=fun ds S Q=>∃ n ks,ds=[.loc n]∧S[n]? = some (some (nO W ks))∧ks.length≤1000∧Q (.dat (.int ks.length)) S
noncomputable def z7 (ks:List D) (k:D):Bool:=ks.any fun j=>decide (py j=py k)
noncomputable def OZ (W:World) (neg:Bool):A2:=fun x y S Q=>∃ n ks,y = .loc n∧S[n]? = some (some (nO W ks))∧iM x∧(∀ k∈ks,iM k)∧Q (.dat (.bl (neg != z7 ks x))) S
theorem gV {ks:List D}{bs:List Addr} (hlen:ks.length=bs.length):(∀ x∈(ks.map py).zip bs,∃ k∈ks,x.1=py k)∧(ks.map py).zip bs=(ks.zip bs).map (fun x=>(py x.1,x.2))∧((ks.map py).zip bs).map (fun k=>V.ref k.2)=bs.map V.ref∧((ks.map py).zip bs).map (·.1)=ks.map py:=by
 refine ⟨fun x hx => ?_,by rw [List.zip_map_left];rfl,?_,zbG (by rw [zbP];omega)⟩
 ·obtain ⟨k,hk,e⟩:=zcs.mp (List.of_mem_zip hx).1
  exact ⟨k,hk,e.symm⟩
 ·have:((ks.map py).zip bs).map (·.2)=bs:=zbH (by rw [zbP];omega)
  rw [← this,zct,this];rfl
theorem oW {w:Wd}{H:Hp}{S:av}{ks:List D}{bs:List Addr}{Qa:AK}{Q:VK} (ok:Ok K w H S) (k5:ak K w ks (bs.map V.ref)) (bk:eF K w Qa Q) (q:∀ ks':List D,ks'.Perm ks→uN ks'→Qa (.new (.lst ks')) S) :
  ∀ (p:Addr) (out:List (PyData×Addr)),H p=none→out.Perm ((ks.map py).zip bs)→out.Pairwise (fun x y=>dQ y.1 x.1=false)→Q (.ref p) (upd H p (.lst (out.map fun k=>V.ref k.2))):=by
 intro p out hp hperm hso
 have hlen:ks.length=bs.length:=by have:=k5.length;rw [zbP] at this;exact this.symm
 obtain ⟨_,ez,_,_⟩:=gV hlen
 rw [ez] at hperm
 obtain ⟨o',p1,rfl⟩:=dN hperm
 have e2:(List.map (fun k:PyData×Addr=>V.ref k.2) (o'.map fun x=>(py x.1,x.2)))=o'.map fun x=>V.ref x.2:=by rw [zct];rfl
 rw [e2]
 refine bk (.new (.lst (o'.map (·.1)))) S _ w _ .refl (ok.alloc hp) (ok.fresh hp ⟨_,rfl,eW fun x hx=>p6 k5 x (p1.mem_iff.mp hx)⟩) (q _ ?_ ?_)
 ·have:=p1.map (·.1)
  rw [zbG (by omega)] at this
  exact this
 ·show (o'.map (·.1)).Pairwise _
  rw [zbp] at hso ⊢
  exact hso
theorem JA {w:Wd}{H:Hp}{S:av}{n:Nat}{v:V}{W:World}{ks:List D} (ok:Ok K w H S) (r:Rep K w (.loc n) v) (z:S[n]? = some (some (nO W ks))) :
  ∃ (a a':Addr) (bs:List Addr),v = .ref a∧H a=some (.ext (kU W a' ((ks.map py).zip bs)))∧ak K w ks (bs.map V.ref)∧ks.length=bs.length:=by
 simp only [Rep] at r
 obtain ⟨a,h0,rfl⟩:=r
 obtain ⟨a1,u,k1,k2,k3,a',bs,rfl,k5⟩:=ok.live n _ z
 rw [h0] at k1;cases k1
 exact ⟨a,a',bs,rfl,k3,k5,by have:=k5.length;rw [zbP] at this;exact this.symm⟩
theorem sQ {j:Nat} (hr:aS j X.A):uS X (.builtin "sorted") GH:=⟨mC (uw hr) fun xs H Q h=>by
 obtain ⟨w,ds,S,Qa,ok,rep,⟨d,es,ss,rfl,z,hl,q⟩,bk⟩:=h
 obtain ⟨v,rfl,r1⟩:=c7 rep
 obtain ⟨a,kvs,rfl,h1,h2,h3⟩:=ic ok r1 z
 refine ⟨a,kvs,ss,rfl,h1,?_,hl,fun p ss' hp g1 g2=>bk (.new (.lst _)) S _ w _ .refl (ok.alloc hp) (ok.fresh hp ⟨_,rfl,dU ss'⟩) (q ss' g1 g2)⟩
 have:(kvs.map fun x=>kV x.1)=(kvs.map (·.1)).map kV:=by rw [zct];rfl
 rw [this,h2,zct];rfl⟩
theorem Jv:uS X (.builtin "len") (MV X.w):=⟨mC Ai fun xs H Q h=>by
 obtain ⟨w,ds,S,Qa,ok,rep,⟨n,ks,rfl,z,hl,q⟩,bk⟩:=h
 obtain ⟨v,rfl,r1⟩:=c7 rep
 obtain ⟨a,a',bs,rfl,k3,k5,hlen⟩:=JA ok r1 z
 have e:((ks.map py).zip bs).length=ks.length:=by rw [zbX,zbP];omega
 refine ⟨a,a',_,rfl,k3,by omega,?_⟩
 rw [e]
 exact bk.dat .refl ok .int q⟩
theorem LY {j:Nat} (hr:aS j X.A):pW X (compareOp .In) (OZ X.w false):=⟨m2 (Jq hr) fun x y H Q h=>by
 obtain ⟨w,d,e,S,Qa,ok,r1,r2,⟨n,ks,rfl,z,g1,g2,q⟩,bk⟩:=h
 obtain ⟨a,a',bs,rfl,k3,k5,hlen⟩:=JA ok r2 z
 obtain ⟨b,rfl,hb⟩:=nI ok r1 g1
 obtain ⟨mem1,ez,e1,e2⟩:=gV hlen
 refine ⟨a,a',b,_,py d,rfl,rfl,k3,gA ok k5 g2,g1.2.1,g1.2.2.1,hb,bk.dat .refl ok .bl ?_⟩
 have:(((ks.map py).zip bs).any fun x=>decide (x.1=py d))=z7 ks d:=by
  have h1:(((ks.map py).zip bs).any fun x=>decide (x.1=py d))=((((ks.map py).zip bs).map (·.1)).any fun z=>decide (z=py d)):=by rw [zcq];rfl
  rw [h1,e2,zcq];rfl
 rw [this];exact q⟩
end
end M
namespace L2
open PySem PySem.Spec PyProof.Rows
noncomputable def XN (C:Addr) (d0:Option Addr) (x:Addr):HO:=.ext fun h=>∃ t0:Addr,h.get? x=some (PySem.W.Mx C d0 #[.ref t0,.none,.none,.none,.bool false,.none])
noncomputable abbrev Cx.at (X:Cx) (e:Value):Cx:={ X with A:=X.A.mark (some e),calm:=false,xe:=fun _ _=>False }
end L2
namespace M6
open PySem PySem.Spec PyProof.Rows
mutual
theorem o8 {h:Heap}:∀ (x y:PyData) {u:Value}{as bs:List Addr},cj x=true→cj y=true→Reads h u x as→Reads h u y bs→x=y
 | .int i,y,u,as,bs,hx,hy,r1,r2=>by cases r1;cases r2;rfl
 | .str i,y,u,as,bs,hx,hy,r1,r2=>by cases r1;cases r2;rfl
 | .tuple xs,y,u,as,bs,hx,hy,r1,r2=>by
  cases r1 with
  | @tuple _ o vs n _ _ ho hc hd ha =>
   cases r2 with
   | @tuple _ o2 vs2 n2 ys _ ho2 hc2 hd2 ha2 =>
    rw [ho] at ho2;cases ho2
    rw [hd] at hd2;cases hd2
    rw [mR xs ys hx hy ha ha2]
   | list _ _ _ _=>simp [cj] at hy
   | dict _ _ _ _ _=>simp [cj] at hy
 | .none,_,_,_,_,hx,_,_,_=>by simp [cj] at hx
 | .bool _,_,_,_,_,hx,_,_,_=>by simp [cj] at hx
 | .list _,_,_,_,_,hx,_,_,_=>by simp [cj] at hx
 | .dict _,_,_,_,_,hx,_,_,_=>by simp [cj] at hx
theorem mR {h:Heap}:∀ (xs ys:List PyData) {us:List Value}{as bs:List Addr},c5 xs=true→c5 ys=true→ReadsAll h us xs as→ReadsAll h us ys bs→xs=ys
 | [],ys,us,as,bs,hx,hy,r1,r2=>by cases r1;cases r2;rfl
 | x::xs,ys,us,as,bs,hx,hy,r1,r2=>by
  cases r1 with
  | cons a1 a2 =>
   cases r2 with
   | cons b1 b2 =>
    simp only [c5,zbJ] at hx hy
    rw [o8 x _ hx.1 hy.1 a1 b1,mR xs _ hx.2 hy.2 a2 b2]
end
section
variable {prog:Program}{w:World}{A:Around}{E:Value→Shared→Prop}{s:Shared}
noncomputable def jn (ks:List (PyData×Addr)) (d:PyData):Nat:=ks.countP fun z=>dQ z.1 d
theorem sI {ks:List (PyData×Addr)} (hc:∀ k∈ks,∀ l∈ks,aF k.1 l.1=true) {x y:PyData×Addr} (hx:x∈ks) (hy:y∈ks):(jn ks x.1<jn ks y.1)↔dQ x.1 y.1=true:=by
 constructor
 ·intro h
  by_cases c:dQ x.1 y.1=true
  ·exact c
  ·exfalso
   have:jn ks y.1≤jn ks x.1:=M10.wc fun z hz h1=>by
    by_cases d:dQ z.1 x.1=true
    ·exact d
    ·exfalso
     by_cases e:x.1=z.1
     ·rw [← e] at h1;exact c h1
     ·rcases qT x.1 z.1 (hc x hx z hz) e with g | g
      ·exact c (sY _ _ _ (hc x hx z hz) (hc z hz y hy) (hc x hx y hy) g h1)
      ·exact d g
   omega
 ·intro h
  exact M10.vZ (y:=x) (fun z hz h1=>sY _ _ _ (hc z hz x hx) (hc x hx y hy) (hc z hz y hy) h1 h) hx (vL _) h
noncomputable def HK (ks:List (PyData×Addr)):Value→PyData
 | .ref a=>match ks.find? fun k=>decide (k.2=a) with
  | some k=>k.1
  | none=>.none
 | _=>.none
theorem jH {h:Heap}{ks:List (PyData×Addr)} (hk:∀ k∈ks,isKey h k.1 k.2) {k:PyData×Addr} (m:k∈ks):HK ks (.ref k.2)=k.1:=by
 show (match ks.find? fun j=>decide (j.2=k.2) with | some k=>k.1 | none=>PyData.none)=k.1
 cases e:ks.find? fun j=>decide (j.2=k.2) with
 | none=>exact absurd (decide_eq_true rfl) (List.find?_eq_none.mp e k m)
 | some j =>
  have h1:=List.mem_of_find?_eq_some e
  have h2:j.2=k.2:=of_decide_eq_true (by simpa using List.find?_some e)
  obtain ⟨a1,_,as,a3⟩:=hk j h1
  obtain ⟨b1,_,bs,b3⟩:=hk k m
  rw [h2] at a3
  exact o8 j.1 k.1 a1 b1 a3 b3
noncomputable def RK (ks:List (PyData×Addr)) (p:Keyed):Int:=jn ks (HK ks p.1)
noncomputable def TK (ks:List (PyData×Addr)) (p:Keyed):Prop:=∃ k∈ks,p.1 = .ref k.2
theorem Dp {ks:List (PyData×Addr)} (hk:∀ k∈ks,jW s.heap k) (hc:∀ k∈ks,∀ l∈ks,aF k.1 l.1=true) (hu:A.units+6<cLine):M10.rN prog w A s (tuples' true) (RK ks) (TK ks):=by
 rintro ⟨x,x'⟩ ⟨y,y'⟩ ⟨k,mk,ek⟩ ⟨l,ml,el⟩ E Q h
 have ek:x = .ref k.2:=ek
 have el:y = .ref l.2:=el
 subst ek;subst el
 obtain ⟨i,hi,ei⟩:=zaL mk
 obtain ⟨j,hj,ej⟩:=zaL ml
 have d1:=jH (fun k hk'=>(hk k hk').1) mk
 have d2:=jH (fun k hk'=>(hk k hk').1) ml
 have e:decide (RK ks (Value.ref k.2,x')<RK ks (Value.ref l.2,y'))=dQ k.1 l.1:=by
  have:=sI hc mk ml
  have e1:RK ks (Value.ref k.2,x')=((jn ks k.1:Nat):Int):=by unfold RK;rw [d1]
  have e2:RK ks (Value.ref l.2,y')=((jn ks l.1:Nat):Int):=by unfold RK;rw [d2]
  rw [e1,e2]
  cases g:dQ k.1 l.1 with
  | true=>rw [g] at this;exact decide_eq_true (by have:=this.mpr rfl;omega)
  | false=>exact decide_eq_false fun z=>by have:=this.mp (by omega);rw [g] at this;cases this
 rw [e] at h
 have q:=Dz (prog:=prog) (w:=w) (A:=A) (s:=s) hk hc hu i j Q hi hj (by rw [ei,ej];exact h)
 unfold W.kas_ask at q
 have g:∀ n (hn:n<ks.length),(ks.map fun k=>Value.ref k.2).getD n Value.none = .ref ks[n].2:=fun n hn=>by simp [zcO,hn]
 rw [g i hi,g j hj,ei,ej] at q
 exact wpAny_mono q (fun _ _ z=>z) (fun _ _ z=>z.elim)
theorem kI {d:Addr}{ks:List (PyData×Addr)}{R:Shared→Prop}{Q:Value→Shared→Prop} (hh:A.handled=none) (hk:∀ k∈ks,jW s.heap k) (hc:∀ k∈ks,∀ l∈ks,aF k.1 l.1=true) (h64:ks.length≤1000) (hu:A.units+20<cLine)
  (col:∀ {A':Around}{Q':List Value→Shared→Prop}{E':Value→Shared→Prop},A'.handled=none→(∀ s1 (ord:List (PyData×Addr)),(∀ b o,s.heap.get? b=some o→s1.heap.get? b=some o)→R s1→ord.Perm ks→Q' (ord.map fun k=>Value.ref k.2) s1)→wpAny (model prog w) A' (collect (.ref d)) Q' E' s)
  (h:∀ (s1:Shared) (h2:Heap) (out:List (PyData×Addr)) (c:Nat),R s1→(∀ b o,s.heap.get? b=some o→s1.heap.get? b=some o)→(∀ b o,s1.heap.get? b=some o→h2.get? b=some o)→h2.get? s1.heap.objs.size=some (seqObj "list" (out.map fun k=>Value.ref k.2).toArray c)→out.Perm ks→out.Pairwise (fun x y=>dQ y.1 x.1=false)→Q (.ref s1.heap.objs.size) { s1 with heap:=h2 }) :
  wpAny (model prog w) A (call (.builtin "sorted") [.ref d]) Q E s:=by
 refine zal kind_sorted plain_sorted entry_sorted (args_sorted1 _) ?_
 unfold Builtin.«sorted»
 refine wpAny_bind (m:=checkCount "sorted" 1 1 _) (wpAny_pure ?_)
 refine wpAny_bind (col ?_ fun s1 ord kp hR hp0 => ?_)
 ·exact hh
 have hol:ord.length=ks.length:=hp0.length_eq
 generalize hvs:(ord.map fun k=>Value.ref k.2)=vs
 have hvl:vs.length=ord.length:=by rw [← hvs,zbP]
 refine wpAny_bind (wpAny_newList ?_ (by first | (rw [sizeLine_eq];omega) | (rw [zbf,sizeLine_eq];omega)))
 have gL:(s1.heap.push (seqObj "list" vs.toArray 0)).get? s1.heap.objs.size=some (seqObj "list" vs.toArray 0):=zaR _ rfl
 have hk':∀ k∈ord,jW (dB (s1.heap.push (seqObj "list" vs.toArray 0)) s1.heap.objs.size vs) k:=fun k hk1=>by
  obtain ⟨⟨k1,k2,as,hr⟩,r⟩:=hk k (hp0.mem_iff.mp hk1)
  exact ⟨⟨k1,k2,as,o7 gL (fun z=>by injection z with z;exact absurd z (by decide)) (fun c o hc1 e=>pC hc1 e) _ k1 (Reads.keeps (fun b o e=>zas _ (kp b o e)) hr)⟩,r⟩
 have hc':∀ k∈ord,∀ l∈ord,aF k.1 l.1=true:=fun k h1 l h2=>hc k (hp0.mem_iff.mp h1) l (hp0.mem_iff.mp h2)
 have key:∀ (A':Around),A'.units+8<cLine→∀ {P:PySem.Fin→Shared→Prop}{E':Value→Shared→Prop},(∀ out:Array Value,out.toList.Perm vs→out.toList.Pairwise (fun x y=>RK ord (x,x)≤RK ord (y,y))→P (.done (.ret .none)) { s1 with heap:=sortedHeap (s1.heap.push (seqObj "list" vs.toArray 0)) s1.heap.objs.size vs out }) →
   wpAny (model prog w) A' (Builtin.«list.sort» ⟨[.ref s1.heap.objs.size],[]⟩) P E' { s1 with heap:=s1.heap.push (seqObj "list" vs.toArray 0) }:=fun A' hA P E' hP=>by
  refine M10.nk (s:={ s1 with heap:=s1.heap.push (seqObj "list" vs.toArray 0) }) (R:=RK ord) (T:=TK ord) gL (by rw [sizeLine_eq];omega) (fun h2=>⟨tuples' true,fun Q' hQ' => ?_,Dp hk' hc' (by omega)⟩) (fun v hv => ?_) hP
  ·obtain ⟨fs,f1,f2,f3⟩:=pH hk'
   rw [hvs] at f1
   refine W.kat_kind (T:=.type "str") f1 (by omega) (fun v hv => ?_) (by decide) hQ'
   obtain ⟨i,t,rfl⟩:=f3 v hv
   intro A2 Q2 E2 s2 _ q
   exact wpAny_typeOf (typeIs_str s2 i t) q
  ·rw [← hvs] at hv
   obtain ⟨k,mk,rfl⟩:=zcs.mp hv
   exact ⟨k,mk,rfl⟩
 refine wpAny_bind (wpAny_holding (wpAny_call_entry slot_list_sort ⟨_,gL,rfl⟩ entry_list_sort (key _ ?_ fun out q1 q2=>⟨_,rfl,?_⟩) (args_list_sort _)))
 ·show A.units+1+1+8<cLine
  omega
 ·obtain ⟨c,hcc⟩:=sortedHeap_at (out:=out) gL
  rw [← hvs] at q1
  obtain ⟨o',p1,p2⟩:=dN q1
  have eo:out=(o'.map fun k=>Value.ref k.2).toArray:=by rw [← p2]
  refine wpAny_pure ⟨_,rfl,h s1 _ o' c hR kp (fun b o e => ?_) (by rw [← eo];exact hcc) (p1.trans hp0) ?_⟩
  ·have lb:=zcD e
   show (sortedHeap _ _ _ _).get? b=some o
   rw [sortedHeap_old (zcu lb) (by rw [size_push'];exact zbr lb)]
   exact zas _ e
  ·rw [p2,zbp] at q2
   refine List.Pairwise.imp_of_mem (fun {x y} hx hy hxy => ?_) q2
   have mx:=p1.mem_iff.mp hx
   have my:=p1.mem_iff.mp hy
   have d1:=jH (fun k hk1=>(hk' k hk1).1) mx
   have d2:=jH (fun k hk1=>(hk' k hk1).1) my
   have e1:RK ord (Value.ref x.2,Value.ref x.2)=((jn ord x.1:Nat):Int):=by unfold RK;rw [d1]
   have e2:RK ord (Value.ref y.2,Value.ref y.2)=((jn ord y.1:Nat):Int):=by unfold RK;rw [d2]
   rw [e1,e2] at hxy
   cases g:dQ y.1 x.1 with
   | false=>rfl
   | true=>have:=(sI hc' my mx).mpr g;omega
end
end M6
namespace L2
open PySem PySem.Spec PyProof.Rows M6
noncomputable def Fg (K:PySem.W.Frag):List V→Hp→VK→Prop:=fun vs H Q=>∃ (a:Addr) (ks:List (PyData×Addr)),vs=[.ref a]∧b9 K H a (ks.map fun k=>V.ref k.2)∧pZ K H ks∧(∀ k∈ks,∃ p r,k.1=PyData.tuple (.str p::r))∧(∀ k∈ks,∀ l∈ks,aF k.1 l.1=true)∧ks.length≤1000 ∧
 ∀ (p:Addr) (out:List (PyData×Addr)),H p=none→out.Perm ks→out.Pairwise (fun x y=>dQ y.1 x.1=false)→Q (.ref p) (upd H p (.lst (out.map fun k=>V.ref k.2)))
noncomputable def Fj (K:PySem.W.Frag) (W:World):List V→Hp→VK→Prop:=fun vs H Q=>∃ (a a':Addr) (ks:List (PyData×Addr)),vs=[.ref a]∧H a=some (.ext (kU W a' ks))∧pZ K H ks∧(∀ k∈ks,∃ p r,k.1=PyData.tuple (.str p::r))∧(∀ k∈ks,∀ l∈ks,aF k.1 l.1=true)∧ks.length≤1000 ∧
 ∀ (p:Addr) (out:List (PyData×Addr)),H p=none→out.Perm ks→out.Pairwise (fun x y=>dQ y.1 x.1=false)→Q (.ref p) (upd H p (.lst (out.map fun k=>V.ref k.2)))
section
variable {X:Cx}
theorem ur {k:Nat} (hr:aS k X.A):bS X (.builtin "sorted") (Fg X.K):=by
 intro pins s σ H xs us Q I r h
 obtain ⟨a,ks,rfl,ha,hk,h0,hc,hl,q⟩:=h
 obtain ⟨u,rfl,ru⟩:=vals1 r
 cases ru
 obtain ⟨its,r1,⟨o,n,e,hcl,hd,hda⟩,_⟩:=I.list ha
 have ei:its=ks.map fun k=>Value.ref k.2:=eT (fun k:PyData×Addr=>k.2) r1
 subst ei
 refine kI (R:=fun s1=>∃ h1,s1={ s with heap:=h1 }) hr.hd (fun y hy => ?_) hc hl (by have:=hr.units;omega) (fun hh' hQ=>collect_list (vs:=ks.map fun k=>Value.ref k.2) ⟨o,e,hcl,n,hda⟩ (hQ _ ks (fun b o e => ?_) ⟨_,rfl⟩ (.refl _)) (by rw [zbP,sizeLine_eq];omega)) fun s1 h2 out c hR k1 k2 g hp hs => ?_
 ·obtain ⟨k1,k2,k3⟩:=hk y hy
  exact ⟨I.key k1 k2 k3,h0 y hy⟩
 ·have lb:=zcD e
  exact (zat _ _ (zcw lb)).trans (zas _ e)
 ·obtain ⟨h1,rfl⟩:=hR
  have I1:Inv X pins σ H { s with heap:=h1 }:=I.kept (t':=s.toks) k1
  refine ⟨.ref h1.objs.size,_,I1.laid (a:=h1.objs.size) (t':=s.toks) (o:=.lst (out.map fun k=>V.ref k.2)) k2 (zcH _) ⟨by rw [zbP,hp.length_eq,sizeLine_eq];omega,_,c,gW (fun k=>k.2) out,g⟩,rfl,q _ out (I1.hok.fresh (zcH _)) hp hs⟩
theorem uv {k:Nat} (hr:aS k X.A):bS X (.builtin "sorted") (Fj X.K X.w):=by
 intro pins s σ H xs us Q I r h
 obtain ⟨a,a',ks,rfl,e,hk,h0,hc,hl,q⟩:=h
 obtain ⟨u,rfl,ru⟩:=vals1 r
 cases ru
 have ob:=(show aW X.prog X.w H s.heap a (.ext (kU X.w a' ks)) from I.hok a _ e)
 obtain rfl:=lJ ob
 obtain ⟨⟨z,o,es,ep,ho,hx,hd,hes,hn⟩,_,_⟩:=ob
 have hsz:es.size=ks.length:=by have:=congrArg zcF hes;simpa using this
 refine kI (R:=fun s1=>∃ h1 tk,s1={ s with heap:=h1,toks:=tk }) hr.hd (fun y hy => ?_) hc hl (by have:=hr.units;omega) (fun hh' hQ=>uf z hh' ⟨o,ho,hx,hd⟩ (by rw [sizeLine_eq];omega) fun h1 tk kp => ?_) fun s1 h2 out c hR k1 k2 g hp hs => ?_
 ·obtain ⟨k1,k2,k3⟩:=hk y hy
  exact ⟨I.key k1 k2 k3,h0 y hy⟩
 ·rw [hes,zct]
  exact hQ _ ks kp ⟨h1,tk,rfl⟩ (.refl _)
 ·obtain ⟨h1,tk,rfl⟩:=hR
  have I1:Inv X pins σ H { s with heap:=h1,toks:=tk }:=I.kept (t':=tk) k1
  refine ⟨.ref h1.objs.size,_,I1.laid (a:=h1.objs.size) (t':=tk) (o:=.lst (out.map fun k=>V.ref k.2)) k2 (zcH _) ⟨by rw [zbP,hp.length_eq,sizeLine_eq];omega,_,c,gW (fun k=>k.2) out,g⟩,rfl,q _ out (I1.hok.fresh (zcH _)) hp hs⟩
end
end L2
namespace M
open PySem PySem.Spec PyProof.Rows L2 M6
noncomputable def GC:AN:=fun ds S Q=>∃ d ks,ds=[d]∧aV S d = .lst ks∧yV ks∧ks.length≤1000∧∀ ks':List D,ks'.Perm ks→uN ks'→Q (.new (.lst ks')) S
noncomputable def GF (W:World):AN:=fun ds S Q=>∃ n ks,ds=[.loc n]∧S[n]? = some (some (nO W ks))∧yV ks∧ks.length≤1000∧∀ ks':List D,ks'.Perm ks→uN ks'→Q (.new (.lst ks')) S
section
variable {X:Cx}
theorem jz {j:Nat} (hr:aS j X.A):uS X (.builtin "sorted") GC:=⟨mC (ur hr) fun xs H Q h=>by
 obtain ⟨w,ds,S,Qa,ok,rep,⟨d,ks,rfl,z,g,hl,q⟩,bk⟩:=h
 obtain ⟨v,rfl,r1⟩:=c7 rep
 obtain ⟨a,xs,rfl,h1,h2⟩:=aX ok r1 z
 obtain ⟨bs,rfl⟩:=j6 h2 fun k hk=>(g.good k hk).2.2.2
 have hlen:ks.length=bs.length:=by have:=h2.length;rw [zbP] at this;exact this.symm
 obtain ⟨mem1,ez,e1,e2⟩:=gV hlen
 refine ⟨a,(ks.map py).zip bs,rfl,by rw [e1];exact b9.of h1,gA ok h2 g.good,fun x hx => ?_,fun x hx y hy => ?_,by rw [zbX,zbP];omega,oW ok h2 bk q⟩
 ·obtain ⟨k,hk,e⟩:=mem1 x hx
  rw [e];exact g.fst k hk
 ·obtain ⟨k,hk,e⟩:=mem1 x hx
  obtain ⟨k',hk',e'⟩:=mem1 y hy
  rw [e,e'];exact g.cmp k hk k' hk'⟩
theorem sP {j:Nat} (hr:aS j X.A):uS X (.builtin "sorted") (GF X.w):=⟨mC (uv hr) fun xs H Q h=>by
 obtain ⟨w,ds,S,Qa,ok,rep,⟨n,ks,rfl,z,g,hl,q⟩,bk⟩:=h
 obtain ⟨v,rfl,r1⟩:=c7 rep
 obtain ⟨a,a',bs,rfl,k3,k5,hlen⟩:=JA ok r1 z
 obtain ⟨mem1,ez,e1,e2⟩:=gV hlen
 refine ⟨a,a',_,rfl,k3,gA ok k5 g.good,fun x hx => ?_,fun x hx y hy => ?_,by rw [zbX,zbP];omega,oW ok k5 bk q⟩
 ·obtain ⟨k,hk,e⟩:=mem1 x hx
  rw [e];exact g.fst k hk
 ·obtain ⟨k,hk,e⟩:=mem1 x hx
  obtain ⟨k',hk',e'⟩:=mem1 y hy
  rw [e,e'];exact g.cmp k hk k' hk'⟩
end
end M
namespace L2
open PySem
section
variable {K:PySem.W.Frag}{mg:Str→Option Value}{C:Addr}
structure nZ (K:PySem.W.Frag) (x:Str) (st:Stmt):Prop where
 ex:∃ f oc od kV doc pm an cdv ct osl,zcC K mainGlobals x=some (some (.ref f))∧K.lookup f=some ⟨oc,od,.func (zcB x x (cH st) (bB st) (ai st) .none kV doc pm an cdv ct),osl⟩∧zcg K cdv x=true∧zcf K (.ref f)=true
structure uT (K:PySem.W.Frag) (C:Addr) (m q:Str) (st:Stmt):Prop where
 ex:∃ f oc od kV doc pm an cdv ct osl,zce K (.ref C) m=some (some (.ref f))∧K.lookup f=some ⟨oc,od,.func (zcB m q (cH st) (bB st) (ai st) .none kV doc pm an cdv ct),osl⟩∧zcg K cdv q=true∧zcf K (.ref f)=true∧zcA K (.ref f)=true
theorem nZ.of {x:Str}{st:Stmt}{f:Addr}{oc:Value}{od an:Option Addr}{osl:Array (Option Value)}{kV doc pm cdv ct:Value} (a:zcC K mainGlobals x=some (some (.ref f))) (l:K.lookup f=some ⟨oc,od,.func (zcB x x (cH st) (bB st) (ai st) .none kV doc pm an cdv ct),osl⟩)
  (c:zcg K cdv x=true) (k:zcf K (.ref f)=true):nZ K x st:=⟨_,_,_,_,_,_,_,_,_,_,a,l,c,k⟩
theorem uT.of {m q:Str}{st:Stmt}{f:Addr}{oc:Value}{od an:Option Addr}{osl:Array (Option Value)}{kV doc pm cdv ct:Value} (a:zce K (.ref C) m=some (some (.ref f))) (l:K.lookup f=some ⟨oc,od,.func (zcB m q (cH st) (bB st) (ai st) .none kV doc pm an cdv ct),osl⟩)
  (c:zcg K cdv q=true) (k:zcf K (.ref f)=true) (i:zcA K (.ref f)=true):uT K C m q st:=⟨_,_,_,_,_,_,_,_,_,_,a,l,c,k,i⟩
theorem nZ.src {x:Str}{st:Stmt}{ps:List Str}{h:Heap} (e:nZ K x st) (X:K.In h) (G:h.Ns mainGlobals mg)
  (b:∀ (kV doc pm:Value) (an:Option Addr) (cdv ct:Value) (us:List Value),us.length=ps.length→bindArgs (zcB x x (cH st) (bB st) (ai st) .none kV doc pm an cdv ct) ⟨us,[]⟩=pure (ps.zip us)):Src K mg x ps st:=by
 obtain ⟨f,oc,od,kV,doc,pm,an,cdv,ct,osl,a,l,c,k⟩:=e.ex
 exact J.Ir X G a l c k b
theorem uT.src {m q:Str}{st:Stmt}{ps:List Str} (e:uT K C m q st)
  (b:∀ (kV doc pm:Value) (an:Option Addr) (cdv ct:Value) (us:List Value),us.length=ps.length→bindArgs (zcB m q (cH st) (bB st) (ai st) .none kV doc pm an cdv ct) ⟨us,[]⟩=pure (ps.zip us)):M.ef K C m q ps st:=by
 obtain ⟨f,oc,od,kV,doc,pm,an,cdv,ct,osl,a,l,c,k,i⟩:=e.ex
 exact ⟨f,_,iZ (st:=st) l c k,⟨a,i,k⟩,(iZ (st:=st) l c k).binds b⟩
end
end L2
namespace L2
open PySem PySem.Spec PyProof.Rows
structure NK (h:Heap) (e it l:Addr) (i:Nat):Prop where
 en:∃ old,IsEnum h e it i old
 li:h.IsListIter it l i
noncomputable def Pp (K:PySem.W.Frag) (l:Addr):It :=
 ⟨fun i H=>∃ xs x,b9 K H l xs∧xs[i]? = some x,fun i H v H'=>∃ T x,H T=none∧v = .ref T∧H'=upd H T (.tup [.int i,x])∧∀ xs,b9 K H l xs→xs[i]? = some x,fun i H=>∃ xs,b9 K H l xs∧xs.length≤i⟩
theorem NK.at {h h':Heap}{e it l:Addr}{i:Nat} (Z:NK h e it l i) (kp:∀ b∈[e,it],∀ o,h.get? b=some o→h'.get? b=some o):NK h' e it l i :=
 ⟨let ⟨o,q⟩:=Z.en;⟨o,kp e (by simp) _ q⟩,Z.li.at fun o q=>kp it (by simp) o q⟩
theorem zm {P:Program}{w:World}{K:PySem.W.Frag}{elts:List Expr}{kk:Nat}{ps:Pos}{e it l:Addr} (hne:e≠it) (hle:l≠e) (hli:l≠it) :
  Turn P w K (.Tuple elts kk ps) (Pp K l) [e,it] e (fun i h=>NK h e it l i) where
 mem:=by simp
 obj:=fun i h st b hb=>by
  obtain ⟨⟨old,he⟩,⟨o1,e1,c1,d1⟩⟩:=st
  simp only [zci,zbE,or_false] at hb
  rcases hb with rfl | rfl
  ·exact ⟨_,he,(fun v q=>by cases q)⟩
  ·exact ⟨o1,e1,fun v q=>by rw [d1] at q;cases q⟩
 keep:=fun i h h' st k=>st.at fun b hb o e=>k b hb o e
 item:=by
  intro X hP hw hK hc i pins s σ H E I hf st hg
  subst hP hw hK
  obtain ⟨xs,x,q1,hx⟩:=hg
  obtain ⟨its1,v1,⟨ol,nl,gl,cl,dl,tl⟩,_⟩:=I.list q1
  obtain ⟨u1,hu1,r1⟩:=v1.get hx
  obtain ⟨⟨old,he⟩,hit⟩:=id st
  have hL:s.heap.IsList l its1.toArray:=⟨ol,gl,cl,nl,tl⟩
  have helt:e<s.heap.objs.size:=zcD he
  have hilt:it<s.heap.objs.size:=by obtain ⟨_,x,_⟩:=hit;exact zcD x
  refine wpAny_pyNext_enum_item he hit hL (x:=u1) (by simpa using hu1) hne fun h' ho hit' hT hsz kp => ?_
  refine ⟨_,rfl,wpAny_letOwnedTupleGo_enum ho fun h2 he2 sb => ?_⟩
  have hT0:=I.tR (H':=H) (zcH s.heap.objs.size) (I.hok.fresh (zcH _))
  have I1:Inv X pins σ H { s with heap:=h2,toks:=s.toks+1 }:=I.wO (t':=s.toks+1) (ch:=[e,it]) (fun b o hb q=>(sb.2 b (fun z=>hb (by simp [z]))).trans (kp b o (fun z=>hb (by simp [z])) (fun z=>hb (by simp [z])) q)) hf
  have hTe:s.heap.objs.size≠e:=zcw helt
  have I2:=I1.wQ (o:=.tup [.int i,x]) hT0.1 I.sz hT0.2.1 hT0.2.2.2.2.1 hT0.2.2.2.2.2 ⟨by rw [sizeLine_eq];show 2≤_;omega,[.int i s.toks,u1],.cons ⟨_,rfl⟩ (.cons r1 .nil),⟨_,(sb.2 _ hTe).trans hT,rfl,_,rfl⟩⟩
  refine ⟨.ref s.heap.objs.size,_,I2,rfl,⟨_,x,hT0.1,rfl,rfl,fun xs' h=>by rw [I.tE h q1];exact hx⟩,?_,fun b hb => ?_⟩
  ·exact ⟨⟨_,by simpa using he2⟩,hit'.at fun o q=>(sb.2 it hne.symm).trans q⟩
  ·have:b<s.heap.objs.size:=by
    simp only [zci,zbE,or_false] at hb
    rcases hb with rfl | rfl
    ·exact helt
    ·exact hilt
   rw [aA (zcu this)];exact (hf b hb).1
 done:=by
  intro X hP hw hK hc i pins s σ H E I hf st hg
  subst hP hw hK
  obtain ⟨xs,q1,hx⟩:=hg
  obtain ⟨its1,v1,⟨ol,nl,gl,cl,dl,tl⟩,_⟩:=I.list q1
  have n1:=v1.length
  obtain ⟨⟨old,he⟩,hit⟩:=id st
  refine wpAny_pyNext_enum_end (I.ok.hd hc) he hit (show s.heap.IsList l its1.toArray from ⟨ol,gl,cl,nl,tl⟩) (by simp;omega) fun h' kp=>⟨rfl,?_⟩
  exact I.wO (t':=s.toks) (ch:=[e,it]) (fun b o hb q=>kp b o (fun z=>hb (by simp [z])) q) hf
 self:=fun _ _ _ _ _ st h=>let ⟨_,he⟩:=st.en;wpAny_pyIter_enum he h
noncomputable def CU (K:PySem.W.Frag) (ta:TA):TI:=fun σ H R=>ta σ H fun vs H1=>∃ l xs,vs=[.ref l]∧b9 K H1 l xs∧R (Pp K l) H1
theorem qH {X:Cx}{elts:List Expr}{kk:Nat}{ps:Pos}{a:Expr}{ta:TA}{p pos:Pos} (hg:Gl X "enumerate") (hm:X.mg "enumerate" = none) (ha:PA X [a] ta) (hs:starEach [a] X.env=[(false,eval a X.env)]:=by rfl) :
  PI X (.Tuple elts kk ps) (.Call (.Name "enumerate" p) [a] [] pos) (CU X.K ta):=by
 intro pins s σ H R I h
 refine Call_ (fX I hg hm (u:=.type "enumerate") (by decide +kernel) (PyProof.Rows.callWith_type1 (cA (ha pos pins s σ H _ I h) fun us s1 ⟨vs,H1,I1,r1,q1⟩ => ?_) (by rw [hs];rfl) (by rfl)) (by decide +kernel) (by decide +kernel))
 obtain ⟨l,xs,e,h1,q⟩:=q1
 subst e
 cases r1 with
 | cons r rr =>
  cases rr
  cases r
  obtain ⟨its1,v1,⟨ol,nl,gl,cl,dl,tl⟩,_⟩:=I1.list h1
  have b1:l<s1.heap.objs.size:=zcD gl
  have ne:∀ {x y:Nat},x<y∨y<x→@Ne Addr x y:=fun h e=>by have e:(_:Nat)=_:=e;omega
  refine call_enumerate_list (show s1.heap.IsList l its1.toArray from ⟨ol,gl,cl,nl,tl⟩) fun h' Z Zi _ kp=>wpAny_pyIter_enum Z ?_
  refine ⟨_,_,_,_,H1,rfl,I1.kept (t':=s1.toks) kp,zm (e:=s1.heap.objs.size+1) (it:=s1.heap.objs.size) (l:=l) (ne (.inr (Nat.lt_succ_self _))) (ne (.inl (zbr b1))) (ne (.inl b1)),⟨⟨_,Z⟩,Zi⟩,fun b hb => ?_,q⟩
  simp only [zci,zbE,or_false] at hb
  have:s1.heap.objs.size≤b:=by rcases hb with rfl | rfl <;> omega
  exact I1.tR this (I1.hok.fresh this)
end L2
namespace M
open PySem PySem.Spec PyProof.Rows L2
noncomputable def yH (es:List D):List D:=es.zipIdx.map fun p=>.tup [.int (p.2:Nat),p.1]
noncomputable def CV (a:AA):AI:=fun δ S Q=>a δ S fun ds S1=>∃ es,ds=[.lst es]∧Q (yH es) (fun _=>True) S1
theorem yG {es:List D}{i:Nat}{d:D} (e:(yH es)[i]? = some d):∃ x,es[i]? = some x∧d = .tup [.int (i:Nat),x]:=by
 unfold yH at e
 rw [zbh,List.getElem?_zipIdx] at e
 cases h:es[i]? with
 | none=>rw [h] at e;cases e
 | some p =>
  rw [h] at e
  refine ⟨p,rfl,?_⟩
  have:=(zcL.inj e).symm
  simpa using this
theorem E3 {K:PySem.W.Frag}{a:AA}:∀ σ H R,Ae K (CV a) σ H R→CU K (k6 K a) σ H R:=by
 rintro σ H R ⟨w,δ,S,Qa,ok,env,q,bk⟩
 refine ⟨w,δ,S,_,ok,env,q,fun ds S1 vs w1 H1 le1 ok1 rep1 ⟨es,hd,q1⟩ => ?_⟩
 subst hd
 simp only [ak,Rep] at rep1
 obtain ⟨x,r,rfl,⟨a,xs,rfl,a1,a2⟩,rfl⟩:=rep1
 refine ⟨a,xs,rfl,b9.of (ok1.base _ _ a1),bk _ _ S1 _ w1 H1 le1 ok1 ⟨fun i H S w' d le ok hP e => ?_,fun i H S w' d v H' le ok hP e y => ?_,fun i H S w' le ok hP e => ?_⟩ q1⟩
 ·obtain ⟨p,h1,_⟩:=yG e
  obtain ⟨u,u1,_⟩:=a2.get h1
  exact ⟨xs,u,b9.of ((le.b.trans ok.base) _ _ a1),u1⟩
 ·obtain ⟨p,h1,rfl⟩:=yG e
  obtain ⟨u,u1,u2⟩:=a2.get h1
  obtain ⟨T,c,hT,rfl,rfl,g1⟩:=y
  have g1:=g1 xs (b9.of ((le.b.trans ok.base) _ _ a1))
  rw [u1] at g1;cases g1
  exact ok.nh hT (.cons (by simp [Rep]) (.cons (u2.le le) .nil))
 ·refine ⟨xs,b9.of ((le.b.trans ok.base) _ _ a1),?_⟩
  have n1:=a2.length
  rw [e]
  unfold yH
  rw [zbP,List.length_zipIdx]
  omega
theorem qH {X:Cx}{elts:List Expr}{kk:Nat}{ps:Pos}{a:Expr}{ta:AA}{p pos:Pos} (hg:Gl X "enumerate") (hm:X.mg "enumerate" = none) (ha:GA X [a] ta) (hs:starEach [a] X.env=[(false,eval a X.env)]:=by rfl) :
  GI X (.Tuple elts kk ps) (.Call (.Name "enumerate" p) [a] [] pos) (CV ta):=⟨mI (L2.qH hg hm ha.p hs) E3⟩
end M
namespace M6
open PySem PySem.Spec PyProof.Rows
section
variable {prog:Program}{w:World}{A:Around}{E:Value→Shared→Prop}{s:Shared}
theorem tV {v:Value}{Q:Bool→Shared→Prop} (h:Q true s):wpAny (model prog w) A (eqBool v v) Q E s:=by
 unfold eqBool
 refine wpAny_holding ?_
 rw [if_pos (by simp)]
 exact wpAny_bind (wpAny_rule (wpAny_pure h))
theorem tG {b fin:Bool}{Q:Bool→Shared→Prop}:∀ (l:List Value) (i:Nat),Q fin s→W.KatLex prog w A b fin Q (l.zip l) i s
 | [],_,h=>h
 | v::l,i,h=>by
  rw [zaV,W.KatLex.eq_2]
  refine tV ?_
  rw [if_pos rfl]
  exact tG l (i+1) h
noncomputable def Hd (h:Heap) (k:Str×Addr):Prop:=∃ o vs n t r,h.get? k.2=some o∧o.cls = .type "tuple" ∧ o.data = .seq vs n∧vs.toList = .str k.1 t::r
theorem Hd.uniq {h:Heap}{k l:Str×Addr} (a:Hd h k) (b:Hd h l) (e:k.2=l.2):k.1=l.1:=by
 obtain ⟨o,vs,n,t,r,h1,_,h3,h4⟩:=a
 obtain ⟨o2,vs2,n2,t2,r2,g1,_,g3,g4⟩:=b
 rw [e,g1] at h1;cases h1
 rw [g3] at h3;cases h3
 rw [g4] at h4
 injection h4 with h4 _
 injection h4 with h4 _
 exact h4.symm
noncomputable def Ma (ks:List (Str×Addr)):Value→Str
 | .ref a=>match ks.find? fun k=>decide (k.2=a) with
  | some k=>k.1
  | none=>Str.empty
 | _=>Str.empty
theorem lH {h:Heap}{ks:List (Str×Addr)} (hk:∀ k∈ks,Hd h k) {k:Str×Addr} (m:k∈ks):Ma ks (.ref k.2)=k.1:=by
 show (match ks.find? fun j=>decide (j.2=k.2) with | some k=>k.1 | none=>Str.empty)=k.1
 cases e:ks.find? fun j=>decide (j.2=k.2) with
 | none=>exact absurd (decide_eq_true rfl) (List.find?_eq_none.mp e k m)
 | some j =>
  have h1:=List.mem_of_find?_eq_some e
  have h2:j.2=k.2:=of_decide_eq_true (by simpa using List.find?_some e)
  exact (hk j h1).uniq (hk k m) h2
noncomputable def RN (ks:List (Str×Addr)) (p:Keyed):Int:=M10.jm (ks.map (·.1)) (Ma ks p.1)
noncomputable def TN (ks:List (Str×Addr)) (p:Keyed):Prop:=∃ k∈ks,p.1 = .ref k.2
theorem yj {h:Heap}:∀ {ks:List (Str×Addr)},(∀ k∈ks,Hd h k)→∃ fs,W.KatTups h (ks.map fun k=>.ref k.2) fs∧fs.length=ks.length∧∀ f∈fs,∃ i t,f=Value.str i t
 | [],_=>⟨[],.nil,rfl,by simp⟩
 | k::ks,hk=>by
  obtain ⟨fs,h1,h2,h3⟩:=yj fun k hk'=>hk k (zaC _ hk')
  obtain ⟨o,vs,n,t,r,g1,g2,g3,g4⟩:=hk k (by simp)
  refine ⟨.str k.1 t::fs,.cons g1 g2 g3 ?_ h1,by simp [h2],fun f hf => ?_⟩
  ·rw [← zaA,g4];rfl
  ·rcases zci.mp hf with rfl | hf
   ·exact ⟨_,t,rfl⟩
   ·exact h3 f hf
theorem Cq {α β:Type}{f:α→β}:∀ {l:List α},(l.map f).Nodup→∀ a∈l,∀ b∈l,f a=f b→a=b
 | [],_,a,h,_,_,_=>by simp at h
 | x::l,hn,a,ha,b,hb,e=>by
  rw [zcj,zbR] at hn
  rcases zci.mp ha with ea | ha
  ·rcases zci.mp hb with eb | hb
   ·rw [ea,eb]
   ·exact absurd (show f x∈l.map f from zcs.mpr ⟨b,hb,by rw [← e,ea]⟩) hn.1
  ·rcases zci.mp hb with eb | hb
   ·exact absurd (show f x∈l.map f from zcs.mpr ⟨a,ha,by rw [e,eb]⟩) hn.1
   ·exact Cq hn.2 a ha b hb e
theorem MG {ks:List (Str×Addr)} (hk:∀ k∈ks,Hd s.heap k) (hn:(ks.map (·.1)).Nodup):M10.rN prog w A s (tuples' true) (RN ks) (TN ks):=by
 rintro ⟨x,x'⟩ ⟨y,y'⟩ ⟨k,mk,ek⟩ ⟨l,ml,el⟩ E Q h
 have ek:x = .ref k.2:=ek
 have el:y = .ref l.2:=el
 subst ek;subst el
 have e:decide (RN ks (Value.ref k.2,x')<RN ks (Value.ref l.2,y'))=decide (k.1.cps.toList<l.1.cps.toList):=by
  have:=M10.xW (ss:=ks.map (·.1)) (y:=l.1) (zcs.mpr ⟨k,mk,rfl⟩)
  have e1:RN ks (Value.ref k.2,x')=((M10.jm (ks.map (·.1)) k.1:Nat):Int):=by unfold RN;rw [lH hk mk]
  have e2:RN ks (Value.ref l.2,y')=((M10.jm (ks.map (·.1)) l.1:Nat):Int):=by unfold RN;rw [lH hk ml]
  rw [e1,e2]
  by_cases g:k.1.cps.toList<l.1.cps.toList
  ·rw [decide_eq_true g];exact decide_eq_true (by have:=this.mpr g;omega)
  ·rw [decide_eq_false g];exact decide_eq_false fun z=>g (this.mp (by omega))
 rw [e] at h
 by_cases hs:k=l
 ·subst hs
  obtain ⟨o,vs,n,t,r,g1,g2,g3,g4⟩:=hk k mk
  refine W.kat_lt g1 g3 g1 g3 (tG _ 0 ?_)
  rw [decide_eq_false (by omega)]
  rw [decide_eq_false (zcd _)] at h
  exact h
 ·have hne:k.1≠l.1:=fun z=>hs (Cq hn k mk l ml z)
  obtain ⟨o,vs,n,t,r,g1,g2,g3,g4⟩:=hk k mk
  obtain ⟨o2,vs2,n2,t2,r2,f1,f2,f3,f4⟩:=hk l ml
  refine W.kat_lt g1 g3 f1 f3 ?_
  rw [g4,f4,zaV,W.KatLex.eq_2]
  refine wpAny_eqBool_str ?_
  rw [decide_eq_false hne,if_neg (by decide)]
  exact ya h
theorem r9 {d:Addr}{ks:List (Str×Addr)}{R:Shared→Prop}{Q:Value→Shared→Prop} (hh:A.handled=none) (hk:∀ k∈ks,Hd s.heap k) (hn:(ks.map (·.1)).Nodup) (h64:ks.length≤1000) (hu:A.units+20<cLine)
  (col:∀ {A':Around}{Q':List Value→Shared→Prop}{E':Value→Shared→Prop},A'.handled=none→(∀ s1,(∀ b o,s.heap.get? b=some o→s1.heap.get? b=some o)→R s1→Q' (ks.map fun k=>Value.ref k.2) s1)→wpAny (model prog w) A' (collect (.ref d)) Q' E' s)
  (h:∀ (s1:Shared) (h2:Heap) (out:List (Str×Addr)) (c:Nat),R s1→(∀ b o,s.heap.get? b=some o→s1.heap.get? b=some o)→(∀ b o,s1.heap.get? b=some o→h2.get? b=some o)→h2.get? s1.heap.objs.size=some (seqObj "list" (out.map fun k=>Value.ref k.2).toArray c)→out.Perm ks→out.Pairwise (fun x y => ¬ y.1.cps.toList<x.1.cps.toList)→Q (.ref s1.heap.objs.size) { s1 with heap:=h2 }) :
  wpAny (model prog w) A (call (.builtin "sorted") [.ref d]) Q E s:=by
 refine zal kind_sorted plain_sorted entry_sorted (args_sorted1 _) ?_
 unfold Builtin.«sorted»
 refine wpAny_bind (m:=checkCount "sorted" 1 1 _) (wpAny_pure ?_)
 refine wpAny_bind (col ?_ fun s1 kp hR => ?_)
 ·exact hh
 generalize hvs:(ks.map fun k=>Value.ref k.2)=vs
 have hvl:vs.length=ks.length:=by rw [← hvs,zbP]
 refine wpAny_bind (wpAny_newList ?_ (by first | (rw [sizeLine_eq];omega) | (rw [zbf,sizeLine_eq];omega)))
 have gL:(s1.heap.push (seqObj "list" vs.toArray 0)).get? s1.heap.objs.size=some (seqObj "list" vs.toArray 0):=zaR _ rfl
 have hk':∀ k∈ks,Hd (dB (s1.heap.push (seqObj "list" vs.toArray 0)) s1.heap.objs.size vs) k:=fun k hk1=>by
  obtain ⟨o,us,n,t,r,g1,g2,g3,g4⟩:=hk k hk1
  refine ⟨o,us,n,t,r,pC (fun z => ?_) (zas _ (kp _ _ g1)),g2,g3,g4⟩
  have:k.2<s1.heap.objs.size:=zcD (kp _ _ g1)
  rw [z] at this
  exact absurd this (zcn _)
 have key:∀ (A':Around),A'.units+8<cLine→∀ {P:PySem.Fin→Shared→Prop}{E':Value→Shared→Prop},(∀ out:Array Value,out.toList.Perm vs→out.toList.Pairwise (fun x y=>RN ks (x,x)≤RN ks (y,y))→P (.done (.ret .none)) { s1 with heap:=sortedHeap (s1.heap.push (seqObj "list" vs.toArray 0)) s1.heap.objs.size vs out }) →
   wpAny (model prog w) A' (Builtin.«list.sort» ⟨[.ref s1.heap.objs.size],[]⟩) P E' { s1 with heap:=s1.heap.push (seqObj "list" vs.toArray 0) }:=fun A' hA P E' hP=>by
  refine M10.nk (s:={ s1 with heap:=s1.heap.push (seqObj "list" vs.toArray 0) }) (R:=RN ks) (T:=TN ks) gL (by rw [sizeLine_eq];omega) (fun h2=>⟨tuples' true,fun Q' hQ' => ?_,MG hk' hn⟩) (fun v hv => ?_) hP
  ·obtain ⟨fs,f1,f2,f3⟩:=yj hk'
   rw [hvs] at f1
   refine W.kat_kind (T:=.type "str") f1 (by omega) (fun v hv => ?_) (by decide) hQ'
   obtain ⟨i,t,rfl⟩:=f3 v hv
   intro A2 Q2 E2 s2 _ q
   exact wpAny_typeOf (typeIs_str s2 i t) q
  ·rw [← hvs] at hv
   obtain ⟨k,mk,rfl⟩:=zcs.mp hv
   exact ⟨k,mk,rfl⟩
 refine wpAny_bind (wpAny_holding (wpAny_call_entry slot_list_sort ⟨_,gL,rfl⟩ entry_list_sort (key _ ?_ fun out q1 q2=>⟨_,rfl,?_⟩) (args_list_sort _)))
 ·show A.units+1+1+8<cLine
  omega
 ·obtain ⟨c,hcc⟩:=sortedHeap_at (out:=out) gL
  rw [← hvs] at q1
  obtain ⟨o',p1,p2⟩:=dN q1
  have eo:out=(o'.map fun k=>Value.ref k.2).toArray:=by rw [← p2]
  refine wpAny_pure ⟨_,rfl,h s1 _ o' c hR kp (fun b o e => ?_) (by rw [← eo];exact hcc) p1 ?_⟩
  ·have lb:=zcD e
   show (sortedHeap _ _ _ _).get? b=some o
   rw [sortedHeap_old (zcu lb) (by rw [size_push'];exact zbr lb)]
   exact zas _ e
  ·rw [p2,zbp] at q2
   refine List.Pairwise.imp_of_mem (fun {x y} hx hy hxy => ?_) q2
   have mx:=p1.mem_iff.mp hx
   have my:=p1.mem_iff.mp hy
   have e1:RN ks (Value.ref x.2,Value.ref x.2)=((M10.jm (ks.map (·.1)) x.1:Nat):Int):=by unfold RN;rw [lH hk' mx]
   have e2:RN ks (Value.ref y.2,Value.ref y.2)=((M10.jm (ks.map (·.1)) y.1:Nat):Int):=by unfold RN;rw [lH hk' my]
   rw [e1,e2] at hxy
   intro z
   have:=(M10.xW (ss:=ks.map (·.1)) (y:=x.1) (zcs.mpr ⟨y,my,rfl⟩)).mpr z
   omega
end
end M6
namespace L2
open PySem PySem.Spec PyProof.Rows M6
noncomputable def Fi (K:PySem.W.Frag):List V→Hp→VK→Prop:=fun vs H Q=>∃ (a:Addr) (ks:List (Str×Addr)),vs=[.ref a]∧b9 K H a (ks.map fun k=>V.ref k.2)∧(∀ k∈ks,∃ r,H k.2=some (.tup (.str k.1::r)))∧(ks.map (·.1)).Nodup∧ks.length≤1000 ∧
 ∀ (p:Addr) (out:List (Str×Addr)),H p=none→out.Perm ks→out.Pairwise (fun x y => ¬ y.1.cps.toList<x.1.cps.toList)→Q (.ref p) (upd H p (.lst (out.map fun k=>V.ref k.2)))
section
variable {X:Cx}
theorem uu {k:Nat} (hr:aS k X.A):bS X (.builtin "sorted") (Fi X.K):=by
 intro pins s σ H xs us Q I r h
 obtain ⟨a,ks,rfl,ha,hk,hn,hl,q⟩:=h
 obtain ⟨u,rfl,ru⟩:=vals1 r
 cases ru
 obtain ⟨its,r1,⟨o,n,e,hcl,hd,hda⟩,_⟩:=I.list ha
 have ei:its=ks.map fun k=>Value.ref k.2:=eT (fun k:Str×Addr=>k.2) r1
 subst ei
 refine r9 (R:=fun s1=>∃ h1,s1={ s with heap:=h1 }) hr.hd (fun y hy => ?_) hn hl (by have:=hr.units;omega) (fun hh' hQ=>collect_list (vs:=ks.map fun k=>Value.ref k.2) ⟨o,e,hcl,n,hda⟩ (hQ _ (fun b o e => ?_) ⟨_,rfl⟩) (by rw [zbP,sizeLine_eq];omega)) fun s1 h2 out c hR k1 k2 g hp hs => ?_
 ·obtain ⟨rr,hH⟩:=hk y hy
  obtain ⟨its,v1,⟨o,g1,g2,n,g3⟩,_⟩:=I.tuple (eg.of hH)
  cases v1 with
  | cons r rr =>
   obtain ⟨t,rfl⟩:=r
   exact ⟨o,_,n,t,_,g1,g2,g3,rfl⟩
 ·have lb:=zcD e
  exact (zat _ _ (zcw lb)).trans (zas _ e)
 ·obtain ⟨h1,rfl⟩:=hR
  have I1:Inv X pins σ H { s with heap:=h1 }:=I.kept (t':=s.toks) k1
  refine ⟨.ref h1.objs.size,_,I1.laid (a:=h1.objs.size) (t':=s.toks) (o:=.lst (out.map fun k=>V.ref k.2)) k2 (zcH _) ⟨by rw [zbP,hp.length_eq,sizeLine_eq];omega,_,c,gW (fun k=>k.2) out,g⟩,rfl,q _ out (I1.hok.fresh (zcH _)) hp hs⟩
noncomputable def wV (K:PySem.W.Frag) (ta:TE):TE:=fun σ H Q=>ta σ H fun x H1=>∃ (p:Addr) (ss:List Str),x = .ref p∧b9 K H1 p (ss.map V.str)∧ss.length<4000 ∧
 ∀ ss':List Str,ss'.Nodup→(∀ y,y∈ss'↔y∈ss)→Q (.int ss'.length) H1
theorem j8 {e:Expr}{ta:TE}{p p2 pos pos2:Pos} (hc:X.calm=true) (hg:Gl X "len") (hm:X.mg "len" = none) (hg2:Gl X "set") (hm2:X.mg "set" = none) (he:PE X e ta) (hs:notStar e=true:=by rfl) :
  PE X (.Call (.Name "len" p) [.Call (.Name "set" p2) [e] [] pos2] [] pos) (wV X.K ta):=by
 intro pins s σ H Q I h
 have hk:=I.ok.hd hc
 refine wpAny_Call_Name_kw (fX I hg hm (u:=.builtin "len") (by decide +kernel) ?_ (by decide +kernel) (by decide +kernel))
 refine PyProof.Rows.callWith_builtin1 (E:=X.xe) ?_ (bf [] X.env rfl) rfl
 rw [bf [] X.env rfl]
 refine zbe ?_
 refine wpAny_Call_Name_kw (fX I hg2 hm2 (u:=.type "set") (by decide +kernel) ?_ (by decide +kernel) (by decide +kernel))
 refine PyProof.Rows.callWith_type1 (E:=X.xe) ?_ (bf [] X.env hs) rfl
 rw [bf [] X.env hs]
 refine zbe (cA (he pins s σ H _ I h) fun u s1 ⟨x,H1,I1,rx,a,ss,ex,hq,hl,q⟩ => ?_)
 subst ex
 obtain rfl:u=Value.ref a:=rx
 refine zbw ?_
 obtain ⟨its,r',pl,hz⟩:=I1.list hq
 refine M5.set_list (its:=its.toArray) (ss:=ss) hk pl.isList (by simpa using jc r') (by omega) fun h' tk tS kp => ?_
 refine zbw ?_
 obtain ⟨o,ho,es,ep,t,hex,hd,hel,hpm,hf,_⟩:=tS
 have hsz:es.size≤ss.length:=by
  have h1:=hpm.length_eq
  have h2:=M5.nV (fun i=>ss.getD i ⟨#[]⟩) ss.length
  rw [zbP,zaP] at h1
  omega
 have hpm':=hpm.length_eq
 rw [zbP,zaP] at hpm'
 refine PySem.call_len_set (s:={ s1 with heap:=h',toks:=tk }) ho hex hd hf (by omega) ⟨.int _,H1,?_,⟨_,by rw [hpm']⟩,q _ (M5.m9 _ _) fun y=>M5.zP ss y⟩
 exact I1.kept (t':=tk+1+1) fun b o z=>kp b o (zcD z) z
end
end L2
namespace M
open PySem PySem.Spec PyProof.Rows L2 M6
noncomputable abbrev z6 (k:Str×List D):D:=.tup (.str k.1::k.2)
noncomputable def GD:AN:=fun ds S Q=>∃ d,∃ ks:List (Str×List D),ds=[d]∧aV S d = .lst (ks.map z6)∧(ks.map (·.1)).Nodup∧ks.length≤1000∧∀ ks':List (Str×List D),ks'.Perm ks→ks'.Pairwise (fun x y => ¬ y.1.cps.toList<x.1.cps.toList)→Q (.new (.lst (ks'.map z6))) S
noncomputable def yT (a:AE):AE:=fun δ S Q=>a δ S fun r S1=>∃ ss:List Str,aV S1 r.d = .lst (ss.map D.str)∧ss.length<4000∧∀ ss':List Str,ss'.Nodup→(∀ y,y∈ss'↔y∈ss)→Q (.dat (.int ss'.length)) S1
noncomputable def Kz:AM:=fun x ds S Q=>∃ (n:Nat) (es:List D) (k:Nat) (e:D),x = .loc n∧ds=[.int k]∧S[n]? = some (some (.lst es))∧es.length≤1000∧es[k]? = some e∧Q (.dat e) (S.set n (some (.lst (es.eraseIdx k))))
section
variable {X:Cx}{K:PySem.W.Frag}
theorem ak.eraseIdx {w:Wd}:∀ (k:Nat) {ds:List D}{xs:List V},ak K w ds xs→ak K w (ds.eraseIdx k) (xs.eraseIdx k)
 | _,[],_,h=>by simp only [ak] at h;subst h;simp [ak]
 | 0,d::ds,xs,h=>by
  simp only [ak] at h
  obtain ⟨x,r,rfl,_,h2⟩:=h
  exact h2
 | k+1,d::ds,xs,h=>by
  simp only [ak] at h
  obtain ⟨x,r,rfl,h1,h2⟩:=h
  exact ak.cons h1 (ak.eraseIdx k h2)
theorem FG:K7 X "list.pop" Kz:=⟨mM (X:=X) (t:=BW) L2.Cs fun x xs H Q h=>by
 obtain ⟨w,d,ds,S,Qa,ok,r1,r2,⟨n,es,k,e,rfl,rfl,hS,hl,he,q⟩,bk⟩:=h
 obtain ⟨a,ys,rfl,ha,hH,hr⟩:=vN ok r1 hS
 obtain ⟨v,rfl,r3⟩:=c7 r2
 obtain ⟨v,h1,h2⟩:=hr.get he
 have hk:k<es.length:=(zaf.mp he).1
 have hyl:=hr.length
 exact ⟨a,ys,k,k,v,rfl,by rw [aY r3 rfl],hH,by omega,by omega,by unfold seqIndex?;simp;omega,h1,bk.dat .refl (ok.put hS ha (jj (hr.eraseIdx k))) h2 q⟩⟩
theorem BH {a:AE}:∀ σ H Q,bu K (yT a) σ H Q→wV K (bu K a) σ H Q:=by
 rintro σ H Q ⟨w,δ,S,Qa,ok,env,q,bk⟩
 refine ⟨w,δ,S,_,ok,env,q,.go fun r1 S1 v1 w1 H1 le1 ok1 rep1 ⟨ss,z,hl,q1⟩ => ?_⟩
 obtain ⟨a,xs,rfl,h1,h2⟩:=aX ok1 rep1 z
 rw [iQ h2] at h1
 exact ⟨a,ss,rfl,b9.of h1,hl,fun ss' n1 n2=>bk.dat le1 ok1 .int (q1 ss' n1 n2)⟩
theorem j8 {e:Expr}{ta:AE}{p p2 pos pos2:Pos} (hc:X.calm=true) (hg:Gl X "len") (hm:X.mg "len" = none) (hg2:Gl X "set") (hm2:X.mg "set" = none) (he:GE X e ta) (hs:notStar e=true:=by rfl) :
  GE X (.Call (.Name "len" p) [.Call (.Name "set" p2) [e] [] pos2] [] pos) (yT ta):=⟨mE (L2.j8 hc hg hm hg2 hm2 he.p hs) BH⟩
theorem heads {w:Wd}{H:Hp}{S:av} (ok:Ok K w H S):∀ {ks:List (Str×List D)}{bs:List Addr},ak K w (ks.map z6) (bs.map V.ref)→∀ x∈ks.zip bs,∃ r,H x.2=some (.tup (.str x.1.1::r))
 | [],bs,_,x,hx=>by simp at hx
 | k::ks,[],_,x,hx=>by simp at hx
 | k::ks,b::bs,h,x,hx=>by
  simp only [zcj,ak] at h
  obtain ⟨y,r,e,h1,h2⟩:=h
  injection e with e1 e2
  subst e1;subst e2
  rw [zaV] at hx
  rcases zci.mp hx with rfl | hx
  ·simp only [z6,Rep,ak] at h1
   obtain ⟨a,xs,e,g1,z,r',rfl,g2,g3⟩:=h1
   cases e
   have:z = .str k.1:=by simpa [Rep] using g2
   subst this
   exact ⟨r',ok.base _ _ g1⟩
  ·exact heads ok h2 x hx
theorem Cg {j:Nat} (hr:aS j X.A):uS X (.builtin "sorted") GD:=⟨mC (uu hr) fun xs H Q h=>by
 obtain ⟨w,ds,S,Qa,ok,rep,⟨d,ks,rfl,z,hn,hl,q⟩,bk⟩:=h
 obtain ⟨v,rfl,r1⟩:=c7 rep
 obtain ⟨a,xs,rfl,h1,h2⟩:=aX ok r1 z
 obtain ⟨bs,rfl⟩:=j6 h2 fun k hk=>by obtain ⟨k',_,rfl⟩:=zcs.mp hk;exact ⟨_,rfl⟩
 have hlen:ks.length=bs.length:=by have:=h2.length;rw [zbP,zbP] at this;exact this.symm
 have e1:((ks.zip bs).map fun x=>(x.1.1,x.2)).map (fun k:Str×Addr=>V.ref k.2)=bs.map V.ref:=by
  rw [zct]
  show (ks.zip bs).map (V.ref ∘ Prod.snd)=_
  rw [← zct,zbH (by omega)]
 have e2:((ks.zip bs).map fun x=>(x.1.1,x.2)).map (fun k:Str×Addr=>k.1)=ks.map (·.1):=by
  rw [zct]
  show (ks.zip bs).map ((fun k:Str×List D=>k.1) ∘ Prod.fst)=_
  rw [← zct,zbG (by omega)]
 refine ⟨a,(ks.zip bs).map fun x=>(x.1.1,x.2),rfl,by rw [e1];exact b9.of h1,fun k hk => ?_,by rw [e2];exact hn,by rw [zbP,zbX];omega,fun p out hp hperm hso => ?_⟩
 ·obtain ⟨x,hx,rfl⟩:=zcs.mp hk
  exact heads ok h2 x hx
 ·obtain ⟨o',p1,rfl⟩:=dN hperm
  have e3:(List.map (fun k:Str×Addr=>V.ref k.2) (o'.map fun x:(Str×List D)×Addr=>(x.1.1,x.2)))=o'.map fun x=>V.ref x.2:=by rw [zct];rfl
  rw [e3]
  have e4:(o'.map (·.1)).map z6=(o'.map fun x=>(z6 x.1,x.2)).map (·.1):=by rw [zct,zct];rfl
  refine bk (.new (.lst ((o'.map (·.1)).map z6))) S _ w _ .refl (ok.alloc hp) (ok.fresh hp ⟨_,rfl,?_⟩) (q _ ?_ ?_)
  ·rw [e4]
   have:=eW (K:=X.K) (w:=w) (o:=o'.map fun x=>(z6 x.1,x.2)) fun y hy=>by
    obtain ⟨x,hx,rfl⟩:=zcs.mp hy
    have hm:=p1.mem_iff.mp hx
    have h2':ak X.K w (ks.map z6) (bs.map V.ref):=h2
    exact p6 h2' (z6 x.1,x.2) (by rw [List.zip_map_left];exact zcs.mpr ⟨x,hm,rfl⟩)
   rw [zct (g:=fun x:D×Addr=>V.ref x.2)] at this
   exact this
  ·have:=p1.map (·.1)
   rw [zbG (by omega)] at this
   exact this
  ·rw [zbp] at hso ⊢
   exact hso⟩
end
end M
namespace M5
open PySem PySem.Spec PyProof.Rows
section
variable {prog:Program}{w:World}{A:Around}{R:Result→Shared→Prop}{s:Shared}{I l:Addr}
theorem vW {wr:List Addr}{G:Array GenState→Array GenState→Prop}{n:Nat}{P:Nat→Value→Prop}{St:Nat→Shared→Prop} (W:WalksS prog w A.in1 I [I,l] [I] G n P St) (hT:∀ s,St 0 s→s.TypeIs (.ref I) "list_reverseiterator") (S:Addr) (res:Value) (c₀:Nat) (hst:St 0 s) (hSf:S ∉ [I,l])
  (hS:s.heap.get? S=some { cls:=.type "list",data:=.seq #[] c₀ })
  (hR:∀ s' acc' c',Moved [S,I] G s s'→s'.heap.get? S=some { cls:=.type "list",dict:=none,data:=.seq acc' c',slots := #[] }→ItemsOf P acc' n→R (.ok (.ret res)) s') (hn:n≤sizeLine) :
  wpAny (model prog w) A.in1 (Builtin.List.listExtendWith (.ref S) (.ref I) res)
   (fun fin s'=>match fin with | .done f=>R (.ok f) s' | .again c'=>c'.quiet=true∧codeAny (model prog w) A c' R s') (fun e s'=>R (.error e) s') s:=by
 have hSI:S≠I:=fun e=>hSf (by simp [e])
 unfold Builtin.List.listExtendWith
 refine wpAny_bind (wpAny_typeOf (hT _ hst) ?_)
 have h1:Builtin.List.listSameRef (.ref S) (.ref I)=false:=by simp [Builtin.List.listSameRef,hSI]
 have h2:(Value.type "list_reverseiterator" == Value.type "list")=false:=by decide
 have h3:(Value.type "list_reverseiterator" == Value.type "tuple")=false:=by decide
 simp only [h1,h2,h3,Bool.or_false,zbc,if_false]
 refine wpAny_bind (W.self 0 _ _ _ hst ?_)
 refine wpAny_bind (wpAny_holding (CW (hT _ hst) ?_))
 rw [if_neg (by decide)]
 exact wpAny_pure ⟨plainId_quiet PySem.F.plain_extend_loop _,codeAny_extend_loopS W hn _ hSf _ n 0 _ _ _ rfl (zcI _) hst hS (ItemsOf.nil P) fun s' acc' c' hm hS' hacc=>hR s' acc' c' hm hS' hacc⟩
theorem CQ {G:Array GenState→Array GenState→Prop}{n:Nat}{P:Nat→Value→Prop}{St:Nat→Shared→Prop} (W:WalksS prog w A.in1 I [I,l] [I] G n P St) (hT:∀ s,St 0 s→s.TypeIs (.ref I) "list_reverseiterator") (S:Addr) (hst:St 0 s) (hSf:S ∉ [I,l])
  (hS:s.heap.get? S=some { cls:=.type "list",data:=.seq #[] })
  (hR:∀ s' acc' c',Moved [S,I] G s s'→s'.heap.get? S=some { cls:=.type "list",dict:=none,data:=.seq acc' c',slots := #[] }→ItemsOf P acc' n→R (.ok (.ret .none)) s') (hn:n≤sizeLine) :
  wpAny (model prog w) A.in1 (Builtin.«list.__init__» ⟨[.ref S,.ref I],[]⟩)
   (fun fin s'=>match fin with | .done f=>R (.ok f) s' | .again c'=>c'.quiet=true∧codeAny (model prog w) A c' R s') (fun e s'=>R (.error e) s') s:=by
 show wpAny _ A.in1 (do let old ← Builtin.List.listItems (.ref S);Builtin.List.listUpdate (.ref S) (fun _ => #[]);letGo old.toList.reverse;Builtin.List.listExtendWith (.ref S) (.ref I) .none) _ _ s
 refine wpAny_bind ?_
 unfold Builtin.List.listItems
 refine wpAny_bind (wpAny_seqItems hS rfl (wpAny_pure ?_))
 show wpAny _ A.in1 (updateSeq S (fun _ => #[]) >>= fun _=>letGo (#[]:Array Value).toList.reverse >>= fun _=>Builtin.List.listExtendWith (.ref S) (.ref I) .none) _ _ s
 refine wpAny_bind (wpAny_updateSeq hS rfl ?_)
 have hS₂:=zaB (Obj.mapSeq (fun _=>(#[]:Array Value))) hS rfl
 have oth:∀ b o,b≠S→s.heap.get? b=some o→(s.heap.update S (Obj.mapSeq (fun _=>(#[]:Array Value)))).get? b=some o :=
  fun b o hb e=>(zat _ _ (Ne.symm hb)).trans e
 refine wpAny_bind (wpAny_letGo ?_)
 refine vW (wr:=[]) (hn:=hn) W hT S .none _ (W.frame 0 s _ s.toks hst (zcH _) fun b hb o e=>oth b o (fun h=>hSf (h ▸ hb)) e) hSf hS₂ fun s' acc' c' hm hS' hacc => ?_
 exact hR s' acc' c' (Moved.trans W.gtrans ((Moved.refl W.grefl).then_heap (zcH _) fun b o hb e=>oth b o (fun h=>hb (h ▸ zaS)) e) hm) hS' hacc
end
section
variable {prog:Program}{w:World}{A:Around}{E:Value→Shared→Prop}{s:Shared}{I l:Addr}{items:Array Value}
theorem CI {Q:Value→Shared→Prop} (hh:A.handled=none) (hit:s.heap.IsRevIter I l ((items.size:Int) - 1)) (hl:s.heap.IsList l items) (hne:l≠I) (hz:items.size≤100000)
  (hQ:∀ s' c',(∀ b o,b≠I→s.heap.get? b=some o→s'.heap.get? b=some o)→s'.gens=s.gens→s'.drawn=s.drawn→s'.os=s.os→s'.heap.get? s.heap.objs.size=some { cls:=.type "list",dict:=none,data:=.seq items.reverse c',slots := #[] }→Q (.ref s.heap.objs.size) s') :
  wpAny (model prog w) A (call (.type "list") [.ref I]) Q E s:=by
 have lt:∀ b∈[I,l],b<s.heap.objs.size:=by
  obtain ⟨o,ho,_⟩:=hit
  obtain ⟨o2,ho2,_⟩:=hl
  intro b hb
  simp only [zci,zbE,or_false] at hb
  rcases hb with rfl | rfl
  ·exact zcD ho
  ·exact zcD ho2
 have hSf:s.heap.objs.size ∉ [I,l]:=fun hm=>zcn _ (lt _ hm)
 have W:=(Walks.listRev (prog:=prog) (w:=w) (A:=A.in1.in1) hh I l hne items).toS
 have hn:items.size≤sizeLine:=by rw [sizeLine_eq];omega
 have st0:(fun (i:Nat) (h:Heap)=>i≤items.size∧h.IsRevIter I l ((items.size:Int) - 1 - (i:Int))∧h.IsList l items) 0 s.heap:=⟨zcI _,by simpa using hit,hl⟩
 refine callType_codes (Q₁:=fun obj s₁=>obj = .ref s.heap.objs.size∧s₁={ s with heap:=s.heap.push { cls:=.type "list",data:=.seq #[] } }) PySem.F.called_list (PySem.F.typeCall_list_1 _) PySem.F.entry_list_init
  (code_list_new _ ⟨rfl,rfl⟩) fun obj s₁ h₁ => ?_
 obtain ⟨rfl,rfl⟩:=h₁
 have hS:(s.heap.push { cls:=.type "list",data:=.seq #[] }).get? s.heap.objs.size=some { cls:=.type "list",data:=.seq #[] }:=zaR _ rfl
 refine ⟨⟨_,hS,rfl⟩,PySem.F.args_list_init_2 _ _,CQ (hn:=hn) W (fun s h=>h.2.1.typeIs) _ (W.frame 0 s _ s.toks st0 (zcH _) fun b _ o e=>zas _ e) hSf hS fun s' acc' c' hm hS' hacc => ?_⟩
 have ea:acc'=items.reverse:=by
  refine Array.ext (by rw [hacc.1,Array.size_reverse]) fun i h1 h2 => ?_
  have z:items[items.size - 1 - i]? = some acc'[i]:=hacc.2 i acc'[i] (zak h1)
  rw [Array.size_reverse] at h2
  rw [zak (by omega)] at z
  rw [Array.getElem_reverse]
  exact (zcL.inj z).symm
 rw [ea] at hS'
 refine ⟨rfl,hQ s' c' (fun b o hb e => ?_) hm.gens hm.drawn hm.os hS'⟩
 exact hm.heap b o (by
  simp only [zci,zbE,or_false]
  rintro (rfl | rfl)
  ·exact zcn _ (zcD e)
  ·exact hb rfl) (zas _ e)
end
end M5
namespace L2
open PySem PySem.Spec PyProof.Rows
noncomputable def oQ (K:PySem.W.Frag) (ta:TE):TE:=fun σ H Q=>ta σ H fun x H1=>∃ p ys,x = .ref p∧b9 K H1 p ys∧ys.length≤100000∧∀ l,H1 l=none→Q (.ref l) (upd H1 l (.lst ys.reverse))
section
variable {X:Cx}{e:Expr}{ta:TE}{p p2 pos pos2:Pos}
theorem gu (hc:X.calm=true) (hg:Gl X "list") (hm:X.mg "list" = none) (hg2:Gl X "reversed") (hm2:X.mg "reversed" = none) (he:PE X e ta) (hs:notStar e=true:=by rfl) :
  PE X (.Call (.Name "list" p) [.Call (.Name "reversed" p2) [e] [] pos2] [] pos) (oQ X.K ta):=by
 intro pins s σ H Q I h
 refine wpAny_Call_Name_kw (fX I hg hm boot_list ?_ (by decide +kernel) (by decide +kernel))
 refine PyProof.Rows.callWith_type1 (E:=X.xe) ?_ (bf [] X.env rfl) rfl
 rw [bf [] X.env rfl]
 refine zbe ?_
 refine wpAny_Call_Name_kw (fX I hg2 hm2 boot_reversed ?_ (by decide +kernel) (by decide +kernel))
 refine PyProof.Rows.callWith_type1 (E:=X.xe) ?_ (bf [] X.env hs) rfl
 rw [bf [] X.env hs]
 refine zbe (cA (he pins s σ H _ I h) fun u s1 ⟨x,H1,I1,rx,a,ys,ex,hq,hl,q⟩ => ?_)
 subst ex
 obtain rfl:u=Value.ref a:=rx
 refine zbw ?_
 obtain ⟨its,r',pl,hz⟩:=I1.list hq
 have hlen:=r'.length
 have hzz:its.toArray.size≤100000:=by simp;omega
 refine call_reversed_list pl.isList ?_
 refine zbw ?_
 have hne:a≠s1.heap.objs.size:=by
  obtain ⟨o,ho,_⟩:=pl.isList
  exact zcu (zcD ho)
 refine M5.CI (s:={ s1 with heap:=s1.heap.push (revObj a ((its.toArray.size:Int) - 1)) }) (I:=s1.heap.objs.size) (l:=a) (items:=its.toArray) (I1.ok.hd hc) ⟨_,zaR _ rfl,rfl,rfl⟩ (pl.isList.at fun o e=>zas _ e) hne hzz fun s' c' kp gs dr os hat => ?_
 obtain ⟨hh,g,d,t,os'⟩:=s'
 obtain rfl:g=s1.gens:=gs
 obtain rfl:d=s1.drawn:=dr
 obtain rfl:os'=s1.os:=os
 have kp0:∀ b o,s1.heap.get? b=some o→hh.get? b=some o:=fun b o e=>kp b o (zcu (zcD e)) (zas _ e)
 have hsz:(s1.heap.push (revObj a ((its.toArray.size:Int) - 1))).objs.size=s1.heap.objs.size+1:=zch ..
 have hat:hh.get? (s1.heap.push (revObj a ((its.toArray.size:Int) - 1))).objs.size=some { cls:=.type "list",dict:=none,data:=.seq its.toArray.reverse c',slots := #[] }:=hat
 refine ⟨.ref (s1.heap.push (revObj a ((its.toArray.size:Int) - 1))).objs.size,_,I1.laid (t':=t) (o:=.lst ys.reverse) kp0 (by rw [hsz];exact zcJ _) ⟨by rw [zaN];exact hz,its.reverse,c',rP r',?_⟩,rfl,q _ (I1.hok.fresh (by rw [hsz];exact zcJ _))⟩
 rw [hat];simp
end
end L2
namespace M
open PySem PySem.Spec PyProof.Rows L2
noncomputable def pV (a:AE):AE:=fun δ S Q=>a δ S fun r S1=>∃ ds,aV S1 r.d = .lst ds∧ds.length≤100000∧Q (.new (.lst ds.reverse)) S1
theorem vd {K:PySem.W.Frag}{a:AE}:∀ σ H Q,bu K (pV a) σ H Q→oQ K (bu K a) σ H Q:=by
 rintro σ H Q ⟨w,δ,S,Qa,ok,env,q,bk⟩
 refine ⟨w,δ,S,_,ok,env,q,.go fun r1 S1 v1 w1 H1 le1 ok1 rep1 ⟨ds,z,hl,q1⟩ => ?_⟩
 obtain ⟨a,xs,rfl,h1,h2⟩:=aX ok1 rep1 z
 exact ⟨a,xs,rfl,b9.of h1,by rw [h2.length];exact hl,fun p hp=>bk (.new (.lst ds.reverse)) S1 _ w1 _ le1 (ok1.alloc hp) (ok1.fresh hp ⟨_,rfl,sD h2⟩) q1⟩
theorem gu {X:Cx}{e:Expr}{p p2 pos pos2:Pos}{ta:AE} (hc:X.calm=true) (hg:Gl X "list") (hm:X.mg "list" = none) (hg2:Gl X "reversed") (hm2:X.mg "reversed" = none) (he:GE X e ta) (hs:notStar e=true:=by rfl) :
  GE X (.Call (.Name "list" p) [.Call (.Name "reversed" p2) [e] [] pos2] [] pos) (pV ta):=⟨mE (L2.gu hc hg hm hg2 hm2 he.p hs) vd⟩
end M
namespace K13
open PySem PySem.Spec L2 PyProof.Rows
noncomputable def top (i:Nat):Stmt:=PySem.Challenge.pw_pathask_k13_webs_written_and_read.main.body.getD i (.Pass ⟨0,0,0,0⟩)
structure Txt (K:PySem.W.Frag) (mg:Str→Option Value) (C fi:Addr):Prop where
 len:mg "len" = none
 isinstance:mg "isinstance" = none
 str:mg "str" = none
 bool:mg "bool" = none
 int:mg "int" = none
 tuple:mg "tuple" = none
 list:mg "list" = none
 dict:mg "dict" = none
 all:mg "all" = none
 max:mg "max" = none
 min:mg "min" = none
 repr:mg "repr" = none
 range:mg "range" = none
 reversed:mg "reversed" = none
 sorted:mg "sorted" = none
 set:mg "set" = none
 enumerate:mg "enumerate" = none
 Mi:∃ t,mg "MOST_KNOTS" = some (.int 40 t)
 Ii:∃ t,mg "MOST_TIES" = some (.int 300 t)
 marks:∃ t,mg "MOST_MARKS" = some (.int 5 t)
 longest:∃ t,mg "LONGEST" = some (.int 8 t)
 vE:mg "Web" = some (.ref C)
 cl:wL K C
 Cv:Mk K C fi
 d9:eE K C "marked"
 n_tied:eE K C "tied"
 n_near:eE K C "near"
section
variable {X:Cx}{pos:Pos}{mg:Str→Option Value}{K:PySem.W.Frag}{C fi:Addr}
theorem yx {x:Str}{i:Int} (e:∃ t,mg x=some (.int i t)) (hg:Gl X x) (hm:X.mg=mg) (hd:(x==("__debug__" : Str))=false):M.GE X (.Name x pos) (M.aC (.int i)):=by
 obtain ⟨t,e⟩:=e
 exact M.qI (v:=.int i) hg (by rw [hm];exact e) ⟨t,rfl⟩ (fun _=>.int) hd
theorem Txt.ou (T:Txt K mg C fi) (hg:Gl X "MOST_KNOTS" := by rfl) (hm:X.mg=mg:=by rfl):M.GE X (.Name "MOST_KNOTS" pos) (M.aC (.int 40)):=yx T.Mi hg hm (by decide +kernel)
theorem Txt.vq (T:Txt K mg C fi) (hg:Gl X "LONGEST" := by rfl) (hm:X.mg=mg:=by rfl):M.GE X (.Name "LONGEST" pos) (M.aC (.int 8)):=yx T.longest hg hm (by decide +kernel)
theorem Txt.qK (T:Txt K mg C fi) (hg:Gl X "MOST_TIES" := by rfl) (hm:X.mg=mg:=by rfl):M.GE X (.Name "MOST_TIES" pos) (M.aC (.int 300)):=yx T.Ii hg hm (by decide +kernel)
theorem Txt.oq (T:Txt K mg C fi) (hg:Gl X "MOST_MARKS" := by rfl) (hm:X.mg=mg:=by rfl):M.GE X (.Name "MOST_MARKS" pos) (M.aC (.int 5)):=yx T.marks hg hm (by decide +kernel)
end
noncomputable def nG (c:Nat):Bool:=decide (97≤c)&&decide (c≤122)
open M M6
noncomputable abbrev AQ (a b:Str):Prop:=a.cps.toList<b.cps.toList
theorem lq (a:Str) : ¬ AQ a a:=zcd _
theorem Bv {a b:Str} (h : ¬ AQ a b) (g : ¬ AQ b a):a=b:=by
 have e:a.cps.toList=b.cps.toList:=List.le_antisymm (zcG.mp g) (zcG.mp h)
 obtain ⟨a⟩:=a
 obtain ⟨b⟩:=b
 have e:a.toList=b.toList:=e
 rw [zbK.mp e]
noncomputable def SU (l:List Str):Prop:=l.Pairwise AQ
theorem xT:∀ (l:List Str) (p:Str),risingS p l=true→(p::l).Pairwise fun a b => ¬ AQ b a
 | [],p,_=>List.pairwise_singleton ..
 | x::r,p,h=>by
  have h:(!ltCps x.cps.toList p.cps.toList&&risingS x r)=true:=h
  rw [zbJ] at h
  have ih:=xT r x h.2
  have hx : ¬ AQ x p:=by
   have:=h.1
   rw [ltCps_eq] at this
   simpa using this
  refine zaX.mpr ⟨fun y hy => ?_,ih⟩
  rcases zci.mp hy with rfl | hy
  ·exact hx
  ·intro hlt
   have h2 : ¬ AQ y x:=(zaX.mp ih).1 y hy
   exact hx (List.lt_of_le_of_lt (zcG.mp h2) hlt)
theorem zB {l:List Str} (h:sortedS l=true):l.Pairwise fun a b => ¬ AQ b a:=by
 cases l with
 | nil=>exact .nil
 | cons x r=>exact xT r x h
theorem G6 {l:List Str} (hn:l.Nodup) (h:sortedS l=true):SU l:=by
 have h2:l.Pairwise fun a b=>a≠b:=hn
 refine ((zB h).and h2).imp fun {a b} ⟨h1,h2⟩ => ?_
 by_cases c:AQ a b
 ·exact c
 ·exact absurd (Bv c h1) h2
theorem G7:∀ {l m:List Str},SU l→SU m→(∀ y,y∈l↔y∈m)→l=m
 | [],[],_,_,_=>rfl
 | [],y::m,_,_,h=>by have:=(h y).mpr (by simp);simp at this
 | x::l,[],_,_,h=>by have:=(h x).mp (by simp);simp at this
 | x::l,y::m,hl,hm,h=>by
  have h1:=zaX.mp hl
  have h2:=zaX.mp hm
  have e:x=y:=by
   have a:=(h x).mp (by simp)
   have b:=(h y).mpr (by simp)
   rcases zci.mp a with a | a
   ·exact a
   ·rcases zci.mp b with b | b
    ·exact b.symm
    ·exact absurd (zcm (h1.1 y b) (h2.1 x a)) (lq x)
  subst e
  rw [G7 (m:=m) h1.2 h2.2 fun z => ?_]
  have:=h z
  simp only [zci] at this
  constructor
  ·intro hz
   rcases this.mp (.inr hz) with e | e
   ·subst e;exact absurd (h1.1 z hz) (lq z)
   ·exact e
  ·intro hz
   rcases this.mpr (.inr hz) with e | e
   ·subst e;exact absurd (h2.1 z hz) (lq z)
   ·exact e
theorem EL {l m n:List Str} (hn:n.Nodup) (h1:l.Perm n) (h2:m.Perm n) (s1:sortedS l=true) (s2:sortedS m=true):l=m :=
 G7 (G6 (h1.nodup_iff.mpr hn) s1) (G6 (h2.nodup_iff.mpr hn) s2) fun y=>h1.mem_iff.trans h2.mem_iff.symm
noncomputable abbrev T3 (t:Str×Str×Str):D:=.tup [.str t.1,.str t.2.1,.str t.2.2]
theorem pq (t:Str×Str×Str):py (T3 t) = .tuple [.str t.1,.str t.2.1,.str t.2.2]:=by simp [T3,py,cR]
theorem jo {a b:Str×Str×Str} (h:py (T3 a)=py (T3 b)):a=b:=by
 obtain ⟨a1,a2,a3⟩:=a
 obtain ⟨b1,b2,b3⟩:=b
 simp only [pq,PyData.tuple.injEq,zcN.injEq,PyData.str.injEq] at h
 rw [h.1,h.2.1,h.2.2.1]
noncomputable def iU (t:Str×Str×Str):Bool:=fc t.1&&fc t.2.1&&fc t.2.2
theorem good3 {t:Str×Str×Str} (h:iU t=true):iM (T3 t):=by
 unfold iU at h
 rw [zbJ,zbJ] at h
 refine ⟨by simp [T3,cg,bN],?_,?_,_,rfl⟩
 ·rw [pq];simp [cj,c5,PyData.canLay0,iV h.1.1,iV h.1.2,iV h.2]
 ·rw [pq];simp [PyData.depth,PyData.depthAll]
theorem rz (a b:Str×Str×Str):aF (py (T3 a)) (py (T3 b))=true:=by
 rw [pq,pq];simp [aF,cX]
theorem jf {ts:List (Str×Str×Str)} (h:∀ t∈ts,iU t=true):yV (ts.map T3) :=
 ⟨fun k hk=>by obtain ⟨t,ht,rfl⟩:=zcs.mp hk;exact good3 (h t ht),fun k hk=>by obtain ⟨t,_,rfl⟩:=zcs.mp hk;exact ⟨_,_,pq t⟩,fun k hk l hl=>by obtain ⟨t,_,rfl⟩:=zcs.mp hk;obtain ⟨u,_,rfl⟩:=zcs.mp hl;exact rz t u⟩
theorem JR (ts:List (Str×Str×Str)) (t:Str×Str×Str):z7 (ts.map T3) (T3 t)=decide (t∈ts):=by
 unfold z7
 rw [zcq]
 by_cases h:t∈ts
 ·rw [decide_eq_true h]
  exact zbI.mpr ⟨t,h,by simp⟩
 ·rw [decide_eq_false h]
  refine zbg.mpr fun x hx z=>h ?_
  have:py (T3 x)=py (T3 t):=of_decide_eq_true z
  rw [← jo this];exact hx
theorem put3 {ts:List (Str×Str×Str)}{t:Str×Str×Str} (h:t ∉ ts):putN (ts.map T3) (T3 t)=(ts++[t]).map T3:=by
 have:=JR ts t
 rw [decide_eq_false h] at this
 unfold putN
 unfold z7 at this
 rw [this,if_neg (by decide),zbV];rfl
theorem p7:∀ {l m:List (Str×Str×Str)},l.Nodup→uN (l.map T3)→uN (m.map T3)→m.Perm l→l=m
 | [],m,_,_,_,hp=>by rw [hp.eq_nil]
 | a::l,[],_,_,_,hp=>by have:=hp.length_eq;simp at this
 | a::l,b::m,hn,hl,hm,hp=>by
  have Me:∀ {x y:Str×Str×Str},x≠y→dQ (py (T3 y)) (py (T3 x))=false→dQ (py (T3 x)) (py (T3 y))=true:=fun {x y} hne h=>by
   rcases qT _ _ (rz x y) (fun e=>hne (jo e)) with z | z
   ·exact z
   ·rw [h] at z;cases z
  have h1:=zaX.mp (show ((a::l).map T3).Pairwise _ from hl)
  have h2:=zaX.mp (show ((b::m).map T3).Pairwise _ from hm)
  have e:a=b:=by
   apply Classical.byContradiction
   intro hne
   have ha:a∈m:=by
    rcases zci.mp (hp.mem_iff.mpr (zaS ..)) with z | z
    ·exact absurd z hne
    ·exact z
   have hb:b∈l:=by
    rcases zci.mp (hp.mem_iff.mp (zaS ..)) with z | z
    ·exact absurd z.symm hne
    ·exact z
   have c1:=h1.1 (T3 b) (zcs.mpr ⟨b,hb,rfl⟩)
   have c2:=h2.1 (T3 a) (zcs.mpr ⟨a,ha,rfl⟩)
   have:=Me hne c1
   rw [c2] at this;cases this
  subst e
  rw [p7 (zbR.mp hn).2 h1.2 h2.2 hp.cons_inv]
theorem lZ {ts:List (Str×Str×Str)}{ks:List D} (hp:ks.Perm (ts.map T3)):∃ us:List (Str×Str×Str),us.Perm ts∧ks=us.map T3:=dN hp
open PySem L2
noncomputable abbrev vV:=M.vV
noncomputable abbrev xR:Stmt:=top 22
noncomputable abbrev GZ:List Str:=["_law_script","_law_k","_law_seed"]
noncomputable abbrev f9:List Str:=["_law_script","_law_k"]
theorem vc:az GZ f9 (ai xR):=⟨rfl,rfl,rfl,by decide +kernel,rfl,by decide +kernel,by decide +kernel⟩
noncomputable abbrev xQ:Stmt:=top 23
noncomputable abbrev GY:List Str:=["_law_cell"]
noncomputable abbrev f7:List Str:=["_law_cell"]
theorem II:az GY f7 (ai xQ):=⟨rfl,rfl,rfl,by decide +kernel,rfl,by decide +kernel,by decide +kernel⟩
noncomputable abbrev xK:Stmt:=top 24
noncomputable abbrev GX:List Str:=["_law_feed_here","_law_many","_law_found","_law_one","_law_two"]
noncomputable abbrev dF:List Str:=["_law_feed_here","_law_many"]
theorem qt:az GX dF (ai xK):=⟨rfl,rfl,rfl,by decide +kernel,rfl,by decide +kernel,by decide +kernel⟩
noncomputable abbrev qy:Stmt:=top 25
noncomputable abbrev Ef:List Str:=["_law_feed_here","_law_many","_law_letters","_law_word","_law_way","_law_turn","_law_names_here","_law_place","_law_start","_law_k","_law_sign"]
noncomputable abbrev eB:List Str:=["_law_feed_here","_law_many"]
theorem cP:az Ef eB (ai qy):=⟨rfl,rfl,rfl,by decide +kernel,rfl,by decide +kernel,by decide +kernel⟩
noncomputable def dj (H:Hp) (p:Addr) (d:Nat):Prop:=∃ l s:Int,H p=some (.dK (vV l s d))∧0≤l∧0≤s∧s<1000003
theorem OH {l s d:Int}:fk (vV l s d) (Sum.inr "left")=some (.int l):=rfl
theorem OG {l s d:Int}:fk (vV l s d) (Sum.inr "seed")=some (.int s):=rfl
theorem Ny {l s d:Int}:fk (vV l s d) (Sum.inr "drawn")=some (.int d):=rfl
theorem Fw {l s d z:Int}:putK (vV l s d) (Sum.inr "drawn") (.int z)=vV l s z:=rfl
theorem Jk {l s d z:Int}:putK (vV l s d) (Sum.inr "left") (.int z)=vV z s d:=rfl
section
variable {P:Program}{w:World}{K:PySem.W.Frag}{mg:Str→Option Value}{base:Heap}{C fi:Addr}
noncomputable def Bu (K:PySem.W.Frag):Sp:=fun vs H Q _=>∃ (a:Addr) (ns:List Int) (k:Nat),vs=[.ref a,.int k]∧b9 K H a (ns.map V.int)∧k<1000∧∀ z,Q (.int z) H
theorem Kh (T:Txt K mg C fi) (F:Src K mg "_law_cell_at" f9 xR):Def P w K mg base 1 "_law_cell_at" f9 (Bu K):=by
 refine J.F9 F vc (fun vs H Q E h => ?_) (fun f cdv A outer s H vs Q E hr h => ?_)
 ·obtain ⟨a,ns,k,rfl,_⟩:=h;rfl
 ·obtain ⟨a,ns,k,rfl,hS,hk,q⟩:=h
  refine ⟨_,(J.af (J.cu (J.aK Hy (J.pv 1) (J.eX Du (by rfl) T.len (by decide +kernel) (J.ao (J.pv 0) J.aa)) (bC _))
    (J.aj (J.aO (J.aH Pe (J.pv 0) (J.pv 1) (fun _ _=>rfl))))
    J.bz)
   (J.af (J.aD (i:=2) vc.nd rfl (Or.inl rfl) J.ah)
   (J.af (J.cu (J.aK Cb (J.eX Du (by rfl) T.len (by decide +kernel) (J.ao (J.pv 0) J.aa)) J.ah (bC _))
    (J.aj (J.aD (i:=2) vc.nd rfl (Or.inl rfl) (J.aH Pe (J.pv 0) (J.aE eZ (J.pv 1) (J.eX Du (by rfl) T.len (by decide +kernel) (J.ao (J.pv 0) J.aa))) (fun _ _=>rfl))))
    J.bz)
   (J.aj (J.aO (J.aE dc (J.aE dc (J.aE eY (J.aE eZ (J.pv 2) J.ah) J.ah) (J.aE eY J.ah (J.pv 1))) J.ah)))))),?_⟩
  have hl:KW K (.ref a) H ns.length:=.inl ⟨_,hS,by simp⟩
  refine ⟨_,rfl,_,rfl,_,_,rfl,hl,_,_,rfl,rfl,_,rfl,?_⟩
  refine vQ (fun h => ?_) (fun h => ?_)
  ·have hlt:k<ns.length:=by simpa using h
   have e:(ns.map V.int)[k]? = some (V.int ns[k]):=by simp [hlt]
   exact ⟨_,rfl,_,rfl,a,_,_,_,rfl,rfl,hS,cY e,q _⟩
  ·refine ⟨_,rfl,_,_,rfl,hl,_,_,rfl,rfl,_,rfl,?_⟩
   have fin:∀ z:Int,(AY (wU (BY fun i j=>.int (i+j)) (wU (BY fun i j=>.int (i+j)) (wU (rI Ay fun i j=>.int (i*j)) (wU (rI (fun _ j=>0<j) fun i j=>.int (i % j)) (l6 2) (tC (.int 1000003))) (tC (.int 48271))) (wU (rI Ay fun i j=>.int (i*j)) (tC (.int 7919)) (l6 1))) (tC (.int 1)))) { nx:=fun _ H'=>Q .bH H',rt:=Q } [some (.ref a),some (.int k),some (.int z)] H:=fun z=>by
    refine ⟨_,rfl,_,_,rfl,rfl,(by show (0:Int)<1000003;decide),_,_,rfl,rfl,.inr ⟨by decide,by decide⟩,_,rfl,_,_,rfl,rfl,.inl ⟨by decide,by decide⟩,_,_,rfl,rfl,_,_,rfl,rfl,q _⟩
   refine vQ (fun h => ?_) (fun h => ?_)
   ·have hp:0<ns.length:=by simpa using h
    have hm:k % ns.length<ns.length:=Nat.mod_lt _ hp
    have e:(ns.map V.int)[k % ns.length]? = some (V.int ns[k % ns.length]):=by simp [hm]
    have e2:((k:Int) % (ns.length:Int))=((k % ns.length:Nat):Int):=by simp
    refine ⟨_,rfl,_,rfl,_,rfl,_,_,rfl,hl,_,_,rfl,rfl,(by show (0:Int)<(ns.length:Int);omega),a,_,_,_,rfl,rfl,hS,(by rw [e2];exact cY e),fin _⟩
   ·exact fin 0
noncomputable def Bt:Sp:=fun vs H Q _=>∃ z:Int,vs=[.int z]∧∀ p H',H p=none→dj H' p 0→(∀ b o,H b=some o→H' b=some o)→Q (.ref p) H'
theorem Kg (T:Txt K mg C fi) (F:Src K mg "_law_feed" f7 xQ):Def P w K mg base 1 "_law_feed" f7 Bt:=by
 refine J.F9 F II (fun vs H Q E h => ?_) (fun f cdv A outer s H vs Q E hr h => ?_)
 ·obtain ⟨z,rfl,_⟩:=h;rfl
 ·obtain ⟨z,rfl,q⟩:=h
  refine ⟨_,(J.aj (J.aO (J.qJ (J.gp J.au (J.eX (Ah rfl) (by rfl) T.max (by decide +kernel) (J.ao J.ah (J.ao (J.aE Jl (J.pv 0) (J.aE Jo J.ah J.ah)) J.aa))) (J.gp J.au (J.aE eZ (J.pv 0) J.ah) (J.gp J.au J.ah J.qG))) rfl rfl (by simp) (by decide)))),?_⟩
  intro p hp
  refine ⟨_,rfl,_,_,rfl,rfl,⟨by decide,by decide,by decide⟩,_,_,rfl,rfl,_,_,rfl,?_⟩
  refine ⟨_,rfl,_,_,rfl,rfl,(by show (0:Int)<1000003;decide),aG,vV _ _ 0,rfl,(by show 3≤15;decide),?_⟩
  refine q p _ hp ⟨_,_,aG,?_,?_,?_⟩ fun b o e => ?_
  ·split <;> omega
  ·exact zbY _ (by decide)
  ·exact zba _ (by decide)
  ·rw [aA (aP e hp),aA (aP e hp)];exact e
noncomputable def u6:Sp:=fun vs H Q _=>∃ (p:Addr) (n:Int) (d:Nat),vs=[.ref p,.int n]∧dj H p d∧d<1000∧0<n∧n<1000 ∧
 ∀ (z:Int) (H':Hp),0≤z→z<n→dj H' p (d+1)→(∀ b o,H b=some o→b≠p→H' b=some o)→Q (.int z) H'
theorem J6 (T:Txt K mg C fi) (F:Src K mg "_law_next" dF xK):Def P w K mg base 1 "_law_next" dF u6:=by
 refine J.F9 F qt (fun vs H Q E h => ?_) (fun f cdv A outer s H vs Q E hr h => ?_)
 ·obtain ⟨p,n,d,rfl,_⟩:=h;rfl
 ·obtain ⟨p,n,d,rfl,⟨l,sd,hp,hl,hs0,hs1⟩,hd,hn0,hn1,q⟩:=h
  have hu:=jD hr
  refine ⟨_,(J.af (J.jr hu (J.pv 0) J.au (J.aE dc (J.cV hu (J.pv 0) J.au (fun _ _=>rfl)) J.ah) rfl)
   (J.af (J.cu (J.aK Cb (J.cV hu (J.pv 0) J.au (fun _ _=>rfl)) J.ah (bC _))
    (J.af (J.aD (i:=2) qt.nd rfl (Or.inl rfl) (J.aE eZ (J.cV hu (J.pv 0) J.au (fun _ _=>rfl)) (J.pv 1)))
    (J.af (J.jr hu (J.pv 0) J.au (J.aE x9 (J.cV hu (J.pv 0) J.au (fun _ _=>rfl)) (J.pv 1)) rfl)
    (J.aj (J.aO (J.pv 2)))))
    J.bz)
   (J.af (J.aD (i:=3) qt.nd rfl (Or.inl rfl) (J.aE eZ (J.aE eY (J.aE dc (J.cV hu (J.pv 0) J.au (fun _ _=>rfl)) J.ah) (J.aE dc (J.aE eY (J.cV hu (J.pv 0) J.au (fun _ _=>rfl)) (J.cV hu (J.pv 0) J.au (fun _ _=>rfl))) J.ah)) J.ah))
   (J.af (J.aD (i:=4) qt.nd rfl (Or.inl rfl) (J.aE eZ (J.aE dc (J.aE eY (J.pv 3) (J.pv 3)) (J.aE eY J.ah (J.cV hu (J.pv 0) J.au (fun _ _=>rfl)))) J.ah))
   (J.aj (J.aO (J.aE eZ (J.aE eZ (J.aE dc (J.aE eY (J.pv 4) (J.pv 4)) (J.aE eY J.ah (J.pv 3))) J.ah) (J.pv 1)))))))),?_⟩
  have e1:((d:Int)+1)=((d+1:Nat):Int):=by omega
  refine ⟨_,rfl,p,_,rfl,iC.k (k:=Sum.inr "drawn") hp,_,_,rfl,rfl,_,rfl,p,_,rfl,wK.k (k:=Sum.inr "drawn") hp (by show 3<sizeLine;decide +kernel),?_⟩
  have h1:(upd H p (.dK (putK (vV l sd d) (Sum.inr "drawn") (.int ((d:Int)+1))))) p=some (.dK (vV l sd (d+1:Nat))):=by rw [aG,Fw,e1]
  generalize hH:upd H p (.dK (putK (vV l sd d) (Sum.inr "drawn") (.int ((d:Int)+1))))=H1 at h1
  have k1:∀ b o,H b=some o→b≠p→H1 b=some o:=fun b o e hb=>by rw [← hH,aA hb];exact e
  refine ⟨_,rfl,p,_,rfl,iC.k (k:=Sum.inr "left") h1,_,_,rfl,rfl,_,rfl,?_⟩
  refine vQ (fun h => ?_) (fun h => ?_)
  ·have hpos:0<l:=by simpa using h
   refine ⟨_,rfl,p,_,rfl,iC.k (k:=Sum.inr "left") h1,_,rfl,_,_,rfl,rfl,hn0,?_⟩
   refine ⟨_,rfl,p,_,rfl,iC.k (k:=Sum.inr "left") h1,_,rfl,_,_,rfl,rfl,⟨hn0,by omega⟩,_,rfl,p,_,rfl,wK.k (k:=Sum.inr "left") h1 (by show 3<sizeLine;decide +kernel),_,rfl,?_⟩
   refine q _ _ (zbY _ (by omega)) (zba _ hn0) ⟨_,_,by rw [aG,Jk],Int.ediv_nonneg hl (by omega),hs0,hs1⟩ fun b o e hb => ?_
   rw [aA hb];exact k1 b o e hb
  ·have gs:=iC.k (k:=Sum.inr "seed") h1
   have gd:=iC.k (k:=Sum.inr "drawn") h1
   have b1:=zbY ((sd+1)*(((d+1:Nat):Int)*((d+1:Nat):Int)+48271)) (show (65537:Int)≠0 by decide)
   have b2:=zba ((sd+1)*(((d+1:Nat):Int)*((d+1:Nat):Int)+48271)) (show (0:Int)<65537 by decide)
   refine ⟨_,rfl,p,_,rfl,gs,_,_,rfl,rfl,_,rfl,p,_,rfl,gd,_,rfl,p,_,rfl,gd,_,_,rfl,rfl,.inl ⟨by omega,by omega⟩,_,_,rfl,rfl,_,_,rfl,rfl,.inl ⟨by omega,by omega⟩,_,_,rfl,rfl,(by show (0:Int)<65537;decide),?_⟩
   generalize ((sd+1)*(((d+1:Nat):Int)*((d+1:Nat):Int)+48271)) % 65537=one at b1 b2 ⊢
   have c1:=zbY (one*one+30269*((d+1:Nat):Int)) (show (65521:Int)≠0 by decide)
   have c2:=zba (one*one+30269*((d+1:Nat):Int)) (show (0:Int)<65521 by decide)
   refine ⟨_,rfl,_,rfl,_,_,rfl,rfl,.inl ⟨by omega,by omega⟩,_,rfl,p,_,rfl,gd,_,_,rfl,rfl,.inl ⟨by decide,by decide⟩,_,_,rfl,rfl,_,_,rfl,rfl,(by show (0:Int)<65521;decide),?_⟩
   generalize (one*one+30269*((d+1:Nat):Int)) % 65521=two at c1 c2 ⊢
   refine ⟨_,rfl,_,rfl,_,_,rfl,rfl,.inl ⟨by omega,by omega⟩,_,rfl,_,_,rfl,rfl,.inl ⟨by decide,by decide⟩,_,_,rfl,rfl,_,_,rfl,rfl,(by show (0:Int)<65519;decide),_,rfl,_,_,rfl,rfl,hn0,?_⟩
   exact q _ _ (zbY _ (by omega)) (zba _ hn0) ⟨l,sd,h1,hl,hs0,hs1⟩ k1
end
theorem alloc {H:Hp}{p:Addr}{o:HO} (h:H p=none):fh H (upd H p o):=fun b u e=>by rw [aA (aP e h)];exact e
noncomputable def wF (x:Str):Prop:=∀ c∈x.cps.toList,nG c=true
theorem wF.append {x y:Str} (h:wF x) (g:wF y):wF (x++y):=fun c hc=>by
 have e:(x++y).cps.toList=x.cps.toList++y.cps.toList:=by show (x.cps++y.cps).toList=_;simp
 rw [e,zbO] at hc
 exact hc.elim (h c) (g c)
noncomputable def JD (x:Str):Bool:=x.cps.toList.all nG
theorem vM {x:Str} (h:JD x=true):wF x:=fun c hc=>zbB.mp h c hc
theorem u7 {y:Str}{l u:Option Int} (h:wF y):wF (Txt.slice y l u):=by
 unfold Txt.slice
 split
 ·exact h
 ·intro c hc
  have hc:c∈(Builtin.Str.strSliceIndices l u 1 y.length).filterMap (y.cps[·]?):=by simpa using hc
  obtain ⟨i,_,e⟩:=zaT.mp hc
  exact h c (by
   have:y.cps.toList[i]? = some c:=by rw [← e];simp
   exact List.mem_of_getElem? this)
theorem yk:∀ ys:List Str,(∀ y∈ys,y.length=1∧wF y)→(Str.join "" ys).length=ys.length∧wF (Str.join "" ys)
 | [],_=>⟨rfl,fun c hc=>absurd hc (by simp [Str.join,Str.empty])⟩
 | [y],h=>⟨(h y (by simp)).1,(h y (by simp)).2⟩
 | y::z::r,h=>by
  obtain ⟨h1,h2⟩:=yk (z::r) fun x hx=>h x (zaC _ hx)
  obtain ⟨g1,g2⟩:=h y (by simp)
  have e:Str.join "" (y::z::r)=y ++ "" ++ Str.join "" (z::r):=rfl
  rw [e]
  refine ⟨?_,(g2.append (vM (by decide +kernel))).append h2⟩
  rw [strLen_append,strLen_append,h1,g1]
  show 1+0+_=_
  simp;omega
theorem Ce {c:Nat} (h:nG c=true):(⟨#[c]⟩:Str).length=1∧wF ⟨#[c]⟩:=⟨rfl,fun d hd=>by
 have:d=c:=by simpa using hd
 rw [this];exact h⟩
theorem wY:∀ ys:List Str,(∀ y∈ys,y.length=1∧wF y)→(ys.map (·.length)).sum=ys.length
 | [],_=>rfl
 | y::r,h=>by
  rw [zcj,List.sum_cons,wY r fun x hx=>h x (zaC _ hx),(h y (by simp)).1,zbx];omega
theorem dj.same {H H':Hp}{p:Addr}{d:Nat} (h:dj H p d) (e:fh H H'):dj H' p d:=by
 obtain ⟨l,s,h1,h2⟩:=h
 exact ⟨l,s,e _ _ h1,h2⟩
theorem t8 {xs:List V}{k:Nat} (h:k≤xs.length):kZ xs (some (k:Int)) none=xs.drop k:=by
 unfold kZ
 have e1:HT.bV xs.length 0 (some (k:Int))=k:=by rw [HT.jh];omega
 have e2:HT.bV xs.length xs.length none=xs.length:=by simp [HT.bV]
 rw [e1,e2,zar (by rw [zbz];omega)]
theorem vX {xs:List V}{k:Nat} (h:k≤xs.length):kZ xs none (some (k:Int))=xs.take k:=by
 unfold kZ
 have e1:HT.bV xs.length xs.length (some (k:Int))=k:=by rw [HT.jh];omega
 have e2:HT.bV xs.length 0 none=0:=by simp [HT.bV]
 rw [e1,e2,List.drop_zero,Nat.sub_zero]
noncomputable abbrev Ax:Str := "abcdefghijklmnopqrstuvwxyz"
theorem yh:Ax.length=26:=by decide +kernel
theorem FO:wF Ax:=vM (by decide +kernel)
theorem CK {k:Nat} (h:k<26):∃ c,Ax.cps.toList[k]? = some c∧nG c=true:=by
 have hl:Ax.cps.toList.length=26:=by rw [zaP];exact yh
 refine ⟨Ax.cps.toList[k]'(by omega),zam _,FO _ (zbD _)⟩
noncomputable def Nm (y:Str):Prop:=1≤y.length∧y.length≤8∧wF y
theorem Nm.asc {y:Str} (h:Nm y):rO y:=fun c hc=>by
 have:=h.2.2 c hc
 unfold nG at this
 simp at this;omega
theorem qo {x:Str}{a b:Nat} (hab:a≤b) (hb:b≤x.length):(Txt.slice x (some (a:Int)) (some (b:Int))).length=b - a:=by
 unfold Txt.slice
 have e:=PySem.StrLaws.sliced_plain x hab hb
 have e2:(Builtin.Str.strSliceIndices (some (a:Int)) (some (b:Int)) 1 x.length).length=b - a:=by rw [PySem.StrLaws.strSliceIndices_plain hab hb];simp
 split
 ·rename_i h
  simp only [zbJ,beq_iff_eq] at h
  omega
 ·show ((Builtin.Str.strSliceIndices (some (a:Int)) (some (b:Int)) 1 x.length).filterMap (x.cps[·]?)).toArray.size=_
  rw [zbf,e,zby,zbz,zaP]
  have:x.cps.size=x.length:=rfl
  omega
theorem qm {x:Str}{u:Int}:Txt.slice x none (some u)=Txt.slice x (some ((0:Nat):Int)) (some u):=by
 have e:Builtin.Str.strSliceIndices none (some u) 1 x.length=Builtin.Str.strSliceIndices (some ((0:Nat):Int)) (some u) 1 x.length:=by
  unfold Builtin.Str.strSliceIndices
  have e0:max (0:Int) (min 0 (x.length:Int))=0:=by omega
  simp [e0]
 unfold Txt.slice
 rw [e]
theorem Co {y:Str} (h:(decide (1≤y.length)&&decide (y.length≤8)&&JD y)=true):Nm y:=by
 rw [zbJ,zbJ] at h
 exact ⟨of_decide_eq_true h.1.1,of_decide_eq_true h.1.2,vM h.2⟩
theorem HA {α:Type} (f:Str→α) {zs:List Str} (h:(zs.map f).Nodup):zs.Nodup:=(zbp.mp h).imp fun {a b} h e=>h (by rw [e])
noncomputable def tH (z:Int) (i:Nat):Option Nat:=Ax.cps.toList[((z+5*(i:Int)) % 26).toNat]?
theorem FN:∀ i j,i<26→j<26→Ax.cps.toList[i]? = Ax.cps.toList[j]? → i=j:=by
 have hl:Ax.cps.toList.length=26:=by rw [zaP];exact yh
 have hn:Ax.cps.toList.Nodup:=by decide +kernel
 intro i j hi hj e
 exact (List.getElem?_inj (by omega) hn).mp e
theorem JF {z:Int} (h0:0≤z) (h1:z<26):((zcM 8).map (tH z)).Nodup:=by
 refine zbp.mpr (zai.mpr fun i j hi hj hij e => ?_)
 rw [List.getElem_range,List.getElem_range] at e
 rw [zbq] at hi hj
 unfold tH at e
 have:=FN _ _ (by omega) (by omega) e
 omega
noncomputable def xm:Sp:=fun vs H Q _=>∃ (p:Addr) (m d:Nat),vs=[.ref p,.int m]∧dj H p d∧d+20<1000∧m≤8 ∧
 ∀ (l:Addr) (ys:List Str) (H':Hp) (d':Nat),H l=none→H' l=some (.lst (ys.map V.str))→ys.length=m→(∀ y∈ys,Nm y)→ys.Nodup→dj H' p d'→d'≤d+20→(∀ b o,H b=some o→b≠p→H' b=some o)→Q (.ref l) H'
section
variable {P:Program}{w:World}{K:PySem.W.Frag}{mg:Str→Option Value}{base:Heap}{C fi:Addr}
theorem Gf (T:Txt K mg C fi) (F:Src K mg "_law_names" eB qy) (D_law_next:Def P w K mg base 1 "_law_next" dF u6):Def P w K mg base 2 "_law_names" eB xm:=by
 refine J.F9 F cP (fun vs H Q E h => ?_) (fun f cdv A outer s H vs Q E hr h => ?_)
 ·obtain ⟨p,m,d,rfl,_⟩:=h;rfl
 ·obtain ⟨p,m,d,rfl,hf,hd,hm,q⟩:=h
  refine ⟨_,(J.af (J.aD (i:=2) cP.nd rfl (Or.inr rfl) J.au)
   (J.af (J.aD (i:=3) cP.nd rfl (Or.inr rfl) (J.m7 PySem.F.plainAttrs_str PySem.F.slot_str_join PySem.F.type_str_join fV J.au (J.ao (J.b6 (N:=["_law_k","_law_letters","_law_feed_here"]) (caps:=[none,some 2,some 0]) (cM (by decide +kernel)) (by rfl) (by rfl) rfl (J.bG (by rfl) T.range (J.ao J.ah J.aa)) (fun _ _ _ _=>(J.aq (i:=0) (by decide +kernel:List.Nodup (["_law_k","_law_letters","_law_feed_here"]:List Str)) rfl (Or.inl rfl))) (fun _ _ _ _=>J.bx) (fun _ _ _ _=>(J.aH vO (J.pv 1) (J.aJ D_law_next (hr.mono (by decide)) (by rfl) jy (J.ao (J.pv 2) (J.ao J.ah J.aa))) (fun _ _=>rfl)))) J.aa)))
   (J.af (J.aD (i:=4) cP.nd rfl (Or.inl rfl) (J.aJ D_law_next (hr.mono (by decide)) (by rfl) jy (J.ao (J.pv 0) (J.ao J.ah J.aa))))
   (J.af (J.aD (i:=5) cP.nd rfl (Or.inl rfl) (J.aJ D_law_next (hr.mono (by decide)) (by rfl) jy (J.ao (J.pv 0) (J.ao J.ah J.aa))))
   (J.af (J.cu (J.aK Cc (J.pv 4) J.ah (bC _))
    (J.aj (J.aU (i:=6) cP.nd rfl rfl (N:=["_law_k","_law_word"]) (caps:=[none,some 3]) (cM (by decide +kernel)) (by rfl) (by rfl) rfl (J.bG (by rfl) T.range (J.ao J.ah J.aa)) (fun _ _ _ _=>(J.aq (i:=0) (by decide +kernel:List.Nodup (["_law_k","_law_word"]:List Str)) rfl (Or.inl rfl))) (fun _ _ _ _=>J.bx) (fun _ _ _ _=>(J.bI ql (J.pv 1) J.cy (J.bW (J.aE dc (J.pv 0) J.ah))))))
    (J.aj (J.cu (J.aK Cc (J.pv 4) J.ah (bC _))
     (J.aj (J.aD (i:=6) cP.nd rfl (Or.inl rfl) (J.bJ (J.ao J.au (J.ao J.au (J.ao J.au (J.ao J.au (J.ao J.au (J.ao J.au (J.ao J.au (J.ao J.au J.aa)))))))))))
     (J.af (J.aD (i:=7) cP.nd rfl (Or.inl rfl) (J.aJ D_law_next (hr.mono (by decide)) (by rfl) jy (J.ao (J.pv 0) (J.ao (J.aE dc (J.pv 5) J.ah) J.aa))))
     (J.af (J.aD (i:=8) cP.nd rfl (Or.inl rfl) (J.aJ D_law_next (hr.mono (by decide)) (by rfl) jy (J.ao (J.pv 0) (J.ao J.ah J.aa))))
     (J.af (J.aD (i:=6) cP.nd rfl (Or.inl rfl) (J.bJ J.aa))
     (J.aj (J.cU PassesOwn.never rfl (J.bG (by rfl) T.range (J.ao J.ah J.aa)) (J.aq (i:=9) cP.nd rfl (Or.inl rfl))
      (J.af (J.aD (i:=10) cP.nd rfl (Or.inl rfl) (J.aH vO (J.pv 2) (J.aE eZ (J.aE dc (J.pv 8) (J.aE eY J.ah (J.pv 9))) J.ah) (fun _ _=>rfl)))
      (J.aj (J.aZ (J.m7 PySem.F.plainAttrs_list PySem.F.slot_list_append PySem.F.type_list_append pB (J.pv 6) (J.ao (J.aE iT (J.aE iT (J.bI ql (J.pv 3) J.cy (J.bW (J.pv 7))) (J.pv 10)) (J.bI ql (J.pv 3) (J.bW (J.aE dc (J.pv 7) J.ah)) (J.bW (J.aE dc (J.pv 5) J.ah)))) J.aa)))))))))))))
   (J.aj (J.aO (J.bI NW (J.aE Cd (J.bI NW (J.pv 6) (J.bW (J.pv 5)) J.cy) (J.bI NW (J.pv 6) J.cy (J.bW (J.pv 5)))) J.cy (J.bW (J.pv 1)))))))))),?_⟩
  obtain ⟨l0,s0,hp0,_⟩:=id hf
  have fin:∀ (l:Addr) (ys:List Str) (H2:Hp) (t:Nat) (d2:Nat) (v2 v3 v4 v7 v8 v9 v10:Option V),H l=none→H2 l=some (.lst (ys.map V.str))→ys.length=8→(∀ y∈ys,Nm y)→ys.Nodup→t<8→dj H2 p d2→d2≤d+20→(∀ b o,H b=some o→b≠p→H2 b=some o) →
    (AY (K4 (BV K) (wU LL (K4 (BV K) (l6 6) (oO (l6 5)) gY) (K4 (BV K) (l6 6) gY (oO (l6 5)))) gY (oO (l6 1)))) { nx:=fun _ H'=>Q .bH H',rt:=Q }
     [some (.ref p),some (.int m),v2,v3,v4,some (.int t),some (.ref l),v7,v8,v9,v10] H2:=by
   intro l ys H2 t d2 v2 v3 v4 v7 v8 v9 v10 nl hl hlen hnm hnd ht hf2 hd2 k2
   have L8:(ys.map V.str).length=8:=by rw [zbP];exact hlen
   refine ⟨_,rfl,_,rfl,_,rfl,l,_,rfl,b9.of hl,fun a1 n1 => ?_⟩
   refine ⟨_,rfl,_,rfl,_,rfl,l,_,rfl,b9.of (alloc n1 _ _ hl),fun a2 n2 => ?_⟩
   refine ⟨a1,a2,_,_,rfl,rfl,alloc n2 _ _ aG,aG,?_,fun a3 n3 => ?_⟩
   ·rw [t8 (by omega),vX (by omega),zbz,zby,sizeLine_eq];omega
   rw [t8 (by omega),vX (by omega),← List.map_drop,← List.map_take,← zbV] at *
   have L3:((ys.drop t++ys.take t).map V.str).length=8:=by rw [zbP,zaU,zbz,zby];omega
   refine ⟨_,rfl,_,rfl,a3,_,rfl,b9.of aG,fun a4 n4 => ?_⟩
   rw [vX (by omega),← List.map_take] at *
   have s3:fh H2 (upd (upd (upd H2 a1 (.lst ((ys.drop t).map V.str))) a2 (.lst ((ys.take t).map V.str))) a3 (.lst ((ys.drop t++ys.take t).map V.str))):=(alloc n1).trans ((alloc n2).trans (alloc n3))
   have n40:H a4=none:=by
    cases e:H a4 with
    | none=>rfl
    | some o =>
     by_cases hb:a4=p
     ·obtain ⟨l9,s9,e9,_⟩:=hf2
      have:=s3 _ _ e9
      rw [hb,this] at n4;cases n4
     ·have:=s3 _ _ (k2 _ _ e hb);rw [n4] at this;cases this
   refine q a4 ((ys.drop t++ys.take t).take m) _ d2 n40 aG ?_ ?_ (((zax.trans (List.Perm.of_eq (zaw t ys))).nodup_iff.mpr hnd).sublist (zbi _ _)) (hf2.same (s3.trans (alloc n4))) hd2 fun b o e hb=>alloc n4 _ _ (s3 _ _ (k2 b o e hb))
   ·rw [zby,zaU,zbz,zby];omega
   ·intro y hy
    rcases zbO.mp (zaG hy) with hy | hy
    ·exact hnm y (zaH hy)
    ·exact hnm y (zaG hy)
  refine EO fun N0 hN0 => ?_
  refine hN0 _ _ ?_
  refine EO fun N hN => ?_
  refine ⟨rfl,8,rfl,by decide,by decide,nj (fun j xs τ Hj=>∃ ys:List Str,xs=ys.map V.str∧ys.length=j∧(∀ y∈ys,y.length=1∧wF y)∧(∃ t0,τ=[t0,some (.str Ax),some (.ref p)])∧dj Hj p (d+j)∧∀ b o,H b=some o→b≠p→Hj b=some o) ⟨[],rfl,rfl,by simp,⟨none,rfl⟩,hf,fun _ _ e _=>e⟩ ?_ ?_⟩
  ·rintro j xs τ Hj hj ⟨ys,rfl,hyl,hys,⟨t0,rfl⟩,hfj,kj⟩
   have hj:j<8:=hj
   refine Ms ?_
   refine ⟨_,rfl,_,rfl,p,26,d+j,rfl,hfj,by omega,by decide,by decide,fun zc Hc c0 c1 hfc kc => ?_⟩
   obtain ⟨k,rfl⟩:∃ k:Nat,zc=k:=⟨zc.toNat,by omega⟩
   obtain ⟨c,hc,hc2⟩:=CK (k:=k) (by omega)
   refine ⟨_,_,c,rfl,rfl,(by rw [sizeLine_eq];decide +kernel),cY hc,?_,ys++[⟨#[c]⟩],(by simp),(by simp [hyl]),?_,⟨_,rfl⟩,hfc,fun b o e hb=>kc b o (kj b o e hb) hb⟩
   ·rw [zbP,sizeLine_eq];omega
   ·intro y hy
    rcases zbO.mp hy with hy | hy
    ·exact hys y hy
    ·have:y=⟨#[c]⟩:=by simpa using hy
     subst this
     exact Ce hc2
  ·rintro xs τ Hj ⟨ys,rfl,hyl,hys,⟨t0,rfl⟩,hfj,kj⟩ b2 nb2
   have hyl:ys.length=8:=hyl
   obtain ⟨j1,j2⟩:=yk ys hys
   rw [← PySem.StrLaws.glued_eq_join] at j1 j2
   have j1:(Txt.join "" ys).length=ys.length:=j1
   have j2:wF (Txt.join "" ys):=j2
   refine ⟨"",b2,ys,rfl,rfl,b9.of aG,(by rw [wY ys hys];show _+_*0≤_;omega),?_⟩
   refine hN _ _ ?_
   generalize hW:Txt.join "" ys=W at j1 j2
   have hfa:=hfj.same (alloc (o:=.lst (ys.map V.str)) nb2)
   have ka:∀ b o,H b=some o→b≠p→upd Hj b2 (.lst (ys.map V.str)) b=some o:=fun b o e hb=>alloc nb2 _ _ (kj b o e hb)
   refine EO fun N hN => ?_
   refine ⟨_,rfl,p,3,_,rfl,hfa,by omega,by decide,by decide,fun zw Hw w0 w1 hfw kw => ?_⟩
   refine hN _ _ ?_
   refine EO fun N hN => ?_
   refine ⟨_,rfl,p,8,_,rfl,hfw,by omega,by decide,by decide,fun zt Ht t0 t1 hft kt => ?_⟩
   refine hN _ _ ?_
   obtain ⟨t,rfl⟩:∃ t:Nat,zt=t:=⟨zt.toNat,by omega⟩
   have ht:t<8:=by omega
   have kt2:∀ b o,H b=some o→b≠p→Ht b=some o:=fun b o e hb=>kt b o (kw b o (ka b o e hb) hb) hb
   have free:∀ {H3:Hp}{dd:Nat}{a:Addr},dj H3 p dd→(∀ b o,H b=some o→b≠p→H3 b=some o)→H3 a=none→H a=none:=fun {H3 dd a} hf3 k3 n=>by
    cases e:H a with
    | none=>rfl
    | some o =>
     by_cases hb:a=p
     ·obtain ⟨l9,s9,e9,_⟩:=hf3
      rw [hb,e9] at n;cases n
     ·have:=k3 _ _ e hb;rw [n] at this;cases this
   refine ⟨_,rfl,rfl,_,rfl,?_⟩
   refine vQ (fun _ => ?_) (fun _ => ?_)
   ·-- parts of the word
    refine ⟨8,rfl,by decide,by decide,nj (fun j xs τ Hj=>Hj=Ht∧∃ zs:List Str,xs=zs.map V.str∧zs.length=j∧(∀ y∈zs,Nm y)∧zs.map (·.length)=(zcM j).map (· + 1)∧∃ t0,τ=[t0,some (.str W)]) ⟨rfl,[],rfl,rfl,by simp,rfl,none,by rw [← hW];rfl⟩ ?_ ?_⟩
    ·rintro j xs τ Hj hj ⟨rfl,zs,rfl,hzl,hzs,hzd,tt,rfl⟩
     have hj:j<8:=hj
     refine Ms ?_
     have el:(Txt.slice W none (some (0+(j:Int)+1))).length=j+1:=by
      rw [qm,show (0+(j:Int)+1)=((j+1:Nat):Int) by omega]
      exact qo (zcI _) (by omega)
     refine ⟨_,rfl,_,rfl,_,_,rfl,rfl,_,rfl,W,rfl,(by rw [j1,sizeLine_eq];omega),?_,rfl,zs++[_],(by rw [zbV];rfl),(by simp [hzl]),fun y hy => ?_,(by rw [zbV,hzd,List.range_succ,zbV,zcj,zcp,zcj,zcp,el]),_,rfl⟩
     ·rw [zbP,sizeLine_eq];omega
     ·rcases zbO.mp hy with hy | hy
      ·exact hzs y hy
      ·have:y=Txt.slice W none (some (0+(j:Int)+1)):=by simpa using hy
       subst this
       exact ⟨by omega,by omega,u7 j2⟩
    ·rintro xs τ Hj ⟨rfl,zs,rfl,hzl,hzs,hzd,tt,rfl⟩ a na
     have hzl:zs.length=8:=hzl
     exact fin a zs _ t _ _ _ _ _ _ _ _ (free hft kt2 na) aG hzl hzs (HA (·.length) (by rw [hzd];show ((zcM 8).map (· + 1)).Nodup;decide)) ht (hft.same (alloc na)) (by omega) fun b o e hb=>alloc na _ _ (kt2 b o e hb)
   ·refine ⟨_,rfl,rfl,_,rfl,?_⟩
    refine vQ (fun _ => ?_) (fun _ => ?_)
    ·-- the words of the texts
     refine ⟨(by show 8≤sizeLine;decide),fun a na => ?_⟩
     refine fin a ["on","back","at","off","stay","many","then","either"] _ t _ _ _ _ _ _ _ _ (free hft kt2 na) aG rfl (fun y hy => ?_) (by decide +kernel) ht (hft.same (alloc na)) (by omega) fun b o e hb=>alloc na _ _ (kt2 b o e hb)
     simp only [zci,zbE,or_false] at hy
     rcases hy with rfl | rfl | rfl | rfl | rfl | rfl | rfl | rfl <;> exact Co (by decide +kernel)
    ·-- one sign changed
     refine ⟨_,rfl,_,rfl,_,_,rfl,rfl,p,(t:Int)+1,_,rfl,hft,by omega,by omega,by omega,fun zp Hp p0 p1 hfp kp => ?_⟩
     refine ⟨_,rfl,p,26,_,rfl,hfp,by omega,by decide,by decide,fun zs Hs s0 s1 hfs ks => ?_⟩
     have ks2:∀ b o,H b=some o→b≠p→Hs b=some o:=fun b o e hb=>ks b o (kp b o (kt2 b o e hb) hb) hb
     refine ⟨zcI _,fun a na => ?_⟩
     refine ⟨8,rfl,by decide,by decide,z9 (fun j σ Hj=>∃ zl:List Str,Hj a=some (.lst (zl.map V.str))∧zl.length=j∧(∀ y∈zl,Nm y)∧zl.map (fun y=>y.cps.toList[zp.toNat]?)=(zcM j).map (tH zs)∧(∀ b o,Hs b=some o→Hj b=some o)∧∃ v9 v10,σ=[some (.ref p),some (.int m),some (.str Ax),some (.str W),some (.int zw),some (.int t),some (.ref a),some (.int zp),some (.int zs),v9,v10])
      ⟨[],aG,rfl,by simp,rfl,alloc na,none,none,by rw [← hW];rfl⟩ ?_ ?_⟩
     ·rintro j σ Hj hj ⟨zl,ha,hzl,hzs,hzd,kj2,v9,v10,rfl⟩
      have hj:j<8:=hj
      obtain ⟨c,hc,hc2⟩:=CK (k:=((zs+5*(0+(j:Int))) % 26).toNat) (by omega)
      refine ⟨_,rfl,_,rfl,_,rfl,_,_,rfl,rfl,.inl ⟨by decide,by decide⟩,_,_,rfl,rfl,_,_,rfl,rfl,(by show (0:Int)<26;decide),Ax,_,c,rfl,rfl,(by rw [sizeLine_eq];decide +kernel),?_,?_⟩
      ·have e:((zs+5*(0+(j:Int))) % 26)=((((zs+5*(0+(j:Int))) % 26).toNat:Nat):Int):=by omega
       rw [e];exact cY hc
      ·have w1:W.length≤sizeLine:=by rw [j1,sizeLine_eq];omega
       have l1:(Txt.slice W none (some zp)).length≤8:=by have:=Txt.slice_le W none (some zp);omega
       have l2:(Txt.slice W (some (zp+1)) (some ((t:Int)+1))).length≤8:=by have:=Txt.slice_le W (some (zp+1)) (some ((t:Int)+1));omega
       have l3:(⟨#[c]⟩:Str).length=1:=rfl
       refine ⟨_,rfl,.inl ⟨rfl,_,b9.of ha⟩,_,rfl,_,rfl,_,rfl,W,rfl,w1,_,rfl,_,_,rfl,rfl,(by rw [l3,sizeLine_eq];omega),_,rfl,_,rfl,_,_,rfl,rfl,_,rfl,_,rfl,_,_,rfl,rfl,_,rfl,W,rfl,w1,_,_,rfl,rfl,(by rw [strLen_append,l3,sizeLine_eq];omega),a,_,_,rfl,rfl,ha,(by rw [zbP,sizeLine_eq];omega),?_⟩
       refine ⟨zl++[_],by rw [aG,zbV];rfl,by simp [hzl],fun y hy => ?_,?_,fun b o e => ?_,_,_,rfl⟩
       ·rcases zbO.mp hy with hy | hy
        ·exact hzs y hy
        ·have:y=Txt.slice W none (some zp)++⟨#[c]⟩++Txt.slice W (some (zp+1)) (some ((t:Int)+1)):=by simpa using hy
         subst this
         obtain ⟨zp,rfl⟩:∃ z:Nat,zp=z:=⟨zp.toNat,by omega⟩
         have g1:(Txt.slice W none (some (zp:Int))).length=zp:=by rw [qm];exact qo (zcI _) (by omega)
         have g2:(Txt.slice W (some ((zp:Int)+1)) (some ((t:Int)+1))).length=(t+1) - (zp+1):=qo (a:=zp+1) (b:=t+1) (by omega) (by omega)
         refine ⟨by rw [strLen_append,strLen_append,l3];omega,by rw [strLen_append,strLen_append,l3];omega,((u7 j2).append (Ce hc2).2).append (u7 j2)⟩
       ·rw [zbV,hzd,List.range_succ,zbV,zcj,zcp,zcj,zcp]
        have g1:(Txt.slice W none (some zp)).cps.toList.length=zp.toNat:=by
         obtain ⟨z,rfl⟩:∃ z:Nat,zp=z:=⟨zp.toNat,by omega⟩
         have:(Txt.slice W none (some (z:Int))).length=z:=by rw [qm];exact qo (zcI _) (by omega)
         rw [zaP];exact this
        have e9:(Txt.slice W none (some zp)++⟨#[c]⟩++Txt.slice W (some (zp+1)) (some ((t:Int)+1))).cps.toList=(Txt.slice W none (some zp)).cps.toList++[c]++(Txt.slice W (some (zp+1)) (some ((t:Int)+1))).cps.toList:=by
         show ((Txt.slice W none (some zp)).cps ++ #[c]++(Txt.slice W (some (zp+1)) (some ((t:Int)+1))).cps).toList=_
         simp
        have e8:(Txt.slice W none (some zp)++⟨#[c]⟩++Txt.slice W (some (zp+1)) (some ((t:Int)+1))).cps.toList[zp.toNat]? = tH zs j:=by
         rw [e9,zbk,zab (by omega),g1,Nat.sub_self]
         unfold tH
         rw [show zs+5*(j:Int)=zs+5*(0+(j:Int)) by omega,hc];rfl
        rw [e8]
       ·rw [aA (aP e na)];exact kj2 b o e
     ·rintro σ Hj ⟨zl,ha,hzl,hzs,hzd,kj2,v9,v10,rfl⟩
      have hzl:zl.length=8:=hzl
      exact fin a zl _ t _ _ _ _ _ _ _ _ (free hfs ks2 na) ha hzl hzs (HA (fun y=>y.cps.toList[zp.toNat]?) (by rw [hzd];exact JF s0 s1)) ht (hfs.same kj2) (by omega) fun b o e hb=>kj2 _ _ (ks2 b o e hb)
end
theorem oY {K:PySem.W.Frag}{w:M.Wd}:∀ (ys:List Str),M.ak K w (ys.map M.D.str) (ys.map V.str)
 | []=>.nil
 | y::ys=>.cons .str (oY ys)
open M
section
variable {K:PySem.W.Frag}{w:Wd}{H H':Hp}{S:av}
theorem x6 {n:Nat}{a:Addr}{o o':MO}{u':HO} (k:Ok K w H S) (e:S[n]? = some (some o)) (ha:w.r n=some a) (h:jM K w o' u') (hu:H' a=some u') (hk:∀ b q,H b=some q→b≠a→H' b=some q):Ok K w H' (S.set n (some o')):=by
 have g:=k.put e ha h
 obtain ⟨a0,u0,h1,h2,h3,_⟩:=k.live n o e
 rw [ha] at h1;cases h1
 refine ⟨fun b q z=>hk b q (k.base b q z) (by intro y;subst y;rw [h2] at z;cases z),fun m q z => ?_,g.inj,g.top⟩
 obtain ⟨b,u,g1,g2,g3,g4⟩:=g.live m q z
 by_cases hb:b=a
 ·subst hb
  rw [aG] at g3;cases g3
  exact ⟨b,u',g1,g2,hu,g4⟩
 ·rw [aA hb] at g3
  exact ⟨b,u,g1,g2,hk b u g3 hb,g4⟩
theorem yD {p n:Nat}{v:V} (ok:Ok K w H S) (h:Rep K w (.loc p) v) (e:S[p]? = some (some (.feed n))):∃ a,v = .ref a∧w.r p=some a∧dj H a n:=by
 simp only [Rep] at h
 obtain ⟨a,h1,rfl⟩:=h
 obtain ⟨a',u,g1,g2,g3,l,s,rfl,g5⟩:=ok.live p _ e
 rw [h1] at g1;cases g1
 exact ⟨a,rfl,h1,l,s,g3,g5⟩
theorem j7 {a:Addr}{n:Nat} (h:dj H' a n):∃ u,H' a=some u∧jM K w (.feed n) u:=by
 obtain ⟨l,s,h1,h2⟩:=h
 exact ⟨_,h1,l,s,rfl,h2⟩
end
noncomputable def je:AN:=fun ds S Q=>∃ (p:Nat) (m:Int) (n:Nat),ds=[.loc p,.int m]∧S[p]? = some (some (.feed n))∧n<1000∧0<m∧m<1000∧∀ z,0≤z→z<m→Q (.dat (.int z)) (S.set p (some (.feed (n+1))))
noncomputable def xx:AN:=fun ds S Q=>∃ z:Int,ds=[.int z]∧Q (.dat (.loc S.length)) (S++[some (.feed 0)])
noncomputable def xy:AN:=fun ds S Q=>∃ (ns:List Int) (k:Nat),ds=[.kT ns,.int k]∧k<1000∧∀ z,Q (.dat (.int z)) S
noncomputable def rY:AN:=fun ds S Q=>∃ (p m n:Nat),ds=[.loc p,.int m]∧S[p]? = some (some (.feed n))∧n+20<1000∧m≤8∧∀ (ys:List Str) (n':Nat),ys.length=m→(∀ y∈ys,Nm y)→ys.Nodup→n'≤n+20→Q (.new (.lst (ys.map D.str))) (S.set p (some (.feed n')))
section
variable {P:Program}{w:World}{K:PySem.W.Frag}{mg:Str→Option Value}{base:Heap}{C fi:Addr}
theorem Kr (D:Def P w K mg base 1 "_law_next" dF u6):Def P w K mg base 1 "_law_next" dF (aL K je):=D.imp fun vs H Q E h=>by
 obtain ⟨w,ds,S,Qa,ok,rep,⟨p,m,n,rfl,hS,hn,h0,h1,q⟩,bk⟩:=h
 obtain ⟨v,u,rfl,r1,r2⟩:=sG rep
 obtain ⟨a,rfl,ha,hf⟩:=yD ok r1 hS
 refine ⟨a,m,n,by rw [aY r2 rfl],hf,hn,h0,h1,fun z H' z0 z1 hf' hk => ?_⟩
 obtain ⟨u',hu,ho⟩:=j7 (K:=K) (w:=w) hf'
 exact bk.dat .refl (x6 ok hS ha ho hu hk) .int (q z z0 z1)
theorem Ks (D:Def P w K mg base 1 "_law_feed" f7 Bt):Def P w K mg base 1 "_law_feed" f7 (aL K xx):=D.imp fun vs H Q E h=>by
 obtain ⟨w,ds,S,Qa,ok,rep,⟨z,rfl,q⟩,bk⟩:=h
 obtain ⟨v,rfl,r1⟩:=c7 rep
 refine ⟨z,by rw [aY r1 rfl],fun p H' hp hf hk => ?_⟩
 obtain ⟨u',hu,ho⟩:=j7 (K:=K) (w:=w) hf
 have ok2:Ok K w H' S:=⟨fun b o e=>hk b o (ok.base b o e),fun n o e=>by
  obtain ⟨a,u,h1,h2,h3,h4⟩:=ok.live n o e
  exact ⟨a,u,h1,h2,hk a u h3,h4⟩,ok.inj,ok.top⟩
 have rr:wB K w H' S (.new (.feed 0)) (.ref p):=⟨p,u',rfl,ok.free hp,hu,ho,fun n o' e z=>by
  obtain ⟨a,u,h1,h2,h3,h4⟩:=ok.live n o' e
  rw [z] at h1;cases h1
  rw [hp] at h3;cases h3⟩
 obtain ⟨w2,le2,lG,rep3⟩:=store ok2 rr
 exact bk.dat le2 lG rep3 q
theorem Ku (D:Def P w K mg base 1 "_law_cell_at" f9 (Bu K)):Def P w K mg base 1 "_law_cell_at" f9 (aL K xy):=D.imp fun vs H Q E h=>by
 obtain ⟨w,ds,S,Qa,ok,rep,⟨ns,k,rfl,hk,q⟩,bk⟩:=h
 obtain ⟨v,u,rfl,r1,r2⟩:=sG rep
 obtain ⟨a,rfl,h1⟩:=g9 ok r1 (sq (S:=S))
 exact ⟨a,ns,k,by rw [aY r2 rfl],h1,hk,fun z=>bk.dat .refl ok .int (q z)⟩
theorem Gy (D:Def P w K mg base 2 "_law_names" eB xm):Def P w K mg base 2 "_law_names" eB (aL K rY):=D.imp fun vs H Q E h=>by
 obtain ⟨w,ds,S,Qa,ok,rep,⟨p,m,n,rfl,hS,hn,hm,q⟩,bk⟩:=h
 obtain ⟨v,u,rfl,r1,r2⟩:=sG rep
 obtain ⟨a,rfl,ha,hf⟩:=yD ok r1 hS
 refine ⟨a,m,n,by rw [aY r2 rfl],hf,hn,hm,fun l ys H' d' hl hl' hlen hnm hnd hf' hd' hk => ?_⟩
 obtain ⟨u',hu,ho⟩:=j7 (K:=K) (w:=w) hf'
 have ok2:=x6 ok hS ha ho hu hk
 refine bk (.new (.lst (ys.map M.D.str))) _ _ w H' .refl ok2 ⟨l,_,rfl,ok.free hl,hl',⟨_,rfl,oY ys⟩,fun k o' e z => ?_⟩ (q ys d' hlen hnm hnd hd')
 obtain ⟨b,u,g1,g2,g3,g4⟩:=ok.live p _ hS
 by_cases hkp:k=p
 ·subst hkp
  rw [z] at g1;cases g1
  rw [hl] at g3;cases g3
 ·rw [zaE (Ne.symm hkp)] at e
  obtain ⟨b',u',k1,k2,k3,k4⟩:=ok.live k o' e
  rw [z] at k1;cases k1
  rw [hl] at k3;cases k3
end
open PySem PySem.Spec L2 M M6 PyProof.Rows
noncomputable abbrev Kn:=Str×List Str
noncomputable abbrev Ti:=Str×Str×Str
noncomputable abbrev fl:List Str:=["marked","tied","near"]
structure Kc where
 nm:Str
 ml:List Str
 mc:Nat
 nc:Nat
noncomputable def Kc.kn (c:Kc):Kn:=(c.nm,c.ml)
noncomputable def ng (cs:List Kc):List Str:=cs.map (·.nm)
noncomputable def kk (cs:List Kc):List Key:=cs.map fun c=>.inr c.nm
noncomputable def mO (ms:List Str):MO:=.dct (ms.map Sum.inr) (ms.map fun _=>.bl true)
noncomputable def stp (ts:List Ti) (x:Str) (j:Ti):Prop:=(j.1 = "on" ∧ (x,j.2.1,j.2.2)∈ts)∨(j.1 = "back" ∧ (j.2.2,j.2.1,x)∈ts)
noncomputable def cells (n m t e:Nat) (cs:List Kc):List Nat:=n::m::t::e::(cs.map (·.mc)++cs.map (·.nc))
structure cz (C:Addr) (W:World) (S:av) (n m t e:Nat) (cs:List Kc) (ts:List Ti) (N:Str→Ti→Prop):Prop where
 at_:S[n]? = some (some (.ins C fl [.loc m,.loc t,.loc e]))
 Ct:S[m]? = some (some (.dct (kk cs) (cs.map fun c=>.loc c.mc)))
 ti:S[t]? = some (some (nO W (ts.map T3)))
 ne:S[e]? = some (some (.dct (kk cs) (cs.map fun c=>.loc c.nc)))
 Cv:∀ c∈cs,S[c.mc]? = some (some (mO c.ml))
 Et:∀ c∈cs,∃ js:List Ti,S[c.nc]? = some (some (nO W (js.map T3)))∧js.Nodup∧js.length≤900∧(∀ j∈js,iU j=true)∧∀ j,j∈js↔N c.nm j
 nd:(cells n m t e cs).Nodup
 kn:(ng cs).Nodup
 tn:ts.Nodup
 mn:∀ c∈cs,c.ml.Nodup
 okn:∀ c∈cs,fc c.nm=true∧∀ m∈c.ml,fc m=true
 qN:∀ t∈ts,iU t=true
 tk:∀ t∈ts,t.1∈ng cs∧t.2.2∈ng cs
 kb:cs.length<64
 mb:∀ c∈cs,c.ml.length<64
 tb:ts.length≤302
noncomputable def bZ (C:Addr) (W:World) (S:av) (n:Nat) (own:List Nat) (ks:List Kn) (ts:List Ti):Prop:=∃ m t e cs,own=cells n m t e cs∧cs.map Kc.kn=ks∧cz C W S n m t e cs ts (stp ts)
noncomputable abbrev nms (ks:List Kn):List Str:=ks.map (·.1)
theorem iW (cs:List Kc):nms (cs.map Kc.kn)=ng cs:=by unfold nms ng Kc.kn;rw [zct];rfl
structure Fr (S S':av) (own own':List Nat):Prop where
 out:∀ k,k<S.length→k ∉ own→S'[k]? = S[k]?
 len:S.length≤S'.length
 new:∀ c∈own',c∈own∨S.length≤c
theorem gb {S:av}{n:Nat}{o:Option MO} (h:S[n]? = some o):n<S.length:=by
 rcases zcx n S.length with z | z
 ·exact z
 ·rw [zav z] at h;cases h
theorem eU {S:av}{n:Nat}{o o':Option MO} (h:S[n]? = some o):(S.set n o')[n]? = some o':=by
 rw [zbl,if_pos rfl,if_pos (gb h)]
theorem bh {S:av}{n k:Nat}{o':Option MO} (h:k≠n):(S.set n o')[k]? = S[k]? := zaE (Ne.symm h)
theorem dR {S:av}{n:Nat}{o:Option MO}{X:av} (h:S[n]? = some o):(S++X)[n]? = some o:=by
 rw [zag (gb h)];exact h
theorem ff {S:av}{n:Nat}{X:av} (h:n<S.length):(S++X)[n]? = S[n]? := zag h
theorem bL {S:av}{o:Option MO}:(S++[o])[S.length]? = some o:=by
 rw [zab (zcH _),Nat.sub_self];rfl
theorem bQ {S:av}{n:Nat}{o:MO} (h:S[n]? = some (some o)):aV S (.loc n)=o.d:=by simp only [aV,h]
theorem vU {C:Addr}{n i:Nat}{ks ks':List Str}{ds ds':List D}{f:Str}{o:MO}{v:AE}{δ:bw}{S:av}{Dx:gU} (hδ:δ[i]? = some (some (.loc n))) (hS:S[n]? = some (some (.ins C ks ds))) (hk:ks.length<1000) (hv:∀ Q:AK,Q (.dat (.loc S.length)) (S++[some o])→v δ S Q)
  (hp:putD f (.loc S.length) ks ds=(ks',ds')) (nx:Dx.nx δ ((S++[some o]).set n (some (.ins C ks' ds')))):Hi C (fJ i) v f Dx δ S:=by
 refine hv _ ⟨_,hδ,n,ks,ds,rfl,dR hS,hk,?_⟩
 show Dx.nx δ ((S++[some o]).set n (some (.ins C (putD f (.loc S.length) ks ds).1 (putD f (.loc S.length) ks ds).2)))
 rw [hp];exact nx
section
variable {n m t e:Nat}{cs:List Kc}
theorem Pg:n∈cells n m t e cs:=by simp [cells]
theorem OR:m∈cells n m t e cs:=by simp [cells]
theorem OQ:t∈cells n m t e cs:=by simp [cells]
theorem OS:e∈cells n m t e cs:=by simp [cells]
theorem MM {c:Kc} (h:c∈cs):c.mc∈cells n m t e cs:=by
 simp only [cells,zci,zbO,zcs]
 exact .inr (.inr (.inr (.inr (.inl ⟨c,h,rfl⟩))))
theorem Gq {c:Kc} (h:c∈cs):c.nc∈cells n m t e cs:=by
 simp only [cells,zci,zbO,zcs]
 exact .inr (.inr (.inr (.inr (.inr ⟨c,h,rfl⟩))))
structure Apart (n m t e:Nat) (cs:List Kc):Prop where
 nm:n≠m
 nt:n≠t
 ne:n≠e
 mt:m≠t
 me:m≠e
 te:t≠e
 nc:∀ c∈cs,n≠c.mc∧n≠c.nc
 mc:∀ c∈cs,m≠c.mc∧m≠c.nc
 tc:∀ c∈cs,t≠c.mc∧t≠c.nc
 ec:∀ c∈cs,e≠c.mc∧e≠c.nc
 cc:∀ c∈cs,∀ c'∈cs,c.mc≠c'.nc
 mm:(cs.map (·.mc)).Nodup
 nn:(cs.map (·.nc)).Nodup
theorem apart (h:(cells n m t e cs).Nodup):Apart n m t e cs:=by
 unfold cells at h
 rw [zbR,zbR,zbR,zbR,zbm] at h
 obtain ⟨h1,h2,h3,h4,h5,h6,h7⟩:=h
 have P:∀ {a:Nat},a ∉ (cs.map (·.mc)++cs.map (·.nc))→∀ c∈cs,a≠c.mc∧a≠c.nc:=fun {a} h c hc =>
  ⟨fun z=>h (by rw [z];exact zaD _ (zcs.mpr ⟨c,hc,rfl⟩)),fun z=>h (by rw [z];exact zau _ (zcs.mpr ⟨c,hc,rfl⟩))⟩
 simp only [zci,not_or] at h1 h2 h3
 exact ⟨h1.1,h1.2.1,h1.2.2.1,h2.1,h2.2.1,h3.1,P h1.2.2.2,P h2.2.2,P h3.2,P h4,fun c hc c' hc' z=>h7 _ (zcs.mpr ⟨c,hc,rfl⟩) _ (zcs.mpr ⟨c',hc',rfl⟩) z,h5,h6⟩
theorem iY {α β:Type}{f:α→β}:∀ {l:List α},(l.map f).Nodup→∀ a∈l,∀ b∈l,f a=f b→a=b
 | [],_,a,h,_,_,_=>by simp at h
 | x::l,hn,a,ha,b,hb,e=>by
  rw [zcj,zbR] at hn
  rcases zci.mp ha with ea | ha
  ·rcases zci.mp hb with eb | hb
   ·rw [ea,eb]
   ·exact absurd (show f x∈l.map f from zcs.mpr ⟨b,hb,by rw [← e,ea]⟩) hn.1
  ·rcases zci.mp hb with eb | hb
   ·exact absurd (show f x∈l.map f from zcs.mpr ⟨a,ha,by rw [e,eb]⟩) hn.1
   ·exact iY hn.2 a ha b hb e
end
theorem CZ (cs:List Kc) (x:Str):oG (kk cs) (.inr x)=decide (x∈ng cs):=by
 unfold oG kk
 rw [zcq]
 by_cases h:x∈ng cs
 ·rw [decide_eq_true h]
  obtain ⟨k,hk,rfl⟩:=zcs.mp h
  exact zbI.mpr ⟨k,hk,by simp⟩
 ·rw [decide_eq_false h]
  refine zbg.mpr fun k hk z=>h ?_
  have z:(Sum.inr k.nm:Key) = .inr x:=of_decide_eq_true z
  injection z with z
  exact zcs.mpr ⟨k,hk,z⟩
theorem C2:∀ {cs:List Kc}{x:Str},x∈ng cs→∃ c∈cs,c.nm=x∧∀ f:Kc→D,nQ (kk cs) (cs.map f) (.inr x)=some (f c)
 | [],x,h=>by simp [ng] at h
 | k::ks,x,h=>by
  by_cases e:k.nm=x
  ·refine ⟨k,zaS ..,e,fun f => ?_⟩
   unfold nQ kk
   rw [zcj,zcj,zaV,zbS,decide_eq_true (show (Sum.inr k.nm:Key) = .inr x by rw [e])];rfl
  ·have hx:x∈ng ks:=by
    rcases zci.mp (show x∈k.nm::ng ks from h) with z | z
    ·exact absurd z.symm e
    ·exact z
   obtain ⟨c,hc,h1,h2⟩:=C2 hx
   refine ⟨c,zaC _ hc,h1,fun f => ?_⟩
   have:=h2 f
   unfold nQ kk at this ⊢
   rw [zcj,zcj,zaV,zbS,decide_eq_false (fun z=>e (by injection z))]
   exact this
theorem B0 {cs:List Kc}{c:Kc}{f:Kc→D} (h:c.nm ∉ ng cs):nP (kk cs) (cs.map f) (.inr c.nm) (f c) = .dct (kk (cs++[c])) ((cs++[c]).map f):=by
 have:=CZ cs c.nm
 rw [decide_eq_false h] at this
 unfold oG at this
 unfold nP
 rw [this,if_neg (by decide)]
 unfold kk
 rw [zbV,zbV];rfl
theorem Dj (a:List Str) (m:Str):oG (a.map Sum.inr) (.inr m)=decide (m∈a):=by
 unfold oG
 rw [zcq]
 by_cases h:m∈a
 ·rw [decide_eq_true h]
  exact zbI.mpr ⟨m,h,by simp⟩
 ·rw [decide_eq_false h]
  refine zbg.mpr fun k hk z=>h ?_
  have z:(Sum.inr k:Key) = .inr m:=of_decide_eq_true z
  injection z with z
  rw [← z];exact hk
theorem Hu (js:List Ti) (j:Ti) (hn:js.Nodup):∃ js':List Ti,putN (js.map T3) (T3 j)=js'.map T3∧js'.Nodup∧js'.length≤js.length+1∧∀ i,i∈js'↔i∈js∨i=j:=by
 by_cases h:j∈js
 ·refine ⟨js,?_,hn,by omega,fun i=>⟨.inl,fun z=>z.elim id fun e=>e ▸ h⟩⟩
  have:=JR js j
  rw [decide_eq_true h] at this
  unfold putN
  unfold z7 at this
  rw [this,if_pos rfl]
 ·refine ⟨js++[j],put3 h,?_,by simp,fun i=>by simp⟩
  refine zbm.mpr ⟨hn,by simp,fun x hx y hy z=>h ?_⟩
  have:y=j:=by simpa using hy
  rw [← this,← z];exact hx
theorem w6 {ts js:List Ti}{x:Str} (hn:js.Nodup) (h:∀ j∈js,stp ts x j):js.length≤2*ts.length:=by
 have:=L2.kh (l:=js) (m:=(ts.map fun t=>(("on",t.2.1,t.2.2):Ti))++(ts.map fun t=>(("back",t.2.1,t.1):Ti))) hn fun j hj=>by
  obtain ⟨a,b,c⟩:=j
  rcases h _ hj with ⟨e,g⟩ | ⟨e,g⟩
  ·have e:a = "on" := e
   subst e
   exact zaD _ (zcs.mpr ⟨_,g,rfl⟩)
  ·have e:a = "back" := e
   subst e
   exact zau _ (zcs.mpr ⟨_,g,rfl⟩)
 rw [zaU,zbP,zbP] at this
 omega
section
variable {C:Addr}{W:World}{S S':av}{n m t e:Nat}{cs:List Kc}{ts:List Ti}{N N':Str→Ti→Prop}
theorem cz.frame (X:cz C W S n m t e cs ts N) (h:∀ c∈cells n m t e cs,S'[c]? = S[c]?):cz C W S' n m t e cs ts N :=
 ⟨by rw [h _ Pg];exact X.at_,by rw [h _ OR];exact X.Ct,by rw [h _ OQ];exact X.ti,by rw [h _ OS];exact X.ne,fun c hc=>by rw [h _ (MM hc)];exact X.Cv c hc,fun c hc=>by rw [h _ (Gq hc)];exact X.Et c hc,X.nd,X.kn,X.tn,X.mn,X.okn,X.qN,X.tk,X.kb,X.mb,X.tb⟩
theorem cz.near (X:cz C W S n m t e cs ts N) {c:Kc} (hc:c∈cs) {js:List Ti} (h1:js.Nodup) (h2:js.length≤900) (h3:∀ j∈js,iU j=true) (h4:∀ j,j∈js↔N' c.nm j) (h5:∀ x,x≠c.nm→∀ j,N x j↔N' x j) :
  cz C W (S.set c.nc (some (nO W (js.map T3)))) n m t e cs ts N':=by
 have A:=apart X.nd
 obtain ⟨js0,g0,_⟩:=X.Et c hc
 refine ⟨by rw [bh (A.nc c hc).2];exact X.at_,by rw [bh (A.mc c hc).2];exact X.Ct,by rw [bh (A.tc c hc).2];exact X.ti,by rw [bh (A.ec c hc).2];exact X.ne,fun c' hc'=>by rw [bh (A.cc c' hc' c hc)];exact X.Cv c' hc',fun c' hc' => ?_,X.nd,X.kn,X.tn,X.mn,X.okn,X.qN,X.tk,X.kb,X.mb,X.tb⟩
 by_cases z:c'.nc=c.nc
 ·have:c'=c:=iY A.nn c' hc' c hc z
  subst this
  exact ⟨js,eU g0,h1,h2,h3,h4⟩
 ·obtain ⟨js',k1,k2,k3,k4,k5⟩:=X.Et c' hc'
  refine ⟨js',by rw [bh z];exact k1,k2,k3,k4,fun j=>(k5 j).trans (h5 c'.nm (fun y=>z ?_) j)⟩
  rw [iY X.kn c' hc' c hc y]
theorem cz.Ii (X:cz C W S n m t e cs ts N) {ts':List Ti} (h1:ts'.Nodup) (h2:∀ t∈ts',iU t=true) (h3:∀ t∈ts',t.1∈ng cs∧t.2.2∈ng cs) (h4:ts'.length≤302) :
  cz C W (S.set t (some (nO W (ts'.map T3)))) n m t e cs ts' N:=by
 have A:=apart X.nd
 exact ⟨by rw [bh A.nt];exact X.at_,by rw [bh A.mt];exact X.Ct,eU X.ti,by rw [bh (Ne.symm A.te)];exact X.ne,fun c hc=>by rw [bh (Ne.symm (A.tc c hc).1)];exact X.Cv c hc,
  fun c hc=>by rw [bh (Ne.symm (A.tc c hc).2)];exact X.Et c hc,X.nd,X.kn,h1,X.mn,X.okn,h2,h3,X.kb,X.mb,h4⟩
theorem Fr.set {own:List Nat}{k:Nat}{o:Option MO} (h:k∈own):Fr S (S.set k o) own own :=
 ⟨fun i _ hi=>bh fun z=>hi (z ▸ h),by rw [zbW];exact zcH _,fun c h=>.inl h⟩
theorem Fr.trans {S1 S2:av}{o1 o2 o3:List Nat} (a:Fr S S1 o1 o2) (b:Fr S1 S2 o2 o3):Fr S S2 o1 o3:=by
 refine ⟨fun k hk hn => ?_,zcv a.len b.len,fun c hc => ?_⟩
 ·rw [b.out k (zaZ hk a.len) fun z => ?_,a.out k hk hn]
  rcases a.new k z with h | h
  ·exact hn h
  ·omega
 ·rcases b.new c hc with h | h
  ·exact a.new c h
  ·exact .inr (zcv a.len h)
end
open PySem PySem.Spec L2 M M6 PyProof.Rows
noncomputable abbrev oX:Stmt:=inClass (top 14) 0
noncomputable abbrev zg:List Str:=["self"]
noncomputable abbrev dG:List Str:=["self"]
theorem IG:az zg dG (ai oX):=⟨rfl,rfl,rfl,by decide +kernel,rfl,by decide +kernel,by decide +kernel⟩
noncomputable abbrev xJ:Stmt:=inClass (top 14) 1
noncomputable abbrev za:List Str:=["self","name","marks"]
noncomputable abbrev iy:List Str:=["self","name","marks"]
theorem IB:az za iy (ai xJ):=⟨rfl,rfl,rfl,by decide +kernel,rfl,by decide +kernel,by decide +kernel⟩
noncomputable abbrev xH:Stmt:=inClass (top 14) 3
noncomputable abbrev y9:List Str:=["self","one","word","other"]
noncomputable abbrev iw:List Str:=["self","one","word","other"]
theorem IA:az y9 iw (ai xH):=⟨rfl,rfl,rfl,by decide +kernel,rfl,by decide +kernel,by decide +kernel⟩
noncomputable abbrev Fb:Stmt:=inClass (top 14) 9
noncomputable abbrev Ei:List Str:=["self","one","word","other"]
noncomputable abbrev nY:List Str:=["self","one","word","other"]
theorem Ln:az Ei nY (ai Fb):=⟨rfl,rfl,rfl,by decide +kernel,rfl,by decide +kernel,by decide +kernel⟩
noncomputable abbrev xM:Stmt:=inClass (top 14) 13
noncomputable abbrev zb:List Str:=["self","name"]
noncomputable abbrev fZ:List Str:=["self","name"]
theorem IC:az zb fZ (ai xM):=⟨rfl,rfl,rfl,by decide +kernel,rfl,by decide +kernel,by decide +kernel⟩
noncomputable abbrev xO:Stmt:=inClass (top 14) 14
noncomputable abbrev ze:List Str:=["self","name","marks"]
noncomputable abbrev jT:List Str:=["self","name","marks"]
theorem IF:az ze jT (ai xO):=⟨rfl,rfl,rfl,by decide +kernel,rfl,by decide +kernel,by decide +kernel⟩
noncomputable abbrev sr:Stmt:=inClass (top 14) 15
noncomputable abbrev rH:List Str:=["self","one","word","other"]
noncomputable abbrev jS:List Str:=["self","one","word","other"]
theorem IE:az rH jS (ai sr):=⟨rfl,rfl,rfl,by decide +kernel,rfl,by decide +kernel,by decide +kernel⟩
section
variable {C:Addr}{W:World}{S S':av}{n m t e:Nat}{cs:List Kc}{ts:List Ti}{N N':Str→Ti→Prop}
theorem cz.lt (X:cz C W S n m t e cs ts N):∀ c∈cells n m t e cs,c<S.length:=fun c hc=>by
 simp only [cells,zci,zbO,zcs] at hc
 rcases hc with rfl | rfl | rfl | rfl | ⟨d,hd,rfl⟩ | ⟨d,hd,rfl⟩
 ·exact gb X.at_
 ·exact gb X.Ct
 ·exact gb X.ti
 ·exact gb X.ne
 ·exact gb (X.Cv d hd)
 ·obtain ⟨js,h,_⟩:=X.Et d hd
  exact gb h
theorem cz.app (X:cz C W S n m t e cs ts N) {Y:av}:cz C W (S++Y) n m t e cs ts N:=X.frame fun c hc=>ff (X.lt c hc)
theorem cz.Mb (X:cz C W S n m t e cs ts N) (h:∀ x j,N x j↔N' x j):cz C W S n m t e cs ts N' :=
 ⟨X.at_,X.Ct,X.ti,X.ne,X.Cv,fun c hc=>by
  obtain ⟨js,k1,k2,k3,k4,k5⟩:=X.Et c hc
  exact ⟨js,k1,k2,k3,k4,fun j=>(k5 j).trans (h _ _)⟩,X.nd,X.kn,X.tn,X.mn,X.okn,X.qN,X.tk,X.kb,X.mb,X.tb⟩
theorem bZ.frame {own:List Nat}{ks:List Kn} (h:bZ C W S n own ks ts) (hf:∀ c∈own,S'[c]? = S[c]?):bZ C W S' n own ks ts:=by
 obtain ⟨m,t,e,cs,rfl,rfl,X⟩:=h
 exact ⟨m,t,e,cs,rfl,rfl,X.frame hf⟩
theorem pJ (X:cz C W S n m t e cs ts N) {i:Nat}{δ:bw}{Q:AK} (hδ:δ[i]? = some (some (.loc n))) (q:Q (.dat (.loc m)) S):DO C (fJ i) "marked" δ S Q:=⟨_,hδ,n,_,_,_,rfl,X.at_,rfl,q⟩
theorem yz (X:cz C W S n m t e cs ts N) {i:Nat}{δ:bw}{Q:AK} (hδ:δ[i]? = some (some (.loc n))) (q:Q (.dat (.loc t)) S):DO C (fJ i) "tied" δ S Q:=⟨_,hδ,n,_,_,_,rfl,X.at_,rfl,q⟩
theorem C6 (X:cz C W S n m t e cs ts N) {i:Nat}{δ:bw}{Q:AK} (hδ:δ[i]? = some (some (.loc n))) (q:Q (.dat (.loc e)) S):DO C (fJ i) "near" δ S Q:=⟨_,hδ,n,_,_,_,rfl,X.at_,rfl,q⟩
theorem Mm (X:cz C W S n m t e cs ts N) {neg:Bool}{x:Str}{Q:AK} (q:Q (.dat (.bl (neg != decide (x∈ng cs)))) S):Al neg (.str x) (.loc m) S Q:=by
 unfold Al
 rw [bQ X.Ct]
 refine ⟨.inr x,rfl,?_⟩
 rw [CZ];exact q
theorem jF {a b:AE}{Q:AK}{δ:bw}{S:av} (h:a δ S fun r1 S1=>b δ S1 fun r2 S2=>∃ ks ds k d,aV S2 r1.d = .dct ks ds∧keyOf r2.d=some k∧nQ ks ds k=some d∧Q (.dat d) S2):wo a b δ S Q:=h
theorem qO {W:World}{a b:AE}{Dx:gU}{δ:bw}{S:av} (h:a δ S fun r1 S2=>b δ S2 fun r2 S3=>∃ n ks,r1.d = .loc n∧S3[n]? = some (some (nO W ks))∧iM r2.d∧(∀ k∈ks,iM k)∧ks.length<1000∧Dx.nx δ (S3.set n (some (nO W (putN ks r2.d))))) :
  DL W a b (aC (.bl true)) Dx δ S:=by
 refine cast (congrArg (fun z=>a δ S z) ?_) h
 funext r1 S2
 refine congrArg (fun z=>b δ S2 z) ?_
 funext r2 S3
 refine propext ⟨?_,?_⟩
 ·rintro ⟨n,ks,h1,h2⟩
  exact ⟨n,ks,rfl,h1,h2⟩
 ·rintro ⟨n,ks,_,h1,h2⟩
  exact ⟨n,ks,h1,h2⟩
theorem nS (c:Kc):(cells n m t e (cs++[c])).Perm (c.mc::c.nc::cells n m t e cs):=by
 refine List.perm_iff_count.mpr fun z => ?_
 simp only [cells,zbV,zcj,zcp,List.count_append,List.count_cons,List.count_nil]
 omega
noncomputable def Ew (ms:List Str):List (Key×D):=ms.map fun m=>(.inr m,.bl true)
theorem yL:∀ (ms a:List Str),(a++ms).Nodup→(Ew ms).foldl AB (a.map Sum.inr,a.map fun _=>.bl true)=((a++ms).map Sum.inr,(a++ms).map fun _=>.bl true)
 | [],a,_=>by rw [zbQ];rfl
 | m::ms,a,h=>by
  show (Ew ms).foldl AB (AB (a.map Sum.inr,a.map fun _=>.bl true) (.inr m,.bl true))=_
  have hm:m ∉ a:=fun z=>by
   rw [zbm] at h
   exact h.2.2 m z m (by simp) rfl
  have e:AB (a.map Sum.inr,a.map fun _=>D.bl true) (.inr m,.bl true)=((a++[m]).map Sum.inr,(a++[m]).map fun _=>.bl true):=by
   unfold AB
   rw [Dj,decide_eq_false hm,if_neg (by decide),zbV,zbV];rfl
  rw [e,yL ms (a++[m]) (by simpa using h)]
  simp
theorem Gm {ms:List Str} (h:ms.Nodup):MO.dct (rm (Ew ms)).1 (rm (Ew ms)).2=mO ms:=by
 have:=yL ms [] (by simpa using h)
 unfold rm mO
 have this:(Ew ms).foldl AB ([],[])=_:=this
 rw [this];rfl
end
local macro_rules
 | `(tactic| push_cast [$xs,*]) => `(tactic| simp only [$xs,*,Ky,MR,DV,OX,MS,aCall,iL,kG,fJ,aC,AF,aUn,aB,Kv,aIf,uB,KG,KA,GP,OY,DT,bD,DK,nX,OW,DJ,lV,DP,Gz,DM,gn,BS,ye,FQ,FH,KH,DF,DE,F8,lN,Ig,EE,EC,true_and,MY,MW,BB,sj,EV,BA,sf,jg,By,sq,zao,zan,zaY,List.set_cons_succ,zcL.injEq,exists_eq_left',zcN.injEq,and_true,D.ty.injEq,D.bl.injEq,D.int.injEq,D.str.injEq,and_assoc,exists_and_left,exists_eq_left,exists_and_right,iP,Fc,zbc,if_true,if_false,Bool.not_true,Bool.not_false])
section
variable {P:Program}{w:World}{K:PySem.W.Frag}{mg:Str→Option Value}{base:Heap}{C fi:Addr}
theorem bX {m:Str}{sp:AN}{t:AA}{δ:bw}{S:av}{Q:AK}{n i:Nat}{ds:List D} (hδ:δ[i]? = some (some (.loc n))) (hS:S[n]? = some (some (.ins C fl ds))) (hm:m ∉ fl) (h:t δ S fun es S2=>sp (.loc n::es) S2 Q):yQ C m sp (fJ i) t δ S Q:=⟨_,hδ,n,_,_,rfl,hS,hm,h⟩
noncomputable def qi (C:Addr) (W:World):AN:=fun ds S Q=>∃ n x own ks ts,ds=[.loc n,.str x]∧bZ C W S n own ks ts∧x∈nms ks∧Q (.dat .bH) S
theorem J7 (T:Txt K mg C fi) (F:ef K C "need_knot" "Web.need_knot" fZ xM):c6 P w K mg base 1 C "need_knot" fZ (qi C w):=by
 refine iH F IC (fun ds S Q h => ?_) (fun f cdv A outer s H E hr => ?_)
 ·obtain ⟨n,x,own,ks,ts,rfl,_⟩:=h;rfl
 ·refine ⟨_,(M.aj (M.cu (M.aK (M.Ci hr) (M.pv 1) (M.cJ (M.pv 0) T.cl T.d9) rfl)
    (M.aj M.dM)
    M.bz)),fun ds S Q h => ?_⟩
  obtain ⟨n,x,own,ks,ts,rfl,⟨m,t,e,cs,rfl,rfl,X⟩,hx,q⟩:=h
  have e0:aN zb [.loc n,.str x]=[some (.loc n),some (.str x)]:=rfl
  rw [e0]
  push_cast [true_and]
  rw [iW] at hx
  refine pJ X rfl (Mm X ⟨_,rfl,?_⟩)
  rw [decide_eq_true hx,if_neg (by decide)]
  exact q
noncomputable def Hf (C:Addr) (W:World):AN:=fun ds S Q=>∃ n x own ks ts,ds=[.loc n,.str x.1,.str x.2.1,.str x.2.2]∧bZ C W S n own ks ts∧iU x=true∧Q (.dat (.bl (decide (x∈ts)))) S
theorem MD (T:Txt K mg C fi) (F:ef K C "has_tie" "Web.has_tie" nY Fb):c6 P w K mg base 1 C "has_tie" nY (Hf C w):=by
 refine iH F Ln (fun ds S Q h => ?_) (fun f cdv A outer s H E hr => ?_)
 ·obtain ⟨n,x,own,ks,ts,rfl,_⟩:=h;rfl
 ·refine ⟨_,(M.aj (M.aO (M.fT (M.LY hr) (M.bO (M.ao (M.pv 1) (M.ao (M.pv 2) (M.ao (M.pv 3) M.aa)))) (M.cJ (M.pv 0) T.cl T.n_tied) rfl))),fun ds S Q h => ?_⟩
  obtain ⟨n,x,own,ks,ts,rfl,⟨m,t,e,cs,rfl,rfl,X⟩,hx,q⟩:=h
  have e0:aN Ei [.loc n,.str x.1,.str x.2.1,.str x.2.2]=[some (.loc n),some (.str x.1),some (.str x.2.1),some (.str x.2.2)]:=rfl
  rw [e0]
  push_cast [true_and]
  refine ⟨by show 3≤sizeLine;decide,yz X rfl ⟨t,_,rfl,X.ti,good3 hx,(jf X.qN).good,?_⟩⟩
  rw [JR,show (false != decide (x∈ts))=decide (x∈ts) by cases decide (x∈ts) <;> rfl]
  exact q
noncomputable def qj (C:Addr) (W:World):AN:=fun ds S Q=>∃ n,ds=[.loc n]∧S.length=n+1∧S[n]? = some (some (.ins C [] []))∧∀ S',bZ C W S' n [n,n+1,n+2,n+3] [] []→(∀ k,k<n→S'[k]? = S[k]?)→S'.length=n+4→Q (.dat .bH) S'
theorem Kf {f:Addr}{fd:FuncData} (T:Txt K mg C fi) (F:Ey K "__init__" "Web.__init__" oX f fd):dO P w K mg base kQ 1 f fd dG (aL K (qj C w)):=by
 refine Om F IG (fun ds S Q h => ?_) (fun f cdv A outer s H E hr => ?_)
 ·obtain ⟨n,rfl,_⟩:=h;rfl
 ·refine ⟨_,(M.af (M.mZ (M.pv 0) (M.AD M.jv) T.cl T.d9)
   (M.af (M.mZ (M.pv 0) (M.AD M.ju) T.cl T.n_tied)
   (M.aj (M.mZ (M.pv 0) (M.AD M.jv) T.cl T.n_near)))),fun ds S Q h => ?_⟩
  obtain ⟨n,rfl,hl,hn,q⟩:=h
  have e0:aN zg [.loc n]=[some (.loc n)]:=rfl
  rw [e0]
  push_cast [true_and]
  have p2:∀ a c:D,putD "tied" c ["marked"] [a]=((["marked","tied"]:List Str),[a,c]):=fun a c=>by
   unfold putD;rw [if_neg (by decide +kernel)];rfl
  have p3:∀ a c d:D,putD "near" d ["marked","tied"] [a,c]=((["marked","tied","near"]:List Str),[a,c,d]):=fun a c d=>by
   unfold putD;rw [if_neg (by decide +kernel)];unfold putD;rw [if_neg (by decide +kernel)];rfl
  refine vU (o:=.dct [] []) rfl hn (by decide) (fun _ q=>q) rfl ?_
  generalize e1:(S++[some (MO.dct [] [])]).set n _=S1
  have l1:S1.length=n+2:=by rw [← e1,zbW,zaU];simp;omega
  have a1:S1[n]? = some (some (.ins C ["marked"] [.loc S.length])):=by rw [← e1];exact eU (dR hn)
  simp only [uB]
  refine vU (o:=nO w []) rfl a1 (by decide) (fun _ q=>q) (p2 _ _) ?_
  generalize e2:(S1++[some (nO w [])]).set n _=S2
  have l2:S2.length=n+3:=by rw [← e2,zbW,zaU];simp;omega
  have a2:S2[n]? = some (some (.ins C ["marked","tied"] [.loc S.length,.loc S1.length])):=by rw [← e2];exact eU (dR a1)
  try simp only [uB]
  refine vU (o:=.dct [] []) rfl a2 (by decide) (fun _ q=>q) (p3 _ _ _) ?_
  generalize e3:(S2++[some (MO.dct [] [])]).set n _=S3
  have l3:S3.length=n+4:=by rw [← e3,zbW,zaU];simp;omega
  refine q S3 ⟨n+1,n+2,n+3,[],rfl,rfl,⟨?_,?_,?_,?_,by simp,by simp,?_,.nil,.nil,by simp,by simp,by simp,by simp,by decide,by simp,by decide⟩⟩ (fun k hk => ?_) l3
  ·rw [← e3]
   have:=eU (o':=some (.ins C ["marked","tied","near"] [.loc S.length,.loc S1.length,.loc S2.length])) (dR (X:=[some (.dct [] [])]) a2)
   rw [this,hl,l1,l2]
  ·rw [← e3,bh (by omega),ff (by omega),← e2,bh (by omega),ff (by omega),← e1,bh (by omega),show n+1=S.length by omega]
   exact bL
  ·rw [← e3,bh (by omega),ff (by omega),← e2,bh (by omega),show n+2=S1.length by omega]
   exact bL
  ·rw [← e3,bh (by omega),show n+3=S2.length by omega]
   exact bL
  ·simp only [cells,zcp,zbQ,zbR,zci,zbE,or_false]
   refine ⟨by omega,by omega,by omega,by simp,.nil⟩
  ·rw [← e3,bh (by omega),ff (by omega),← e2,bh (by omega),ff (by omega),← e1,bh (by omega),ff (by omega)]
noncomputable def x8 (C:Addr) (W:World) (S:av) (n:Nat) (own:List Nat) (ks:List Kn) (ts:List Ti) (Q:AK):Prop:=∀ S' own',bZ C W S' n own' ks ts→Fr S S' own own'→Q (.dat .bH) S'
noncomputable def G1 (mk:D) (ms:List Str):Prop:=mk = .lst (ms.map D.str)∨mk = .tup (ms.map D.str)
theorem G1.walk {mk:D}{ms:List Str} (h:G1 mk ms) {S:av}{Q:List D→(av→Prop)→av→Prop} (q:Q (ms.map D.str) (fun _=>True) S):yp S Q mk:=by
 rcases h with rfl | rfl <;> exact q
noncomputable def Bq (C:Addr) (W:World):AN:=fun ds S Q=>∃ n x mk ms own ks ts,ds=[.loc n,.str x,mk]∧G1 mk ms∧bZ C W S n own ks ts∧x ∉ nms ks∧ks.length<63∧ms.length<64∧ms.Nodup∧fc x=true∧(∀ m∈ms,fc m=true) ∧
 x8 C W S n own (ks++[(x,ms)]) ts Q
theorem Ka (T:Txt K mg C fi) (F:ef K C "lay_knot" "Web.lay_knot" jT xO):c6 P w K mg base 1 C "lay_knot" jT (Bq C w):=by
 refine iH F IF (fun ds S Q h => ?_) (fun f cdv A outer s H E hr => ?_)
 ·obtain ⟨n,x,mk,ms,own,ks,ts,rfl,_⟩:=h;rfl
 ·refine ⟨_,(M.af (M.sN (jD hr) (M.cJ (M.pv 0) T.cl T.d9) (M.pv 1) (M.AD (M.qL (M.FE hr) (by rfl) T.dict (by decide +kernel) (M.ao (M.b6 (N:=["mark"]) (caps:=[none]) (cM (by decide +kernel)) (by rfl) (by rfl) rfl (M.bT (M.pv 2)) (fun _ _ _ _=>(M.aq (i:=0) (by decide +kernel:List.Nodup (["mark"]:List Str)) rfl (Or.inl rfl))) (fun _ _ _ _=>M.bx) (fun _ _ _ _=>(M.bO (M.ao (M.pv 0) (M.ao M.fz M.aa))))) M.aa))) rfl)
   (M.aj (M.sN (jD hr) (M.cJ (M.pv 0) T.cl T.n_near) (M.pv 1) (M.AD M.ju) rfl))),fun ds S Q h => ?_⟩
  obtain ⟨n,x,mk,ms,own,ks,ts,rfl,hmk,⟨m,t,e,cs,rfl,rfl,X⟩,hx,hkl,hml,hmn,ox,oms,q⟩:=h
  have e0:aN ze [.loc n,.str x,mk]=[some (.loc n),some (.str x),some mk]:=rfl
  rw [e0]
  rw [iW] at hx
  rw [zbP] at hkl
  push_cast [true_and]
  have A':=apart X.nd
  refine ⟨_,rfl,hmk.walk ?_⟩
  show bR (fun _=>True) (bD 0) gg _ (ms.map D.str) [] _ S _
  refine comp_map (δ:=gG [none] [some (.loc n),some (.str x),some mk]) (fun d=>.tup [d,.bl true]) trivial (ms.map D.str) [] _ rfl (fun y hy Q' q'=>⟨_,rfl,by show 2≤sizeLine;decide,q'⟩) (by rw [zbP,sizeLine_eq];simp;omega) ?_
  refine ⟨_,Ew ms,rfl,?_,by unfold Ew;rw [zbP];omega,?_⟩
  ·show D.lst _=D.lst _
   rw [zbU,zct]
   unfold Ew
   rw [zct];rfl
  show DO _ _ _ _ (S++[some (MO.dct (rm (Ew ms)).1 (rm (Ew ms)).2)]) _
  rw [Gm hmn]
  have X1:=X.app (Y:=[some (mO ms)])
  have lS:(S++[some (mO ms)]).length=S.length+1:=by simp
  let c:Kc:=⟨x,ms,S.length,S.length+1⟩
  refine pJ X1 rfl ⟨_,rfl,m,_,_,.inr x,rfl,rfl,X1.Ct,by rw [zbP];omega,?_⟩
  have p1:nP (kk cs) (cs.map fun c=>D.loc c.mc) (.inr x) (.loc S.length) = .dct (kk (cs++[c])) ((cs++[c]).map fun c=>.loc c.mc):=B0 (c:=c) (f:=fun c=>.loc c.mc) hx
  have p2:nP (kk cs) (cs.map fun c=>D.loc c.nc) (.inr x) (.loc (S.length+1)) = .dct (kk (cs++[c])) ((cs++[c]).map fun c=>.loc c.nc):=B0 (c:=c) (f:=fun c=>.loc c.nc) hx
  dsimp only
  rw [show (R.dat (D.loc S.length)).d=D.loc S.length from rfl,p1]
  generalize e1:(S++[some (mO ms)]).set m _=S1
  have l1:S1.length=S.length+1:=by rw [← e1,zbW,lS]
  have o1:∀ k,k≠m→S1[k]? = (S++[some (mO ms)])[k]? := fun k hk=>by rw [← e1,bh hk]
  have m1:S1[m]? = some (some (.dct (kk (cs++[c])) ((cs++[c]).map fun c=>.loc c.mc))):=by rw [← e1];exact eU X1.Ct
  refine ⟨_,rfl,n,_,_,_,rfl,dR (by rw [o1 n A'.nm];exact X1.at_),rfl,_,rfl,e,_,_,.inr x,rfl,rfl,dR (by rw [o1 e (Ne.symm A'.me)];exact X1.ne),by rw [zbP];omega,?_⟩
  show Q (.dat .bH) ((S1++[some (nO w [])]).set e (some (nP (kk cs) (cs.map fun c=>D.loc c.nc) (.inr x) (.loc S1.length))))
  rw [l1,p2]
  generalize e2:(S1++[some (nO w [])]).set e _=S2
  have l2:S2.length=S.length+2:=by rw [← e2,zbW,zaU,l1];rfl
  have el:=X.lt e OS
  have ml:=X.lt m OR
  have o2:∀ k,k<S.length→k≠m→k≠e→S2[k]? = S[k]? := fun k hk h1 h2=>by rw [← e2,bh h2,ff (by omega),o1 k h1,ff hk]
  have m2:S2[m]? = some (some (.dct (kk (cs++[c])) ((cs++[c]).map fun c=>.loc c.mc))):=by rw [← e2,bh A'.me];exact dR m1
  have n2:S2[e]? = some (some (.dct (kk (cs++[c])) ((cs++[c]).map fun c=>.loc c.nc))):=by rw [← e2];exact eU (dR (by rw [o1 e (Ne.symm A'.me)];exact X1.ne))
  have c1:S2[S.length]? = some (some (mO ms)):=by rw [← e2,bh (by omega),ff (by omega),o1 _ (by omega)];exact bL
  have c2:S2[S.length+1]? = some (some (nO w [])):=by rw [← e2,bh (by omega),← l1];exact bL
  have hxx:∀ j,¬ stp ts x j:=fun j z=>by
   rcases z with ⟨_,z⟩ | ⟨_,z⟩
   ·exact hx (X.tk _ z).1
   ·exact hx (X.tk _ z).2
  have mem:∀ c'∈cs++[c],c'∈cs∨c'=c:=fun c' h=>by simpa using h
  have L6:ng (cs++[c])=ng cs++[x]:=by unfold ng;rw [zbV];rfl
  refine q S2 _ ⟨m,t,e,cs++[c],rfl,by rw [zbV];rfl,⟨?_,m2,?_,n2,fun c' hc' => ?_,fun c' hc' => ?_,?_,?_,X.tn,fun c' hc' => ?_,fun c' hc' => ?_,X.qN,fun t' ht' => ?_,by rw [zaU];simp;omega,fun c' hc' => ?_,X.tb⟩⟩ ⟨fun k hk hn => ?_,by omega,fun c' hc' => ?_⟩
  ·rw [o2 n (X.lt n Pg) A'.nm A'.ne];exact X.at_
  ·rw [o2 t (X.lt t OQ) (Ne.symm A'.mt) A'.te];exact X.ti
  ·rcases mem c' hc' with h | rfl
   ·rw [o2 _ (X.lt _ (MM h)) (Ne.symm (A'.mc c' h).1) (Ne.symm (A'.ec c' h).1)];exact X.Cv c' h
   ·exact c1
  ·rcases mem c' hc' with h | rfl
   ·rw [o2 _ (X.lt _ (Gq h)) (Ne.symm (A'.mc c' h).2) (Ne.symm (A'.ec c' h).2)];exact X.Et c' h
   ·exact ⟨[],c2,.nil,by simp,by simp,fun j=>⟨fun z=>by simp at z,fun z=>(hxx j z).elim⟩⟩
  ·refine (nS c).nodup_iff.mpr ?_
   have b1:S.length ∉ cells n m t e cs:=fun z=>by have:=X.lt _ z;omega
   have b2:S.length+1 ∉ cells n m t e cs:=fun z=>by have:=X.lt _ z;omega
   refine zbR.mpr ⟨fun z => ?_,zbR.mpr ⟨b2,X.nd⟩⟩
   rcases zci.mp z with z | z
   ·have z:S.length=S.length+1:=z
    omega
   ·exact b1 z
  ·rw [L6]
   refine zbm.mpr ⟨X.kn,by simp,fun a ha b hb z=>hx ?_⟩
   have:b=x:=by simpa using hb
   rw [← this,← z];exact ha
  ·rcases mem c' hc' with h | rfl
   ·exact X.mn c' h
   ·exact hmn
  ·rcases mem c' hc' with h | rfl
   ·exact X.okn c' h
   ·exact ⟨ox,oms⟩
  ·rw [L6]
   exact ⟨zaD _ (X.tk t' ht').1,zaD _ (X.tk t' ht').2⟩
  ·rcases mem c' hc' with h | rfl
   ·exact X.mb c' h
   ·exact hml
  ·exact o2 k hk (fun z=>hn (z ▸ OR)) fun z=>hn (z ▸ OS)
  ·have:=(nS c).mem_iff.mp hc'
   rcases zci.mp this with z | z
   ·exact .inr (by rw [z];exact zcH _)
   ·rcases zci.mp z with z | z
    ·exact .inr (by rw [z];exact zcJ _)
    ·exact .inl z
noncomputable def u5 (C:Addr) (W:World):AN:=fun ds S Q=>∃ n x mk ms own ks ts,ds=[.loc n,.str x,mk]∧G1 mk ms∧bZ C W S n own ks ts∧x ∉ nms ks∧ks.length<40∧ms.length<64∧ms.Nodup∧fc x=true∧(∀ m∈ms,fc m=true) ∧
 x8 C W S n own (ks++[(x,ms)]) ts Q
theorem J5 (T:Txt K mg C fi) (F:ef K C "put_knot" "Web.put_knot" iy xJ) (D_lay_knot:c6 P w K mg base 1 C "lay_knot" jT (Bq C w)):c6 P w K mg base 2 C "put_knot" iy (u5 C w):=by
 refine iH F IB (fun ds S Q h => ?_) (fun f cdv A outer s H E hr => ?_)
 ·obtain ⟨n,x,mk,ms,own,ks,ts,rfl,_⟩:=h;rfl
 ·refine ⟨_,(M.af (M.cu (M.aK (M.LZ hr) (M.pv 1) (M.cJ (M.pv 0) T.cl T.d9) rfl)
    (M.aj M.dM)
    M.bz)
   (M.af (M.cu (M.aK M.Jw (M.eX M.fB (by rfl) T.len (by decide +kernel) (M.ao (M.cJ (M.pv 0) T.cl T.d9) M.aa)) T.ou (bC _))
    (M.aj M.dM)
    M.bz)
   (M.aj (M.aZ (M.b5 (M.pv 0) T.cl D_lay_knot (hr.mono (by decide)) (M.ao (M.pv 1) (M.ao (M.pv 2) M.aa))))))),fun ds S Q h => ?_⟩
  obtain ⟨n,x,mk,ms,own,ks,ts,rfl,hmk,⟨m,t,e,cs,rfl,rfl,X⟩,hx,hkl,hml,hmn,ox,oms,q⟩:=h
  have e0:aN za [.loc n,.str x,mk]=[some (.loc n),some (.str x),some mk]:=rfl
  rw [e0]
  have hx':=hx
  rw [iW] at hx'
  rw [zbP] at hkl
  push_cast [true_and]
  refine pJ X rfl (Mm X ⟨_,rfl,?_⟩)
  rw [decide_eq_false hx',if_neg (by decide)]
  refine pJ X rfl ⟨cs.length,?_,?_⟩
  ·rw [gn,bQ X.Ct]
   show some (kk cs).length=_
   unfold kk
   rw [zbP]
  rw [decide_eq_false (by omega),if_neg (by decide)]
  exact bX rfl X.at_ (by decide +kernel) ⟨_,rfl,_,rfl,n,x,mk,ms,_,_,ts,rfl,hmk,⟨m,t,e,cs,rfl,rfl,X⟩,hx,by rw [zbP];omega,hml,hmn,ox,oms,q⟩
theorem lG {x:Ti} (h:iU x=true):fc x.1=true∧fc x.2.1=true∧fc x.2.2=true:=by
 unfold iU at h
 rw [zbJ,zbJ] at h
 exact ⟨h.1.1,h.1.2,h.2⟩
theorem cz.yw {W:World}{S:av}{n m t e:Nat}{cs:List Kc}{ts:List Ti}{N:Str→Ti→Prop} (X:cz C W S n m t e cs ts N) {x:Str} (hx:x∈ng cs):∃ c∈cs,c.nm=x∧nQ (kk cs) (cs.map fun c=>D.loc c.nc) (.inr x)=some (.loc c.nc)∧nQ (kk cs) (cs.map fun c=>D.loc c.mc) (.inr x)=some (.loc c.mc):=by
 obtain ⟨c,hc,h1,h2⟩:=C2 hx
 exact ⟨c,hc,h1,h2 _,h2 _⟩
noncomputable def Bp (C:Addr) (W:World):AN:=fun ds S Q=>∃ n x own ks ts,ds=[.loc n,.str x.1,.str x.2.1,.str x.2.2]∧bZ C W S n own ks ts∧x.1∈nms ks∧x.2.2∈nms ks∧x ∉ ts∧ts.length<302∧iU x=true∧x8 C W S n own ks (ts++[x]) Q
noncomputable abbrev K6 (b c:Str):Ti:=("on",b,c)
noncomputable abbrev uz (b c:Str):Ti:=("back",b,c)
theorem EK {ts:List Ti}{x1 x2 x3 y:Str}{j:Ti}:((stp ts y j∨(y=x1∧j=K6 x2 x3))∨(y=x3∧j=uz x2 x1))↔stp (ts++[(x1,x2,x3)]) y j:=by
 obtain ⟨a,b,g⟩:=j
 simp only [stp,zbO,zaW,Prod.mk.injEq]
 constructor
 ·rintro (((⟨rfl,h⟩ | ⟨rfl,h⟩) | ⟨rfl,rfl,rfl,rfl⟩) | ⟨rfl,rfl,rfl,rfl⟩)
  ·exact .inl ⟨rfl,.inl h⟩
  ·exact .inr ⟨rfl,.inl h⟩
  ·exact .inl ⟨rfl,.inr ⟨rfl,rfl,rfl⟩⟩
  ·exact .inr ⟨rfl,.inr ⟨rfl,rfl,rfl⟩⟩
 ·rintro (⟨rfl,h | ⟨rfl,rfl,rfl⟩⟩ | ⟨rfl,h | ⟨rfl,rfl,rfl⟩⟩)
  ·exact .inl (.inl (.inl ⟨rfl,h⟩))
  ·exact .inl (.inr ⟨rfl,rfl,rfl,rfl⟩)
  ·exact .inl (.inl (.inr ⟨rfl,h⟩))
  ·exact .inr ⟨rfl,rfl,rfl,rfl⟩
theorem vv {a b c:Str} (ha:fc a=true) (h1:fc b=true) (h2:fc c=true):iU (a,b,c)=true:=by unfold iU;rw [ha,h1,h2];rfl
theorem J9 (T:Txt K mg C fi) (F:ef K C "lay_tie" "Web.lay_tie" jS sr):c6 P w K mg base 1 C "lay_tie" jS (Bp C w):=by
 refine iH F IE (fun ds S Q h => ?_) (fun f cdv A outer s H E hr => ?_)
 ·obtain ⟨n,x,own,ks,ts,rfl,_⟩:=h;rfl
 ·refine ⟨_,(M.af (M.jq hr (M.cJ (M.pv 0) T.cl T.n_tied) (M.bO (M.ao (M.pv 1) (M.ao (M.pv 2) (M.ao (M.pv 3) M.aa)))) M.fz rfl)
   (M.af (M.jq hr (M.jw (jD hr) (M.cJ (M.pv 0) T.cl T.n_near) (M.pv 1) (fun _ _=>rfl)) (M.bO (M.ao M.au (M.ao (M.pv 2) (M.ao (M.pv 3) M.aa)))) M.fz rfl)
   (M.aj (M.jq hr (M.jw (jD hr) (M.cJ (M.pv 0) T.cl T.n_near) (M.pv 3) (fun _ _=>rfl)) (M.bO (M.ao M.au (M.ao (M.pv 2) (M.ao (M.pv 1) M.aa)))) M.fz rfl)))),fun ds S Q h => ?_⟩
  obtain ⟨n,x,own,ks,ts,rfl,⟨m,t,e,cs,rfl,rfl,X⟩,hx1,hx2,hx,hkl,ox,q⟩:=h
  have e0:aN rH [.loc n,.str x.1,.str x.2.1,.str x.2.2]=[some (.loc n),some (.str x.1),some (.str x.2.1),some (.str x.2.2)]:=rfl
  rw [e0]
  rw [iW] at hx1 hx2
  push_cast [true_and]
  obtain ⟨x1,x2,x3⟩:=x
  obtain ⟨k1,k2,k3⟩:=lG ox
  have hw:(kE kQ P w K mg base rH "Web.lay_tie" (ai sr) f cdv A outer s H E).w=w:=rfl
  simp only [hw]
  refine qO (yz X rfl ⟨_,rfl,_,rfl,_,rfl,by show 3≤sizeLine;decide,t,ts.map T3,rfl,X.ti,good3 ox,(jf X.qN).good,by rw [zbP];omega,?_⟩)
  show gU.nx _ _ (S.set t (some (nO w (putN (ts.map T3) (T3 (x1,x2,x3))))))
  rw [put3 hx]
  have X1:=X.Ii (ts':=ts++[(x1,x2,x3)]) (by
   refine zbm.mpr ⟨X.tn,by simp,fun a ha b hb z=>hx ?_⟩
   have:b=(x1,x2,x3):=by simpa using hb
   rw [← this,← z];exact ha) (fun t' ht'=>by
   rcases zbO.mp ht' with h | h
   ·exact X.qN t' h
   ·have:t'=(x1,x2,x3):=by simpa using h
    rw [this];exact ox) (fun t' ht'=>by
   rcases zbO.mp ht' with h | h
   ·exact X.tk t' h
   ·have:t'=(x1,x2,x3):=by simpa using h
    rw [this];exact ⟨hx1,hx2⟩) (by rw [zaU];simp;omega)
  generalize e1:S.set t _=S1 at X1
  have f1:Fr S S1 (cells n m t e cs) (cells n m t e cs):=by rw [← e1];exact .set OQ
  obtain ⟨c,hc,hcn,g1,_⟩:=X1.yw hx1
  have hcn:c.nm=x1:=hcn
  obtain ⟨js,j1,j2,j3,j4,j5⟩:=X1.Et c hc
  have jl:=w6 j2 fun j hj=>hcn ▸ (j5 j).mp hj
  have on_:iU (K6 x2 x3)=true:=vv (by decide +kernel) k2 k3
  have HP:iU (uz x2 x1)=true:=vv (by decide +kernel) k2 k1
  simp only [uB]
  refine qO (jF (C6 X1 rfl ⟨_,rfl,_,_,_,_,bQ X1.ne,rfl,g1,_,rfl,_,rfl,by show 3≤sizeLine;decide,c.nc,js.map T3,rfl,j1,good3 on_,(jf j4).good,by rw [zbP];omega,?_⟩))
  show gU.nx _ _ (S1.set c.nc (some (nO w (putN (js.map T3) (T3 (K6 x2 x3))))))
  obtain ⟨js',p1,p2,p3,p4⟩:=Hu js (K6 x2 x3) j2
  rw [p1]
  have X2:=X1.near (N':=fun y j=>stp ts y j∨(y=x1∧j=(K6 x2 x3))) hc p2 (by omega) (fun j hj=>by
   rcases (p4 j).mp hj with h | h
   ·exact j4 j h
   ·rw [h];exact on_) (fun j=>(p4 j).trans ⟨fun h=>h.imp (j5 j).mp fun h=>⟨hcn,h⟩,fun h=>h.imp (j5 j).mpr fun h=>h.2⟩) (fun y hy j=>⟨.inl,fun h=>h.elim id fun h=>absurd (h.1.trans hcn.symm) hy⟩)
  generalize e2:S1.set c.nc _=S2 at X2
  have f2:Fr S S2 (cells n m t e cs) (cells n m t e cs):=by rw [← e2];exact f1.trans (.set (Gq hc))
  obtain ⟨d,hd,hdn,g2,_⟩:=X2.yw hx2
  have hdn:d.nm=x3:=hdn
  obtain ⟨is,i1,i2,i3,i4,i5⟩:=X2.Et d hd
  have il:is.length≤899:=by
   by_cases hcd:d.nc=c.nc
   ·have hdc:d=c:=iY (apart X.nd).nn d hd c hc hcd
    subst hdc
    have:is.length≤js'.length:=L2.kh i2 fun j hj=>by
     rcases (i5 j).mp hj with h | h
     ·exact (p4 j).mpr (.inl ((j5 j).mpr h))
     ·exact (p4 j).mpr (.inr h.2)
    omega
   ·have:=w6 (ts:=ts) (x:=x3) (js:=is) i2 fun j hj=>by
     rcases (i5 j).mp hj with h | h
     ·exact hdn ▸ h
     ·exact absurd (by rw [iY X.kn d hd c hc (h.1.trans hcn.symm)]) hcd
    omega
  try simp only [uB]
  refine qO (jF (C6 X2 rfl ⟨_,rfl,_,_,_,_,bQ X2.ne,rfl,g2,_,rfl,_,rfl,by show 3≤sizeLine;decide,d.nc,is.map T3,rfl,i1,good3 HP,(jf i4).good,by rw [zbP];omega,?_⟩))
  show gU.nx _ _ (S2.set d.nc (some (nO w (putN (is.map T3) (T3 (uz x2 x1))))))
  obtain ⟨is',r1,r2,r3,r4⟩:=Hu is (uz x2 x1) i2
  rw [r1]
  have X3:=X2.near (N':=fun y j=>(stp ts y j∨(y=x1∧j=(K6 x2 x3)))∨(y=x3∧j=(uz x2 x1))) hd r2 (by omega) (fun j hj=>by
   rcases (r4 j).mp hj with h | h
   ·exact i4 j h
   ·rw [h];exact HP) (fun j=>(r4 j).trans ⟨fun h=>h.imp (i5 j).mp fun h=>⟨hdn,h⟩,fun h=>h.imp (i5 j).mpr fun h=>h.2⟩) (fun y hy j=>⟨.inl,fun h=>h.elim id fun h=>absurd (h.1.trans hdn.symm) hy⟩)
  refine q _ _ ⟨m,t,e,cs,rfl,rfl,X3.Mb fun y j => ?_⟩ (f2.trans (.set (Gq hd)))
  exact EK
noncomputable def uZ (C:Addr) (W:World):AN:=fun ds S Q=>∃ n x own ks ts,ds=[.loc n,.str x.1,.str x.2.1,.str x.2.2]∧bZ C W S n own ks ts∧x.1∈nms ks∧x.2.2∈nms ks∧x ∉ ts∧ts.length<300∧iU x=true∧x8 C W S n own ks (ts++[x]) Q
theorem J4 (T:Txt K mg C fi) (F:ef K C "put_tie" "Web.put_tie" iw xH) (D_need_knot:c6 P w K mg base 1 C "need_knot" fZ (qi C w)) (D_has_tie:c6 P w K mg base 1 C "has_tie" nY (Hf C w)) (D_lay_tie:c6 P w K mg base 1 C "lay_tie" jS (Bp C w)):c6 P w K mg base 2 C "put_tie" iw (uZ C w):=by
 refine iH F IA (fun ds S Q h => ?_) (fun f cdv A outer s H E hr => ?_)
 ·obtain ⟨n,x,own,ks,ts,rfl,_⟩:=h;rfl
 ·refine ⟨_,(M.af (M.aZ (M.b5 (M.pv 0) T.cl D_need_knot (hr.mono (by decide)) (M.ao (M.pv 1) M.aa)))
   (M.af (M.aZ (M.b5 (M.pv 0) T.cl D_need_knot (hr.mono (by decide)) (M.ao (M.pv 3) M.aa)))
   (M.af (M.cu (M.qF (M.b5 (M.pv 0) T.cl D_has_tie (hr.mono (by decide)) (M.ao (M.pv 1) (M.ao (M.pv 2) (M.ao (M.pv 3) M.aa)))))
    (M.aj M.dM)
    M.bz)
   (M.af (M.cu (M.aK M.Jw (M.eX M.Jv (by rfl) T.len (by decide +kernel) (M.ao (M.cJ (M.pv 0) T.cl T.n_tied) M.aa)) T.qK (bC _))
    (M.aj M.dM)
    M.bz)
   (M.aj (M.aZ (M.b5 (M.pv 0) T.cl D_lay_tie (hr.mono (by decide)) (M.ao (M.pv 1) (M.ao (M.pv 2) (M.ao (M.pv 3) M.aa)))))))))),fun ds S Q h => ?_⟩
  obtain ⟨n,x,own,ks,ts,rfl,X',hx1,hx2,hx,hkl,ox,q⟩:=h
  obtain ⟨m,t,e,cs,rfl,rfl,X⟩:=id X'
  have e0:aN y9 [.loc n,.str x.1,.str x.2.1,.str x.2.2]=[some (.loc n),some (.str x.1),some (.str x.2.1),some (.str x.2.2)]:=rfl
  rw [e0]
  push_cast [true_and]
  refine bX rfl X.at_ (by decide +kernel) ⟨_,rfl,n,x.1,_,_,ts,rfl,X',hx1,?_⟩
  refine bX rfl X.at_ (by decide +kernel) ⟨_,rfl,n,x.2.2,_,_,ts,rfl,X',hx2,?_⟩
  refine bX rfl X.at_ (by decide +kernel) ⟨_,rfl,_,rfl,_,rfl,n,x,_,_,ts,rfl,X',ox,?_⟩
  refine ⟨false,by rw [decide_eq_false hx];rfl,?_⟩
  rw [if_neg (by decide)]
  refine yz X rfl ⟨t,ts.map T3,rfl,X.ti,by rw [zbP];omega,?_⟩
  refine ⟨_,_,rfl,rfl,trivial,_,rfl,?_⟩
  rw [zbP,decide_eq_false (by omega),if_neg (by decide)]
  exact bX rfl X.at_ (by decide +kernel) ⟨_,rfl,_,rfl,_,rfl,n,x,_,_,ts,rfl,X',hx1,hx2,hx,by omega,ox,q⟩
theorem FT {cs:List Kc} (hn:(ng cs).Nodup) {c:Kc} (hc:c∈cs) {k:Kn} (hk:k∈cs.map Kc.kn) (e:k.1=c.nm):k=c.kn:=by
 obtain ⟨d,hd,rfl⟩:=zcs.mp hk
 rw [iY hn d hd c hc e]
end
open PySem PySem.Spec L2 M M6 PyProof.Rows
noncomputable abbrev qB:Stmt:=inClass (top 14) 7
noncomputable abbrev uJ:List Str:=["self"]
noncomputable abbrev gP:List Str:=["self"]
theorem EY:az uJ gP (ai qB):=⟨rfl,rfl,rfl,by decide +kernel,rfl,by decide +kernel,by decide +kernel⟩
noncomputable abbrev qz:Stmt:=inClass (top 14) 8
noncomputable abbrev uH:List Str:=["self","knot"]
noncomputable abbrev gM:List Str:=["self","knot"]
theorem EX:az uH gM (ai qz):=⟨rfl,rfl,rfl,by decide +kernel,rfl,by decide +kernel,by decide +kernel⟩
noncomputable abbrev qw:Stmt:=inClass (top 14) 10
noncomputable abbrev uF:List Str:=["self","knot"]
noncomputable abbrev gI:List Str:=["self","knot"]
theorem EW:az uF gI (ai qw):=⟨rfl,rfl,rfl,by decide +kernel,rfl,by decide +kernel,by decide +kernel⟩
noncomputable abbrev qv:Stmt:=inClass (top 14) 11
noncomputable abbrev uE:List Str:=["self","knots"]
noncomputable abbrev fK:List Str:=["self"]
theorem xB:az uE fK (ai qv):=⟨rfl,rfl,rfl,by decide +kernel,rfl,by decide +kernel,by decide +kernel⟩
noncomputable def cT (l:List Str):List Str:=open Classical in if h:∃ s:List Str,s.Perm l∧sortedS s=true then h.choose else []
theorem fN {l s:List Str} (hn:l.Nodup) (hp:s.Perm l) (hs:sortedS s=true):s=cT l:=by
 have h:∃ s:List Str,s.Perm l∧sortedS s=true:=⟨s,hp,hs⟩
 unfold cT
 rw [dif_pos h]
 exact EL hn hp h.choose_spec.1 hs h.choose_spec.2
noncomputable def cB (l:List Ti):List Ti:=open Classical in if h:∃ s:List Ti,s.Perm l∧uN (s.map T3) then h.choose else []
theorem g7 {l s:List Ti} (hn:l.Nodup) (hp:s.Perm l) (hs:uN (s.map T3)):s=cB l:=by
 have h:∃ s:List Ti,s.Perm l∧uN (s.map T3):=⟨s,hp,hs⟩
 unfold cB
 rw [dif_pos h]
 exact p7 (hp.nodup_iff.mpr hn) hs h.choose_spec.2 (h.choose_spec.1.trans hp.symm)
noncomputable def aQ (ks:List Kn) (x:Str):List Str:=((ks.find? fun k=>decide (k.1=x)).map (·.2)).getD []
theorem ki {x:Str}:∀ {ks:List Kn},x∈nms ks→(x,aQ ks x)∈ks
 | [],h=>by simp at h
 | k::ks,h=>by
  unfold aQ
  rw [zbS]
  by_cases e:k.1=x
  ·rw [decide_eq_true e]
   subst e
   exact zaS ..
  ·rw [decide_eq_false e]
   rcases zci.mp (show x∈k.1::nms ks from h) with z | z
   ·exact absurd z.symm e
   ·exact zaC _ (ki (ks:=ks) z)
noncomputable def LF (ks:List Kn) (x:Str):D:=.tup [.str x,.tup ((cT (aQ ks x)).map D.str)]
noncomputable def sA (ks:List Kn) (ts:List Ti):D:=.tup [.tup ((cT (nms ks)).map (LF ks)),.tup ((cB ts).map T3)]
theorem cQ {caps:List (Option Nat)}{i:AI}{g:AG}{t:AT}{e:AE}{δ:bw}{S:av}{Q:AK} (h:i δ S fun ds P S1=>bR P g t e ds [] (gG caps δ) S1 fun ds' S2=>Q (.new (.lst ds')) S2):kP caps i g t e δ S Q:=h
theorem di {t:AE}{δ:bw}{S:av}{Q:List D→(av→Prop)→av→Prop} (h:t δ S fun r S1=>yp S1 Q r.d):zZ t δ S Q:=h
section
variable {P:Program}{w:World}{K:PySem.W.Frag}{mg:Str→Option Value}{base:Heap}{C fi:Addr}
noncomputable def xu (C:Addr) (W:World):AN:=fun ds S Q=>∃ n own ks ts,ds=[.loc n]∧bZ C W S n own ks ts∧((cT (nms ks)).Perm (nms ks)→Q (.new (.lst ((cT (nms ks)).map D.str))) S)
theorem Gi (T:Txt K mg C fi) (F:ef K C "knots" "Web.knots" gP qB):c6 P w K mg base 1 C "knots" gP (xu C w):=by
 refine iH F EY (fun ds S Q h => ?_) (fun f cdv A outer s H E hr => ?_)
 ·obtain ⟨n,own,ks,ts,rfl,_⟩:=h;rfl
 ·refine ⟨_,(M.aj (M.aO (M.eX (M.sQ hr) (by rfl) T.sorted (by decide +kernel) (M.ao (M.cJ (M.pv 0) T.cl T.d9) M.aa)))),fun ds S Q h => ?_⟩
  obtain ⟨n,own,ks,ts,rfl,⟨m,t,e,cs,rfl,rfl,X⟩,q⟩:=h
  have e0:aN uJ [.loc n]=[some (.loc n)]:=rfl
  rw [e0]
  rw [iW] at q
  push_cast [true_and]
  refine pJ X rfl ⟨_,cs.map (fun c=>.loc c.mc),ng cs,rfl,?_,by unfold ng;rw [zbP];exact X.kb,fun ss hp hs => ?_⟩
  ·rw [gn,bQ X.Ct]
   show D.dct _ _=_
   unfold kk ng
   rw [zct];rfl
  ·have e:=fN X.kn hp hs
   subst e
   exact q hp
noncomputable def xo (C:Addr) (W:World):AN:=fun ds S Q=>∃ n own ks ts k,ds=[.loc n,.str k.1]∧bZ C W S n own ks ts∧k∈ks∧((cT k.2).Perm k.2→Q (.new (.lst ((cT k.2).map D.str))) S)
theorem Gg (T:Txt K mg C fi) (F:ef K C "marks" "Web.marks" gM qz) (D_need_knot:c6 P w K mg base 1 C "need_knot" fZ (qi C w)):c6 P w K mg base 2 C "marks" gM (xo C w):=by
 refine iH F EX (fun ds S Q h => ?_) (fun f cdv A outer s H E hr => ?_)
 ·obtain ⟨n,own,ks,ts,k,rfl,_⟩:=h;rfl
 ·refine ⟨_,(M.af (M.aZ (M.b5 (M.pv 0) T.cl D_need_knot (hr.mono (by decide)) (M.ao (M.pv 1) M.aa)))
   (M.aj (M.aO (M.eX (M.sQ hr) (by rfl) T.sorted (by decide +kernel) (M.ao (M.jw (jD hr) (M.cJ (M.pv 0) T.cl T.d9) (M.pv 1) (fun _ _=>rfl)) M.aa))))),fun ds S Q h => ?_⟩
  obtain ⟨n,own,ks,ts,x,rfl,X',hx,q⟩:=h
  obtain ⟨m,t,e,cs,rfl,rfl,X⟩:=id X'
  have e0:aN uH [.loc n,.str x.1]=[some (.loc n),some (.str x.1)]:=rfl
  rw [e0]
  push_cast [true_and]
  have hx1:x.1∈nms (cs.map Kc.kn):=zcs.mpr ⟨x,hx,rfl⟩
  have hx2:=hx1
  rw [iW] at hx2
  obtain ⟨c,hc,hcn,_,g1⟩:=X.yw hx2
  have ex:=FT X.kn hc hx hcn.symm
  subst ex
  have hm:=X.Cv c hc
  refine bX rfl X.at_ (by decide +kernel) ⟨_,rfl,n,c.nm,_,_,ts,rfl,X',hx1,?_⟩
  refine jF (pJ X rfl ⟨_,rfl,_,_,_,_,bQ X.Ct,rfl,g1,⟨_,c.ml.map (fun _=>.bl true),c.ml,rfl,by rw [gn,bQ hm];rfl,X.mb c hc,fun ss hp hs => ?_⟩⟩)
  have e:=fN (X.mn c hc) hp hs
  subst e
  exact q hp
noncomputable def xh (C:Addr) (W:World):AN:=fun ds S Q=>∃ n own ks ts x,ds=[.loc n,.str x]∧bZ C W S n own ks ts∧x∈nms ks ∧
 ∀ us:List Ti,us.Nodup→(∀ j,j∈us↔stp ts x j)→(∀ j∈us,iU j=true)→uN (us.map T3)→Q (.new (.lst (us.map T3))) S
theorem Gd (T:Txt K mg C fi) (F:ef K C "steps" "Web.steps" gI qw) (D_need_knot:c6 P w K mg base 1 C "need_knot" fZ (qi C w)):c6 P w K mg base 2 C "steps" gI (xh C w):=by
 refine iH F EW (fun ds S Q h => ?_) (fun f cdv A outer s H E hr => ?_)
 ·obtain ⟨n,own,ks,ts,x,rfl,_⟩:=h;rfl
 ·refine ⟨_,(M.af (M.aZ (M.b5 (M.pv 0) T.cl D_need_knot (hr.mono (by decide)) (M.ao (M.pv 1) M.aa)))
   (M.aj (M.aO (M.eX (M.sP hr) (by rfl) T.sorted (by decide +kernel) (M.ao (M.jw (jD hr) (M.cJ (M.pv 0) T.cl T.n_near) (M.pv 1) (fun _ _=>rfl)) M.aa))))),fun ds S Q h => ?_⟩
  obtain ⟨n,own,ks,ts,x,rfl,X',hx,q⟩:=h
  obtain ⟨m,t,e,cs,rfl,rfl,X⟩:=id X'
  have e0:aN uF [.loc n,.str x]=[some (.loc n),some (.str x)]:=rfl
  rw [e0]
  push_cast [true_and]
  have hx2:=hx
  rw [iW] at hx2
  obtain ⟨c,hc,hcn,g1,_⟩:=X.yw hx2
  subst hcn
  obtain ⟨js,j1,j2,j3,j4,j5⟩:=X.Et c hc
  refine bX rfl X.at_ (by decide +kernel) ⟨_,rfl,n,c.nm,_,_,ts,rfl,X',hx,?_⟩
  refine jF (C6 X rfl ⟨_,rfl,_,_,_,_,bQ X.ne,rfl,g1,⟨c.nc,js.map T3,rfl,j1,jf j4,by rw [zbP];omega,fun ks' hp hu => ?_⟩⟩)
  obtain ⟨us,hu1,rfl⟩:=lZ hp
  exact q us (hu1.nodup_iff.mpr j2) (fun j=>hu1.mem_iff.trans (j5 j)) (fun j hj=>j4 j (hu1.mem_iff.mp hj)) hu
noncomputable def qh (C:Addr) (W:World):AN:=fun ds S Q=>∃ n own ks ts,ds=[.loc n]∧bZ C W S n own ks ts ∧
 ((cT (nms ks)).Perm (nms ks)→(cB ts).Perm ts→(∀ x∈nms ks,(cT (aQ ks x)).Perm (aQ ks x))→Q (.dat (sA ks ts)) S)
theorem Gb (T:Txt K mg C fi) (F:ef K C "rows" "Web.rows" fK qv) (rL:c6 P w K mg base 1 C "knots" gP (xu C w)) (rK:c6 P w K mg base 2 C "marks" gM (xo C w)):c6 P w K mg base 3 C "rows" fK (qh C w):=by
 refine iH F xB (fun ds S Q h => ?_) (fun f cdv A outer s H E hr => ?_)
 ·obtain ⟨n,own,ks,ts,rfl,_⟩:=h;rfl
 ·refine ⟨_,(M.af (M.aU (i:=1) xB.nd rfl rfl (N:=["name","self"]) (caps:=[none,some 0]) (cM (by decide +kernel)) (by rfl) (by rfl) rfl (M.bT (M.fy (M.pv 0) T.cl rL (hr.mono (by decide)))) (fun _ _ _ _=>(M.aq (i:=0) (by decide +kernel:List.Nodup (["name","self"]:List Str)) rfl (Or.inl rfl))) (fun _ _ _ _=>M.bx) (fun _ _ _ _=>(M.bO (M.ao (M.pv 0) (M.ao (M.qL M.d7 (by rfl) T.tuple (by decide +kernel) (M.ao (M.b5 (M.pv 1) T.cl rK (hr.mono (by decide)) (M.ao (M.pv 0) M.aa)) M.aa)) M.aa)))))
   (M.aj (M.aO (M.bO (M.ao (M.qL M.d7 (by rfl) T.tuple (by decide +kernel) (M.ao (M.pv 1) M.aa)) (M.ao (M.qL M.d7 (by rfl) T.tuple (by decide +kernel) (M.ao (M.eX (M.sP hr) (by rfl) T.sorted (by decide +kernel) (M.ao (M.cJ (M.pv 0) T.cl T.n_tied) M.aa)) M.aa)) M.aa)))))),fun ds S Q h => ?_⟩
  obtain ⟨n,own,ks,ts,rfl,X',q⟩:=h
  have htl:ts.length≤1000:=by obtain ⟨_,_,_,_,_,_,X⟩:=id X';have:=X.tb;omega
  obtain ⟨m,t,e,cs,ro,rk,X⟩:=id X'
  have e0:aN uE [.loc n]=[some (.loc n),none]:=rfl
  rw [e0]
  push_cast [true_and]
  have hkl:ks.length<64:=by rw [← rk,zbP];exact X.kb
  refine cQ (di (bX rfl X.at_ (by decide +kernel) ?_))
  refine ⟨n,own,ks,ts,rfl,X',fun hp => ?_⟩
  show bR (fun _=>True) (bD 0) gg _ ((cT (nms ks)).map D.str) [] [none,some (.loc n)] S _
  have hsl:(cT (nms ks)).length=ks.length:=by rw [hp.length_eq,zbP]
  refine rq (fun rest acc δ S'=>∃ (done rs:List Str) (v:Option D),rest=rs.map D.str∧done++rs=cT (nms ks)∧acc=done.map (LF ks)∧δ=[v,some (.loc n)]∧S'=S∧∀ x∈done,(cT (aQ ks x)).Perm (aQ ks x)) ?_ ?_ _ _ _ _ ⟨[],_,none,rfl,rfl,rfl,rfl,rfl,by simp⟩
  ·rintro acc δ S' ⟨done,rs,v,e1,e2,rfl,rfl,rfl,hd⟩
   have:rs=[]:=by cases rs with | nil=>rfl | cons _ _=>simp at e1
   subst this
   rw [zbQ] at e2
   subst e2
   refine ⟨trivial,?_⟩
   refine ⟨_,rfl,?_⟩
   refine yz X rfl ⟨t,ts.map T3,rfl,X.ti,jf X.qN,by rw [zbP];exact htl,fun ks' hp' hu => ?_⟩
   obtain ⟨us,hu1,rfl⟩:=lZ hp'
   have e:=g7 X.tn hu1 hu
   subst e
   refine ⟨_,rfl,by show 2≤sizeLine;decide,?_⟩
   exact q hp hu1 fun x hx=>hd x (hp.mem_iff.mpr hx)
  ·rintro x xs acc δ S' N ⟨done,rs,v,e1,e2,rfl,rfl,rfl,hd⟩ hN
   cases rs with
   | nil=>simp at e1
   | cons r rs =>
    rw [zcj] at e1
    injection e1 with e1 e3
    subst e1;subst e3
    have hr:r∈nms ks:=hp.mem_iff.mp (by rw [← e2];simp)
    refine ⟨trivial,?_⟩
    simp only [bD,gg,if_true,Gz,iL,aCall,kG,zaY]
    refine ⟨_,rfl,bX (i:=1) rfl X.at_ (by decide +kernel) ⟨_,rfl,n,own,ks,ts,(r,aQ ks r),rfl,X',ki hr,fun hpm => ?_⟩⟩
    refine ⟨_,rfl,by show 2≤sizeLine;decide,?_,?_⟩
    ·have:=congrArg zcF e2
     rw [zaU,hsl] at this
     rw [zbP,sizeLine_eq];omega
    ·refine hN _ _ _ ⟨done++[r],rs,_,rfl,by rw [← e2];simp,by rw [zbV];rfl,rfl,rfl,fun x hx => ?_⟩
     rcases zbO.mp hx with hx | hx
     ·exact hd x hx
     ·have:x=r:=by simpa using hx
      subst this
      exact hpm
end
open PySem PySem.Spec L2 M M6 PyProof.Rows
noncomputable abbrev xF:Stmt:=top 26
noncomputable abbrev yY:List Str:=["_law_feed_here","_law_names_here","_law_most","_law_knots","_law_k","_law_marks","_law_ties","_law_one","_law_word","_law_tie"]
noncomputable abbrev jP:List Str:=["_law_feed_here","_law_names_here","_law_most"]
theorem fP:az yY jP (ai xF):=⟨rfl,rfl,rfl,by decide +kernel,rfl,by decide +kernel,by decide +kernel⟩
structure Tm (n m:Nat) (d:D):Prop where
 th:l5 n d=true
 sh:n8 (py d)
 wt:L2.wt (py d)≤m
theorem NP {n m:Nat}:∀ {es:List D},(∀ e∈es,Tm n m e)→es.all (l5 n)=true∧cK (cR es)∧gh (cR es)≤es.length*(m+2)
 | [],_=>⟨rfl,by simp [cR,cK],by simp [cR,gh]⟩
 | e::es,h=>by
  obtain ⟨a,b,c⟩:=NP (es:=es) fun x hx=>h x (by simp [hx])
  have he:=h e (by simp)
  refine ⟨by simp [he.th];simpa using a,by simp only [cR,cK];exact ⟨he.sh,b⟩,?_⟩
  have:=he.wt
  simp only [cR,gh,zbx]
  rw [Nat.succ_mul];omega
theorem Tm.tup {n m l:Nat}{es:List D} (h:∀ e∈es,Tm n m e) (hl:es.length≤l) (h100:l≤100:=by decide):Tm (n+1) (l*(m+2)+3) (.tup es):=by
 obtain ⟨a,b,c⟩:=NP h
 refine ⟨by simp only [l5,zbJ];exact ⟨decide_eq_true (by omega),a⟩,by simpa [py,n8] using b,?_⟩
 have:es.length*(m+2)≤l*(m+2):=zaI _ hl
 simp only [py,L2.wt];omega
theorem Tm.lst {n m l:Nat}{es:List D} (h:∀ e∈es,Tm n m e) (hl:es.length≤l) (h100:l≤100:=by decide):Tm (n+1) (l*(m+2)+3) (.lst es):=by
 obtain ⟨a,b,c⟩:=NP h
 refine ⟨by simp only [l5,zbJ];exact ⟨decide_eq_true (by omega),a⟩,by simpa [py,n8] using b,?_⟩
 have:es.length*(m+2)≤l*(m+2):=zaI _ hl
 simp only [py,L2.wt];omega
theorem Tm.asc {y:Str} (hl:y.length≤20) (h:rO y):Tm 0 202 (.str y):=by
 refine ⟨?_,?_,?_⟩
 ·show fc y=true
  unfold fc
  rw [zbJ]
  exact ⟨zbB.mpr fun c hc=>decide_eq_true (h c hc),decide_eq_true (by omega)⟩
 ·simp only [py,n8];exact rO.ok h
 ·simp only [py,L2.wt];omega
theorem Tm.name {y:Str} (h:Nm y):Tm 0 202 (.str y):=.asc (by have:=h.2.1;omega) h.asc
theorem dz {S:av}{p n:Nat}{m:Int}{Q:AK} (hS:S[p]? = some (some (.feed n))) (hn:n<1000) (h0:0<m) (h1:m<1000) (k:∀ z:Nat,(z:Int)<m→Q (.dat (.int z)) (S.set p (some (.feed (n+1))))):je [.loc p,.int m] S Q :=
 ⟨p,m,n,rfl,hS,hn,h0,h1,fun z z0 z1=>by
  obtain ⟨y,rfl⟩:∃ y:Nat,z=y:=⟨z.toNat,by omega⟩
  exact k y z1⟩
theorem HR {ds:List D}{z:Nat} (h:z<ds.length):∃ e,nU ds (z:Int)=some e∧e∈ds:=⟨ds[z],cY (zam h),zbD h⟩
theorem cI {y:Str} (h:Nm y):fc y=true:=by
 unfold fc
 rw [zbJ]
 exact ⟨zbB.mpr fun c hc=>decide_eq_true (h.asc c hc),decide_eq_true (by have:=h.2.1;omega)⟩
theorem Oz {ds:List D}{i:Int}{S:av}{Q:AK}:uR (.lst ds) (.int i) S Q=∃ e,nU ds i=some e∧Q (.dat e) S:=rfl
theorem CO {ds:List D}{i:Int}{S:av}{Q:AK}:uR (.tup ds) (.int i) S Q=∃ e,nU ds i=some e∧Q (.dat e) S:=rfl
theorem pick {ds:List D}{z:Nat}{S:av}{Q:AK} (h:z<ds.length) (k:∀ e∈ds,Q (.dat e) S):uR (.lst ds) (.int z) S Q:=by
 obtain ⟨e,h1,h2⟩:=HR h
 exact ⟨e,h1,k e h2⟩
theorem BP {S X:av}{p n:Nat}{d:D}{Q:AK} (h:cg d=true) (q:Q (.dat d) (S.set p (some (.feed n)))):ret S (S.set p (some (.feed n))++X) (.dat d) Q:=by
 refine ⟨_,qM h,fun k o hk e => ?_,?_⟩
 ·rw [zag (by rw [zbW];exact hk)] at e
  by_cases hkp:p=k
  ·subst hkp
   rw [zbl,if_pos rfl,if_pos hk] at e
   have e:MO.feed n=o:=by simpa using e
   subst e
   exact .inr rfl
  ·rw [zaE hkp] at e
   exact .inl e
 ·have:(S.set p (some (.feed n))++X).take S.length=S.set p (some (.feed n)):=by
   rw [show S.length=(S.set p (some (MO.feed n))).length by rw [zbW]]
   exact List.take_left' rfl
  rw [this];exact q
noncomputable def eG (k:Kn):D:=.tup [.str k.1,.lst (k.2.map D.str)]
noncomputable def bq (ks:List Kn) (ts:List Ti):D:=.tup [.lst (ks.map eG),.lst (ts.map T3)]
noncomputable def KU (A B M:List Str) (x:D):Prop:=x = .lst [.lst (A.map D.str),.lst (B.map D.str),.lst (M.map D.str)]∧A.length=8∧B.length=3∧M.length=5∧A.Nodup∧M.Nodup∧(∀ y∈A,Nm y)∧(∀ y∈B,Nm y)∧∀ y∈M,Nm y
structure RO (ks:List Kn) (ts:List Ti):Prop where
 kl:ks.length≤62
 nd:(nms ks).Nodup
 nm:∀ k∈ks,Nm k.1∧k.2.length≤5∧k.2.Nodup∧∀ m∈k.2,Nm m
 tn:ts.Nodup
 tl:ts.length≤302
 tk:∀ t∈ts,t.1∈nms ks∧t.2.2∈nms ks∧Nm t.2.1
theorem fM {B X:av}{L i:Nat} (h:L=B.length+i):(B++X)[L]? = X[i]? := by
 rw [h,zab (by omega)];congr 1;omega
theorem iN {B X:av}{L i:Nat}{o:Option MO} (h:L=B.length+i):(B++X).set L o=B++X.set i o:=by
 rw [h,List.set_append,if_neg (by omega)];congr 2;omega
theorem gZ {S X:av}{p n:Nat}{a b:Option MO} (hp:p<S.length):(S.set p a++X).set p b=S.set p b++X:=by
 rw [List.set_append,if_pos (by rw [zbW];exact hp),zcr]
theorem Bb {S X:av}{p n:Nat}{b:Option MO} (hp:p<S.length):(S++X).set p b=S.set p b++X:=by
 rw [List.set_append,if_pos hp]
theorem rS {S X:av}{p n:Nat}{o:Option MO} (h:S[p]? = some o):(S.set p (some (.feed n))++X)[p]? = some (some (.feed n)):=dR (eU h)
theorem sC {m j:Nat}{x:D}{xs:List D} (h:x::xs=(cW 0 m).drop j):j<m∧x = .int (j:Int)∧xs=(cW 0 m).drop (j+1):=by
 have hj:j<(cW 0 m).length:=by
  rcases zcx j (cW 0 m).length with z | z
  ·exact z
  ·rw [zaq z] at h;cases h
 rw [zah hj] at h
 injection h with h1 h2
 have hm:j<m:=by simpa [cW] using hj
 refine ⟨hm,?_,h2⟩
 rw [h1]
 simp [cW]
theorem lE (m:Nat):(cW 0 m).length=m:=by simp [cW]
theorem Dw {l:List Str}{j:Nat} (h:j<l.length):nU (l.map D.str) (j:Int)=some (.str l[j]):=cY (by simp [h])
theorem CP {x:D}{ds:List D}{S:av}{z:Nat}{Q:AK} (h:aV S x = .lst ds) (hz:z<ds.length) (k:∀ e∈ds,Q (.dat e) S):uR x (.int z) S Q:=by
 obtain ⟨e,h1,h2⟩:=HR hz
 unfold uR
 rw [h]
 exact ⟨e,h1,k e h2⟩
theorem HU {t:Ti} (h1:Tm 0 202 (.str t.1)) (h2:Tm 0 202 (.str t.2.1)) (h3:Tm 0 202 (.str t.2.2)):Tm 1 615 (T3 t):=by
 refine Tm.tup (l:=3) (m:=202) ?_ (by simp)
 simp only [zci,zbE,or_false]
 rintro e (rfl | rfl | rfl) <;> assumption
theorem CS {t:Ti}{ts:List Ti} (ht:iU t=true) (hts:∀ u∈ts,iU u=true):inD (T3 t) (ts.map T3)=decide (t∈ts):=by
 unfold inD
 rw [zcq]
 by_cases h:t∈ts
 ·rw [decide_eq_true h]
  refine zbI.mpr ⟨t,h,?_⟩
  show PyData.eqv _ _=true
  rw [iu _ _ (good3 ht).2.1 (good3 ht).2.1];simp
 ·rw [decide_eq_false h]
  refine zbg.mpr fun u hu z=>h ?_
  have z:PyData.eqv (py (T3 u)) (py (T3 t))=true:=z
  rw [iu _ _ (good3 (hts u hu)).2.1 (good3 ht).2.1] at z
  rw [← jo (of_decide_eq_true z)];exact hu
theorem RO.qN {ks:List Kn}{ts:List Ti} (h:RO ks ts):∀ t∈ts,iU t=true:=fun t ht=>by
 obtain ⟨h1,h2,h3⟩:=h.tk t ht
 obtain ⟨k1,hk1,e1⟩:=zcs.mp h1
 obtain ⟨k2,hk2,e2⟩:=zcs.mp h2
 unfold iU
 rw [← e1,← e2,cI (h.nm k1 hk1).1,cI (h.nm k2 hk2).1,cI h3];rfl
theorem RO.t3 {ks:List Kn}{ts:List Ti} (h:RO ks ts):∀ t∈ts,Tm 1 615 (T3 t):=fun t ht=>by
 obtain ⟨h1,h2,h3⟩:=h.tk t ht
 obtain ⟨k1,hk1,e1⟩:=zcs.mp h1
 obtain ⟨k2,hk2,e2⟩:=zcs.mp h2
 exact HU (by rw [← e1];exact .name (h.nm k1 hk1).1) (.name h3) (by rw [← e2];exact .name (h.nm k2 hk2).1)
theorem RO.cg {ks:List Kn}{ts:List Ti}:M.cg (bq ks ts)=true:=by
 have p1:∀ l:List Str,bN (l.map D.str)=true:=fun l=>by induction l with | nil=>rfl | cons x l ih=>simp only [zcj,bN,M.cg,zbJ];exact ⟨trivial,ih⟩
 have p2:bN (ks.map eG)=true:=by
  induction ks with
  | nil=>rfl
  | cons k ks ih=>simp only [zcj,bN,zbJ];exact ⟨by simp [eG,M.cg,bN,p1],ih⟩
 have p3:bN (ts.map T3)=true:=by
  induction ts with
  | nil=>rfl
  | cons k ks ih=>simp only [zcj,bN,zbJ];exact ⟨by simp [T3,M.cg,bN],ih⟩
 simp [bq,M.cg,bN,p2,p3]
section
variable {P:Program}{w:World}{K:PySem.W.Frag}{mg:Str→Option Value}{base:Heap}{C fi:Addr}
noncomputable def Bl:AN:=fun ds S Q=>∃ (p n:Nat) (A B M:List Str) (x:D),ds=[.loc p,x,.int 8]∧KU A B M x∧S[p]? = some (some (.feed n))∧n+150<1000∧∀ (ks:List Kn) (ts:List Ti) (n':Nat),RO ks ts→1≤ks.length→ks.length≤8→ts.length≤23→(∀ k∈ks,k.2.length≤5)→n'≤n+150→Q (.dat (bq ks ts)) (S.set p (some (.feed n')))
theorem J2 (T:Txt K mg C fi) (F:Src K mg "_law_rows" jP xF) (D_law_next:Def P w K mg base 1 "_law_next" dF (aL K je)):Def P w K mg base 2 "_law_rows" jP (aL K Bl):=by
 refine oF F fP (fun ds S Q h => ?_) (fun f cdv A outer s H E hr => ?_)
 ·obtain ⟨p,n,A,B,M,x,rfl,_⟩:=h;rfl
 ·refine ⟨_,(M.af (M.aD (i:=3) fP.nd rfl (Or.inl rfl) (M.AD (M.bJ M.aa)))
   (M.af (M.cU PassesOwn.never rfl (M.bG (by rfl) T.range (M.ao (M.aE M.dS M.ah (M.aJ D_law_next (hr.mono (by decide)) (by rfl) (M.ao (M.pv 0) (M.ao (M.pv 2) M.aa)))) M.aa)) (M.aq (i:=4) fP.nd rfl (Or.inl rfl))
    (M.af (M.aU (i:=5) fP.nd rfl rfl (N:=["_law_mark","_law_feed_here"]) (caps:=[none,some 0]) (cM (by decide +kernel)) (by rfl) (by rfl) rfl (M.bT (M.aH M.bK (M.pv 1) M.ah (fun _ _=>rfl))) (fun _ _ _ _=>(M.aq (i:=0) (by decide +kernel:List.Nodup (["_law_mark","_law_feed_here"]:List Str)) rfl (Or.inl rfl))) (fun _ _ _ _=>(M.fR (M.aK (M.sS hr) (M.aJ D_law_next (hr.mono (by decide)) (by rfl) (M.ao (M.pv 1) (M.ao M.ah M.aa))) M.ah (bC _)))) (fun _ _ _ _=>(M.pv 0)))
    (M.aj (M.aZ (M.c8 PySem.F.plainAttrs_list PySem.F.slot_list_append PySem.F.type_list_append M.fE (M.pv 3) (M.ao (M.bO (M.ao (M.aH M.bK (M.aH M.bK (M.pv 1) M.ah (fun _ _=>rfl)) (M.pv 4) (fun _ _=>rfl)) (M.ao (M.pv 5) M.aa))) M.aa))))))
   (M.af (M.aD (i:=6) fP.nd rfl (Or.inl rfl) (M.AD (M.bJ M.aa)))
   (M.af (M.cU PassesOwn.never rfl (M.bG (by rfl) T.range (M.ao (M.aJ D_law_next (hr.mono (by decide)) (by rfl) (M.ao (M.pv 0) (M.ao (M.aE M.LW M.ah (M.pv 2)) M.aa))) M.aa)) (M.aq (i:=4) fP.nd rfl (Or.inl rfl))
    (M.af (M.aD (i:=7) fP.nd rfl (Or.inl rfl) (M.aH M.bK (M.aH M.bK (M.pv 3) (M.aJ D_law_next (hr.mono (by decide)) (by rfl) (M.ao (M.pv 0) (M.ao (M.eX M.fB (by rfl) T.len (by decide +kernel) (M.ao (M.pv 3) M.aa)) M.aa))) (fun _ _=>rfl)) M.ah (fun _ _=>rfl)))
    (M.af (M.aD (i:=8) fP.nd rfl (Or.inl rfl) (M.aH M.bK (M.aH M.bK (M.pv 1) M.ah (fun _ _=>rfl)) (M.aJ D_law_next (hr.mono (by decide)) (by rfl) (M.ao (M.pv 0) (M.ao (M.eX M.fB (by rfl) T.len (by decide +kernel) (M.ao (M.aH M.bK (M.pv 1) M.ah (fun _ _=>rfl)) M.aa)) M.aa))) (fun _ _=>rfl)))
    (M.af (M.aD (i:=9) fP.nd rfl (Or.inl rfl) (M.bO (M.ao (M.pv 7) (M.ao (M.pv 8) (M.ao (M.aH M.bK (M.aH M.bK (M.pv 3) (M.aJ D_law_next (hr.mono (by decide)) (by rfl) (M.ao (M.pv 0) (M.ao (M.eX M.fB (by rfl) T.len (by decide +kernel) (M.ao (M.pv 3) M.aa)) M.aa))) (fun _ _=>rfl)) M.ah (fun _ _=>rfl)) M.aa)))))
    (M.aj (M.cu (M.aK (M.yc hr) (M.pv 9) (M.pv 6) rfl)
     (M.aj (M.aZ (M.c8 PySem.F.plainAttrs_list PySem.F.slot_list_append PySem.F.type_list_append M.fE (M.pv 6) (M.ao (M.pv 9) M.aa))))
     M.bz))))))
   (M.aj (M.aO (M.OD (M.OD (M.bO (M.ao (M.pv 3) (M.ao (M.pv 6) M.aa))))))))))),fun ds S Q h => ?_⟩
  obtain ⟨p,n,NA,NB,NM,x,rfl,⟨rfl,lA,lB,lM,ndA,ndM,nA,nB,nM⟩,hp,hn,q⟩:=h
  have e0:aN yY [.loc p,.lst [.lst (NA.map D.str),.lst (NB.map D.str),.lst (NM.map D.str)],.int 8]=[some (.loc p),some (.lst [.lst (NA.map D.str),.lst (NB.map D.str),.lst (NM.map D.str)]),some (.int 8),none,none,none,none,none,none,none]:=rfl
  rw [e0]
  generalize hXN:D.lst [D.lst (NA.map D.str),D.lst (NB.map D.str),D.lst (NM.map D.str)]=XN
  have x00:∀ {S:av}{Q:AK},Q (.dat (.lst (NA.map D.str))) S→uR XN (.int 0) S Q:=fun {S Q} q'=>by rw [← hXN];exact ⟨_,rfl,q'⟩
  have x01:∀ {S:av}{Q:AK},Q (.dat (.lst (NB.map D.str))) S→uR XN (.int 1) S Q:=fun {S Q} q'=>by rw [← hXN];exact ⟨_,rfl,q'⟩
  have x02:∀ {S:av}{Q:AK},Q (.dat (.lst (NM.map D.str))) S→uR XN (.int 2) S Q:=fun {S Q} q'=>by rw [← hXN];exact ⟨_,rfl,q'⟩
  have pl:=gb hp
  push_cast [gH,nW,tO]
  refine ⟨zcI _,dz (dR hp) (by omega) (by decide) (by decide) fun z hz => ?_⟩
  refine ⟨1+(z:Int),rfl,by omega,by omega,?_⟩
  rw [Bb (n:=0) pl,show (1+(z:Int)).toNat=z+1 by omega]
  refine dD (fun rest δ S'=>∃ (j:Nat) (ks:List Kn) (n2:Nat) (v4 v5:Option D),rest=(cW 0 (z+1)).drop j∧j≤z+1∧δ=[some (.loc p),some XN,some (.int 8),some (.loc S.length),v4,v5,none,none,none,none]∧S'=S.set p (some (.feed n2))++[some (.lst (ks.map eG))] ∧
   ks.length=j∧nms ks=NA.take j∧(∀ k∈ks,Nm k.1∧k.2.length≤5∧k.2.Nodup∧∀ m∈k.2,Nm m)∧n2≤n+1+5*j) ?_ ?_ _ _ _ ⟨0,[],n+1,none,none,rfl,zcI _,rfl,rfl,rfl,rfl,by simp,by omega⟩
  ·rintro δ S' ⟨j,ks,n2,v4,v5,hd,hj,rfl,rfl,hkl,hkn,hkk,hn2⟩
   refine ⟨trivial,?_⟩
   have hj:j=z+1:=by
    have:=congrArg zcF hd
    rw [zbz,lE] at this
    simp at this;omega
   subst hj
   have hkl0:0<ks.length:=by omega
   have hk8:ks.length≤8:=by omega
   have kl:(S.set p (some (.feed n2))++[some (MO.lst (ks.map eG))]).length=S.length+1:=by rw [zaU,zbW];rfl
   push_cast [gH,nW,tO,kl]
   refine ⟨zcI _,.inl ⟨by decide,by decide⟩,?_⟩
   rw [zbk]
   refine dz (m:=24) (rS hp) (by omega) (by decide) (by decide) fun z2 hz2 => ?_
   rw [gZ (n:=0) pl]
   refine ⟨(z2:Int),rfl,by omega,by omega,?_⟩
   rw [show (z2:Int).toNat=z2 by omega]
   refine dD (fun rest δ S'=>∃ (ts:List Ti) (n3:Nat) (v4 v7 v8 v9:Option D),(∀ e∈rest,∃ i:Int,e = .int i)∧δ=[some (.loc p),some XN,some (.int 8),some (.loc S.length),v4,v5,some (.loc (S.length+1)),v7,v8,v9]∧S'=S.set p (some (.feed n3))++[some (.lst (ks.map eG)),some (.lst (ts.map T3))] ∧
    ts.length+rest.length≤23∧ts.Nodup∧(∀ t∈ts,t.1∈nms ks∧t.2.2∈nms ks∧Nm t.2.1)∧n3+3*rest.length≤n+140) ?_ ?_ _ _ _ ⟨[],n2+1,_,none,none,none,fun e he => ?_,rfl,rfl,by rw [lE];simp;omega,.nil,by simp,by rw [lE];omega⟩
   ·rintro δ S' ⟨ts,n3,v4,v7,v8,v9,_,rfl,rfl,tl,tn,tk,hn3⟩
    refine ⟨trivial,?_⟩
    push_cast [GJ]
    have NQ:ts.length≤23:=by simpa using tl
    have hRO:RO ks ts:=⟨by omega,by rw [hkn];exact ndA.sublist (zbi _ _),fun k hk=>⟨(hkk k hk).1,by have:=(hkk k hk).2.1;omega,(hkk k hk).2.2⟩,tn,by omega,tk⟩
    refine ⟨by show 2≤sizeLine;decide,S.length,ks.map eG,_,rfl,fM (i:=0) (by rw [zbW];rfl),S.length+1,ts.map T3,_,rfl,?_,?_⟩
    ·rw [zaE (by omega)]
     exact fM (i:=1) (by rw [zbW])
    ·rw [iN (i:=0) (by rw [zbW];rfl),iN (i:=1) (by rw [zbW])]
     have ev:(([D.loc S.length,D.loc (S.length+1)].map (sb S.length (.lst (ks.map eG)))).map (sb (S.length+1) (.lst (ts.map T3))))=[.lst (ks.map eG),.lst (ts.map T3)]:=by
      simp [sb]
     rw [ev]
     exact BP RO.cg (q ks ts n3 hRO (by omega) hk8 NQ (fun k hk=>(hkk k hk).2.1) (by omega))
   ·rintro x xs δ S' N ⟨ts,n3,v4,v7,v8,v9,hx,rfl,rfl,tl,tn,tk,hn3⟩ hN
    obtain ⟨i,rfl⟩:=hx x (by simp)
    refine ⟨trivial,?_⟩
    have e3:∀ m,aV (S.set p (some (.feed m))++[some (MO.lst (ks.map eG)),some (.lst (ts.map T3))]) (.loc S.length) = .lst (ks.map eG):=fun m=>(bQ (o:=.lst (ks.map eG)) (fM (i:=0) (by rw [zbW];rfl)))
    have e4:∀ m,aV (S.set p (some (.feed m))++[some (MO.lst (ks.map eG)),some (.lst (ts.map T3))]) (.loc (S.length+1)) = .lst (ts.map T3):=fun m=>(bQ (o:=.lst (ts.map T3)) (fM (i:=1) (by rw [zbW])))
    push_cast [e3]
    simp only [zbx] at tl hn3
    refine ⟨ks.length,by show some _=_;rw [zbP],?_⟩
    refine dz (rS hp) (by omega) (by omega) (by omega) fun a ha => ?_
    rw [gZ (n:=0) pl]
    refine CP (e3 _) (by rw [zbP];omega) (fun y hy => ?_)
    obtain ⟨k,hk,rfl⟩:=zcs.mp hy
    refine ⟨.str k.1,rfl,x01 (x01 ⟨3,by show some _=_;rw [zbP,lB],?_⟩)⟩
    refine dz (rS hp) (by omega) (by decide) (by decide) fun b hb => ?_
    rw [gZ (n:=0) pl]
    refine pick (by rw [zbP,lB];omega) (fun y hy => ?_)
    obtain ⟨v,hv,rfl⟩:=zcs.mp hy
    refine ⟨ks.length,by rw [e3];show some _=_;rw [zbP],?_⟩
    refine dz (rS hp) (by omega) (by omega) (by omega) fun c hc => ?_
    rw [gZ (n:=0) pl]
    refine CP (e3 _) (by rw [zbP];omega) (fun y hy => ?_)
    obtain ⟨k',hk',rfl⟩:=zcs.mp hy
    refine ⟨.str k'.1,rfl,by show 3≤sizeLine;decide,?_⟩
    have t1:Tm 1 615 (T3 (k.1,v,k'.1)):=HU (.name (hkk k hk).1) (.name (nB v hv)) (.name (hkk k' hk').1)
    have ot:iU (k.1,v,k'.1)=true:=by unfold iU;rw [cI (hkk k hk).1,cI (nB v hv),cI (hkk k' hk').1];rfl
    have hRO:RO ks ts:=⟨by omega,by rw [hkn];exact ndA.sublist (zbi _ _),fun k hk=>⟨(hkk k hk).1,by have:=(hkk k hk).2.1;omega,(hkk k hk).2.2⟩,tn,by omega,tk⟩
    have tts:Tm 2 14194 (.lst (ts.map T3)):=Tm.lst (n:=1) (l:=23) (m:=615) (fun e he=>by obtain ⟨t,ht,rfl⟩:=zcs.mp he;exact hRO.t3 t ht) (by rw [zbP];omega)
    show AH true (T3 (k.1,v,k'.1)) _ _ _
    unfold AH
    rw [e4]
    refine ⟨qd t1.th (by decide),qd tts.th (by decide),_,rfl,?_⟩
    rw [show aV _ (T3 (k.1,v,k'.1))=T3 (k.1,v,k'.1) from rfl,CS ot hRO.qN]
    by_cases hin:(k.1,v,k'.1)∈ts
    ·rw [decide_eq_true hin,if_neg (by decide)]
     exact hN _ _ ⟨ts,_,_,_,_,_,fun e he=>hx e (zaC _ he),rfl,rfl,by omega,tn,tk,by omega⟩
    ·rw [decide_eq_false hin,if_pos (by decide)]
     push_cast [yU,e4,oB,true_and]
     refine ⟨_,_,_,rfl,rfl,fM (i:=1) (by rw [zbW]),by rw [zbP,sizeLine_eq];omega,?_⟩
     rw [iN (i:=1) (by rw [zbW])]
     refine hN _ _ ⟨ts++[(k.1,v,k'.1)],_,_,_,_,_,fun e he=>hx e (zaC _ he),rfl,by rw [zbV];rfl,by rw [zaU];simp;omega,?_,fun t ht => ?_,by omega⟩
     ·refine zbm.mpr ⟨tn,by simp,fun x hx y hy z => ?_⟩
      have:y=(k.1,v,k'.1):=by simpa using hy
      exact hin (by rw [← this,← z];exact hx)
     ·rcases zbO.mp ht with ht | ht
      ·exact tk t ht
      ·have:t=(k.1,v,k'.1):=by simpa using ht
       subst this
       exact ⟨zcs.mpr ⟨k,hk,rfl⟩,zcs.mpr ⟨k',hk',rfl⟩,nB v hv⟩
   ·unfold cW at he
    rw [zcs] at he
    obtain ⟨i,_,rfl⟩:=he
    exact ⟨_,rfl⟩
  ·rintro x xs δ S' N ⟨j,ks,n2,v4,v5,hd,hj,rfl,rfl,hkl,hkn,hkk,hn2⟩ hN
   obtain ⟨hj2,rfl,rfl⟩:=sC hd
   refine ⟨trivial,?_⟩
   push_cast [kP,zZ]
   refine x02 ?_
   show bR (fun _=>True) (bD 0) _ (fJ 0) (NM.map D.str) [] [none,some (.loc p)] _ _
   refine rq (fun rest acc δ S''=>∃ (ms rs:List Str) (n3:Nat) (v0:Option D),rest=rs.map D.str∧acc=ms.map D.str∧δ=[v0,some (.loc p)]∧S''=S.set p (some (.feed n3))++[some (.lst (ks.map eG))]∧ms.length+rs.length≤5∧(ms++rs).Nodup∧(∀ m∈ms,Nm m)∧(∀ m∈rs,Nm m)∧n3+rs.length≤n2+5) ?_ ?_ _ _ _ _ ⟨[],NM,n2,none,rfl,rfl,rfl,rfl,by simp [lM],by simpa using ndM,by simp,nM,by omega⟩
   ·rintro acc δ S'' ⟨ms,rs,n3,v0,e1,rfl,rfl,rfl,hl,hmd,hm,_,hn3⟩
    have:rs=[]:=by cases rs with | nil=>rfl | cons _ _=>simp at e1
    subst this
    refine ⟨trivial,?_⟩
    have e3:(S.set p (some (.feed n3))++[some (MO.lst (ks.map eG))])[S.length]? = some (some (.lst (ks.map eG))):=fM (i:=0) (by rw [zbW];rfl)
    push_cast [yU,bQ e3,oB,true_and]
    have hjA:j<NA.length:=by omega
    refine x00 ⟨_,Dw hjA,by show 2≤sizeLine;decide,_,_,_,rfl,rfl,e3,by rw [zbP,sizeLine_eq];omega,?_⟩
    rw [iN (i:=0) (by rw [zbW];rfl)]
    refine hN _ _ ⟨j+1,ks++[(NA[j],ms)],n3,_,_,rfl,by omega,rfl,by rw [zbV];rfl,by rw [zaU,hkl];rfl,?_,fun k hk => ?_,by simp at hn3;omega⟩
    ·show (ks++[(NA[j],ms)]).map (·.1)=_
     rw [zbV,List.take_succ_eq_append_getElem hjA]
     have hkn:ks.map (·.1)=NA.take j:=hkn
     rw [hkn];rfl
    ·rcases zbO.mp hk with hk | hk
     ·exact hkk k hk
     ·have:k=(NA[j],ms):=by simpa using hk
      subst this
      exact ⟨nA _ (zbD _),by simp at hl;exact hl,by simpa using hmd,hm⟩
   ·rintro y ys acc δ S'' N' ⟨ms,rs,n3,v0,e1,rfl,rfl,rfl,hl,hmd,hm,hr',hn3⟩ hN'
    cases rs with
    | nil=>simp at e1
    | cons r rs =>
     rw [zcj] at e1
     injection e1 with e1 e3
     subst e1;subst e3
     refine ⟨trivial,?_⟩
     push_cast [true_and]
     refine dz (rS hp) (by omega) (by decide) (by decide) fun z' hz' => ?_
     rw [gZ (n:=0) pl]
     refine ⟨_,rfl,?_⟩
     simp only [zbx] at hl hn3
     by_cases h0:(z':Int)=0
     ·rw [decide_eq_true h0,if_pos rfl]
      refine ⟨by rw [zbP,sizeLine_eq];omega,hN' _ _ _ ⟨ms++[r],rs,n3+1,_,rfl,by rw [zbV];rfl,rfl,rfl,by rw [zaU];simp;omega,by simpa using hmd,fun m hm' => ?_,fun m hm'=>hr' m (zaC _ hm'),by omega⟩⟩
      rcases zbO.mp hm' with h | h
      ·exact hm m h
      ·have:m=r:=by simpa using h
       subst this
       exact hr' m (by simp)
     ·rw [decide_eq_false h0,if_neg (by decide)]
      exact hN' _ _ _ ⟨ms,rs,n3+1,_,rfl,rfl,rfl,rfl,by omega,hmd.sublist (by simp),hm,fun m hm'=>hr' m (zaC _ hm'),by omega⟩
end
open PySem PySem.Spec L2 M M6 PyProof.Rows
noncomputable abbrev xP:Stmt:=top 27
noncomputable abbrev zf:List Str:=["_law_rows_here","_law_web_here","_law_name","_law_marks","_law_one","_law_word","_law_other"]
noncomputable abbrev jU:List Str:=["_law_rows_here"]
theorem iO:az zf jU (ai xP):=⟨rfl,rfl,rfl,by decide +kernel,rfl,by decide +kernel,by decide +kernel⟩
noncomputable abbrev lD:Stmt:=top 31
noncomputable abbrev pY:List Str:=["_law_rows_here","_law_knot","_law_found","_law_ties"]
noncomputable abbrev fL:List Str:=["_law_rows_here","_law_knot"]
theorem mF:az pY fL (ai lD):=⟨rfl,rfl,rfl,by decide +kernel,rfl,by decide +kernel,by decide +kernel⟩
theorem cS {α:Type}{P:av→Prop}{t:AT}{e:AE}{Q:List D→av→Prop}{δ:bw}{S:av} (g:α→D) (c:α→Bool) (f:α→D) (hP:P S):∀ (as:List α) (acc:List D) (δ':bw),δ'.set 0 none=δ.set 0 none →
  (∀ a∈as,∀ Q:Bool→av→Prop,Q (c a) S→t (δ.set 0 (some (g a))) S Q)→(∀ a∈as,∀ Q:AK,Q (.dat (f a)) S→e (δ.set 0 (some (g a))) S Q)→acc.length+as.length≤sizeLine→Q (acc++(as.filter c).map f) S →
  bR P (bD 0) t e (as.map g) acc δ' S Q
 | [],acc,δ',_,_,_,_,q=>⟨hP,by simpa using q⟩
 | a::as,acc,δ',hd,ht,he,hl,q=>by
  refine ⟨hP,?_⟩
  have e1:δ'.set 0 (some (g a))=δ.set 0 (some (g a)):=by
   have:=congrArg (fun l=>l.set 0 (some (g a))) hd
   simpa [zcr] using this
  show bD 0 (g a) δ' S _
  simp only [bD]
  rw [e1]
  simp only [zbx] at hl
  refine ht a (by simp) _ ?_
  cases hc:c a with
  | true =>
   rw [if_pos rfl]
   refine he a (by simp) _ ⟨by omega,?_⟩
   refine cS g c f hP as _ _ (by simp [zcr]) (fun x hx=>ht x (by simp [hx])) (fun x hx=>he x (by simp [hx])) (by simp;omega) ?_
   rw [List.filter_cons,hc,if_pos rfl,zcj] at q
   simpa [R.d,zbk] using q
  | false =>
   rw [if_neg (by decide)]
   refine cS g c f hP as _ _ (by simp [zcr]) (fun x hx=>ht x (by simp [hx])) (fun x hx=>he x (by simp [hx])) (by omega) ?_
   rw [List.filter_cons,hc,if_neg (by decide)] at q
   exact q
structure uL (S S':av) (own:List Nat):Prop where
 keep:∀ k,k<S.length→S'[k]? = S[k]?
 len:S.length≤S'.length
 own:∀ c∈own,S.length≤c
theorem uL.step {S S' S2:av}{own own':List Nat} (h:uL S S' own) (f:Fr S' S2 own own'):uL S S2 own' :=
 ⟨fun k hk=>by rw [f.out k (zaZ hk h.len) fun z=>by have:=h.own k z;omega];exact h.keep k hk,zcv h.len f.len,fun c hc=>by
  rcases f.new c hc with z | z
  ·exact h.own c z
  ·exact zcv h.len z⟩
noncomputable def oA (k:Kn):D:=.tup [.str k.1,.tup (k.2.map D.str)]
noncomputable def gm (ks:List Kn) (ts:List Ti):D:=.tup [.tup (ks.map oA),.tup (ts.map T3)]
section
variable {P:Program}{w:World}{K:PySem.W.Frag}{mg:Str→Option Value}{base:Heap}{C fi:Addr}
noncomputable def Hv (C:Addr) (W:World) (S:av) (ks:List Kn) (ts:List Ti) (Q:AK):Prop:=∀ S' own,bZ C W S' S.length own ks ts→uL S S' own→Q (.dat (.loc S.length)) S'
noncomputable def Bs (C:Addr) (W:World):AN:=fun ds S Q=>∃ ks ts,ds=[bq ks ts]∧RO ks ts∧ks.length≤40∧ts.length≤300∧Hv C W S ks ts Q
noncomputable def L1 (C:Addr) (w:World) (R:D) (g:Kn→D) (S:av) (ks:List Kn) (rest:List D) (δ:bw) (S':av):Prop:=∃ (done rs:List Kn) (own:List Nat) (v2 v3:Option D),rest=rs.map g∧done++rs=ks∧δ=[some R,some (.loc S.length),v2,v3,none,none,none]∧bZ C w S' S.length own done []∧uL S S' own
noncomputable def L2' (C:Addr) (w:World) (R:D) (S:av) (ks:List Kn) (ts:List Ti) (rest:List D) (δ:bw) (S':av):Prop:=∃ (dt rt:List Ti) (own:List Nat) (v2 v3 v4 v5 v6:Option D),rest=rt.map T3∧dt++rt=ts∧δ=[some R,some (.loc S.length),v2,v3,v4,v5,v6]∧bZ C w S' S.length own ks dt∧uL S S' own
theorem pK {S S1:av}{n:Nat}{o:Option MO} (k1:∀ k,k<S.length→S1[k]? = (S++[o])[k]?) (l1:S1.length=S.length+4):uL S S1 [S.length,S.length+1,S.length+2,S.length+3] :=
 ⟨fun k hk=>by rw [k1 k hk,zag hk],by omega,fun c hc=>by simp at hc;omega⟩
theorem tY {α β:Type}{g:α→β}{rs:List α} (e:[]=rs.map g):rs=[]:=by cases rs with | nil=>rfl | cons _ _=>simp at e
theorem qP {α:Type}{d r:List α}{x:α}{l:List α} (e:d++x::r=l) (h:l.Nodup):x ∉ d:=fun z=>by
 rw [← e,zbm] at h
 exact h.2.2 x z x (by simp) rfl
theorem Ke {fdi:FuncData} (T:Txt K mg C fi) (F:Src K mg "_law_web" jU xP) (F_Web:dO P w K mg base kQ 1 fi fdi dG (aL K (qj C w))) (B_Web:Binds K fdi dG [])
  (D_put_knot:c6 P w K mg base 2 C "put_knot" iy (u5 C w)) (D_put_tie:c6 P w K mg base 2 C "put_tie" iw (uZ C w)):Def P w K mg base 3 "_law_web" jU (aL K (Bs C w)):=by
 refine JY F iO (fun ds S Q h => ?_) (fun f cdv A outer s H E hr => ?_)
 ·obtain ⟨ks,ts,rfl,_⟩:=h;rfl
 ·refine ⟨_,(M.af (M.aD (i:=1) iO.nd rfl (Or.inl rfl) (M.gq T.Cv F_Web B_Web (hr.mono (by decide)) (by rfl) T.vE))
   (M.af (M.cU PassesOwn.never rfl (M.bT (M.aH M.bK (M.pv 0) M.ah (fun _ _=>rfl))) (M.fS (n:=2) rfl (M.br (M.aq (i:=2) iO.nd rfl (Or.inl rfl)) (M.br (M.aq (i:=3) iO.nd rfl (Or.inl rfl)) M.dX)))
    (M.aj (M.aZ (M.b5 (M.pv 1) T.cl D_put_knot (hr.mono (by decide)) (M.ao (M.pv 2) (M.ao (M.qL M.cL (by rfl) T.list (by decide +kernel) (M.ao (M.pv 3) M.aa)) M.aa))))))
   (M.af (M.cU PassesOwn.never rfl (M.bT (M.aH M.bK (M.pv 0) M.ah (fun _ _=>rfl))) (M.fS (n:=3) rfl (M.br (M.aq (i:=4) iO.nd rfl (Or.inl rfl)) (M.br (M.aq (i:=5) iO.nd rfl (Or.inl rfl)) (M.br (M.aq (i:=6) iO.nd rfl (Or.inl rfl)) M.dX))))
    (M.aj (M.aZ (M.b5 (M.pv 1) T.cl D_put_tie (hr.mono (by decide)) (M.ao (M.pv 4) (M.ao (M.pv 5) (M.ao (M.pv 6) M.aa)))))))
   (M.aj (M.aO (M.pv 1)))))),fun ds S Q h => ?_⟩
  obtain ⟨ks,ts,rfl,hRO,hk40,ht300,q⟩:=h
  have e0:aN zf [bq ks ts]=[some (bq ks ts),none,none,none,none,none,none]:=rfl
  rw [e0]
  push_cast [yR,nW]
  refine ⟨S.length,rfl,by rw [zaU];rfl,bL,fun S1 X1 k1 l1=>⟨rfl,?_⟩⟩
  refine ⟨_,rfl,_,rfl,?_⟩
  show jB (fun _=>True) _ _ (ks.map eG) _ _ S1
  refine dD (L1 C w (bq ks ts) eG S ks) ?_ ?_ _ _ _ ⟨[],ks,_,none,none,rfl,rfl,rfl,X1,pK (n:=0) k1 l1⟩
  ·rintro δ S2 ⟨done,rs,own,v2,v3,e1,e2,rfl,X2,k2⟩
   have:=tY e1
   subst this
   rw [zbQ] at e2
   subst e2
   refine ⟨trivial,?_⟩
   push_cast [nW]
   refine ⟨_,rfl,_,rfl,?_⟩
   show jB (fun _=>True) _ _ (ts.map T3) _ _ S2
   refine dD (L2' C w (bq done ts) S done ts) ?_ ?_ _ _ _ ⟨[],ts,own,v2,v3,none,none,none,rfl,rfl,rfl,X2,k2⟩
   ·rintro δ S3 ⟨dt,rt,own,v2,v3,v4,v5,v6,e1,e2,rfl,X3,k3⟩
    have:=tY e1
    subst this
    rw [zbQ] at e2
    subst e2
    exact ⟨trivial,_,rfl,q S3 own X3 k3⟩
   ·rintro x xs δ S3 N ⟨dt,rt,own,v2,v3,v4,v5,v6,e1,e2,rfl,X3,k3⟩ hN
    cases rt with
    | nil=>simp at e1
    | cons r rt =>
     rw [zcj] at e1
     injection e1 with e1 e3
     subst e1;subst e3
     obtain ⟨m,t,e,cs,ro,rk,X⟩:=id X3
     have hr:r∈ts:=by rw [← e2];simp
     have:dt.length<300:=by have:=congrArg zcF e2;rw [zaU] at this;simp at this;omega
     refine ⟨trivial,_,rfl,rfl,_,_,rfl,_,_,rfl,_,_,rfl,rfl,?_⟩
     exact bX rfl X.at_ (by decide +kernel) ⟨_,rfl,_,rfl,_,rfl,S.length,r,own,done,dt,rfl,X3,(hRO.tk r hr).1,(hRO.tk r hr).2.1,qP e2 hRO.tn,this,hRO.qN r hr,fun S4 own4 X4 f4=>hN _ _ ⟨dt++[r],rt,own4,_,_,_,_,_,rfl,by rw [← e2];simp,rfl,X4,k3.step f4⟩⟩
  ·rintro x xs δ S2 N ⟨done,rs,own,v2,v3,e1,e2,rfl,X2,k2⟩ hN
   cases rs with
   | nil=>simp at e1
   | cons r rs =>
    rw [zcj] at e1
    injection e1 with e1 e3
    subst e1;subst e3
    obtain ⟨m,t,e,cs,ro,rk,X⟩:=id X2
    have hr:r∈ks:=by rw [← e2];simp
    have hno:r.1 ∉ nms done:=qP (r:=nms rs) (l:=nms ks) (by rw [← e2];simp [nms]) hRO.nd
    have hkl:done.length<40:=by have:=congrArg zcF e2;rw [zaU] at this;simp at this;omega
    have hm:=hRO.nm r hr
    refine ⟨trivial,_,rfl,rfl,_,_,rfl,_,_,rfl,rfl,?_⟩
    refine bX rfl X.at_ (by decide +kernel) ⟨_,rfl,_,rfl,_,rfl,S.length,r.1,.lst (r.2.map D.str),r.2,own,done,[],rfl,.inl rfl,X2,hno,hkl,by omega,hm.2.2.1,cI hm.1,fun m hm'=>cI (hm.2.2.2 m hm'),fun S4 own4 X4 f4=>hN _ _ ⟨done++[r],rs,own4,_,_,rfl,by rw [← e2];simp,rfl,X4,k2.step f4⟩⟩
noncomputable def b7 (ks:List Kn):List Kn:=(cT (nms ks)).map fun x=>(x,cT (aQ ks x))
theorem mH (ks:List Kn) (ts:List Ti):sA ks ts=gm (b7 ks) (cB ts):=by
 unfold sA gm b7
 rw [zct];rfl
theorem cD {ks:List Kn} (hn:(nms ks).Nodup) {k:Kn} (hk:k∈ks):aQ ks k.1=k.2:=by
 have h:=ki (ks:=ks) (x:=k.1) (zcs.mpr ⟨k,hk,rfl⟩)
 have:=iY hn _ h _ hk rfl
 exact congrArg (·.2) this
theorem RO.cT {ks:List Kn}{ts:List Ti} (h:RO ks ts) (p1:(cT (nms ks)).Perm (nms ks)) (p2:(cB ts).Perm ts) (p3:∀ x∈nms ks,(K13.cT (aQ ks x)).Perm (aQ ks x)):RO (b7 ks) (cB ts):=by
 have en:nms (b7 ks)=K13.cT (nms ks):=by unfold b7 nms;rw [zct];simp [Function.comp_def]
 refine ⟨?_,by rw [en];exact p1.nodup_iff.mpr h.nd,fun k hk => ?_,p2.nodup_iff.mpr h.tn,by rw [p2.length_eq];exact h.tl,fun t ht => ?_⟩
 ·unfold b7
  rw [zbP,p1.length_eq]
  unfold nms
  rw [zbP];exact h.kl
 ·unfold b7 at hk
  obtain ⟨x,hx,rfl⟩:=zcs.mp hk
  have hx:=p1.mem_iff.mp hx
  obtain ⟨k,hk1,rfl⟩:=zcs.mp hx
  have hp:=p3 k.1 hx
  rw [cD h.nd hk1] at hp ⊢
  have hm:=h.nm k hk1
  exact ⟨hm.1,by show (K13.cT k.2).length≤5;rw [hp.length_eq];exact hm.2.1,hp.nodup_iff.mpr hm.2.2.1,fun m hm'=>hm.2.2.2 m (hp.mem_iff.mp hm')⟩
 ·have:=h.tk t (p2.mem_iff.mp ht)
  rw [en]
  exact ⟨p1.mem_iff.mpr this.1,p1.mem_iff.mpr this.2.1,this.2.2⟩
noncomputable def ck (ts:List Ti) (k:Str):List Ti:=(ts.filter fun t=>decide (t.1=k)).map (fun t=>(("on" : Str),t.2.1,t.2.2))++(ts.filter fun t=>decide (t.2.2=k)).map (fun t=>(("back" : Str),t.2.1,t.1))
noncomputable def rZ:AN:=fun ds S Q=>∃ ks ts k,ds=[bq ks ts,.str k]∧RO ks ts∧fc k=true∧∀ us:List Ti,us.Perm (ck ts k)→uN (us.map T3)→Q (.new (.lst (us.map T3))) S
theorem Di (T:Txt K mg C fi) (F:Src K mg "_law_steps" fL lD):Def P w K mg base 1 "_law_steps" fL (aL K rZ):=by
 refine JY F mF (fun ds S Q h => ?_) (fun f cdv A outer s H E hr => ?_)
 ·obtain ⟨ks,ts,k,rfl,_⟩:=h;rfl
 ·refine ⟨_,(M.af (M.aU (i:=2) mF.nd rfl rfl (N:=["_law_tie","_law_knot"]) (caps:=[none,some 1]) (cM (by decide +kernel)) (by rfl) (by rfl) rfl (M.bT (M.aH M.bK (M.pv 0) M.ah (fun _ _=>rfl))) (fun _ _ _ _=>(M.aq (i:=0) (by decide +kernel:List.Nodup (["_law_tie","_law_knot"]:List Str)) rfl (Or.inl rfl))) (fun _ _ _ _=>(M.fR (M.aK (M.sS hr) (M.aH M.bK (M.pv 0) M.ah (fun _ _=>rfl)) (M.pv 1) (bC _)))) (fun _ _ _ _=>(M.bO (M.ao M.au (M.ao (M.aH M.bK (M.pv 0) M.ah (fun _ _=>rfl)) (M.ao (M.aH M.bK (M.pv 0) M.ah (fun _ _=>rfl)) M.aa))))))
   (M.af (M.aU (i:=3) mF.nd rfl rfl (N:=["_law_tie","_law_knot"]) (caps:=[none,some 1]) (cM (by decide +kernel)) (by rfl) (by rfl) rfl (M.bT (M.aH M.bK (M.pv 0) M.ah (fun _ _=>rfl))) (fun _ _ _ _=>(M.aq (i:=0) (by decide +kernel:List.Nodup (["_law_tie","_law_knot"]:List Str)) rfl (Or.inl rfl))) (fun _ _ _ _=>(M.fR (M.aK (M.sS hr) (M.aH M.bK (M.pv 0) M.ah (fun _ _=>rfl)) (M.pv 1) (bC _)))) (fun _ _ _ _=>(M.pv 0)))
   (M.aj (M.aO (M.eX (M.jz hr) (by rfl) T.sorted (by decide +kernel) (M.ao (M.aE M.dS (M.pv 2) (M.b6 (N:=["_law_tie"]) (caps:=[none]) (cM (by decide +kernel)) (by rfl) (by rfl) rfl (M.bT (M.pv 3)) (fun _ _ _ _=>(M.aq (i:=0) (by decide +kernel:List.Nodup (["_law_tie"]:List Str)) rfl (Or.inl rfl))) (fun _ _ _ _=>M.bx) (fun _ _ _ _=>(M.bO (M.ao M.au (M.ao (M.aH M.bK (M.pv 0) M.ah (fun _ _=>rfl)) (M.ao (M.aH M.bK (M.pv 0) M.ah (fun _ _=>rfl)) M.aa))))))) M.aa)))))),fun ds S Q h => ?_⟩
  obtain ⟨ks,ts,k,rfl,hRO,ok,q⟩:=h
  have e0:aN pY [bq ks ts,.str k]=[some (bq ks ts),some (.str k),none,none]:=rfl
  rw [e0]
  push_cast [kP,zZ]
  have htl:=hRO.tl
  refine ⟨_,rfl,?_⟩
  show bR (fun _=>True) (bD 0) _ _ (ts.map T3) [] [none,some (.str k)] S _
  refine cS (δ:=[none,some (.str k)]) T3 (fun t=>decide (t.1=k)) (fun t=>T3 ("on",t.2.1,t.2.2)) trivial ts [] _ rfl (fun t ht Q' q'=>⟨_,rfl,_,rfl,_,rfl,_,rfl,q'⟩) (fun t ht Q' q'=>⟨_,rfl,_,rfl,_,rfl,_,rfl,by show 3≤sizeLine;decide,q'⟩) (by rw [sizeLine_eq];simp;omega) ?_
  refine ⟨_,rfl,?_⟩
  show bR (fun _=>True) (bD 0) _ _ (ts.map T3) [] [none,some (.str k)] S _
  refine cS (δ:=[none,some (.str k)]) T3 (fun t=>decide (t.2.2=k)) T3 trivial ts [] _ rfl (fun t ht Q' q'=>⟨_,rfl,_,rfl,_,rfl,_,rfl,q'⟩) (fun t ht Q' q'=>⟨_,rfl,q'⟩) (by rw [sizeLine_eq];simp;omega) ?_
  rw [zbU,zbU]
  show bR (fun _=>True) (bD 0) _ _ ((ts.filter fun t=>decide (t.2.2=k)).map T3) [] [none] S _
  have l1:=zay (fun t:Ti=>decide (t.1=k)) ts
  have l2:=zay (fun t:Ti=>decide (t.2.2=k)) ts
  generalize hf1:(ts.filter fun t=>decide (t.1=k))=F1 at l1
  generalize hf2:(ts.filter fun t=>decide (t.2.2=k))=F2 at l2
  have s1:∀ t∈F1,iU t=true:=fun t ht=>hRO.qN t (zbN.mp (by rw [hf1];exact ht:t∈ts.filter fun t=>decide (t.1=k))).1
  have s2:∀ t∈F2,iU t=true:=fun t ht=>hRO.qN t (zbN.mp (by rw [hf2];exact ht:t∈ts.filter fun t=>decide (t.2.2=k))).1
  refine cS (δ:=[none]) T3 (fun _=>true) (fun t=>T3 ("back",t.2.1,t.1)) trivial F2 [] _ rfl (fun t ht Q' q'=>q') (fun t ht Q' q'=>⟨_,rfl,_,rfl,_,rfl,_,rfl,by show 3≤sizeLine;decide,q'⟩) (by rw [sizeLine_eq];simp;omega) ?_
  rw [zbU,List.filter_eq_self.mpr (fun _ _=>rfl)]
  have eq:F1.map (fun t=>T3 ("on",t.2.1,t.2.2))++F2.map (fun t=>T3 ("back",t.2.1,t.1))=(ck ts k).map T3:=by
   unfold ck
   rw [hf1,hf2,zbV,zct,zct];rfl
  refine ⟨by rw [zbP,zbP,sizeLine_eq];omega,_,(ck ts k).map T3,rfl,?_,jf ?_,?_,fun ks' hp hu => ?_⟩
  ·rw [eq];rfl
  ·intro t ht
   unfold ck at ht
   rw [hf1,hf2] at ht
   rcases zbO.mp ht with ht | ht
   ·obtain ⟨u,hu,rfl⟩:=zcs.mp ht
    have:=s1 u hu
    unfold iU at this ⊢
    rw [zbJ,zbJ] at this ⊢
    exact ⟨⟨show fc "on" = true by decide +kernel,this.1.2⟩,this.2⟩
   ·obtain ⟨u,hu,rfl⟩:=zcs.mp ht
    have:=s2 u hu
    unfold iU at this ⊢
    rw [zbJ,zbJ] at this ⊢
    exact ⟨⟨show fc "back" = true by decide +kernel,this.1.2⟩,this.1.1⟩
  ·unfold ck
   rw [hf1,hf2,zbP,zaU,zbP,zbP];omega
  ·obtain ⟨us,hu1,rfl⟩:=lZ hp
   exact q us hu1 hu
end
open PySem PySem.Spec L2 M M6 PyProof.Rows
noncomputable abbrev xE:Stmt:=top 32
noncomputable abbrev yX:List Str:=["_law_rows_here","_law_knots"]
noncomputable abbrev jO:List Str:=["_law_rows_here"]
theorem BD:az yX jO (ai xE):=⟨rfl,rfl,rfl,by decide +kernel,rfl,by decide +kernel,by decide +kernel⟩
theorem EF {ks us:List Kn} (hn:(nms ks).Nodup) (hp:us.Perm (ks.map fun k=>(k.1,cT k.2))) (hu:uN (us.map oA)):us=b7 ks:=by
 have np:(nms us).Perm (nms ks):=by
  have:=hp.map (·.1)
  rw [zct] at this
  exact this
 have nd:(nms us).Nodup:=np.nodup_iff.mpr hn
 have ss:sortedS (nms us)=true:=by
  apply sortedS_of_pairwise
  unfold nms at nd ⊢
  rw [zbp]
  have h1:us.Pairwise (fun x y=>dQ (py (oA y)) (py (oA x))=false):=by
   have h:(us.map oA).Pairwise (fun x y=>dQ (py y) (py x)=false):=hu
   rw [zbp] at h
   exact h
  have h2:us.Pairwise (fun x y=>x.1≠y.1):=by
   have h:(us.map (·.1)).Pairwise (· ≠ ·):=nd
   rw [zbp] at h
   exact h
  refine (h1.and h2).imp fun {x y} h => ?_
  have e:dQ (py (oA y)) (py (oA x))=decide (y.1.cps.toList<x.1.cps.toList):=by
   simp only [oA,py,cR,dQ,cG]
   rw [if_neg (by intro z;injection z with z;exact h.2 z.symm)]
  rw [e] at h
  rw [ltCps_eq]
  exact h.1
 have e:=fN hn np ss
 unfold b7
 rw [← e]
 unfold nms
 rw [zct]
 refine Eq.trans (List.map_id us).symm (zaM fun u hu' => ?_)
 obtain ⟨k,hk,rfl⟩:=zcs.mp (hp.mem_iff.mp hu')
 show (k.1,cT k.2)=(k.1,cT (aQ ks k.1))
 rw [cD hn hk]
theorem qg {l:List Str}{m:Str} (h:m∈cT l):m∈l:=by
 unfold cT at h
 split at h
 ·rename_i z
  exact z.choose_spec.1.mem_iff.mp h
 ·simp at h
theorem vg (ks:List Kn) (ts:List Ti):M.cg (gm ks ts)=true:=by
 have p1:∀ l:List Str,bN (l.map D.str)=true:=fun l=>by induction l with | nil=>rfl | cons x l ih=>simp only [zcj,bN,M.cg,zbJ];exact ⟨trivial,ih⟩
 have p2:bN (ks.map oA)=true:=by
  induction ks with
  | nil=>rfl
  | cons k ks ih=>simp only [zcj,bN,zbJ];exact ⟨by simp [oA,M.cg,bN,p1],ih⟩
 have p3:bN (ts.map T3)=true:=by
  induction ts with
  | nil=>rfl
  | cons k ks ih=>simp only [zcj,bN,zbJ];exact ⟨by simp [T3,M.cg,bN],ih⟩
 simp [gm,M.cg,bN,p2,p3]
theorem ug:∀ l m:List Str,cX (cR (l.map D.str)) (cR (m.map D.str))=true
 | [],m=>by simp [cR,cX]
 | _::_,[]=>by simp [cR,cX]
 | _::l,_::m=>by simp only [zcj,cR,py,cX,aF,Bool.true_and];exact ug l m
theorem yb:∀ l:List Str,(∀ y∈l,fc y=true)→c5 (cR (l.map D.str))=true∧PyData.depthAll (cR (l.map D.str))≤0∧bN (l.map D.str)=true
 | [],_=>by simp [cR,c5,PyData.depthAll,bN]
 | y::l,h=>by
  obtain ⟨a,b,c⟩:=yb l fun z hz=>h z (by simp [hz])
  refine ⟨by simp [cR,py,c5,cj,PyData.canLay0,iV (h y (by simp)),a],by simp only [zcj,cR,py,PyData.depthAll,PyData.depth];omega,by simp [bN,M.cg,c]⟩
theorem Iv {us:List Kn} (h:∀ k∈us,fc k.1=true∧∀ m∈k.2,fc m=true):yV (us.map oA):=by
 refine ⟨fun d hd => ?_,fun d hd => ?_,fun d hd e he => ?_⟩
 ·obtain ⟨k,hk,rfl⟩:=zcs.mp hd
  obtain ⟨a,b,c⟩:=yb k.2 (h k hk).2
  refine ⟨by simp [oA,M.cg,bN,c],?_,?_,_,rfl⟩
  ·simp [oA,py,cR,cj,c5,PyData.canLay0,iV (h k hk).1,a]
  ·simp only [oA,py,cR,PyData.depth,PyData.depthAll];omega
 ·obtain ⟨k,hk,rfl⟩:=zcs.mp hd
  exact ⟨k.1,_,by simp only [oA,py,cR];rfl⟩
 ·obtain ⟨k,hk,rfl⟩:=zcs.mp hd
  obtain ⟨l,hl,rfl⟩:=zcs.mp he
  simp [oA,py,cR,aF,cX,ug]
theorem jI {α:Type}{e:AE}{Q:List D→av→Prop}{S:av} (g a b f:α→D) (hg:∀ x,g x = .tup [a x,b x]) (rest:bw):∀ (as:List α) (acc:List D) (v0 v1:Option D),
  (∀ x∈as,∀ Q:AK,Q (.dat (f x)) S→e (some (a x)::some (b x)::rest) S Q)→acc.length+as.length≤sizeLine→Q (acc++as.map f) S →
  bR (fun _=>True) (DB 2 (rE (bD 0) (rE (bD 1) DC))) gg e (as.map g) acc (v0::v1::rest) S Q
 | [],acc,v0,v1,_,_,q=>⟨trivial,by simpa using q⟩
 | x::as,acc,v0,v1,he,hl,q=>by
  simp only [zbx] at hl
  refine ⟨trivial,_,hg x,rfl,_,_,rfl,_,_,rfl,rfl,?_⟩
  refine he x (by simp) _ ⟨by omega,?_⟩
  refine jI g a b f hg rest as _ _ _ (fun y hy=>he y (by simp [hy])) (by simp;omega) ?_
  simpa [R.d,zbk] using q
section
variable {P:Program}{w:World}{K:PySem.W.Frag}{mg:Str→Option Value}{base:Heap}{C fi:Addr}
noncomputable def Bk:AN:=fun ds S Q=>∃ ks ts,ds=[bq ks ts]∧RO ks ts∧Q (.dat (gm (b7 ks) (cB ts))) S
theorem J1 (T:Txt K mg C fi) (F:Src K mg "_law_told" jO xE):Def P w K mg base 1 "_law_told" jO (aL K Bk):=by
 refine oF F BD (fun ds S Q h => ?_) (fun f cdv A outer s H E hr => ?_)
 ·obtain ⟨ks,ts,rfl,_⟩:=h;rfl
 ·refine ⟨_,(M.af (M.aD (i:=1) BD.nd rfl (Or.inl rfl) (M.eX (M.jz hr) (by rfl) T.sorted (by decide +kernel) (M.ao (M.b6 (N:=["_law_name","_law_marks"]) (caps:=[none,none]) (cM (by decide +kernel)) (by rfl) (by rfl) rfl (M.bT (M.aH M.bK (M.pv 0) M.ah (fun _ _=>rfl))) (fun _ _ _ _=>(M.fS (n:=2) rfl (M.br (M.aq (i:=0) (by decide +kernel:List.Nodup (["_law_name","_law_marks"]:List Str)) rfl (Or.inl rfl)) (M.br (M.aq (i:=1) (by decide +kernel:List.Nodup (["_law_name","_law_marks"]:List Str)) rfl (Or.inl rfl)) M.dX)))) (fun _ _ _ _=>M.bx) (fun _ _ _ _=>(M.bO (M.ao (M.pv 0) (M.ao (M.qL M.d7 (by rfl) T.tuple (by decide +kernel) (M.ao (M.eX M.sO (by rfl) T.sorted (by decide +kernel) (M.ao (M.pv 1) M.aa)) M.aa)) M.aa))))) M.aa)))
   (M.aj (M.aO (M.bO (M.ao (M.qL M.d7 (by rfl) T.tuple (by decide +kernel) (M.ao (M.pv 1) M.aa)) (M.ao (M.qL M.d7 (by rfl) T.tuple (by decide +kernel) (M.ao (M.eX (M.jz hr) (by rfl) T.sorted (by decide +kernel) (M.ao (M.aH M.bK (M.pv 0) M.ah (fun _ _=>rfl)) M.aa)) M.aa)) M.aa)))))),fun ds S Q h => ?_⟩
  obtain ⟨ks,ts,rfl,hRO,q⟩:=h
  have e0:aN yX [bq ks ts]=[some (bq ks ts),none]:=rfl
  rw [e0]
  push_cast [true_and]
  refine cQ (di ⟨_,rfl,_,rfl,?_⟩)
  show bR (fun _=>True) _ gg _ (ks.map eG) [] [none,none] S _
  have hkl:=hRO.kl
  have htl:=hRO.tl
  refine jI eG (fun k=>.str k.1) (fun k=>.lst (k.2.map D.str)) (fun k=>oA (k.1,cT k.2)) (fun _=>rfl) [] ks [] none none (fun k hk Q' q' => ?_) (by rw [sizeLine_eq];simp;omega) ?_
  ·have hm:=hRO.nm k hk
   refine ⟨_,rfl,_,rfl,_,rfl,.inl ⟨k.2,rfl,by omega,fun ss hp hs => ?_⟩⟩
   have e:=fN hm.2.2.1 hp hs
   subst e
   exact ⟨_,rfl,by show 2≤sizeLine;decide,q'⟩
  rw [zbU]
  have em:ks.map (fun k=>oA (k.1,cT k.2))=(ks.map fun k=>((k.1,cT k.2):Kn)).map oA:=by rw [zct];rfl
  rw [em]
  refine ⟨_,_,rfl,rfl,Iv (fun k hk => ?_),by rw [zbP,zbP];omega,fun ks' hp hu => ?_⟩
  ·obtain ⟨j,hj,rfl⟩:=zcs.mp hk
   have hm:=hRO.nm j hj
   exact ⟨cI hm.1,fun m hm'=>cI (hm.2.2.2 m (qg hm'))⟩
  ·obtain ⟨us,hu1,rfl⟩:=dN hp
   have e:=EF hRO.nd hu1 hu
   subst e
   refine ⟨_,rfl,_,rfl,_,_,rfl,rfl,jf hRO.qN,by rw [zbP];omega,fun ks' hp hu => ?_⟩
   obtain ⟨vs,hv1,rfl⟩:=lZ hp
   have e:=g7 hRO.tn hv1 hu
   subst e
   exact ⟨_,rfl,by show 2≤sizeLine;decide,qD (vg _ _) q⟩
end
open PySem PySem.Spec L2 M M6 PyProof.Rows
structure Tq (n m:Nat) (d:D):Prop where
 cg:cg d=true
 dep:(py d).depth≤n
 sh:n8 (py d)
 wt:L2.wt (py d)≤m
theorem NO {n m:Nat}:∀ {es:List D},(∀ e∈es,Tq n m e)→bN es=true∧PyData.depthAll (cR es)≤n∧cK (cR es)∧gh (cR es)≤es.length*(m+2)
 | [],_=>⟨rfl,by simp [cR,PyData.depthAll],by simp [cR,cK],by simp [cR,gh]⟩
 | e::es,h=>by
  obtain ⟨a,b,c,d⟩:=NO (es:=es) fun x hx=>h x (by simp [hx])
  have he:=h e (by simp)
  refine ⟨by simp only [bN,zbJ];exact ⟨he.cg,a⟩,?_,by simp only [cR,cK];exact ⟨he.sh,c⟩,?_⟩
  ·have:=he.dep
   simp only [cR,PyData.depthAll];omega
  ·have:=he.wt
   simp only [cR,gh,zbx]
   rw [Nat.succ_mul];omega
theorem Tq.tup {n m l:Nat}{es:List D} (h:∀ e∈es,Tq n m e) (hl:es.length≤l):Tq (n+1) (l*(m+2)+3) (.tup es):=by
 obtain ⟨a,b,c,d⟩:=NO h
 refine ⟨by simpa [M.cg] using a,by simp only [py,PyData.depth];omega,by simpa [py,n8] using c,?_⟩
 have:es.length*(m+2)≤l*(m+2):=zaI _ hl
 simp only [py,L2.wt];omega
theorem Tq.lst {n m l:Nat}{es:List D} (h:∀ e∈es,Tq n m e) (hl:es.length≤l):Tq (n+1) (l*(m+2)+3) (.lst es):=by
 obtain ⟨a,b,c,d⟩:=NO h
 refine ⟨by simpa [M.cg] using a,by simp only [py,PyData.depth];omega,by simpa [py,n8] using c,?_⟩
 have:es.length*(m+2)≤l*(m+2):=zaI _ hl
 simp only [py,L2.wt];omega
theorem Tq.asc {y:Str} (hl:y.length≤20) (h:rO y):Tq 0 202 (.str y):=by
 refine ⟨rfl,by simp [py,PyData.depth],?_,?_⟩
 ·simp only [py,n8];exact rO.ok h
 ·simp only [py,L2.wt];omega
theorem Tq.name {y:Str} (h:Nm y):Tq 0 202 (.str y):=.asc (by have:=h.2.1;omega) h.asc
theorem Tq.mono {n m n' m':Nat}{d:D} (h:Tq n m d) (hn:n≤n') (hm:m≤m'):Tq n' m' d:=⟨h.cg,zcv h.dep hn,h.sh,zcv h.wt hm⟩
theorem mL {n m:Nat}{x:D}{S:av}{Q:AK} (hx:Tq n m x) (hn:n≤100) (hm:m≤1000000) (q:Q (.dat (.str (py x).shown)) S):yP [x] S Q:=by
 have hs:=ES (S:=S) hx.cg
 refine ⟨x,rfl,?_⟩
 rw [hs]
 exact ⟨hx.cg,hx.sh.show,zcv hx.dep hn,zcv (shown_le _ hx.sh) (zcv hx.wt (by rw [sizeLine_eq];omega)),q⟩
theorem lF {α:Type} [DecidableEq α] {l m:List α} (h1:l.Nodup) (h2:m.Nodup) (h:∀ a,a∈l↔a∈m):l.Perm m:=by
 rw [List.perm_iff_count]
 intro a
 by_cases ha:a∈l
 ·rw [List.Nodup.count h1,List.Nodup.count h2,if_pos ha,if_pos ((h a).mp ha)]
 ·rw [List.count_eq_zero_of_not_mem ha,List.count_eq_zero_of_not_mem fun z=>ha ((h a).mpr z)]
theorem j0 {ts:List Ti}{x:Str}{j:Ti}:j∈ck ts x↔stp ts x j:=by
 unfold ck stp
 rw [zbO,zcs,zcs]
 constructor
 ·rintro (⟨t,ht,rfl⟩ | ⟨t,ht,rfl⟩)
  ·obtain ⟨h1,h2⟩:=zbN.mp ht
   have h2:=of_decide_eq_true h2
   exact .inl ⟨rfl,by rw [← h2];exact h1⟩
  ·obtain ⟨h1,h2⟩:=zbN.mp ht
   have h2:=of_decide_eq_true h2
   exact .inr ⟨rfl,by rw [← h2];exact h1⟩
 ·rintro (⟨h1,h2⟩ | ⟨h1,h2⟩)
  ·exact .inl ⟨_,zbN.mpr ⟨h2,decide_eq_true rfl⟩,by rw [← h1]⟩
  ·exact .inr ⟨_,zbN.mpr ⟨h2,decide_eq_true rfl⟩,by rw [← h1]⟩
theorem qS {α β:Type}{f:α→β}:∀ {l:List α},l.Nodup→(∀ a∈l,∀ b∈l,f a=f b→a=b)→(l.map f).Nodup
 | [],_,_=>.nil
 | a::l,h,hf=>by
  rw [zbR] at h
  rw [zcj,zbR]
  refine ⟨fun z => ?_,qS h.2 fun x hx y hy=>hf x (by simp [hx]) y (by simp [hy])⟩
  obtain ⟨b,hb,e⟩:=zcs.mp z
  have:=hf b (by simp [hb]) a (by simp) e
  exact h.1 (this ▸ hb)
theorem rU {ts:List Ti} (hn:ts.Nodup) (x:Str):(ck ts x).Nodup:=by
 unfold ck
 rw [zbm]
 refine ⟨qS (hn.sublist zaO) fun a ha b hb e => ?_,qS (hn.sublist zaO) fun a ha b hb e => ?_,fun a ha b hb e => ?_⟩
 ·have h1:=of_decide_eq_true (zbN.mp ha).2
  have h2:=of_decide_eq_true (zbN.mp hb).2
  obtain ⟨a1,a2,a3⟩:=a
  obtain ⟨b1,b2,b3⟩:=b
  simp only [Prod.mk.injEq,true_and] at e h1 h2
  rw [h1,h2,e.1,e.2]
 ·have h1:=of_decide_eq_true (zbN.mp ha).2
  have h2:=of_decide_eq_true (zbN.mp hb).2
  obtain ⟨a1,a2,a3⟩:=a
  obtain ⟨b1,b2,b3⟩:=b
  simp only [Prod.mk.injEq,true_and] at e h1 h2
  rw [h1,h2,e.1,e.2]
 ·obtain ⟨c,_,rfl⟩:=zcs.mp ha
  obtain ⟨d,_,rfl⟩:=zcs.mp hb
  have e:("on" : Str) = "back" := congrArg (·.1) e
  exact absurd e (by decide +kernel)
theorem Bd {ts ts':List Ti}{x:Str}{us vs:List Ti} (hn:ts.Nodup) (hp:ts'.Perm ts) (u1:us.Perm (ck ts x)) (u2:uN (us.map T3)) (v1:vs.Nodup) (v2:∀ j,j∈vs↔stp ts' x j) (v3:uN (vs.map T3)):us=vs:=by
 have un:=u1.nodup_iff.mpr (rU hn x)
 refine p7 un u2 v3 (lF v1 un fun j => ?_)
 rw [v2,u1.mem_iff,j0]
 unfold stp
 rw [hp.mem_iff,hp.mem_iff]
structure Lk (ks' ks:List Kn) (ts' ts:List Ti):Prop where
 nm:(nms ks').Perm (nms ks)
 mr:∀ x∈nms ks,(aQ ks' x).Perm (aQ ks x)
 ti:ts'.Perm ts
theorem jd {l l':List Str} (h:l.Perm l') (hn:l'.Nodup):cT l=cT l':=by
 by_cases e:∃ s:List Str,s.Perm l∧sortedS s=true
 ·obtain ⟨s,s1,s2⟩:=e
  rw [← fN (h.nodup_iff.mpr hn) s1 s2,← fN hn (s1.trans h) s2]
 ·have e' : ¬ ∃ s:List Str,s.Perm l'∧sortedS s=true:=fun ⟨s,s1,s2⟩=>e ⟨s,s1.trans h.symm,s2⟩
  unfold cT
  rw [dif_neg e,dif_neg e']
theorem oV {l l':List Ti} (h:l.Perm l') (hn:l'.Nodup):cB l=cB l':=by
 by_cases e:∃ s:List Ti,s.Perm l∧uN (s.map T3)
 ·obtain ⟨s,s1,s2⟩:=e
  rw [← g7 (h.nodup_iff.mpr hn) s1 s2,← g7 hn (s1.trans h) s2]
 ·have e' : ¬ ∃ s:List Ti,s.Perm l'∧uN (s.map T3):=fun ⟨s,s1,s2⟩=>e ⟨s,s1.trans h.symm,s2⟩
  unfold cB
  rw [dif_neg e,dif_neg e']
theorem Lk.rows {ks' ks:List Kn}{ts' ts:List Ti} (h:Lk ks' ks ts' ts) (hR:RO ks ts):sA ks' ts'=gm (b7 ks) (cB ts):=by
 rw [mH]
 have e:b7 ks'=b7 ks:=by
  unfold b7
  rw [jd h.nm hR.nd]
  refine zaM fun x hx => ?_
  have hx:=qg hx
  obtain ⟨k,hk,rfl⟩:=zcs.mp hx
  have hm:=h.mr k.1 hx
  rw [cD hR.nd hk] at hm ⊢
  rw [jd hm (hR.nm k hk).2.2.1]
 rw [e,oV h.ti hR.tn]
theorem Lk.perms {ks' ks:List Kn}{ts' ts:List Ti} (h:Lk ks' ks ts' ts) (hR:RO ks ts) (p1:(cT (nms ks')).Perm (nms ks')) (p2:(cB ts').Perm ts') (p3:∀ x∈nms ks',(cT (aQ ks' x)).Perm (aQ ks' x)):RO (b7 ks) (cB ts):=by
 refine hR.cT ?_ ?_ fun x hx => ?_
 ·rw [← jd h.nm hR.nd];exact p1.trans h.nm
 ·rw [← oV h.ti hR.tn];exact p2.trans h.ti
 ·have:=p3 x (h.nm.mem_iff.mpr hx)
  obtain ⟨k,hk,rfl⟩:=zcs.mp hx
  have hm:=h.mr k.1 hx
  have e:=jd hm (by rw [cD hR.nd hk];exact (hR.nm k hk).2.2.1)
  rw [← e]
  exact this.trans hm
theorem Tq.T3 {t:Ti} (h1:Nm t.1∨t.1 = "on" ∨ t.1 = "back") (h2:Nm t.2.1) (h3:Nm t.2.2):Tq 1 615 (K13.T3 t):=by
 refine Tq.tup (n:=0) (l:=3) (m:=202) ?_ (by simp)
 simp only [zci,zbE,or_false]
 rintro e (rfl | rfl | rfl)
 ·rcases h1 with h | h | h
  ·exact .name h
  ·rw [h];exact .asc (by decide +kernel) (kF (by decide +kernel))
  ·rw [h];exact .asc (by decide +kernel) (kF (by decide +kernel))
 ·exact .name h2
 ·exact .name h3
theorem RO.ends {ks:List Kn}{ts:List Ti} (h:RO ks ts) {t:Ti} (ht:t∈ts):Nm t.1∧Nm t.2.1∧Nm t.2.2:=by
 obtain ⟨h1,h2,h3⟩:=h.tk t ht
 obtain ⟨k1,hk1,e1⟩:=zcs.mp h1
 obtain ⟨k2,hk2,e2⟩:=zcs.mp h2
 exact ⟨by rw [← e1];exact (h.nm k1 hk1).1,h3,by rw [← e2];exact (h.nm k2 hk2).1⟩
theorem RO.tq {ks:List Kn}{ts:List Ti} (h:RO ks ts):Tq 4 372681 (gm ks ts):=by
 refine Tq.tup (n:=3) (l:=2) (m:=186337) ?_ (by simp)
 simp only [zci,zbE,or_false]
 rintro e (rfl | rfl)
 ·refine (Tq.tup (n:=2) (l:=62) (m:=2053) (fun e he => ?_) (by rw [zbP];exact h.kl)).mono (by decide) (by decide)
  obtain ⟨k,hk,rfl⟩:=zcs.mp he
  refine Tq.tup (n:=1) (l:=2) (m:=1023) ?_ (by simp)
  simp only [zci,zbE,or_false]
  rintro e (rfl | rfl)
  ·exact (Tq.name (h.nm k hk).1).mono (by decide) (by decide)
  ·refine Tq.tup (n:=0) (l:=5) (m:=202) (fun e he => ?_) (by rw [zbP];exact (h.nm k hk).2.1)
   obtain ⟨y,hy,rfl⟩:=zcs.mp he
   exact .name ((h.nm k hk).2.2.2 y hy)
 ·refine (Tq.tup (n:=1) (l:=302) (m:=615) (fun e he => ?_) (by rw [zbP];exact h.tl)).mono (by decide) (by decide)
  obtain ⟨t,ht,rfl⟩:=zcs.mp he
  have:=h.ends ht
  exact .T3 (.inl this.1) this.2.1 this.2.2
theorem rT {ks:List Kn}{ts:List Ti} (h:RO ks ts) {x:Str}{us:List Ti} (hu:us.Perm (ck ts x)):Tq 2 372671 (.lst (us.map K13.T3)):=by
 refine Tq.lst (n:=1) (l:=604) (m:=615) (fun e he => ?_) ?_
 ·obtain ⟨t,ht,rfl⟩:=zcs.mp he
  rcases j0.mp (hu.mem_iff.mp ht) with ⟨h1,h2⟩ | ⟨h1,h2⟩
  ·have:=h.ends h2
   exact .T3 (.inr (.inl h1)) this.2.1 this.2.2
  ·have:=h.ends h2
   exact .T3 (.inr (.inr h1)) this.2.1 this.1
 ·rw [zbP,hu.length_eq]
  unfold ck
  have l1:=zay (fun t:Ti=>decide (t.1=x)) ts
  have l2:=zay (fun t:Ti=>decide (t.2.2=x)) ts
  have:=h.tl
  rw [zaU,zbP,zbP];omega
theorem BQ {n m:Nat}{x d:D}{S:av}{Q:AK} (hs:aV S x=d) (hx:Tq n m d) (hn:n≤100) (hm:m≤1000000) (q:Q (.dat (.str (py d).shown)) S):yP [x] S Q:=by
 refine ⟨x,rfl,?_⟩
 rw [hs]
 exact ⟨hx.cg,hx.sh.show,zcv hx.dep hn,zcv (shown_le _ hx.sh) (zcv hx.wt (by rw [sizeLine_eq];omega)),q⟩
theorem qR {s:Str}{S:av}{Q:AK} (q:Q (.dat (.bl false)) S):Ak (.str s) (.str s) S Q:=by
 have e:Ak (.str s) (.str s) S Q=Q (.dat (.bl (!decide (s=s)))) S:=rfl
 rw [e,decide_eq_true rfl];exact q
theorem Fd {S X:av}{d:D}{Q:AK} (h:cg d=true) (q:Q (.dat d) S):ret S (S++X) (.dat d) Q :=
 ⟨_,qM h,fun k o hk e=>.inl (by rw [zag hk] at e;exact e),by rw [List.take_left' rfl];exact q⟩
theorem dm {S:av}{a b:Option MO}:(S++[a]).set S.length b=S++[b]:=by rw [List.set_append,if_neg (by omega),Nat.sub_self];rfl
theorem bZ.app {C:Addr}{W:World}{S Y:av}{n:Nat}{own:List Nat}{ks:List Kn}{ts:List Ti} (h:bZ C W S n own ks ts):bZ C W (S++Y) n own ks ts:=by
 obtain ⟨m,t,e,cs,ro,rk,X⟩:=h
 exact ⟨m,t,e,cs,ro,rk,X.app⟩
open PySem PySem.Spec L2 M M6 PyProof.Rows
noncomputable abbrev xN:Stmt:=top 9
noncomputable abbrev zd:List Str:=["thing"]
noncomputable abbrev jR:List Str:=["thing"]
theorem ID:az zd jR (ai xN):=⟨rfl,rfl,rfl,by decide +kernel,rfl,by decide +kernel,by decide +kernel⟩
noncomputable abbrev lC:Stmt:=top 20
noncomputable abbrev pX:List Str:=["words"]
noncomputable abbrev d8:List Str:=["words"]
theorem BE:az pX d8 (ai lC):=⟨rfl,rfl,rfl,by decide +kernel,rfl,by decide +kernel,by decide +kernel⟩
noncomputable abbrev Nq:Stmt:=top 18
noncomputable abbrev Eh:List Str:=["words","marks"]
noncomputable abbrev uD:List Str:=["words"]
theorem Lm:az Eh uD (ai Nq):=⟨rfl,rfl,rfl,by decide +kernel,rfl,by decide +kernel,by decide +kernel⟩
noncomputable abbrev Np:Stmt:=top 19
noncomputable abbrev HW:List Str:=["words"]
noncomputable abbrev uC:List Str:=["words"]
theorem NY:az HW uC (ai Np):=⟨rfl,rfl,rfl,by decide +kernel,rfl,by decide +kernel,by decide +kernel⟩
section
variable {P:Program}{w:World}{K:PySem.W.Frag}{mg:Str→Option Value}{base:Heap}{C fi:Addr}
theorem lt1 (a b:Nat):decide ([a]<[b])=decide (a<b):=by
 by_cases h:a<b
 ·rw [decide_eq_true h];exact decide_eq_true (by simpa [List.cons_lt_cons_iff] using h)
 ·rw [decide_eq_false h];exact decide_eq_false (by simpa [List.cons_lt_cons_iff] using h)
theorem CF {c:Nat} (hc:nG c=true) {δ:bw}{S:av}{Q:AK} (q:Q (.dat (.bl true)) S):nX MX MX (aC (.str "a")) (fJ 0) (aC (.str "z")) ((gG [none] δ).set 0 (some (.str ⟨#[c]⟩))) S Q:=by
 have e1:(("a" : Str)).cps.toList=[97]:=by decide +kernel
 have e2:(("z" : Str)).cps.toList=[122]:=by decide +kernel
 have e3:(⟨#[c]⟩:Str).cps.toList=[c]:=rfl
 simp only [gG,zcj,zcp,Option.bind_none,zaY,nX,aC,fJ,zao,zcL.injEq,exists_eq_left',gn,FP,D.bl.injEq,e1,e2,e3,lt1]
 unfold nG at hc
 rw [zbJ] at hc
 have h1:=of_decide_eq_true hc.1
 have h2:=of_decide_eq_true hc.2
 rw [decide_eq_false (show ¬ c<97 by omega),decide_eq_false (show ¬ 122<c by omega)]
 exact q
theorem HS {α:Type} (l:List α):(l.map fun _=>true).all id=true:=zbB.mpr fun x hx=>by obtain ⟨_,_,rfl⟩:=zcs.mp hx;rfl
noncomputable def Bo:AN:=fun ds S Q=>∃ y,ds=[.str y]∧Nm y∧Q (.dat (.bl true)) S
theorem J8 (T:Txt K mg C fi) (F:Src K mg "is_name" jR xN):Def P w K mg base 1 "is_name" jR (aL K Bo):=by
 refine oF F ID (fun ds S Q h => ?_) (fun f cdv A outer s H E hr => ?_)
 ·obtain ⟨x,rfl,_⟩:=h;rfl
 ·refine ⟨_,(M.af (M.cu (M.vn (M.qF (M.eX M.LX (by rfl) T.isinstance (by decide +kernel) (M.ao (M.pv 0) (M.ao (M.B9 "str" (by rfl) T.str (by decide +kernel)) M.aa)))))
    (M.aj (M.aO M.fz))
    M.bz)
   (M.aj (M.aO (M.iS (M.jx M.FD M.FD M.ah (M.eX M.fB (by rfl) T.len (by decide +kernel) (M.ao (M.pv 0) M.aa)) T.vq) (M.m6 (M.eX (M.Hz rfl) (by rfl) T.all (by decide +kernel) (M.ao (M.b6 (N:=["sign"]) (caps:=[none]) (cM (by decide +kernel)) (by rfl) (by rfl) rfl (M.bT (M.pv 0)) (fun _ _ _ _=>(M.aq (i:=0) (by decide +kernel:List.Nodup (["sign"]:List Str)) rfl (Or.inl rfl))) (fun _ _ _ _=>M.bx) (fun _ _ _ _=>(M.jx M.FD M.FD M.au (M.pv 0) M.au))) M.aa))))))),fun ds S Q h => ?_⟩
  obtain ⟨y,rfl,⟨h1,h2,hlow⟩,q⟩:=h
  have e0:aN zd [.str y]=[some (.str y)]:=rfl
  rw [e0]
  push_cast [true_and]
  refine ⟨true,rfl,?_⟩
  push_cast [true_and]
  refine ⟨y.length,by simp only [qU];rw [if_pos (by rw [sizeLine_eq];omega)],?_⟩
  rw [if_pos (decide_eq_true (by omega)),if_pos (decide_eq_true (by omega))]
  simp only [kP,zZ,yp,fJ,zao,zcL.injEq,exists_eq_left',gn]
  have hlen:(M.signs y).length=y.length:=by simp [M.signs,Str.length]
  refine comp_map (δ:=gG [none] [some (.str y)]) (fun _=>.bl true) trivial (M.signs y) [] _ rfl (fun x hx Q' q' => ?_) (by rw [hlen,sizeLine_eq];simp;omega) ?_
  ·obtain ⟨c,hc,rfl⟩:=zcs.mp hx
   exact CF (hlow c hc) q'
  ·rw [zbU]
   refine ⟨_,(M.signs y).map (fun _=>true),rfl,by rw [zct];rfl,?_⟩
   show M.ret S S _ Q
   rw [iP,HS];exact q
noncomputable def mw:AN:=fun ds S Q=>∃ ys:List Str,ds=[.lst (ys.map D.str)]∧ys.length≤100∧(∀ y∈ys,Nm y)∧Q (.dat (.bl true)) S
theorem Dh (T:Txt K mg C fi) (F:Src K mg "are_names" d8 lC) (D_is_name:Def P w K mg base 1 "is_name" jR (aL K Bo)):Def P w K mg base 2 "are_names" d8 (aL K mw):=by
 refine oF F BE (fun ds S Q h => ?_) (fun f cdv A outer s H E hr => ?_)
 ·obtain ⟨x,rfl,_⟩:=h;rfl
 ·refine ⟨_,(M.aj (M.aO (M.eX (M.Hz rfl) (by rfl) T.all (by decide +kernel) (M.ao (M.b6 (N:=["word"]) (caps:=[none]) (cM (by decide +kernel)) (by rfl) (by rfl) rfl (M.bT (M.pv 0)) (fun _ _ _ _=>(M.aq (i:=0) (by decide +kernel:List.Nodup (["word"]:List Str)) rfl (Or.inl rfl))) (fun _ _ _ _=>M.bx) (fun _ _ _ _=>(M.aJ D_is_name (hr.mono (by decide)) (by rfl) (M.ao (M.pv 0) M.aa)))) M.aa)))),fun ds S Q h => ?_⟩
  obtain ⟨ys,rfl,hl,hy,q⟩:=h
  have e0:aN pX [.lst (ys.map D.str)]=[some (.lst (ys.map D.str))]:=rfl
  rw [e0]
  push_cast [true_and]
  refine cQ (di ⟨_,rfl,?_⟩)
  show bR (fun _=>True) (bD 0) gg _ (ys.map D.str) [] _ S _
  refine comp_map (δ:=gG [none] [some (.lst (ys.map D.str))]) (fun _=>.bl true) trivial _ [] _ rfl (fun x hx Q' q' => ?_) (by rw [zbP,sizeLine_eq];simp;omega) ?_
  ·obtain ⟨y,hy',rfl⟩:=zcs.mp hx
   exact ⟨_,rfl,y,rfl,hy y hy',q'⟩
  ·rw [zbU]
   refine ⟨_,ys.map (fun _=>true),rfl,by rw [zct,zct];rfl,?_⟩
   show M.ret S S _ Q
   rw [iP,HS];exact q
theorem ME {α:Type}{a:α}{l:List α}:M.cutD (a::l) (some 1) none=l:=by
 unfold M.cutD
 have e1:HT.bV (a::l).length 0 (some ((1:Nat):Int))=1:=by rw [HT.jh];simp
 have e2:HT.bV (a::l).length (a::l).length none=(a::l).length:=by simp [HT.bV]
 have e1:HT.bV (a::l).length 0 (some 1)=1:=e1
 rw [e1,e2,zar (by simp)];rfl
theorem Kl {α:Type}{a b:α}{l:List α}:M.cutD (a::b::l) (some 2) none=l:=by
 unfold M.cutD
 have e1:HT.bV (a::b::l).length 0 (some ((2:Nat):Int))=2:=by rw [HT.jh];simp
 have e2:HT.bV (a::b::l).length (a::b::l).length none=(a::b::l).length:=by simp [HT.bV]
 have e1:HT.bV (a::b::l).length 0 (some 2)=2:=e1
 rw [e1,e2,zar (by simp)];rfl
theorem g8 {ds:List D}{lo hi:Option Int}{S:av}{Q:AK}:Kx (.lst ds) lo hi S Q=Q (.new (.lst (cutD ds lo hi))) S:=rfl
theorem len_strs {ss:List Str} (h:ss.length≤1000):qU (.lst (ss.map D.str))=some ss.length:=by
 show some _=_
 rw [zbP]
noncomputable abbrev oN (k:Kn):List Str := "knot" :: k.1::k.2
noncomputable abbrev uM (t:Ti):List Str:=["tie",t.1,t.2.1,t.2.2]
noncomputable def Li:AN:=fun ds S Q=>(∃ k:Kn,ds=[.lst ((oN k).map D.str)]∧Nm k.1∧k.2.length≤5∧k.2.Nodup∧(∀ m∈k.2,Nm m)∧Q (.dat (.bl true)) S)∨(∃ t:Ti,ds=[.lst ((uM t).map D.str)]∧Nm t.1∧Nm t.2.1∧Nm t.2.2∧Q (.dat (.bl false)) S)
theorem OP (T:Txt K mg C fi) (F:Src K mg "is_knot_line" uD Nq) (D_are_names:Def P w K mg base 2 "are_names" d8 (aL K mw)):Def P w K mg base 3 "is_knot_line" uD (aL K Li):=by
 refine oF F Lm (fun ds S Q h => ?_) (fun f cdv A outer s H E hr => ?_)
 ·rcases h with ⟨x,rfl,_⟩ | ⟨x,rfl,_⟩ <;> rfl
 ·refine ⟨_,(M.af (M.aD (i:=1) Lm.nd rfl (Or.inl rfl) (M.bI M.sR (M.pv 0) (M.bW M.ah) M.cy))
   (M.af (M.cu (M.pw_pt (M.pw_or (M.aK M.Oq (M.eX M.fB (by rfl) T.len (by decide +kernel) (M.ao (M.pv 1) M.aa)) T.oq (bC _)) (M.pw_or1 (M.aK M.Oo (M.j8 rfl (by rfl) T.len (by rfl) T.set (M.pv 1)) (M.eX M.fB (by rfl) T.len (by decide +kernel) (M.ao (M.pv 1) M.aa)) (bC _)))))
    (M.aj (M.aO M.fz))
    M.bz)
   (M.aj (M.aO (M.iS (M.fT (M.sS hr) (M.aH M.bK (M.pv 0) M.ah (fun _ _=>rfl)) M.au (bC _)) (M.iS (M.fT M.Jw (M.eX M.fB (by rfl) T.len (by decide +kernel) (M.ao (M.pv 0) M.aa)) M.ah (bC _)) (M.m6 (M.aJ D_are_names (hr.mono (by decide)) (by rfl) (M.ao (M.bI M.sR (M.pv 0) (M.bW M.ah) M.cy) M.aa))))))))),fun ds S Q h => ?_⟩
  rcases h with ⟨k,rfl,h1,h2,h3,h4,q⟩ | ⟨t,rfl,h1,h2,h3,q⟩
  ·have e0:aN Eh [.lst ((oN k).map D.str)]=[some (.lst ((oN k).map D.str)),none]:=rfl
   rw [e0]
   push_cast [true_and]
   have c2:M.cutD ((oN k).map D.str) (some 2) none=k.2.map D.str:=Kl (a:=.str "knot") (b:=.str k.1)
   have c1:M.cutD ((oN k).map D.str) (some 1) none=(k.1::k.2).map D.str:=ME (a:=.str "knot")
   rw [g8,c2]
   refine ⟨k.2.length,len_strs (by omega),?_⟩
   rw [if_neg (by simp;omega)]
   refine ⟨.lst (k.2.map D.str),rfl,k.2,rfl,by omega,fun ss' n1 n2=>⟨k.2.length,len_strs (by omega),?_⟩⟩
   have el:ss'.length=k.2.length:=(lF n1 h3 n2).length_eq
   refine ⟨_,rfl,?_⟩
   rw [if_neg (by simp;omega)]
   refine ⟨.str "knot",show nU _ ((0:Nat):Int)=_ from cY rfl,?_⟩
   show KI (.str "knot") (.str "knot") S _
   rw [lN]
   refine ⟨_,rfl,?_⟩
   rw [if_pos (by decide +kernel)]
   refine ⟨(oN k).length,len_strs (ss:=oN k) (by simp;omega),?_⟩
   rw [if_pos (by simp;omega),g8,c1]
   refine ⟨k.1::k.2,rfl,by simp;omega,fun y hy => ?_,?_⟩
   ·rcases zci.mp hy with rfl | hy
    ·exact h1
    ·exact h4 y hy
   ·show M.ret S S _ Q
    rw [iP];exact q
  ·have e0:aN Eh [.lst ((uM t).map D.str)]=[some (.lst ((uM t).map D.str)),none]:=rfl
   rw [e0]
   push_cast [true_and]
   have c2:M.cutD ((uM t).map D.str) (some 2) none=[t.2.1,t.2.2].map D.str:=Kl (a:=.str "tie") (b:=.str t.1)
   rw [g8,c2]
   refine ⟨2,rfl,?_⟩
   rw [if_neg (by decide)]
   refine ⟨.lst ([t.2.1,t.2.2].map D.str),rfl,[t.2.1,t.2.2],rfl,by simp,fun ss' n1 n2=>⟨2,rfl,_,rfl,?_⟩⟩
   by_cases z:(ss'.length:Int)<((2:Nat):Int)
   ·rw [if_pos (decide_eq_true z)]
    show M.ret S S _ Q
    rw [iP];exact q
   rw [if_neg (by simpa using z)]
   refine ⟨.str "tie",rfl,?_⟩
   show KI (.str "tie") (.str "knot") S _
   rw [lN]
   refine ⟨_,rfl,?_⟩
   rw [if_neg (by decide +kernel)]
   show M.ret S S _ Q
   rw [iP];exact q
noncomputable def Lh:AN:=fun ds S Q=>∃ t:Ti,ds=[.lst ((uM t).map D.str)]∧Nm t.1∧Nm t.2.1∧Nm t.2.2∧Q (.dat (.bl true)) S
theorem OO (T:Txt K mg C fi) (F:Src K mg "is_tie_line" uC Np) (D_are_names:Def P w K mg base 2 "are_names" d8 (aL K mw)):Def P w K mg base 3 "is_tie_line" uC (aL K Lh):=by
 refine oF F NY (fun ds S Q h => ?_) (fun f cdv A outer s H E hr => ?_)
 ·obtain ⟨x,rfl,_⟩:=h;rfl
 ·refine ⟨_,(M.aj (M.aO (M.iS (M.fT (M.sS hr) (M.aH M.bK (M.pv 0) M.ah (fun _ _=>rfl)) M.au (bC _)) (M.iS (M.fT (M.sS hr) (M.eX M.fB (by rfl) T.len (by decide +kernel) (M.ao (M.pv 0) M.aa)) M.ah (bC _)) (M.m6 (M.aJ D_are_names (hr.mono (by decide)) (by rfl) (M.ao (M.bI M.sR (M.pv 0) (M.bW M.ah) M.cy) M.aa))))))),fun ds S Q h => ?_⟩
  obtain ⟨t,rfl,h1,h2,h3,q⟩:=h
  have e0:aN HW [.lst ((uM t).map D.str)]=[some (.lst ((uM t).map D.str))]:=rfl
  rw [e0]
  push_cast [true_and]
  have c1:M.cutD ((uM t).map D.str) (some 1) none=[t.1,t.2.1,t.2.2].map D.str:=ME (a:=.str "tie")
  refine ⟨.str "tie",rfl,?_⟩
  show KI (.str "tie") (.str "tie") S _
  rw [lN]
  refine ⟨_,rfl,?_⟩
  rw [if_pos (by decide +kernel)]
  refine ⟨4,rfl,?_⟩
  rw [if_pos (by decide),g8,c1]
  refine ⟨[t.1,t.2.1,t.2.2],rfl,by simp,fun y hy => ?_,?_⟩
  ·simp only [zci,zbE,or_false] at hy
   rcases hy with rfl | rfl | rfl <;> assumption
  ·show M.ret S S _ Q
   rw [iP];exact q
end
open PySem PySem.Spec L2 M M6 PyProof.Rows
noncomputable abbrev qx:Stmt:=top 16
noncomputable abbrev uG:List Str:=["web","rows","lines"]
noncomputable abbrev gJ:List Str:=["web"]
theorem qq:az uG gJ (ai qx):=⟨rfl,rfl,rfl,by decide +kernel,rfl,by decide +kernel,by decide +kernel⟩
noncomputable abbrev qA:Stmt:=top 29
noncomputable abbrev uI:List Str:=["_law_rows_here","_law_lines_here"]
noncomputable abbrev gO:List Str:=["_law_rows_here"]
theorem xC:az uI gO (ai qA):=⟨rfl,rfl,rfl,by decide +kernel,rfl,by decide +kernel,by decide +kernel⟩
noncomputable def fF (k:Kn):Str:=PySem.Txt.join " " (oN k)
noncomputable def dH (t:Ti):Str:=PySem.Txt.join " " (uM t)
noncomputable def fW (ks:List Kn) (ts:List Ti):List D:=(ks.map fun k=>.str (fF k))++ts.map fun t=>.str (dH t)
theorem wZ:∀ l:List Str,(∀ y∈l,y.length≤8)→(l.map (·.length)).sum≤8*l.length
 | [],_=>zcH _
 | y::l,h=>by
  have:=wZ l fun z hz=>h z (zaC _ hz)
  have:=h y (by simp)
  rw [zcj,List.sum_cons,zbx];omega
theorem jC {ys:List Str} (hl:ys.length≤100) (hy:∀ y∈ys,y.length≤8):(ys.map (·.length)).sum+ys.length*(" " : Str).length≤16777216:=by
 have:=wZ ys hy
 have e:(" " : Str).length=1:=by decide +kernel
 rw [e];omega
theorem se {k:Kn} (h1:Nm k.1) (h2:∀ m∈k.2,Nm m):∀ y∈oN k,y.length≤8:=fun y hy=>by
 rcases zci.mp hy with rfl | hy
 ·decide +kernel
 ·rcases zci.mp hy with rfl | hy
  ·exact h1.2.1
  ·exact (h2 y hy).2.1
theorem Bx {t:Ti} (h1:Nm t.1) (h2:Nm t.2.1) (h3:Nm t.2.2):∀ y∈uM t,y.length≤8:=fun y hy=>by
 simp only [zci,zbE,or_false] at hy
 rcases hy with rfl | rfl | rfl | rfl
 ·decide +kernel
 ·exact h1.2.1
 ·exact h2.2.1
 ·exact h3.2.1
theorem JH {b:AE}{δ:bw}{S:av}{Q:AK}{k:Kn} (h0:δ[0]? = some (some (.str k.1))) (hb:∀ Q':AK,Q' (.new (.lst (k.2.map D.str))) S→b δ S Q') (hl:k.2.length≤5) (h1:Nm k.1) (h2:∀ m∈k.2,Nm m) (q:Q (.dat (.str (fF k))) S) :
  yU "str" DN (aC (.str " ")) (iL (AF wu (DM (iL (aC (.str "knot")) (iL (fJ 0) kG))) b) kG) δ S Q :=
 ⟨rfl,_,h0,by show 2≤sizeLine;decide,hb _ ⟨by show _+_≤_;rw [zbP,sizeLine_eq];simp;omega,_,_,oN k,rfl,rfl,rfl,jC (by simp;omega) (se h1 h2),q⟩⟩
theorem qc {δ:bw}{S:av}{Q:AK}{t:Ti} (h0:δ[0]? = some (some (T3 t))) (h1:Nm t.1) (h2:Nm t.2.1) (h3:Nm t.2.2) (q:Q (.dat (.str (dH t))) S) :
  yU "str" DN (aC (.str " ")) (iL (AF wu (DM (iL (aC (.str "tie")) kG)) (aCall yS (iL (fJ 0) kG))) kG) δ S Q :=
 ⟨rfl,by show 1≤sizeLine;decide,_,h0,_,rfl,by show 1+3≤_;decide,_,_,uM t,rfl,rfl,rfl,jC (by simp) (Bx h1 h2 h3),q⟩
theorem gE {α:Type}{e:AE}{Q:List D→av→Prop}{δ:bw}{S:av} (g f:α→D) (as:List α) (acc:List D) (he:∀ a∈as,∀ Q:AK,Q (.dat (f a)) S→e (δ.set 0 (some (g a))) S Q) (hl:acc.length+as.length≤sizeLine) (q:Q (acc++as.map f) S):bR (fun _=>True) (bD 0) gg e (as.map g) acc δ S Q :=
 cS g (fun _=>true) f trivial as acc δ rfl (fun a ha Q q=>q) he hl (by rw [List.filter_eq_self.mpr fun _ _=>rfl];exact q)
theorem nq (ks:List Kn) (ts:List Ti):bN (fW ks ts)=true:=by
 have p:∀ (l:List Str),bN (l.map D.str)=true:=fun l=>by induction l with | nil=>rfl | cons x l ih=>simp only [zcj,bN,M.cg,zbJ];exact ⟨trivial,ih⟩
 have e:fW ks ts=(ks.map fF++ts.map dH).map D.str:=by unfold fW;rw [zbV,zct,zct];rfl
 rw [e];exact p _
theorem xS:∀ (l:List Str) (p:Str),(p::l).Pairwise AQ→risingS p l=true
 | [],p,_=>rfl
 | x::r,p,h=>by
  have h1:=zaX.mp h
  show (!ltCps x.cps.toList p.cps.toList&&risingS x r)=true
  rw [zbJ]
  refine ⟨?_,xS r x h1.2⟩
  rw [ltCps_eq]
  have : ¬ x.cps.toList<p.cps.toList:=fun z=>lq p (zcm (h1.1 x (by simp)) z)
  simpa using this
theorem zA {l:List Str} (h:SU l):sortedS l=true:=by
 cases l with
 | nil=>rfl
 | cons x r=>exact xS r x h
theorem CA {ks us:List Kn} (hn:(nms ks).Nodup) (hp:us.Perm ks) (hu:us.Pairwise (fun x y => ¬ y.1.cps.toList<x.1.cps.toList))   : us.map (fun k=>((k.1,cT k.2):Kn))=b7 ks:=by
 have nu:(nms us).Nodup:=(hp.map (·.1)).nodup_iff.mpr hn
 have su:SU (nms us):=by
  have h2:(nms us).Pairwise fun a b=>a≠b:=nu
  have h1:(nms us).Pairwise fun a b => ¬ AQ b a:=zbp.mpr hu
  refine (h1.and h2).imp fun {a b} ⟨h1,h2⟩ => ?_
  by_cases c:AQ a b
  ·exact c
  ·exact absurd (Bv c h1) h2
 have e:nms us=cT (nms ks):=fN hn (hp.map (·.1)) (zA su)
 unfold b7
 rw [← e]
 unfold nms
 rw [zct]
 refine zaM fun k hk => ?_
 show (k.1,cT k.2)=(k.1,cT (aQ ks k.1))
 rw [cD hn (hp.mem_iff.mp hk)]
section
variable {P:Program}{w:World}{K:PySem.W.Frag}{mg:Str→Option Value}{base:Heap}{C fi:Addr}
noncomputable def xj (C:Addr) (W:World):AN:=fun ds S Q=>∃ n own ks ts,ds=[.loc n]∧bZ C W S n own ks ts∧RO ks ts∧Q (.new (.lst (fW (b7 ks) (cB ts)))) S
theorem Ge (T:Txt K mg C fi) (F:Src K mg "shown_web" gJ qx) (ja:c6 P w K mg base 3 C "rows" fK (qh C w)):Def P w K mg base 4 "shown_web" gJ (aL K (xj C w)):=by
 refine oF F qq (fun ds S Q h => ?_) (fun f cdv A outer s H E hr => ?_)
 ·obtain ⟨n,own,ks,ts,rfl,_⟩:=h;rfl
 ·refine ⟨_,(M.af (M.aD (i:=1) qq.nd rfl (Or.inl rfl) (M.fy (M.pv 0) T.cl ja (hr.mono (by decide))))
   (M.af (M.aU (i:=2) qq.nd rfl rfl (N:=["name","marks"]) (caps:=[none,none]) (cM (by decide +kernel)) (by rfl) (by rfl) rfl (M.bT (M.aH M.bK (M.pv 1) M.ah (fun _ _=>rfl))) (fun _ _ _ _=>(M.fS (n:=2) rfl (M.br (M.aq (i:=0) (by decide +kernel:List.Nodup (["name","marks"]:List Str)) rfl (Or.inl rfl)) (M.br (M.aq (i:=1) (by decide +kernel:List.Nodup (["name","marks"]:List Str)) rfl (Or.inl rfl)) M.dX)))) (fun _ _ _ _=>M.bx) (fun _ _ _ _=>(M.c8 PySem.F.plainAttrs_str PySem.F.slot_str_join PySem.F.type_str_join M.fV M.au (M.ao (M.aE M.dS (M.bJ (M.ao M.au (M.ao (M.pv 0) M.aa))) (M.qL M.cL (by rfl) T.list (by decide +kernel) (M.ao (M.pv 1) M.aa))) M.aa))))
   (M.aj (M.aO (M.aE M.dS (M.pv 2) (M.b6 (N:=["tie"]) (caps:=[none]) (cM (by decide +kernel)) (by rfl) (by rfl) rfl (M.bT (M.aH M.bK (M.pv 1) M.ah (fun _ _=>rfl))) (fun _ _ _ _=>(M.aq (i:=0) (by decide +kernel:List.Nodup (["tie"]:List Str)) rfl (Or.inl rfl))) (fun _ _ _ _=>M.bx) (fun _ _ _ _=>(M.c8 PySem.F.plainAttrs_str PySem.F.slot_str_join PySem.F.type_str_join M.fV M.au (M.ao (M.aE M.dS (M.bJ (M.ao M.au M.aa)) (M.qL M.cL (by rfl) T.list (by decide +kernel) (M.ao (M.pv 0) M.aa))) M.aa))))))))),fun ds S Q h => ?_⟩
  obtain ⟨n,own,ks,ts,rfl,X',hR,q⟩:=h
  obtain ⟨m,t,e,cs,ro,rk,X⟩:=id X'
  have e0:aN uG [.loc n]=[some (.loc n),none,none]:=rfl
  rw [e0]
  push_cast [true_and]
  refine bX rfl X.at_ (by decide +kernel) ?_
  refine ⟨n,own,ks,ts,rfl,X',fun p1 p2 p3 => ?_⟩
  rw [mH]
  push_cast [true_and]
  have hR2:=hR.cT p1 p2 p3
  refine cQ (di ⟨_,rfl,_,rfl,?_⟩)
  show bR (fun _=>True) _ gg _ ((b7 ks).map oA) [] [none,none] S _
  have hkl:=hR2.kl
  have htl:=hR2.tl
  refine jI oA (fun k=>.str k.1) (fun k=>.tup (k.2.map D.str)) (fun k=>.str (fF k)) (fun _=>rfl) [] (b7 ks) [] none none (fun k hk Q' q' => ?_) (by rw [sizeLine_eq];simp;omega) ?_
  ·have hm:=hR2.nm k hk
   exact JH rfl (fun Q2 q2=>⟨_,rfl,_,rfl,q2⟩) hm.2.1 hm.1 hm.2.2.2 q'
  rw [zbU]
  refine cQ (di ⟨_,rfl,_,rfl,?_⟩)
  show bR (fun _=>True) _ gg _ ((cB ts).map T3) [] [none] S _
  refine gE T3 (fun t=>.str (dH t)) (cB ts) [] (fun t ht Q' q' => ?_) (by rw [sizeLine_eq];simp;omega) ?_
  ·have hm:=hR2.ends ht
   exact qc rfl hm.1 hm.2.1 hm.2.2 q'
  refine ⟨by show _+_≤_;rw [zbP,zbU,zbP,sizeLine_eq];omega,?_⟩
  exact xV (nq _ _) q
noncomputable def xq:AN:=fun ds S Q=>∃ ks ts,ds=[bq ks ts]∧RO ks ts∧Q (.new (.lst (fW (b7 ks) (cB ts)))) S
theorem Gh (T:Txt K mg C fi) (F:Src K mg "_law_lines" gO qA):Def P w K mg base 1 "_law_lines" gO (aL K xq):=by
 refine oF F xC (fun ds S Q h => ?_) (fun f cdv A outer s H E hr => ?_)
 ·obtain ⟨ks,ts,rfl,_⟩:=h;rfl
 ·refine ⟨_,(M.af (M.aU (i:=1) xC.nd rfl rfl (N:=["_law_name","_law_marks"]) (caps:=[none,none]) (cM (by decide +kernel)) (by rfl) (by rfl) rfl (M.bT (M.eX (M.Cg hr) (by rfl) T.sorted (by decide +kernel) (M.ao (M.aH M.bK (M.pv 0) M.ah (fun _ _=>rfl)) M.aa))) (fun _ _ _ _=>(M.fS (n:=2) rfl (M.br (M.aq (i:=0) (by decide +kernel:List.Nodup (["_law_name","_law_marks"]:List Str)) rfl (Or.inl rfl)) (M.br (M.aq (i:=1) (by decide +kernel:List.Nodup (["_law_name","_law_marks"]:List Str)) rfl (Or.inl rfl)) M.dX)))) (fun _ _ _ _=>M.bx) (fun _ _ _ _=>(M.c8 PySem.F.plainAttrs_str PySem.F.slot_str_join PySem.F.type_str_join M.fV M.au (M.ao (M.aE M.dS (M.bJ (M.ao M.au (M.ao (M.pv 0) M.aa))) (M.eX M.sO (by rfl) T.sorted (by decide +kernel) (M.ao (M.pv 1) M.aa))) M.aa))))
   (M.aj (M.aO (M.aE M.dS (M.pv 1) (M.b6 (N:=["_law_tie"]) (caps:=[none]) (cM (by decide +kernel)) (by rfl) (by rfl) rfl (M.bT (M.eX (M.jz hr) (by rfl) T.sorted (by decide +kernel) (M.ao (M.aH M.bK (M.pv 0) M.ah (fun _ _=>rfl)) M.aa))) (fun _ _ _ _=>(M.aq (i:=0) (by decide +kernel:List.Nodup (["_law_tie"]:List Str)) rfl (Or.inl rfl))) (fun _ _ _ _=>M.bx) (fun _ _ _ _=>(M.c8 PySem.F.plainAttrs_str PySem.F.slot_str_join PySem.F.type_str_join M.fV M.au (M.ao (M.aE M.dS (M.bJ (M.ao M.au M.aa)) (M.qL M.cL (by rfl) T.list (by decide +kernel) (M.ao (M.pv 0) M.aa))) M.aa)))))))),fun ds S Q h => ?_⟩
  obtain ⟨ks,ts,rfl,hR,q⟩:=h
  have e0:aN uI [bq ks ts]=[some (bq ks ts),none]:=rfl
  rw [e0]
  push_cast [true_and]
  refine cQ (di ⟨_,rfl,.lst (ks.map eG),rfl,_,ks.map (fun k=>(k.1,[D.lst (k.2.map D.str)])),rfl,by rw [zct];rfl,by rw [zct];exact hR.nd,by rw [zbP];have:=hR.kl;omega,fun ks' hp hu => ?_⟩)
  obtain ⟨us,hu1,rfl⟩:=dN hp
  have eu:(us.map fun k=>(k.1,[D.lst (k.2.map D.str)])).map z6=us.map eG:=by rw [zct];rfl
  rw [eu]
  rw [zbp] at hu
  show bR (fun _=>True) _ gg _ (us.map eG) [] [none,none] S _
  have hkl:=hR.kl
  have htl:=hR.tl
  have hul:=hu1.length_eq
  refine jI eG (fun k=>.str k.1) (fun k=>.lst (k.2.map D.str)) (fun k=>.str (fF (k.1,cT k.2))) (fun _=>rfl) [] us [] none none (fun k hk Q' q' => ?_) (by rw [sizeLine_eq];simp;omega) ?_
  ·have hm:=hR.nm k (hu1.mem_iff.mp hk)
   refine ⟨rfl,_,rfl,by show 2≤sizeLine;decide,_,rfl,_,rfl,.inl ⟨k.2,rfl,by omega,fun ss hp hs => ?_⟩⟩
   have e:=fN hm.2.2.1 hp hs
   subst e
   have hl:(cT k.2).length≤5:=by rw [hp.length_eq];exact hm.2.1
   exact ⟨by show _+_≤_;rw [zbP,sizeLine_eq];simp;omega,_,_,oN (k.1,cT k.2),rfl,rfl,rfl,jC (by simp;omega) (se hm.1 fun m hm'=>hm.2.2.2 m (qg hm')),q'⟩
  rw [zbU]
  refine cQ (di ⟨_,rfl,.lst (ts.map T3),rfl,_,_,rfl,rfl,jf hR.qN,by rw [zbP];omega,fun ks' hp hv => ?_⟩)
  obtain ⟨vs,hv1,rfl⟩:=lZ hp
  have e:=g7 hR.tn hv1 hv
  subst e
  have hvl:=hv1.length_eq
  show bR (fun _=>True) _ gg _ ((cB ts).map T3) [] [none] S _
  refine gE T3 (fun t=>.str (dH t)) (cB ts) [] (fun t ht Q' q' => ?_) (by rw [sizeLine_eq];simp;omega) ?_
  ·have hm:=hR.ends (hv1.mem_iff.mp ht)
   exact qc rfl hm.1 hm.2.1 hm.2.2 q'
  refine ⟨by show _+_≤_;rw [zbP,zbU,zbP,sizeLine_eq];omega,?_⟩
  have ek:(us.map fun k=>D.str (fF (k.1,cT k.2)))=(b7 ks).map fun k=>.str (fF k):=by
   rw [← CA hR.nd hu1 hu,zct];rfl
  have el:(us.map fun k=>D.str (fF (k.1,cT k.2)))++([]++(cB ts).map fun t=>D.str (dH t))=fW (b7 ks) (cB ts):=by
   rw [ek];rfl
  rw [show ([]:List D)++(cB ts).map (fun t=>D.str (dH t))=(cB ts).map (fun t=>D.str (dH t)) from rfl]
  show M.ret S S (.new (.lst ((us.map fun k=>D.str (fF (k.1,cT k.2)))++(cB ts).map fun t=>D.str (dH t)))) Q
  rw [ek]
  exact xV (nq _ _) q
end
open PySem PySem.Spec L2 M M6 PyProof.Rows
noncomputable abbrev xG:Stmt:=top 17
noncomputable abbrev yZ:List Str:=["lines","web","number","line","words"]
noncomputable abbrev jQ:List Str:=["lines"]
theorem mD:az yZ jQ (ai xG):=⟨rfl,rfl,rfl,by decide +kernel,rfl,by decide +kernel,by decide +kernel⟩
noncomputable abbrev En:=Kn ⊕ Ti
noncomputable def dg:En→Str
 | .inl k=>fF k
 | .inr t=>dH t
noncomputable def aM (es:List En):List Kn:=es.filterMap fun e=>match e with | .inl k=>some k | .inr _=>none
noncomputable def bM (es:List En):List Ti:=es.filterMap fun e=>match e with | .inl _=>none | .inr t=>some t
structure gc (es:List En):Prop where
 nm:∀ k∈aM es,Nm k.1∧k.2.length≤5∧k.2.Nodup∧∀ m∈k.2,Nm m
 tm:∀ t∈bM es,Nm t.1∧Nm t.2.1∧Nm t.2.2
 kd:(nms (aM es)).Nodup
 kl:(aM es).length≤40
 td:(bM es).Nodup
 tl:(bM es).length≤300
 fit:∀ a t b,es=a ++ .inr t::b→t.1∈nms (aM a)∧t.2.2∈nms (aM a)
theorem CM (a:List En) (k:Kn):aM (a++[.inl k])=aM a++[k]:=by unfold aM;rw [zaz];rfl
theorem Ow (a:List En) (t:Ti):aM (a++[.inr t])=aM a:=by unfold aM;rw [zaz];simp
theorem La (a:List En) (k:Kn):bM (a++[.inl k])=bM a:=by unfold bM;rw [zaz];simp
theorem NN (a:List En) (t:Ti):bM (a++[.inr t])=bM a++[t]:=by unfold bM;rw [zaz];rfl
theorem gz (a b:List En):aM (a++b)=aM a++aM b:=zaz ..
theorem jZ (a b:List En):bM (a++b)=bM a++bM b:=zaz ..
theorem jA {y:Str} (h:Nm y):(32:Nat) ∉ y.cps.toList:=fun z=>by
 have:=h.2.2 _ z
 revert this;decide
theorem FW {k:Kn} (h1:Nm k.1) (h2:∀ m∈k.2,Nm m):PySem.Txt.split (fF k) " " = oN k:=mq (by simp) fun y hy=>by
 rcases zci.mp hy with rfl | hy
 ·decide +kernel
 ·rcases zci.mp hy with rfl | hy
  ·exact jA h1
  ·exact jA (h2 y hy)
theorem EG {t:Ti} (h1:Nm t.1) (h2:Nm t.2.1) (h3:Nm t.2.2):PySem.Txt.split (dH t) " " = uM t:=mq (by simp) fun y hy=>by
 simp only [zci,zbE,or_false] at hy
 rcases hy with rfl | rfl | rfl | rfl
 ·decide +kernel
 ·exact jA h1
 ·exact jA h2
 ·exact jA h3
theorem tM {m:Nat}:∀ l:List Str,(∀ y∈l,y.length≤m)→(Str.join " " l).length≤(m+1)*l.length
 | [],_=>by simp [Str.join,Str.empty,Str.length]
 | [x],h=>by have:=h x (by simp);show x.length≤_;simp;omega
 | x::z::r,h=>by
  have h1:=tM (z::r) fun y hy=>h y (by simp [hy])
  have h2:=h x (by simp)
  have e1:(" " : Str).length=1:=rfl
  have el:(Str.join " " (x::z::r)).length=x.length+1+(Str.join " " (z::r)).length:=by
   show (x ++ " " ++ Str.join " " (z::r)).length=_
   rw [strLen_append,strLen_append,e1]
  rw [el]
  simp only [zbx] at h1 ⊢
  rw [Nat.mul_succ];omega
theorem yl {l:List Str} (h:∀ y∈l,y.length≤8) (hl:l.length≤7):(PySem.Txt.join " " l).length≤63:=by
 have e:PySem.Txt.join " " l=Str.join " " l:=PySem.StrLaws.glued_eq_join _ _
 have:=tM l h
 rw [e]
 have:(8+1)*l.length≤9*7:=Nat.mul_le_mul_left _ hl
 omega
noncomputable def OL (n:Nat) (xs:List D):List D:=(xs.zipIdx n).map fun p=>.tup [.int (p.2:Nat),p.1]
theorem tW (n:Nat) (x:D) (xs:List D):OL n (x::xs) = .tup [.int (n:Nat),x]::OL (n+1) xs:=rfl
section
variable {P:Program}{w:World}{K:PySem.W.Frag}{mg:Str→Option Value}{base:Heap}{C fi:Addr}
noncomputable def Bm (C:Addr) (W:World):AN:=fun ds S Q=>∃ es:List En,ds=[.lst (es.map fun e=>.str (dg e))]∧gc es∧Hv C W S (aM es) (bM es) Q
theorem J3 {fdi:FuncData} (T:Txt K mg C fi) (F:Src K mg "read_web" jQ xG) (F_Web:dO P w K mg base kQ 1 fi fdi dG (aL K (qj C w))) (B_Web:Binds K fdi dG [])
  (D_put_knot:c6 P w K mg base 2 C "put_knot" iy (u5 C w)) (D_put_tie:c6 P w K mg base 2 C "put_tie" iw (uZ C w))
  (D_is_knot_line:Def P w K mg base 3 "is_knot_line" uD (aL K Li)) (D_is_tie_line:Def P w K mg base 3 "is_tie_line" uC (aL K Lh)):Def P w K mg base 4 "read_web" jQ (aL K (Bm C w)):=by
 refine JY F mD (fun ds S Q h => ?_) (fun f cdv A outer s H E hr => ?_)
 ·obtain ⟨es,rfl,_⟩:=h;rfl
 ·refine ⟨_,(M.af (M.aD (i:=1) mD.nd rfl (Or.inl rfl) (M.gq T.Cv F_Web B_Web (hr.mono (by decide)) (by rfl) T.vE))
   (M.af (M.cU PassesOwn.never rfl (M.qH (by rfl) T.enumerate (M.ao (M.pv 0) M.aa)) (M.fS (n:=2) rfl (M.br (M.aq (i:=2) mD.nd rfl (Or.inl rfl)) (M.br (M.aq (i:=3) mD.nd rfl (Or.inl rfl)) M.dX)))
    (M.af (M.aD (i:=4) mD.nd rfl (Or.inl rfl) (M.c8 PySem.F.plainAttrs_str PySem.F.slot_str_split PySem.F.type_str_split M.m_split (M.pv 3) (M.ao M.au M.aa)))
    (M.aj (M.cu (M.qF (M.aJ D_is_knot_line (hr.mono (by decide)) (by rfl) (M.ao (M.pv 4) M.aa)))
     (M.aj (M.aZ (M.b5 (M.pv 1) T.cl D_put_knot (hr.mono (by decide)) (M.ao (M.aH M.bK (M.pv 4) M.ah (fun _ _=>rfl)) (M.ao (M.bI M.sR (M.pv 4) (M.bW M.ah) M.cy) M.aa)))))
     (M.aj (M.cu (M.qF (M.aJ D_is_tie_line (hr.mono (by decide)) (by rfl) (M.ao (M.pv 4) M.aa)))
      (M.aj (M.aZ (M.b5 (M.pv 1) T.cl D_put_tie (hr.mono (by decide)) (M.ao (M.aH M.bK (M.pv 4) M.ah (fun _ _=>rfl)) (M.ao (M.aH M.bK (M.pv 4) M.ah (fun _ _=>rfl)) (M.ao (M.aH M.bK (M.pv 4) M.ah (fun _ _=>rfl)) M.aa))))))
      (M.aj M.dM)))))))
   (M.aj (M.aO (M.pv 1))))),fun ds S Q h => ?_⟩
  obtain ⟨es,rfl,hG,q⟩:=h
  have e0:aN yZ [.lst (es.map fun e=>.str (dg e))]=[some (.lst (es.map fun e=>.str (dg e))),none,none,none,none]:=rfl
  rw [e0]
  push_cast [yR,nW,CV]
  refine ⟨S.length,rfl,by rw [zaU];rfl,bL,fun S1 X1 k1 l1=>⟨rfl,?_⟩⟩
  refine ⟨_,rfl,?_⟩
  generalize hLS:D.lst (es.map fun e=>D.str (dg e))=LS
  refine dD (fun rest δ S'=>∃ (done rs:List En) (own:List Nat) (j:Nat) (v2 v3 v4:Option D),rest=OL j (rs.map fun e=>D.str (dg e))∧done++rs=es∧δ=[some LS,some (.loc S.length),v2,v3,v4]∧bZ C w S' S.length own (aM done) (bM done)∧uL S S' own) ?_ ?_ _ _ _ ⟨[],es,_,0,none,none,none,rfl,rfl,rfl,X1,pK (n:=0) k1 l1⟩
  ·rintro δ S2 ⟨done,rs,own,j,v2,v3,v4,e1,e2,rfl,X2,k2⟩
   have:rs=[]:=by cases rs with | nil=>rfl | cons _ _=>rw [zcj,tW] at e1;cases e1
   subst this
   rw [zbQ] at e2
   subst e2
   exact ⟨trivial,_,rfl,q S2 own X2 k2⟩
  ·rintro x xs δ S2 N ⟨done,rs,own,j,v2,v3,v4,e1,e2,rfl,X2,k2⟩ hN
   cases rs with
   | nil=>cases e1
   | cons r rs =>
    rw [zcj,tW] at e1
    injection e1 with e1 e3
    subst e1;subst e3
    obtain ⟨m,t,e,cs,ro,rk,X⟩:=id X2
    refine ⟨trivial,_,rfl,rfl,_,_,rfl,_,_,rfl,rfl,?_⟩
    cases r with
    | inl k =>
     have hk:k∈aM es:=by rw [← e2,gz];simp [aM]
     have hm:=hG.nm k hk
     have hsp:=FW hm.1 hm.2.2.2
     have hll:(fF k).length≤63:=yl (se hm.1 hm.2.2.2) (by simp;omega)
     push_cast [yU]
     refine ⟨rfl,_,_,rfl,rfl,by decide +kernel,by show (fF k).length+2≤_;rw [sizeLine_eq];omega,?_⟩
     rw [show PySem.Txt.split (dg (.inl k)) " " = oN k from hsp]
     have hno:k.1 ∉ nms (aM done):=qP (r:=nms (aM rs)) (l:=nms (aM es)) (by rw [← e2,gz];simp [nms,aM]) hG.kd
     have hkl:(aM done).length<40:=by
      have:=hG.kl
      rw [← e2,gz,zaU] at this
      have:0<(aM (.inl k::rs)).length:=by simp [aM]
      omega
     refine .inl ⟨k,rfl,hm.1,hm.2.1,hm.2.2.1,hm.2.2.2,true,rfl,?_⟩
     rw [if_pos rfl]
     have c2:M.cutD ((oN k).map D.str) (some 2) none=k.2.map D.str:=Kl (a:=.str "knot") (b:=.str k.1)
     refine bX rfl X.at_ (by decide +kernel) ⟨_,rfl,.str k.1,show nU _ ((1:Nat):Int)=_ from cY rfl,_,rfl,2,rfl,?_⟩
     simp only [lV,kG,BS,gn,ye,g8,c2]
     exact ⟨S.length,k.1,.lst (k.2.map D.str),k.2,own,aM done,bM done,rfl,.inl rfl,X2,hno,hkl,by omega,hm.2.2.1,cI hm.1,fun m hm'=>cI (hm.2.2.2 m hm'),fun S4 own4 X4 f4=>hN _ _ ⟨done++[.inl k],rs,own4,_,_,_,_,rfl,by rw [← e2];simp,rfl,by rw [CM,La];exact X4,k2.step f4⟩⟩
    | inr t =>
     have ht:t∈bM es:=by rw [← e2,jZ];simp [bM]
     have hm:=hG.tm t ht
     have hsp:=EG hm.1 hm.2.1 hm.2.2
     have hll:(dH t).length≤63:=yl (Bx hm.1 hm.2.1 hm.2.2) (by simp)
     have hf:=hG.fit done t rs e2.symm
     push_cast [yU]
     refine ⟨rfl,_,_,rfl,rfl,by decide +kernel,by show (dH t).length+2≤_;rw [sizeLine_eq];omega,?_⟩
     rw [show PySem.Txt.split (dg (.inr t)) " " = uM t from hsp]
     have hno:t ∉ bM done:=qP (r:=bM rs) (l:=bM es) (by rw [← e2,jZ];simp [bM]) hG.td
     have htl:(bM done).length<300:=by
      have:=hG.tl
      rw [← e2,jZ,zaU] at this
      have:0<(bM (.inr t::rs)).length:=by simp [bM]
      omega
     refine .inr ⟨t,rfl,hm.1,hm.2.1,hm.2.2,false,rfl,?_⟩
     rw [if_neg (by decide)]
     refine ⟨t,rfl,hm.1,hm.2.1,hm.2.2,true,rfl,?_⟩
     rw [if_pos rfl]
     refine bX rfl X.at_ (by decide +kernel) ⟨_,rfl,.str t.1,rfl,_,rfl,.str t.2.1,rfl,_,rfl,.str t.2.2,rfl,S.length,t,own,aM done,bM done,rfl,X2,hf.1,hf.2,hno,htl,vv (cI hm.1) (cI hm.2.1) (cI hm.2.2),fun S4 own4 X4 f4=>hN _ _ ⟨done++[.inr t],rs,own4,_,_,_,_,rfl,by rw [← e2];simp,rfl,by rw [Ow,NN];exact X4,k2.step f4⟩⟩
end
open PySem PySem.Spec L2 M M6 PyProof.Rows
noncomputable abbrev qC:Stmt:=top 28
noncomputable abbrev uK:List Str:=["_law_names_here","_law_letters","_law_heads","_law_knots","_law_ties","_law_k"]
noncomputable abbrev gQ:List Str:=["_law_names_here"]
theorem ie:az uK gQ (ai qC):=⟨rfl,rfl,rfl,by decide +kernel,rfl,by decide +kernel,by decide +kernel⟩
theorem dI {a b:AS}{D:gU}{δ:bw}{S:av} (h:∀ N:bw→av→Prop,(∀ δ' S',b D δ' S'→N δ' S')→a { D with nx:=N } δ S):uB a b D δ S:=h (b D) fun _ _ z=>z
theorem Bg (l:List Str):∃ s:List Str,s.Perm l∧sortedS s=true:=by
 let le:Str→Str→Bool:=fun a b => !decide (b.cps.toList<a.cps.toList)
 refine ⟨l.mergeSort le,List.mergeSort_perm l le,sortedS_of_pairwise _ ?_⟩
 have h:=List.pairwise_mergeSort (le:=le) (fun a b c h1 h2 => ?_) (fun a b => ?_) l
 ·refine h.imp fun {a b} z => ?_
  rw [ltCps_eq]
  have z:(!decide (b.cps.toList<a.cps.toList))=true:=z
  simpa using z
 ·have h1 : ¬ b.cps.toList<a.cps.toList:=by simpa [le] using h1
  have h2 : ¬ c.cps.toList<b.cps.toList:=by simpa [le] using h2
  show (!decide (c.cps.toList<a.cps.toList))=true
  have : ¬ c.cps.toList<a.cps.toList:=zcG.mpr (List.le_trans (zcG.mp h1) (zcG.mp h2))
  simpa using this
 ·show ((!decide (b.cps.toList<a.cps.toList))||(!decide (a.cps.toList<b.cps.toList)))=true
  by_cases e:b.cps.toList<a.cps.toList
  ·have : ¬ a.cps.toList<b.cps.toList:=fun z=>zcd _ (zcm z e)
   simp [this]
  ·simp [e]
theorem mj {l:List Str} (hn:l.Nodup):(cT l).Perm l:=by
 obtain ⟨s,s1,s2⟩:=Bg l
 rw [← fN hn s1 s2];exact s1
theorem zv (l:List Ti):∃ s:List Ti,s.Perm l∧uN (s.map T3):=by
 let le:Ti→Ti→Bool:=fun a b => !dQ (py (T3 b)) (py (T3 a))
 refine ⟨l.mergeSort le,List.mergeSort_perm l le,?_⟩
 have h:=List.pairwise_mergeSort (le:=le) (fun a b c h1 h2 => ?_) (fun a b => ?_) l
 ·show ((l.mergeSort le).map T3).Pairwise _
  rw [zbp]
  refine h.imp fun {a b} z => ?_
  have z:(!dQ (py (T3 b)) (py (T3 a)))=true:=z
  simpa using z
 ·have h1:dQ (py (T3 b)) (py (T3 a))=false:=by simpa [le] using h1
  have h2:dQ (py (T3 c)) (py (T3 b))=false:=by simpa [le] using h2
  show (!dQ (py (T3 c)) (py (T3 a)))=true
  cases z:dQ (py (T3 c)) (py (T3 a)) with
  | false=>rfl
  | true =>
   exfalso
   by_cases e:b=c
   ·subst e;rw [h1] at z;cases z
   ·rcases qT _ _ (rz b c) (fun y=>e (jo y)) with y | y
    ·have:=sY _ _ _ (rz b c) (rz c a) (rz b a) y z
     rw [h1] at this;cases this
    ·rw [h2] at y;cases y
 ·show ((!dQ (py (T3 b)) (py (T3 a)))||(!dQ (py (T3 a)) (py (T3 b))))=true
  cases z:dQ (py (T3 b)) (py (T3 a)) with
  | false=>rfl
  | true =>
   cases y:dQ (py (T3 a)) (py (T3 b)) with
   | false=>rfl
   | true =>
    have:=sY _ _ _ (rz a b) (rz b a) (rz a a) y z
    rw [vL] at this;cases this
theorem lg {l:List Ti} (hn:l.Nodup):(cB l).Perm l:=by
 obtain ⟨s,s1,s2⟩:=zv l
 rw [← g7 hn s1 s2];exact s1
theorem RO.NT {ks:List Kn}{ts:List Ti} (h:RO ks ts):RO (b7 ks) (cB ts) :=
 h.cT (mj h.nd) (lg h.tn) fun x hx=>by
  obtain ⟨k,hk,rfl⟩:=zcs.mp hx
  rw [cD h.nd hk]
  exact mj (h.nm k hk).2.2.1
theorem Cn (ks:List Kn):nms (b7 ks)=cT (nms ks):=by unfold b7 nms;rw [zct];simp [Function.comp_def]
theorem vI {ks:List Kn}{y:Str} (hy:y∈cT (nms ks)):aQ (b7 ks) y=cT (aQ ks y):=by
 unfold b7
 have go:∀ (l:List Str),y∈l→aQ (l.map fun x=>(x,cT (aQ ks x))) y=cT (aQ ks y):=fun l=>by
  induction l with
  | nil=>intro h;simp at h
  | cons a l ih =>
   intro h
   unfold aQ
   rw [zcj,zbS]
   by_cases e:a=y
   ·rw [decide_eq_true e,e];rfl
   ·rw [decide_eq_false e]
    rcases zci.mp h with z | z
    ·exact absurd z.symm e
    ·exact ih z
 exact go _ hy
theorem Lk.cT {ks:List Kn}{ts:List Ti} (h:RO ks ts):Lk (b7 ks) ks (cB ts) ts:=by
 have p1:=mj h.nd
 refine ⟨by rw [Cn];exact p1,fun y hy => ?_,lg h.tn⟩
 rw [vI (p1.mem_iff.mpr hy)]
 obtain ⟨k,hk,rfl⟩:=zcs.mp hy
 rw [cD h.nd hk]
 exact mj (h.nm k hk).2.2.1
noncomputable def hd (k:Nat):Str:=⟨#[107,97+k % 26,97+k / 26]⟩
noncomputable def gK (M:List Str):List Kn:=(zcM 40).map fun k=>(hd k,M)
noncomputable def gT (B:List Str) (k:Nat):Ti:=(hd (k % 10),B.getD (k / 100) "",hd (k / 10 % 10))
noncomputable def uO (B:List Str) (n:Nat):List Ti:=(zcM n).map (gT B)
theorem Mq:∀ k<61,(decide (1≤(hd k).length)&&decide ((hd k).length≤8)&&JD (hd k))=true:=by decide +kernel
theorem Mr:((zcM 40).map hd).Nodup:=by decide +kernel
theorem Jz {l:List Str} (h:l.Nodup) {i j:Nat} (hi:i<l.length) (hj:j<l.length) (e:l.getD i "" = l.getD j ""):i=j:=by
 rw [zac,zac,zam hi,zam hj] at e
 exact (List.getElem_inj h).mp e
theorem JU {B:List Str} (hB:B.Nodup) (hl:B.length=3):∀ i<300,∀ j<300,gT B i=gT B j→i=j:=by
 intro i hi j hj e
 unfold gT hd at e
 simp only [Prod.mk.injEq,Str.mk.injEq,Array.mk.injEq,zcN.injEq] at e
 have:=Jz hB (i:=i / 100) (j:=j / 100) (by omega) (by omega) e.2.1
 omega
theorem C5 (M:List Str):nms (gK M)=(zcM 40).map hd:=by unfold nms gK;rw [zct];rfl
theorem gRO {B M:List Str} (hB:B.Nodup) (lB:B.length=3) (nB:∀ y∈B,Nm y) (hM:M.Nodup) (lM:M.length=5) (nM:∀ y∈M,Nm y):RO (gK M) (uO B 300):=by
 refine ⟨by unfold gK;rw [zbP,zbq];omega,by rw [C5];exact Mr,fun k hk => ?_,?_,by unfold uO;rw [zbP,zbq];omega,fun t ht => ?_⟩
 ·unfold gK at hk
  obtain ⟨i,hi,rfl⟩:=zcs.mp hk
  have hi:=zcb.mp hi
  exact ⟨Co (Mq i (by omega)),by show M.length≤5;omega,hM,nM⟩
 ·unfold uO
  exact qS List.nodup_range fun a ha b hb e=>JU hB lB a (zcb.mp ha) b (zcb.mp hb) e
 ·unfold uO at ht
  obtain ⟨i,hi,rfl⟩:=zcs.mp ht
  have hi:=zcb.mp hi
  rw [C5]
  refine ⟨zcs.mpr ⟨i % 10,zcb.mpr (by omega),rfl⟩,zcs.mpr ⟨i / 10 % 10,zcb.mpr (by omega),rfl⟩,nB _ ?_⟩
  show B.getD (i / 100) "" ∈ B
  rw [zac,zam (show i / 100<B.length by omega)]
  exact zbD _
section
variable {P:Program}{w:World}{K:PySem.W.Frag}{mg:Str→Option Value}{base:Heap}{C fi:Addr}
theorem CJ {i:Nat}{S:av}{Q:AK} (h:i<26) (q:Q (.dat (.str ⟨#[97+i]⟩)) S):uR (.str "abcdefghijklmnopqrstuvwxyz") (.int (i:Int)) S Q:=by
 refine ⟨by rw [sizeLine_eq];decide +kernel,97+i,?_,q⟩
 refine cY ?_
 have:∀ i<26,("abcdefghijklmnopqrstuvwxyz" : Str).cps.toList[i]? = some (97+i):=by decide +kernel
 exact this i h
theorem HG {m i:Nat}{S:av}{Q:AK} (h:i<m) (q:Q (.dat (.str (hd i))) S):uR (.lst (((zcM m).map hd).map D.str)) (.int (i:Int)) S Q:=by
 refine ⟨_,cY ?_,q⟩
 rw [zbh,zbh,List.getElem?_range h];rfl
noncomputable def xw:AN:=fun ds S Q=>∃ (A B M:List Str),ds=[.lst [.lst (A.map D.str),.lst (B.map D.str),.lst (M.map D.str)]]∧B.length=3∧M.length=5∧Q (.dat (bq (gK M) (uO B 300))) S
noncomputable def GL (XN KD:D) (B:List Str) (S:av) (rest:List D) (δ:bw) (S':av):Prop:=∃ (j:Nat) (v5:Option D),rest=(cW 0 300).drop j∧j≤300∧δ=[some XN,some (.str "abcdefghijklmnopqrstuvwxyz"),some (.lst (((zcM 40).map hd).map D.str)),some KD,some (.loc S.length),v5]∧S'=S++[some (.lst ((uO B j).map T3))]
theorem Gj (T:Txt K mg C fi) (F:Src K mg "_law_great" gQ qC):Def P w K mg base 1 "_law_great" gQ (aL K xw):=by
 refine oF F ie (fun ds S Q h => ?_) (fun f cdv A outer s H E hr => ?_)
 ·obtain ⟨A,B,M,rfl,_⟩:=h;rfl
 ·refine ⟨_,(M.af (M.aD (i:=1) ie.nd rfl (Or.inr rfl) M.au)
   (M.af (M.aU (i:=2) ie.nd rfl rfl (N:=["_law_k","_law_letters"]) (caps:=[none,some 1]) (cM (by decide +kernel)) (by rfl) (by rfl) rfl (M.bG (by rfl) T.range (M.ao M.ah M.aa)) (fun _ _ _ _=>(M.aq (i:=0) (by decide +kernel:List.Nodup (["_law_k","_law_letters"]:List Str)) rfl (Or.inl rfl))) (fun _ _ _ _=>M.bx) (fun _ _ _ _=>(M.aE M.dS (M.aE M.dS M.au (M.aH M.bK (M.pv 1) (M.aE M.Cj (M.pv 0) M.ah) (fun _ _=>rfl))) (M.aH M.bK (M.pv 1) (M.aE M.vA (M.pv 0) M.ah) (fun _ _=>rfl)))))
   (M.af (M.aU (i:=3) ie.nd rfl rfl (N:=["_law_head","_law_names_here"]) (caps:=[none,some 0]) (cM (by decide +kernel)) (by rfl) (by rfl) rfl (M.bT (M.pv 2)) (fun _ _ _ _=>(M.aq (i:=0) (by decide +kernel:List.Nodup (["_law_head","_law_names_here"]:List Str)) rfl (Or.inl rfl))) (fun _ _ _ _=>M.bx) (fun _ _ _ _=>(M.bO (M.ao (M.pv 0) (M.ao (M.qL M.cL (by rfl) T.list (by decide +kernel) (M.ao (M.aH M.bK (M.pv 1) M.ah (fun _ _=>rfl)) M.aa)) M.aa)))))
   (M.af (M.aD (i:=4) ie.nd rfl (Or.inl rfl) (M.AD (M.bJ M.aa)))
   (M.af (M.cU PassesOwn.never rfl (M.bG (by rfl) T.range (M.ao M.ah M.aa)) (M.aq (i:=5) ie.nd rfl (Or.inl rfl))
    (M.aj (M.aZ (M.c8 PySem.F.plainAttrs_list PySem.F.slot_list_append PySem.F.type_list_append M.fE (M.pv 4) (M.ao (M.bO (M.ao (M.aH M.bK (M.pv 2) (M.aE M.Cj (M.pv 5) M.ah) (fun _ _=>rfl)) (M.ao (M.aH M.bK (M.aH M.bK (M.pv 0) M.ah (fun _ _=>rfl)) (M.aE M.vA (M.pv 5) M.ah) (fun _ _=>rfl)) (M.ao (M.aH M.bK (M.pv 2) (M.aE M.Cj (M.aE M.vA (M.pv 5) M.ah) M.ah) (fun _ _=>rfl)) M.aa)))) M.aa)))))
   (M.aj (M.aO (M.OD (M.bO (M.ao (M.pv 3) (M.ao (M.pv 4) M.aa))))))))))),fun ds S Q h => ?_⟩
  obtain ⟨NA,NB,NM,rfl,lB,lM,q⟩:=h
  have e0:aN uK [.lst [.lst (NA.map D.str),.lst (NB.map D.str),.lst (NM.map D.str)]]=[some (.lst [.lst (NA.map D.str),.lst (NB.map D.str),.lst (NM.map D.str)]),none,none,none,none,none]:=rfl
  rw [e0]
  generalize hXN:D.lst [D.lst (NA.map D.str),D.lst (NB.map D.str),D.lst (NM.map D.str)]=XN
  have x01:∀ {S:av}{Q:AK},Q (.dat (.lst (NB.map D.str))) S→uR XN (.int 1) S Q:=fun {S Q} q'=>by rw [← hXN];exact ⟨_,rfl,q'⟩
  have x02:∀ {S:av}{Q:AK},Q (.dat (.lst (NM.map D.str))) S→uR XN (.int 2) S Q:=fun {S Q} q'=>by rw [← hXN];exact ⟨_,rfl,q'⟩
  refine dI fun N1 h1 => ?_
  push_cast [true_and]
  refine h1 _ _ ?_
  clear h1
  refine dI fun N3 h3 => ?_
  push_cast [kP,tO]
  refine ⟨by decide,by decide,comp_map (δ:=[none,some (.str "abcdefghijklmnopqrstuvwxyz")]) (fun d=>match d with | .int i=>.str (hd i.toNat) | d=>d) trivial _ [] _ rfl (fun x hx Q' q' => ?_) ?_ ?_⟩
  ·obtain ⟨k,hk,rfl⟩:=zcs.mp hx
   have hk:k<40:=by simpa using hk
   rw [Int.zero_add] at q' ⊢
   push_cast [zaY]
   have e1:((k:Int) % 26)=((k % 26:Nat):Int):=by omega
   have e2:((k:Int) / 26)=((k / 26:Nat):Int):=by omega
   rw [e1,e2]
   refine ⟨by decide,CJ (by omega) ⟨by show 1+1≤sizeLine;decide,by unfold Er;omega,CJ (by omega) ⟨by show 2+1≤sizeLine;decide,?_⟩⟩⟩
   exact q'
  ·simp [cW];rw [sizeLine_eq];omega
  rw [zbU]
  have eh:(cW 0 (40:Int).toNat).map (fun d=>match d with | .int i=>.str (hd i.toNat) | d=>d)=((zcM 40).map hd).map D.str:=by
   simp only [cW,zct]
   refine zaM fun k _ => ?_
   show D.str (hd ((0:Int)+(k:Int)).toNat)=D.str (hd k)
   rw [Int.zero_add];rfl
  rw [eh]
  refine h3 _ _ ?_
  clear h3 eh
  refine dI fun N4 h4 => ?_
  push_cast [true_and]
  refine cQ (di ⟨_,rfl,?_⟩)
  show bR (fun _=>True) (bD 0) gg _ (((zcM 40).map hd).map D.str) [] [none,some XN] S _
  rw [zct]
  refine gE (D.str ∘ hd) (fun k=>eG (hd k,NM)) (zcM 40) [] (fun k hk Q' q' => ?_) (by rw [sizeLine_eq];simp) ?_
  ·refine ⟨_,rfl,_,rfl,?_⟩
   simp only [aC,kG,gn]
   exact x02 ⟨_,rfl,by show 2≤sizeLine;decide,q'⟩
  have ek:([]:List D)++(zcM 40).map (fun k=>eG (hd k,NM))=(gK NM).map eG:=by unfold gK;rw [zct];rfl
  rw [ek]
  refine h4 _ _ ?_
  clear h4
  refine dI fun N5 h5 => ?_
  push_cast [gH]
  refine ⟨zcI _,h5 _ _ ?_⟩
  clear h5
  refine dI fun N6 h6 => ?_
  push_cast [nW,tO]
  refine ⟨by decide,by decide,dD (GL XN (.lst ((gK NM).map eG)) NB S) ?_ ?_ _ _ _ ⟨0,none,rfl,zcI _,rfl,rfl⟩⟩
  ·rintro δ S' ⟨j,v5,e1,hj,rfl,rfl⟩
   have hj2:j=300:=by
    have:=congrArg zcF e1
    rw [zbz,lE] at this
    simp at this;omega
   subst hj2
   refine ⟨trivial,h6 _ _ ?_⟩
   clear h6
   push_cast [GJ]
   refine ⟨by show 2≤sizeLine;decide,S.length,(uO NB 300).map T3,_,rfl,bL,?_⟩
   rw [dm]
   have np:∀ l:List Kn,(l.map eG).map (sb S.length (.lst ((uO NB 300).map T3)))=l.map eG:=fun l=>by
    rw [zct]
    refine zaM fun k _ => ?_
    show sb _ _ (eG k)=eG k
    simp [eG,sb]
   have ev:[D.lst ((gK NM).map eG),D.loc S.length].map (sb S.length (.lst ((uO NB 300).map T3)))=[.lst ((gK NM).map eG),.lst ((uO NB 300).map T3)]:=by
    simp [sb]
   rw [ev]
   exact Fd RO.cg q
  ·rintro x xs δ S' N ⟨j,v5,e1,hj,rfl,rfl⟩ hN
   obtain ⟨hj2,rfl,rfl⟩:=sC e1
   refine ⟨trivial,?_⟩
   have e3:aV (S++[some (MO.lst ((uO NB j).map T3))]) (.loc S.length) = .lst ((uO NB j).map T3):=bQ (o:=.lst ((uO NB j).map T3)) bL
   push_cast [yU,e3,oB,true_and]
   have e11:((j:Int) % 10)=((j % 10:Nat):Int):=by omega
   have e12:((j:Int) / 100)=((j / 100:Nat):Int):=by omega
   have e13:((j:Int) / 10 % 10)=((j / 10 % 10:Nat):Int):=by omega
   rw [e11,e12,e13]
   have hb:j / 100<NB.length:=by omega
   refine ⟨by decide,HG (by omega) (x01 ⟨by unfold Er;omega,_,Dw hb,by unfold Er;omega,by decide,HG (by omega) ⟨by show 3≤sizeLine;decide,_,_,_,rfl,rfl,bL,by rw [zbP];unfold uO;rw [zbP,zbq,sizeLine_eq];omega,?_⟩⟩)⟩
   rw [dm]
   refine hN _ _ ⟨j+1,_,rfl,hj2,rfl,?_⟩
   have eb:NB.getD (j / 100) "" = NB[j / 100]:=by rw [zac,zam hb];rfl
   unfold uO
   rw [List.range_succ,zbV,zbV]
   show S++[some (MO.lst (((zcM j).map (gT NB)).map T3++[.tup [.str (hd (j % 10)),.str NB[j / 100],.str (hd (j / 10 % 10))]]))]=S++[some (MO.lst (((zcM j).map (gT NB)).map T3++[T3 (gT NB j)]))]
   unfold gT
   rw [eb]
end
open PySem PySem.Spec L2 M M6 PyProof.Rows
noncomputable abbrev xD:Stmt:=top 30
noncomputable abbrev yW:List Str:=["_law_feed_here","_law_rows_here","_law_lines_here","_law_there","_law_left","_law_ties","_law_name","_law_marks","_law_some"]
noncomputable abbrev jN:List Str:=["_law_feed_here","_law_rows_here"]
theorem eV:az yW jN (ai xD):=⟨rfl,rfl,rfl,by decide +kernel,rfl,by decide +kernel,by decide +kernel⟩
section
variable {P:Program}{w:World}{K:PySem.W.Frag}{mg:Str→Option Value}{base:Heap}{C fi:Addr}
theorem zD {S X:av}{p n:Nat}{ds:List D}{Q:AK} (h:bN ds=true) (q:Q (.new (.lst ds)) (S.set p (some (.feed n)))):ret S (S.set p (some (.feed n))++X) (.new (.lst ds)) Q:=by
 refine ⟨_,by simp only [out];rw [if_pos (show oK _ (.lst ds)=true from fH _ ds h)],fun k o hk e => ?_,?_⟩
 ·rw [zag (by rw [zbW];exact hk)] at e
  by_cases hkp:p=k
  ·subst hkp
   rw [zbl,if_pos rfl,if_pos hk] at e
   have e:MO.feed n=o:=by simpa using e
   subst e
   exact .inr rfl
  ·rw [zaE hkp] at e
   exact .inl e
 ·have:(S.set p (some (.feed n))++X).take S.length=S.set p (some (.feed n)):=by
   rw [show S.length=(S.set p (some (MO.feed n))).length by rw [zbW]]
   exact List.take_left' rfl
  rw [this];exact q
noncomputable def st3 (S:av) (p n:Nat) (a b c:List D):av:=S.set p (some (.feed n))++[some (.lst a),some (.lst b),some (.lst c)]
section
variable {S:av}{p n:Nat}{a b c:List D}
theorem Bf:(st3 S p n a b c)[S.length]? = some (some (.lst a)):=fM (i:=0) (by rw [zbW];rfl)
theorem G9:(st3 S p n a b c)[S.length+1]? = some (some (.lst b)):=fM (i:=1) (by rw [zbW])
theorem Be:(st3 S p n a b c)[S.length+2]? = some (some (.lst c)):=fM (i:=2) (by rw [zbW])
theorem G8 (h:p<S.length):(st3 S p n a b c)[p]? = some (some (.feed n)):=dR (by rw [zbl,if_pos rfl,if_pos h])
theorem BC:aV (st3 S p n a b c) (.loc S.length) = .lst a:=bQ (o:=.lst a) Bf
theorem Hg:aV (st3 S p n a b c) (.loc (S.length+1)) = .lst b:=bQ (o:=.lst b) G9
theorem Lj:aV (st3 S p n a b c) (.loc (S.length+2)) = .lst c:=bQ (o:=.lst c) Be
theorem Hr {x:List D}:(st3 S p n a b c).set S.length (some (.lst x))=st3 S p n x b c:=iN (i:=0) (by rw [zbW];rfl)
theorem LN {x:List D}:(st3 S p n a b c).set (S.length+1) (some (.lst x))=st3 S p n a x c:=iN (i:=1) (by rw [zbW])
theorem LM {x:List D}:(st3 S p n a b c).set (S.length+2) (some (.lst x))=st3 S p n a b x:=iN (i:=2) (by rw [zbW])
theorem Hq {m:Nat} (h:p<S.length):(st3 S p n a b c).set p (some (.feed m))=st3 S p m a b c:=gZ (n:=0) h
end
noncomputable abbrev oz (e:En):D:=.str (dg e)
noncomputable def bU (k:Kn):Kn:=(k.1,k.2.reverse)
structure TI (ks:List Kn) (ts:List Ti) (es:List En) (left:List Kn) (tl:List Ti):Prop where
 kp:((aM es).map bU++left).Perm ks
 tp:(bM es++tl).Perm ts
 fit:∀ a t b,es=a ++ .inr t::b→t.1∈nms (aM a)∧t.2.2∈nms (aM a)
noncomputable def TW (p:Nat) (R:D) (S:av) (ks:List Kn) (ts:List Ti) (n m:Nat) (δ:bw) (S':av):Prop:=∃ (es:List En) (left:List Kn) (tl:List Ti) (n2:Nat) (v6 v7 v8:Option D),m=left.length∧δ=[some (.loc p),some R,some (.loc S.length),some (.loc (S.length+1)),some (.loc (S.length+2)),some (.lst (tl.map T3)),v6,v7,v8] ∧
 S'=st3 S p n2 (es.map oz) ((nms (aM es)).map D.str) (left.map eG)∧TI ks ts es left tl∧n2+2*left.length≤n+80
theorem Iw {S:av}{p:Nat}{o:Option MO} (h:S[p]? = some o):S.set p o=S:=by
 obtain ⟨hp,e⟩:=zaf.mp h
 rw [← e];exact List.set_getElem_self hp
theorem nK {n:Nat}{ds:List D} (hn:n+1≤64) (h:∀ d∈ds,l5 n d=true):fit (.lst ds)=true:=by
 have all:∀ ds:List D,(∀ d∈ds,l5 n d=true)→bN ds=true∧PyData.canLayAll0 (cR ds)=true∧PyData.depthAll (cR ds)≤n:=by
  intro ds
  induction ds with
  | nil=>intro _;simp [bN,cR,PyData.canLayAll0,PyData.depthAll]
  | cons d ds ih =>
   intro h
   obtain ⟨a1,a2,a3⟩:=AW n d (h d (by simp))
   obtain ⟨b1,b2,b3⟩:=ih fun y hy=>h y (by simp [hy])
   refine ⟨by simp [bN,a1,b1],by simp [cR,PyData.canLayAll0,a2,b2],?_⟩
   simp only [cR,PyData.depthAll];omega
 obtain ⟨a,b,c⟩:=all ds h
 unfold fit PySem.SeqAt.shaped
 have e1:cg (.lst ds)=true:=by simpa [cg] using a
 have e2:(py (.lst ds)).canLay0=true:=by simpa [py,PyData.canLay0] using b
 have e3:(py (.lst ds)).depth≤64:=by simp only [py,PyData.depth];omega
 rw [e1,e2,decide_eq_true e3];rfl
theorem JI {k:Kn} (h1:fc k.1=true) (h2:∀ m∈k.2,fc m=true) (h3:k.2.length≤100):l5 2 (eG k)=true:=by
 have e:(k.2.map D.str).all (l5 0)=true:=zbB.mpr fun d hd=>by
  obtain ⟨y,hy,rfl⟩:=zcs.mp hd
  exact h2 y hy
 simp only [eG,l5,zcl,List.all_nil,Bool.and_true,zbJ]
 refine ⟨decide_eq_true (by simp),?_,?_,?_⟩
 ·exact h1
 ·exact decide_eq_true (by rw [zbP];exact h3)
 ·exact e
theorem FU {ks:List Kn}{S:av}{Q:AK}{n:Nat} (hs:S[n]? = some (some (.lst (ks.map eG)))) (hok:∀ k∈ks,fc k.1=true∧(∀ m∈k.2,fc m=true)∧k.2.length≤100) (q:Q (.dat (.bl (!ks.isEmpty))) S):Ak (.loc n) (.lst []) S Q:=by
 unfold Ak
 rw [bQ hs,jg]
 refine ⟨nK (n:=2) (by decide) (fun d hd' => ?_),by decide +kernel,?_⟩
 ·obtain ⟨k,hk,rfl⟩:=zcs.mp hd'
  exact JI (hok k hk).1 (hok k hk).2.1 (hok k hk).2.2
 ·have:PyData.eqv (py (.lst (ks.map eG))) (py (.lst []))=ks.isEmpty:=by
   cases ks <;> simp [py,cR,PyData.eqv,PyData.eqvAll]
  show Q (.dat (.bl (!PyData.eqv (py (.lst (ks.map eG))) (py (.lst []))))) S
  rw [this];exact q
theorem TI.mem {ks:List Kn}{ts:List Ti}{es:List En}{left:List Kn}{tl:List Ti} (h:TI ks ts es left tl) {k:Kn} (hk:k∈left):k∈ks:=h.kp.mem_iff.mp (zau _ hk)
theorem TI.ok {ks:List Kn}{ts:List Ti}{es:List En}{left:List Kn}{tl:List Ti} (h:TI ks ts es left tl) (hR:RO ks ts):∀ k∈left,fc k.1=true∧(∀ m∈k.2,fc m=true)∧k.2.length≤100:=fun k hk=>by
 have hm:=hR.nm k (h.mem hk)
 exact ⟨cI hm.1,fun m hm'=>cI (hm.2.2.2 m hm'),by omega⟩
theorem JE (es:List En):bN (es.map oz)=true:=by induction es with | nil=>rfl | cons x l ih=>simp only [zcj,bN,M.cg,zbJ];exact ⟨trivial,ih⟩
theorem C9 (es:List En):es.length=(aM es).length+(bM es).length:=by
 induction es with
 | nil=>rfl
 | cons e es ih =>
  cases e with
  | inl k=>show es.length+1=((aM es).length+1)+(bM es).length;omega
  | inr t=>show es.length+1=(aM es).length+((bM es).length+1);omega
theorem TI.len {ks:List Kn}{ts:List Ti}{es:List En}{left:List Kn}{tl:List Ti} (h:TI ks ts es left tl) (h1:ks.length≤40) (h2:ts.length≤300):es.length≤340:=by
 have a:=h.kp.length_eq
 have b:=h.tp.length_eq
 rw [zaU,zbP] at a
 rw [zaU] at b
 rw [C9];omega
theorem qW (tl:List Ti):aM (tl.map Sum.inr)=[]:=by
 induction tl with
 | nil=>rfl
 | cons t tl ih=>exact ih
theorem uW (tl:List Ti):bM (tl.map Sum.inr)=tl:=by
 induction tl with
 | nil=>rfl
 | cons t tl ih=>show t::bM (tl.map Sum.inr)=_;rw [ih]
theorem p9 (l:List Kn):nms (l.map bU)=nms l:=by unfold nms;rw [zct];rfl
theorem q9 {es:List En} (h:∀ a t b,es=a ++ .inr t::b→t.1∈nms (aM a)∧t.2.2∈nms (aM a)):∀ {tl:List Ti},(∀ t∈tl,t.1∈nms (aM es)∧t.2.2∈nms (aM es))→∀ a t b,es++tl.map Sum.inr=a ++ .inr t::b→t.1∈nms (aM a)∧t.2.2∈nms (aM a):=fun {tl} ht a t b e=>by
 rcases List.append_eq_append_iff.mp e with ⟨c,e1,e2⟩ | ⟨c,e1,e2⟩
 ·have hm:t∈tl:=by
   have:(Sum.inr t:En)∈tl.map Sum.inr:=by rw [e2];simp
   obtain ⟨u,hu,eu⟩:=zcs.mp this
   injection eu with eu
   rw [← eu];exact hu
  rw [e1,gz]
  have:=ht t hm
  unfold nms at this ⊢
  rw [zbV]
  exact ⟨zaD _ this.1,zaD _ this.2⟩
 ·cases c with
  | nil =>
   rw [zbQ] at e1
   subst e1
   have hm:t∈tl:=by
    have:(Sum.inr t:En)∈tl.map Sum.inr:=by rw [show tl.map Sum.inr=Sum.inr t::b from by simpa using e2.symm];simp
    obtain ⟨u,hu,eu⟩:=zcs.mp this
    injection eu with eu
    rw [← eu];exact hu
   exact ht t hm
  | cons x c =>
   rw [zbF] at e2
   injection e2 with e2 e3
   subst e2
   exact h a t c e1
theorem TI.fin {ks:List Kn}{ts:List Ti}{es:List En}{tl:List Ti} (h:TI ks ts es [] tl) (hR:RO ks ts) (h1:ks.length≤40) (h2:ts.length≤300):gc (es++tl.map Sum.inr)∧Lk (aM (es++tl.map Sum.inr)) ks (bM (es++tl.map Sum.inr)) ts:=by
 have kp:=h.kp
 rw [zbQ] at kp
 have ek:aM (es++tl.map Sum.inr)=aM es:=by rw [gz,qW,zbQ]
 have et:bM (es++tl.map Sum.inr)=bM es++tl:=by rw [jZ,uW]
 have np:(nms (aM es)).Perm (nms ks):=by rw [← p9];exact kp.map (·.1)
 have nd:(nms (aM es)).Nodup:=np.nodup_iff.mpr hR.nd
 have km:∀ k∈aM es,bU k∈ks:=fun k hk=>kp.mem_iff.mp (zcs.mpr ⟨k,hk,rfl⟩)
 have tm:∀ t∈bM es++tl,t∈ts:=fun t ht=>h.tp.mem_iff.mp ht
 refine ⟨⟨fun k hk => ?_,fun t ht => ?_,by rw [ek];exact nd,?_,by rw [et];exact h.tp.nodup_iff.mpr hR.tn,by rw [et,h.tp.length_eq];exact h2,q9 h.fit fun t ht => ?_⟩,⟨by rw [ek];exact np,fun x hx => ?_,by rw [et];exact h.tp⟩⟩
 ·rw [ek] at hk
  have hm:=hR.nm _ (km k hk)
  refine ⟨hm.1,by have:=hm.2.1;unfold bU at this;rw [zaN] at this;exact this,?_,fun m hm'=>hm.2.2.2 m (List.mem_reverse.mpr hm')⟩
  have:=hm.2.2.1
  unfold bU at this
  exact (List.reverse_perm _).nodup_iff.mp this
 ·rw [et] at ht
  exact hR.ends (tm t ht)
 ·rw [ek]
  have:=kp.length_eq
  rw [zbP] at this;omega
 ·have q:=hR.tk t (tm t (zau _ ht))
  exact ⟨np.mem_iff.mpr q.1,np.mem_iff.mpr q.2.1⟩
 ·rw [ek]
  obtain ⟨k,hk,rfl⟩:=zcs.mp (np.mem_iff.mpr hx)
  rw [cD nd hk]
  have e:aQ ks (bU k).1=(bU k).2:=cD hR.nd (km k hk)
  rw [show aQ ks k.1=k.2.reverse from e]
  exact (List.reverse_perm _).symm
theorem TI.O6 {ks:List Kn}{ts:List Ti}{es:List En}{left:List Kn}{tl:List Ti} (h:TI ks ts es left tl) (hR:RO ks ts):tl.Nodup:=by
 have:=h.tp.nodup_iff.mpr hR.tn
 rw [zbm] at this
 exact this.2.1
theorem Mw {es:List En}{k:Kn} (h:∀ a t b,es=a ++ .inr t::b→t.1∈nms (aM a)∧t.2.2∈nms (aM a)):∀ a t b,es++[Sum.inl k]=a ++ .inr t::b→t.1∈nms (aM a)∧t.2.2∈nms (aM a):=fun a t b e=>by
 rcases List.append_eq_append_iff.mp e with ⟨c,e1,e2⟩ | ⟨c,e1,e2⟩
 ·cases c with
  | nil=>rw [zbU] at e2;injection e2 with e2 _;cases e2
  | cons x c =>
   rw [zbF] at e2
   injection e2 with _ e2
   cases c <;> cases e2
 ·cases c with
  | nil=>rw [zbU] at e2;injection e2 with e2 _;cases e2
  | cons x c =>
   rw [zbF] at e2
   injection e2 with e2 e3
   subst e2
   exact h a t c e1
theorem tT {ss:List Str} (h:∀ s∈ss,fc s=true):fit (.lst (ss.map D.str))=true:=nK (n:=0) (by decide) fun d hd'=>by
 obtain ⟨y,hy,rfl⟩:=zcs.mp hd'
 exact h y hy
theorem F5 (y:Str) (ss:List Str):inD (.str y) (ss.map D.str)=decide (y∈ss):=by
 unfold inD
 rw [zcq]
 by_cases h:y∈ss
 ·rw [decide_eq_true h]
  exact zbI.mpr ⟨y,h,by simp [py,PyData.eqv]⟩
 ·rw [decide_eq_false h]
  refine zbg.mpr fun k hk z=>h ?_
  have z:PyData.eqv (.str k) (.str y)=true:=z
  have:k=y:=by simpa [PyData.eqv] using z
  rw [← this];exact hk
theorem yo {y:Str}{ss:List Str}{x:D}{S:av}{Q:AK}{neg:Bool} (hs:aV S x = .lst (ss.map D.str)) (hy:fc y=true) (hss:∀ s∈ss,fc s=true) (q:Q (.dat (.bl (neg != decide (y∈ss)))) S):AH neg (.str y) x S Q:=by
 unfold AH
 rw [hs]
 refine ⟨qd (n:=0) (show l5 0 (.str y)=true from hy) (by decide),tT hss,?_⟩
 rw [sj,F5];exact q
theorem Ib {t:Ti}{ns:List Str}{δ:bw}{S:av}{Q:Bool→av→Prop}{L:Nat} (h0:δ[0]? = some (some (T3 t))) (h1:δ[1]? = some (some (.loc L))) (hs:aV S (.loc L) = .lst (ns.map D.str)) (o1:fc t.1=true) (o2:fc t.2.2=true) (on:∀ y∈ns,fc y=true) (hl:ns.length≤100) (q:Q (decide (t.1∈ns)&&decide (t.2.2∈ns)) S) :
  GP (aB (AF (AH false) (AF uR (fJ 0) (aC (.int 0))) (fJ 1))) (aB (AF (AH false) (AF uR (fJ 0) (aC (.int 2))) (fJ 1))) δ S Q:=by
 refine ⟨_,h0,.str t.1,rfl,_,h1,yo hs o1 on ⟨_,rfl,?_⟩⟩
 by_cases c:t.1∈ns
 ·rw [decide_eq_true c] at q ⊢
  rw [if_pos (by decide)]
  exact ⟨_,h0,.str t.2.2,rfl,_,h1,yo hs o2 on ⟨_,rfl,by rw [Bool.true_and] at q;simpa using q⟩⟩
 ·rw [decide_eq_false c] at q ⊢
  rw [if_neg (by decide)]
  exact q
theorem Ad {α:Type}{xs:List α}{k:Nat} (h:k≤xs.length):M.cutD xs (some (k:Int)) none=xs.drop k:=by
 unfold M.cutD
 have e1:HT.bV xs.length 0 (some (k:Int))=k:=by rw [HT.jh];omega
 have e2:HT.bV xs.length xs.length none=xs.length:=by simp [HT.bV]
 rw [e1,e2,zar (by rw [zbz];omega)]
theorem DX {t:Ti} (h:iU t=true):l5 1 (T3 t)=true:=by
 unfold iU at h
 rw [zbJ,zbJ] at h
 simp only [T3,l5,zcl,List.all_nil,Bool.and_true,zbJ]
 exact ⟨decide_eq_true (by simp),h.1.1,h.1.2,h.2⟩
theorem KL {t:Ti} (h:iU t=true) {S:av}:fit (aV S (T3 t))=true:=qd (DX h) (by decide)
theorem GR {ts:List Ti} (h:∀ t∈ts,iU t=true):fit (.lst (ts.map T3))=true:=nK (n:=1) (by decide) fun d hd'=>by
 obtain ⟨t,ht,rfl⟩:=zcs.mp hd'
 exact DX (h t ht)
theorem nL {α:Type}:∀ (l:List α) {i:Nat} (h:i<l.length),([l[i]]++l.eraseIdx i).Perm l
 | a::l,0,_=>.refl _
 | a::l,i+1,h=>by
  rw [zap]
  refine List.Perm.trans (List.Perm.swap a _ _) (List.Perm.cons a ?_)
  exact nL l (by simpa using h)
theorem pD {α β:Type} (f:α→β):∀ (l:List α) (i:Nat),(l.map f).eraseIdx i=(l.eraseIdx i).map f
 | [],_=>rfl
 | _::_,0=>rfl
 | a::l,i+1=>by rw [zcj,zap,zap,zcj,pD f l i]
noncomputable def Bj:AN:=fun ds S Q=>∃ (p n:Nat) (ks:List Kn) (ts:List Ti),ds=[.loc p,bq ks ts]∧S[p]? = some (some (.feed n))∧n+100<1000∧RO ks ts∧ks.length≤40∧ts.length≤300∧∀ (es:List En) (n':Nat),gc es→Lk (aM es) ks (bM es) ts→n'≤n+80→Q (.new (.lst (es.map fun e=>.str (dg e)))) (S.set p (some (.feed n')))
theorem J0 (T:Txt K mg C fi) (F:Src K mg "_law_turned" jN xD) (D_law_next:Def P w K mg base 1 "_law_next" dF (aL K je)):Def P w K mg base 2 "_law_turned" jN (aL K Bj):=by
 refine oF F eV (fun ds S Q h => ?_) (fun f cdv A outer s H E hr => ?_)
 ·obtain ⟨p,n,ks,ts,rfl,_⟩:=h;rfl
 ·refine ⟨_,(M.af (M.aD (i:=2) eV.nd rfl (Or.inl rfl) (M.AD (M.bJ M.aa)))
   (M.af (M.aD (i:=3) eV.nd rfl (Or.inr rfl) (M.AD (M.bJ M.aa)))
   (M.af (M.aD (i:=4) eV.nd rfl (Or.inl rfl) (M.AD (M.qL M.cL (by rfl) T.list (by decide +kernel) (M.ao (M.aH M.bK (M.pv 1) M.ah (fun _ _=>rfl)) M.aa))))
   (M.af (M.aD (i:=5) eV.nd rfl (Or.inl rfl) (M.qL M.cL (by rfl) T.list (by decide +kernel) (M.ao (M.aH M.bK (M.pv 1) M.ah (fun _ _=>rfl)) M.aa)))
   (M.af (M.mY PassesOwn.never (M.aK (M.vz hr) (M.pv 4) (M.bJ M.aa) (bC _))
    (M.af (M.vo (M.c8 PySem.F.plainAttrs_list PySem.F.slot_list_pop PySem.F.type_list_pop M.FG (M.pv 4) (M.ao (M.aJ D_law_next (hr.mono (by decide)) (by rfl) (M.ao (M.pv 0) (M.ao (M.eX M.fB (by rfl) T.len (by decide +kernel) (M.ao (M.pv 4) M.aa)) M.aa))) M.aa)) (M.fS (n:=2) rfl (M.br (M.aq (i:=6) eV.nd rfl (Or.inl rfl)) (M.br (M.aq (i:=7) eV.nd rfl (Or.inl rfl)) M.dX))))
    (M.af (M.aZ (M.c8 PySem.F.plainAttrs_list PySem.F.slot_list_append PySem.F.type_list_append M.fE (M.pv 2) (M.ao (M.c8 PySem.F.plainAttrs_str PySem.F.slot_str_join PySem.F.type_str_join M.fV M.au (M.ao (M.aE M.dS (M.bJ (M.ao M.au (M.ao (M.pv 6) M.aa))) (M.gu rfl (by rfl) T.list (by rfl) T.reversed (M.pv 7))) M.aa)) M.aa)))
    (M.af (M.aZ (M.c8 PySem.F.plainAttrs_list PySem.F.slot_list_append PySem.F.type_list_append M.fE (M.pv 3) (M.ao (M.pv 6) M.aa)))
    (M.af (M.aD (i:=8) eV.nd rfl (Or.inr rfl) (M.b6 (N:=["_law_tie","_law_there"]) (caps:=[none,some 3]) (cM (by decide +kernel)) (by rfl) (by rfl) rfl (M.bT (M.pv 5)) (fun _ _ _ _=>(M.aq (i:=0) (by decide +kernel:List.Nodup (["_law_tie","_law_there"]:List Str)) rfl (Or.inl rfl))) (fun _ _ _ _=>(M.fR (M.pw_pt (M.pw_and (M.aK (M.L0 hr) (M.aH M.bK (M.pv 0) M.ah (fun _ _=>rfl)) (M.pv 1) rfl) (M.pw_and1 (M.aK (M.L0 hr) (M.aH M.bK (M.pv 0) M.ah (fun _ _=>rfl)) (M.pv 1) rfl)))))) (fun _ _ _ _=>(M.pv 0))))
    (M.af (M.aD (i:=8) eV.nd rfl (Or.inr rfl) (M.bI M.sR (M.pv 8) (M.bW (M.aJ D_law_next (hr.mono (by decide)) (by rfl) (M.ao (M.pv 0) (M.ao (M.aE M.dS (M.eX M.fB (by rfl) T.len (by decide +kernel) (M.ao (M.pv 8) M.aa)) M.ah) M.aa)))) M.cy))
    (M.af (M.aZ (M.c8 PySem.F.plainAttrs_list PySem.F.slot_list_extend PySem.F.type_list_extend M.CC (M.pv 2) (M.ao (M.b6 (N:=["_law_tie"]) (caps:=[none]) (cM (by decide +kernel)) (by rfl) (by rfl) rfl (M.bT (M.pv 8)) (fun _ _ _ _=>(M.aq (i:=0) (by decide +kernel:List.Nodup (["_law_tie"]:List Str)) rfl (Or.inl rfl))) (fun _ _ _ _=>M.bx) (fun _ _ _ _=>(M.c8 PySem.F.plainAttrs_str PySem.F.slot_str_join PySem.F.type_str_join M.fV M.au (M.ao (M.aE M.dS (M.bJ (M.ao M.au M.aa)) (M.qL M.cL (by rfl) T.list (by decide +kernel) (M.ao (M.pv 0) M.aa))) M.aa)))) M.aa)))
    (M.aj (M.aU (i:=5) eV.nd rfl rfl (N:=["_law_tie","_law_some"]) (caps:=[none,some 8]) (cM (by decide +kernel)) (by rfl) (by rfl) rfl (M.bT (M.pv 5)) (fun _ _ _ _=>(M.aq (i:=0) (by decide +kernel:List.Nodup (["_law_tie","_law_some"]:List Str)) rfl (Or.inl rfl))) (fun _ _ _ _=>(M.fR (M.aK (M.yc hr) (M.pv 0) (M.pv 1) rfl))) (fun _ _ _ _=>(M.pv 0)))))))))))
   (M.aj (M.aO (M.aE M.dS (M.pv 2) (M.b6 (N:=["_law_tie"]) (caps:=[none]) (cM (by decide +kernel)) (by rfl) (by rfl) rfl (M.bT (M.pv 5)) (fun _ _ _ _=>(M.aq (i:=0) (by decide +kernel:List.Nodup (["_law_tie"]:List Str)) rfl (Or.inl rfl))) (fun _ _ _ _=>M.bx) (fun _ _ _ _=>(M.c8 PySem.F.plainAttrs_str PySem.F.slot_str_join PySem.F.type_str_join M.fV M.au (M.ao (M.aE M.dS (M.bJ (M.ao M.au M.aa)) (M.qL M.cL (by rfl) T.list (by decide +kernel) (M.ao (M.pv 0) M.aa))) M.aa)))))))))))),fun ds S Q h => ?_⟩
  obtain ⟨p,n,ks,ts,rfl,hp,hn,hR,hk40,ht300,q⟩:=h
  have e0:aN yW [.loc p,bq ks ts]=[some (.loc p),some (bq ks ts),none,none,none,none,none,none,none]:=rfl
  rw [e0]
  push_cast [gH]
  refine ⟨zcI _,zcI _,_,rfl,_,rfl,?_⟩
  push_cast [gH]
  refine ⟨_,rfl,_,rfl,?_⟩
  have pl:=gb hp
  refine ⟨TW p (bq ks ts) S ks ts n,⟨ks.length,[],ks,ts,n,none,none,none,rfl,by simp;rfl,?_,⟨by simp [aM],by simp [bM],fun a t b e=>by simp at e⟩,by omega⟩,?_⟩
  ·unfold st3;rw [Iw hp];simp [aM]
  rintro m δ S' ⟨es,left,tl,n2,v6,v7,v8,rfl,rfl,rfl,hT,hn2⟩
  refine ⟨_,rfl,zcI _,?_⟩
  refine FU Be (hT.ok hR) ?_
  refine ⟨_,rfl,?_⟩
  have htl:tl.length≤300:=by have:=hT.tp.length_eq;rw [zaU] at this;omega
  have tlm:∀ t∈tl,t∈ts:=fun t ht=>hT.tp.mem_iff.mp (zau _ ht)
  cases left with
  | nil =>
   show if (!(([]:List Kn).isEmpty))=true then _ else _
   rw [if_neg (by decide)]
   push_cast [true_and]
   refine cQ (di ⟨_,rfl,?_⟩)
   show bR (fun _=>True) _ gg _ (tl.map T3) [] [none] _ _
   refine gE T3 (fun t=>.str (dH t)) tl [] (fun t ht Q' q' => ?_) (by rw [sizeLine_eq];simp;omega) ?_
   ·have hm:=hR.ends (tlm t ht)
    exact qc rfl hm.1 hm.2.1 hm.2.2 q'
   unfold wu
   rw [BC]
   have hel:es.length≤340:=hT.len hk40 ht300
   refine ⟨by rw [zbP,zbU,zbP,sizeLine_eq];omega,?_⟩
   obtain ⟨g1,g2⟩:=hT.fin hR hk40 ht300
   have ee:es.map oz++([]++tl.map fun t=>D.str (dH t))=(es++tl.map Sum.inr).map oz:=by rw [zbV,zct];rfl
   rw [ee]
   exact zD (JE _) (q _ n2 g1 g2 (by omega))
  | cons k0 left0 =>
   show if (!((k0::left0:List Kn).isEmpty))=true then _ else _
   rw [if_pos (by rfl)]
   generalize hleft:k0::left0=left at hT hn2
   have hl0:0<left.length:=by rw [← hleft];simp
   clear hleft
   have hll:left.length≤40:=by have:=hT.kp.length_eq;rw [zaU] at this;omega
   refine ⟨fun δ' S'=>∃ m',m'<left.length∧TW p (bq ks ts) S ks ts n m' δ' S',fun δ' S' h=>h,?_⟩
   refine dI fun N1 h1 => ?_
   push_cast [yU,Lj,oB,true_and]
   refine ⟨left.length,by show some _=_;rw [zbP],dz (G8 pl) (by omega) (by omega) (by omega) fun z hz => ?_⟩
   rw [Hq pl]
   have hz':z<left.length:=by omega
   refine ⟨_,_,z,eG left[z],rfl,rfl,Be,by rw [zbP];omega,by rw [zbh,zam hz'];rfl,_,rfl,rfl,?_⟩
   rw [LM]
   refine ⟨_,_,rfl,_,_,rfl,rfl,h1 _ _ ?_⟩
   clear h1
   have hk:left[z]∈ks:=hT.mem (zbD _)
   have hm:=hR.nm _ hk
   generalize hkk:left[z]=k at hk hm
   refine dI fun N2 h2 => ?_
   push_cast [yU,BC,oB,true_and]
   refine ⟨by show 2≤sizeLine;decide,_,rfl,_,rfl,by rw [zbP];omega,?_⟩
   have hkr:∀ m∈(bU k).2,Nm m:=fun m hm'=>hm.2.2.2 m (List.mem_reverse.mp hm')
   have hel:es.length≤340:=hT.len hk40 ht300
   refine ⟨by show _+_≤_;rw [zaN,zbP,sizeLine_eq];show 2+_≤_;omega,_,_,oN (bU k),rfl,rfl,?_,jC (by show k.2.reverse.length+1+1≤_;rw [zaN];omega) (se (k:=bU k) hm.1 hkr),?_⟩
   ·show D.lst ([D.str "knot",D.str k.1]++(k.2.map D.str).reverse) = .lst ((oN (bU k)).map D.str)
    rw [← List.map_reverse];rfl
   refine ⟨_,_,_,rfl,rfl,Bf,by rw [zbP,sizeLine_eq];omega,?_⟩
   have e5:es.map oz++[(R.dat (D.str (PySem.Txt.join " " (oN (bU k))))).d]=(es++[Sum.inl (bU k)]).map oz:=by rw [zbV];rfl
   rw [Hr,e5]
   refine h2 _ _ ?_
   clear h2
   refine dI fun N3 h3 => ?_
   push_cast [yU,Hg,oB,true_and]
   have hnl:(nms (aM es)).length≤40:=by
    have:=hT.kp.length_eq
    rw [zaU,zbP] at this
    unfold nms;rw [zbP];omega
   refine ⟨_,_,_,rfl,rfl,G9,by rw [zbP,sizeLine_eq];omega,?_⟩
   have en:(nms (aM es)).map D.str++[D.str k.1]=(nms (aM (es++[Sum.inl (bU k)]))).map D.str:=by
    rw [CM];unfold nms;rw [zbV,zbV];rfl
   rw [LN,en]
   refine h3 _ _ ?_
   clear h3 en
   have hno:k.1 ∉ nms (aM es)∧True:=⟨fun z'=>by
    have nd:=(hT.kp.map (·.1)).nodup_iff.mpr hR.nd
    rw [zbV,zbm] at nd
    refine nd.2.2 k.1 (show k.1∈nms ((aM es).map bU) by rw [p9];exact z') k.1 (zcs.mpr ⟨left[z],zbD _,by rw [hkk]⟩) rfl,trivial⟩
   have okn:∀ y∈nms (aM (es++[Sum.inl (bU k)])),fc y=true:=fun y hy=>by
    rw [CM] at hy
    unfold nms at hy
    rw [zbV] at hy
    rcases zbO.mp hy with hy | hy
    ·have hy':y∈nms ((aM es).map bU):=by rw [p9];exact hy
     obtain ⟨j,hj,rfl⟩:=zcs.mp hy'
     exact cI (hR.nm j (hT.kp.mem_iff.mp (zaD _ hj))).1
    ·have:y=(bU k).1:=by simpa using hy
     rw [this];exact cI hm.1
   have JQ:(nms (aM (es++[Sum.inl (bU k)]))).length≤100:=by
    rw [CM];unfold nms at hnl ⊢;rw [zbP] at hnl ⊢;rw [zaU];show _+1≤_;omega
   have Mp:aM (es++[Sum.inl (bU k)])=aM es++[bU k]:=CM ..
   have Mn:bM (es++[Sum.inl (bU k)])=bM es:=La ..
   have HF:=Mw (k:=bU k) hT.fit
   have hel1:(es++[Sum.inl (bU k)]).length≤341:=by rw [zaU];show _+1≤_;omega
   generalize es++[Sum.inl (bU k)]=es1 at okn JQ Mp Mn HF hel1 ⊢
   generalize hns:nms (aM es1)=ns at okn JQ ⊢
   refine dI fun N4 h4 => ?_
   push_cast [true_and]
   refine cQ (di ⟨_,rfl,?_⟩)
   show bR (fun _=>True) (bD 0) _ (fJ 0) (tl.map T3) [] [none,some (.loc (S.length+1))] _ _
   refine cS T3 (fun t=>decide (t.1∈ns)&&decide (t.2.2∈ns)) T3 trivial tl [] _ rfl (fun t ht Q' q'=>Ib rfl rfl Hg (cI (hR.ends (tlm t ht)).1) (cI (hR.ends (tlm t ht)).2.2) okn JQ q') (fun t ht Q' q'=>⟨_,rfl,q'⟩) (by rw [sizeLine_eq];simp;omega) ?_
   rw [zbU]
   refine h4 _ _ ?_
   clear h4
   have hus:∀ t∈tl.filter (fun t=>decide (t.1∈ns)&&decide (t.2.2∈ns)),t∈tl∧t.1∈ns∧t.2.2∈ns:=fun t ht=>by
    obtain ⟨a,b⟩:=zbN.mp ht
    rw [zbJ] at b
    exact ⟨a,of_decide_eq_true b.1,of_decide_eq_true b.2⟩
   have hul:(tl.filter (fun t=>decide (t.1∈ns)&&decide (t.2.2∈ns))).length≤tl.length:=zay ..
   have hun:(tl.filter (fun t=>decide (t.1∈ns)&&decide (t.2.2∈ns))).Nodup:=(hT.O6 hR).sublist zaO
   generalize tl.filter (fun t=>decide (t.1∈ns)&&decide (t.2.2∈ns))=us at hus hul hun ⊢
   refine dI fun N5 h5 => ?_
   push_cast [true_and]
   refine ⟨us.length,by show some _=_;rw [zbP],dz (G8 pl) (by omega) (by omega) (by omega) fun z2 hz2=>⟨z2,rfl,?_⟩⟩
   rw [Hq pl,g8,Ad (show z2≤(us.map T3).length by rw [zbP];omega),← List.map_drop]
   refine h5 _ _ ?_
   clear h5
   have hus:∀ t∈us.drop z2,t∈tl∧t.1∈ns∧t.2.2∈ns:=fun t ht=>hus t (zaH ht)
   have hul:(us.drop z2).length≤300:=by rw [zbz];omega
   have hun:=hun.sublist (List.drop_sublist z2 us)
   generalize us.drop z2=sm at hus hul hun ⊢
   refine dI fun N6 h6 => ?_
   push_cast [yU,BC,oB,true_and]
   refine cQ (di ⟨_,rfl,?_⟩)
   show bR (fun _=>True) _ gg _ (sm.map T3) [] [none] _ _
   refine gE T3 (fun t=>.str (dH t)) sm [] (fun t ht Q' q' => ?_) (by rw [sizeLine_eq];simp;omega) ?_
   ·have hm:=hR.ends (tlm t (hus t ht).1)
    exact qc rfl hm.1 hm.2.1 hm.2.2 q'
   refine ⟨_,_,_,_,rfl,rfl,Bf,.inl rfl,by rw [zbU,zbP,zbP,sizeLine_eq];omega,?_⟩
   have e6:es1.map oz++([]++sm.map fun t=>D.str (dH t))=(es1++sm.map Sum.inr).map oz:=by rw [zbV,zct];rfl
   rw [Hr,e6]
   refine h6 _ _ ?_
   clear h6 e6
   push_cast [true_and]
   refine cQ (di ⟨_,rfl,?_⟩)
   show bR (fun _=>True) (bD 0) _ (fJ 0) (tl.map T3) [] [none,some (.lst (sm.map T3))] _ _
   refine cS T3 (fun t => !decide (t∈sm)) T3 trivial tl [] _ rfl (fun t ht Q' q' => ?_) (fun t ht Q' q'=>⟨_,rfl,q'⟩) (by rw [sizeLine_eq];simp;omega) ?_
   ·refine ⟨_,rfl,_,rfl,?_⟩
    show AH true (T3 t) (.lst (sm.map T3)) _ _
    unfold AH
    rw [jg]
    refine ⟨KL (hR.qN t (tlm t ht)),GR fun u hu=>hR.qN u (tlm u (hus u hu).1),?_⟩
    rw [show aV _ (T3 t)=T3 t from rfl,CS (hR.qN t (tlm t ht)) fun u hu=>hR.qN u (tlm u (hus u hu).1)]
    exact ⟨_,rfl,by simpa using q'⟩
   rw [zbU]
   refine ⟨(left.eraseIdx z).length,?_,es1++sm.map Sum.inr,left.eraseIdx z,tl.filter (fun t => !decide (t∈sm)),n2+1+1,_,_,_,rfl,rfl,?_,?_,?_⟩
   ·rw [List.length_eraseIdx,if_pos hz'];omega
   ·rw [gz,qW,zbQ,hns,pD]
   ·have ek:aM (es1++sm.map Sum.inr)=aM es++[bU k]:=by rw [gz,qW,zbQ,Mp]
    refine ⟨?_,?_,q9 HF fun t ht=>by rw [hns];exact (hus t ht).2⟩
    ·rw [ek,zbV]
     refine List.Perm.trans ?_ hT.kp
     rw [zbk]
     refine List.Perm.append_left _ ?_
     have e7:[bU k].map bU=[left[z]]:=by rw [hkk];show [((k.1,k.2.reverse.reverse):Kn)]=_;rw [List.reverse_reverse]
     rw [e7]
     exact nL left hz'
    ·rw [jZ,uW,Mn,zbk]
     refine List.Perm.trans (List.Perm.append_left _ ?_) hT.tp
     have tn:=hT.O6 hR
     refine lF (zbm.mpr ⟨hun,tn.sublist zaO,fun a ha b hb e => ?_⟩) tn fun t => ?_
     ·have:=(zbN.mp hb).2
      rw [← e] at this
      simp [ha] at this
     ·rw [zbO,zbN]
      constructor
      ·rintro (h | h)
       ·exact (hus t h).1
       ·exact h.1
      ·intro h
       by_cases c:t∈sm
       ·exact .inl c
       ·exact .inr ⟨h,by simp [c]⟩
   ·rw [List.length_eraseIdx,if_pos hz'];omega
end
open PySem PySem.Spec L2 M M6 PyProof.Rows
noncomputable abbrev ve:Stmt:=top 33
noncomputable abbrev Eg:List Str:=["_law_script","_law_k","_law_feed_here","_law_names_here","_law_rows_here","_law_due","_law_web_here","_law_turn","_law_told_here","_law_lines_here","_law_handed","_law_name"]
noncomputable abbrev rF:List Str:=["_law_script"]
theorem eL:az Eg rF (ai ve):=⟨rfl,rfl,rfl,by decide +kernel,rfl,by decide +kernel,by decide +kernel⟩
theorem bZ.obj {C:Addr}{W:World}{S:av}{n:Nat}{own:List Nat}{ks:List Kn}{ts:List Ti} (h:bZ C W S n own ks ts):∃ ds,S[n]? = some (some (.ins C fl ds)):=by
 obtain ⟨m,t,e,cs,rfl,rfl,X⟩:=h
 exact ⟨_,X.at_⟩
theorem Cp {ds:List D}{S:av}{Q:AK} (hf:fit (.lst ds)=true) (he:PyData.eqv (py (.lst ds)) (py (.lst ds))=true) (q:Q (.dat (.bl false)) S):Ak (.lst ds) (.lst ds) S Q:=by
 unfold Ak
 rw [jg]
 exact ⟨hf,hf,by rw [he];exact q⟩
theorem Jy {ds:List D}{S:av}{Q:AK} (hf:fit (.tup ds)=true) (he:PyData.eqv (py (.tup ds)) (py (.tup ds))=true) (q:Q (.dat (.bl false)) S):Ak (.tup ds) (.tup ds) S Q:=by
 unfold Ak
 rw [sf]
 exact ⟨hf,hf,by rw [he];exact q⟩
theorem nE:∀ l:List Str,(∀ y∈l,rO y)→rO (Str.join " " l)
 | [],_=>kF (by decide +kernel)
 | [x],h=>h x (by simp)
 | x::z::r,h=>by
  have h1:=nE (z::r) fun y hy=>h y (by simp [hy])
  exact ((h x (by simp)).append (kF (by decide +kernel))).append h1
theorem CH {e:En}{es:List En} (hG:gc es) (he:e∈es):rO (dg e)∧(dg e).length≤63:=by
 cases e with
 | inl k =>
  have hm:=hG.nm k (zaT.mpr ⟨_,he,rfl⟩)
  refine ⟨?_,yl (se hm.1 hm.2.2.2) (by simp;omega)⟩
  show rO (PySem.Txt.join " " (oN k))
  rw [show PySem.Txt.join " " (oN k)=Str.join " " (oN k) from PySem.StrLaws.glued_eq_join _ _]
  refine nE _ fun y hy => ?_
  rcases zci.mp hy with rfl | hy
  ·exact kF (by decide +kernel)
  ·rcases zci.mp hy with rfl | hy
   ·exact hm.1.asc
   ·exact (hm.2.2.2 y hy).asc
 | inr t =>
  have hm:=hG.tm t (zaT.mpr ⟨_,he,rfl⟩)
  refine ⟨?_,yl (Bx hm.1 hm.2.1 hm.2.2) (by simp)⟩
  show rO (PySem.Txt.join " " (uM t))
  rw [show PySem.Txt.join " " (uM t)=Str.join " " (uM t) from PySem.StrLaws.glued_eq_join _ _]
  refine nE _ fun y hy => ?_
  simp only [zci,zbE,or_false] at hy
  rcases hy with rfl | rfl | rfl | rfl
  ·exact kF (by decide +kernel)
  ·exact hm.1.asc
  ·exact hm.2.1.asc
  ·exact hm.2.2.asc
theorem gc.len {es:List En} (h:gc es):es.length≤340:=by
 have:=h.kl
 have:=h.tl
 rw [C9];omega
theorem HB {es:List En} (hG:gc es):Tq 1 239363 (.lst (es.map oz)):=by
 refine Tq.lst (n:=0) (m:=702) (l:=340) (fun d hd' => ?_) (by rw [zbP];exact hG.len)
 obtain ⟨e,he,rfl⟩:=zcs.mp hd'
 obtain ⟨h1,h2⟩:=CH hG he
 refine ⟨rfl,by simp [py,PyData.depth],?_,?_⟩
 ·simp only [py,n8];exact rO.ok h1
 ·simp only [py,L2.wt];omega
theorem Mh {e:En}{es:List En} (hG:gc es) (he:e∈es):fc (dg e)=true:=by
 obtain ⟨h1,h2⟩:=CH hG he
 unfold fc
 rw [zbJ]
 exact ⟨zbB.mpr fun c hc=>decide_eq_true (h1 c hc),decide_eq_true (by omega)⟩
theorem oS:∀ ss:List Str,PyData.eqvAll (cR (ss.map D.str)) (cR (ss.map D.str))=true
 | []=>by simp [cR,PyData.eqvAll]
 | s::ss=>by simp only [zcj,cR,py,PyData.eqvAll,PyData.eqv,oS ss];simp
theorem FL {es:List En} (hG:gc es) {S:av}{Q:AK} (q:Q (.dat (.bl false)) S):Ak (.lst (es.map oz)) (.lst (es.map oz)) S Q:=by
 have e:es.map oz=(es.map dg).map D.str:=by rw [zct];rfl
 rw [e]
 refine Cp (tT fun s hs => ?_) (by simp only [py,PyData.eqv];exact oS _) q
 obtain ⟨x,hx,rfl⟩:=zcs.mp hs
 exact Mh hG hx
noncomputable def kC (ks:List Kn) (ts:List Ti):List En:=(b7 ks).map Sum.inl++(cB ts).map Sum.inr
theorem CN (l:List Kn):aM (l.map Sum.inl)=l:=by
 induction l with
 | nil=>rfl
 | cons t l ih=>show t::aM (l.map Sum.inl)=_;rw [ih]
theorem Ic (l:List Kn):bM (l.map Sum.inl)=[]:=by
 induction l with
 | nil=>rfl
 | cons t l ih=>exact ih
theorem rj (ks:List Kn) (ts:List Ti):aM (kC ks ts)=b7 ks:=by unfold kC;rw [gz,CN,qW,zbQ]
theorem rg (ks:List Kn) (ts:List Ti):bM (kC ks ts)=cB ts:=by unfold kC;rw [jZ,Ic,uW,zbU]
theorem pN (ks:List Kn) (ts:List Ti):fW (b7 ks) (cB ts)=(kC ks ts).map oz:=by unfold kC fW;rw [zbV,zct,zct];rfl
theorem Dc {ks:List Kn}{ts:List Ti} (hR:RO ks ts) (h1:ks.length≤40) (h2:ts.length≤300):gc (kC ks ts):=by
 have hS:=hR.NT
 have l1:(b7 ks).length=ks.length:=by have:=(Lk.cT hR).nm.length_eq;unfold nms at this;rw [zbP,zbP] at this;exact this
 have l2:(cB ts).length=ts.length:=(lg hR.tn).length_eq
 refine ⟨by rw [rj];exact hS.nm,by rw [rg];exact fun t ht=>hS.ends ht,by rw [rj];exact hS.nd,by rw [rj];omega,by rw [rg];exact hS.tn,by rw [rg];omega,?_⟩
 refine q9 (fun a t b e => ?_) fun t ht => ?_
 ·have:(Sum.inr t:En)∈(b7 ks).map Sum.inl:=by rw [e];simp
  obtain ⟨x,_,hx⟩:=zcs.mp this
  cases hx
 ·rw [CN]
  exact ⟨(hS.tk t ht).1,(hS.tk t ht).2.1⟩
theorem Lk.ro {ks' ks:List Kn}{ts' ts:List Ti} (h:Lk ks' ks ts' ts) (hR:RO ks ts):RO ks' ts':=by
 have nd':=h.nm.nodup_iff.mpr hR.nd
 have le:ks'.length=ks.length:=by have:=h.nm.length_eq;unfold nms at this;rw [zbP,zbP] at this;exact this
 refine ⟨by rw [le];exact hR.kl,nd',fun k hk => ?_,h.ti.nodup_iff.mpr hR.tn,by rw [h.ti.length_eq];exact hR.tl,fun t ht => ?_⟩
 ·have hx':k.1∈nms ks':=zcs.mpr ⟨k,hk,rfl⟩
  have hx:=h.nm.mem_iff.mp hx'
  have hm:=h.mr k.1 hx
  rw [cD nd' hk] at hm
  obtain ⟨k0,hk0,e⟩:=zcs.mp hx
  rw [← e,cD hR.nd hk0] at hm
  have q:=hR.nm k0 hk0
  exact ⟨by rw [← e];exact q.1,by rw [hm.length_eq];exact q.2.1,hm.nodup_iff.mpr q.2.2.1,fun m hm'=>q.2.2.2 m (hm.mem_iff.mp hm')⟩
 ·have q:=hR.tk t (h.ti.mem_iff.mp ht)
  exact ⟨h.nm.mem_iff.mpr q.1,h.nm.mem_iff.mpr q.2.1,q.2.2⟩
theorem EM:cT []=[]:=(mj (l:=[]) .nil).eq_nil
theorem rW:cB []=[]:=(lg (l:=[]) .nil).eq_nil
theorem rX:b7 []=[]:=by unfold b7;rw [show nms []=[] from rfl,EM];rfl
theorem Jb:RO [] []:=⟨by decide,.nil,by simp,.nil,by decide,by simp⟩
theorem C0:gc []:=⟨by simp [aM],by simp [bM],.nil,by decide,.nil,by decide,fun a t b e=>by simp at e⟩
section
variable {P:Program}{w:World}{K:PySem.W.Frag}{mg:Str→Option Value}{base:Heap}{C fi:Addr}
noncomputable def LO (ns:List Int) (rest:List D) (δ:bw) (S':av):Prop:=∃ v1 v2 v3 v4 v5 v6 v7 v8 v9 v10 v11:Option D,(∀ e∈rest,∃ k:Nat,e = .int k∧k<100)∧δ=[some (.kT ns),v1,v2,v3,v4,v5,v6,v7,v8,v9,v10,v11]
noncomputable def L7 (ns:List Int) (k p:Nat) (XN R DU:D) (v9 v10 v11:Option D) (S1:av) (rest:List D) (δ:bw) (S':av):Prop:=∃ (Y:av) (v7 v8:Option D),δ=[some (.kT ns),some (.int (k:Int)),some (.loc p),some XN,some R,some DU,some (.loc (p+1)),v7,v8,v9,v10,v11]∧S'=S1++Y
noncomputable def L9 (ns:List Int) (k p:Nat) (XN:D) (ks:List Kn) (ts:List Ti) (DU:D) (v7 v8:Option D) (rest:List D) (δ:bw) (S':av):Prop:=∃ (n6:Nat) (v6 v9 v10 v11:Option D),(∀ e∈rest,∃ es:List En,e = .lst (es.map oz)∧gc es∧Lk (aM es) ks (bM es) ts)∧δ=[some (.kT ns),some (.int (k:Int)),some (.loc p),some XN,some (bq ks ts),some DU,v6,v7,v8,v9,v10,v11]∧S'[p]? = some (some (.feed n6))∧n6+rest.length≤500
noncomputable def Br:AN:=fun ds S Q=>∃ ns:List Int,ds=[.kT ns]∧S=[]∧∀ S',Q (.dat (.bl true)) S'
theorem Kd {fl:Addr}{fd fdi:FuncData} (T:Txt K mg C fi) (F:Ey K "law" "law" ve fl fd) (F_Web:dO P w K mg base kQ 1 fi fdi dG (aL K (qj C w))) (B_Web:Binds K fdi dG []) (D_law_cell_at:Def P w K mg base 1 "_law_cell_at" f9 (aL K xy)) (D_law_feed:Def P w K mg base 1 "_law_feed" f7 (aL K xx)) (D_law_next:Def P w K mg base 1 "_law_next" dF (aL K je)) (D_law_names:Def P w K mg base 2 "_law_names" eB (aL K rY))
  (D_law_rows:Def P w K mg base 2 "_law_rows" jP (aL K Bl)) (D_law_web:Def P w K mg base 3 "_law_web" jU (aL K (Bs C w))) (ja:c6 P w K mg base 3 C "rows" fK (qh C w)) (rJ:c6 P w K mg base 2 C "steps" gI (xh C w)) (D_law_told:Def P w K mg base 1 "_law_told" jO (aL K Bk)) (D_law_steps:Def P w K mg base 1 "_law_steps" fL (aL K rZ))
  (D_law_great:Def P w K mg base 1 "_law_great" gQ (aL K xw)) (D_law_lines:Def P w K mg base 1 "_law_lines" gO (aL K xq)) (D_shown_web:Def P w K mg base 4 "shown_web" gJ (aL K (xj C w))) (D_read_web:Def P w K mg base 4 "read_web" jQ (aL K (Bm C w))) (D_law_turned:Def P w K mg base 2 "_law_turned" jN (aL K Bj)) :
  dO P w K mg base kQ 6 fl fd rF (aL K Br):=by
 refine Om F eL (fun ds S Q h => ?_) (fun f cdv A outer s H E hr => ?_)
 ·obtain ⟨ns,rfl,_⟩:=h;rfl
 ·refine ⟨_,(M.af (M.cu (M.pw_pt (M.pw_or (M.aK (M.vz hr) (M.aJ D_shown_web (hr.mono (by decide)) (by rfl) (M.ao (M.gq T.Cv F_Web B_Web (hr.mono (by decide)) (by rfl) T.vE) M.aa)) (M.bJ M.aa) (bC _)) (M.pw_or1 (M.aK (M.vz hr) (M.fy (M.aJ D_read_web (hr.mono (by decide)) (by rfl) (M.ao (M.bJ M.aa) M.aa)) T.cl ja (hr.mono (by decide))) (M.bO (M.ao (M.bO M.aa) (M.ao (M.bO M.aa) M.aa))) (bC _)))))
    (M.aj (M.aO M.fz))
    M.bz)
   (M.af (M.cU PassesOwn.never rfl (M.bG (by rfl) T.range (M.ao (M.aE M.dS M.ah (M.eX (M.Ju rfl) (by rfl) T.min (by decide +kernel) (M.ao M.ah (M.ao (M.eX M.fB (by rfl) T.len (by decide +kernel) (M.ao (M.pv 0) M.aa)) M.aa)))) M.aa)) (M.aq (i:=1) eL.nd rfl (Or.inl rfl))
    (M.af (M.aD (i:=2) eL.nd rfl (Or.inl rfl) (M.aJ D_law_feed (hr.mono (by decide)) (by rfl) (M.ao (M.aJ D_law_cell_at (hr.mono (by decide)) (by rfl) (M.ao (M.pv 0) (M.ao (M.pv 1) M.aa))) M.aa)))
    (M.af (M.aD (i:=3) eL.nd rfl (Or.inl rfl) (M.bJ (M.ao (M.aJ D_law_names (hr.mono (by decide)) (by rfl) (M.ao (M.pv 2) (M.ao M.ah M.aa))) (M.ao (M.aJ D_law_names (hr.mono (by decide)) (by rfl) (M.ao (M.pv 2) (M.ao M.ah M.aa))) (M.ao (M.aJ D_law_names (hr.mono (by decide)) (by rfl) (M.ao (M.pv 2) (M.ao M.ah M.aa))) M.aa)))))
    (M.af (M.aD (i:=4) eL.nd rfl (Or.inl rfl) (M.aJ D_law_rows (hr.mono (by decide)) (by rfl) (M.ao (M.pv 2) (M.ao (M.pv 3) (M.ao M.ah M.aa)))))
    (M.af (M.cu (M.pw_pt (M.pw_and (M.aK (M.sS hr) (M.aJ D_law_next (hr.mono (by decide)) (by rfl) (M.ao (M.pv 2) (M.ao M.ah M.aa))) M.ah (bC _)) (M.pw_and1 (M.aK (M.sS hr) (M.pv 1) M.ah (bC _)))))
     (M.aj (M.aD (i:=4) eL.nd rfl (Or.inl rfl) (M.aJ D_law_great (hr.mono (by decide)) (by rfl) (M.ao (M.pv 3) M.aa))))
     M.bz)
    (M.af (M.aD (i:=5) eL.nd rfl (Or.inl rfl) (M.aJ D_law_lines (hr.mono (by decide)) (by rfl) (M.ao (M.pv 4) M.aa)))
    (M.af (M.aD (i:=6) eL.nd rfl (Or.inl rfl) (M.aJ D_law_web (hr.mono (by decide)) (by rfl) (M.ao (M.pv 4) M.aa)))
    (M.af (M.cU PassesOwn.never rfl (M.bG (by rfl) T.range (M.ao M.ah M.aa)) (M.aq (i:=7) eL.nd rfl (Or.inl rfl))
     (M.af (M.aD (i:=8) eL.nd rfl (Or.inl rfl) (M.AD (M.aJ D_shown_web (hr.mono (by decide)) (by rfl) (M.ao (M.pv 6) M.aa))))
     (M.af (M.cu (M.aK (M.vz hr) (M.eX (M.kg hr) (by rfl) T.repr (by decide +kernel) (M.ao (M.pv 8) M.aa)) (M.eX (M.kg hr) (by rfl) T.repr (by decide +kernel) (M.ao (M.pv 5) M.aa)) (bC _))
      (M.aj (M.aO M.fz))
      M.bz)
     (M.aj (M.aZ (M.c8 PySem.F.plainAttrs_list PySem.F.slot_list_append PySem.F.type_list_append M.fE (M.pv 8) (M.ao M.au M.aa)))))))
    (M.aj (M.cU PassesOwn.never rfl (M.bT (M.bJ (M.ao (M.pv 5) (M.ao (M.aJ D_law_turned (hr.mono (by decide)) (by rfl) (M.ao (M.pv 2) (M.ao (M.pv 4) M.aa))) M.aa)))) (M.aq (i:=9) eL.nd rfl (Or.inl rfl))
     (M.af (M.aD (i:=10) eL.nd rfl (Or.inl rfl) (M.qL M.cL (by rfl) T.list (by decide +kernel) (M.ao (M.pv 9) M.aa)))
     (M.af (M.aD (i:=6) eL.nd rfl (Or.inl rfl) (M.aJ D_read_web (hr.mono (by decide)) (by rfl) (M.ao (M.pv 10) M.aa)))
     (M.af (M.cu (M.pw_pt (M.pw_or (M.aK (M.vz hr) (M.eX (M.kg hr) (by rfl) T.repr (by decide +kernel) (M.ao (M.fy (M.pv 6) T.cl ja (hr.mono (by decide))) M.aa)) (M.eX (M.kg hr) (by rfl) T.repr (by decide +kernel) (M.ao (M.aJ D_law_told (hr.mono (by decide)) (by rfl) (M.ao (M.pv 4) M.aa)) M.aa)) (bC _)) (M.pw_or1 (M.aK (M.vz hr) (M.pv 10) (M.pv 9) (bC _)))))
      (M.aj (M.aO M.fz))
      M.bz)
     (M.af (M.aD (i:=11) eL.nd rfl (Or.inl rfl) (M.aH M.bK (M.aH M.bK (M.aH M.bK (M.pv 4) M.ah (fun _ _=>rfl)) (M.aJ D_law_next (hr.mono (by decide)) (by rfl) (M.ao (M.pv 2) (M.ao (M.eX M.fB (by rfl) T.len (by decide +kernel) (M.ao (M.aH M.bK (M.pv 4) M.ah (fun _ _=>rfl)) M.aa)) M.aa))) (fun _ _=>rfl)) M.ah (fun _ _=>rfl)))
     (M.aj (M.cu (M.aK (M.vz hr) (M.eX (M.kg hr) (by rfl) T.repr (by decide +kernel) (M.ao (M.b5 (M.pv 6) T.cl rJ (hr.mono (by decide)) (M.ao (M.pv 11) M.aa)) M.aa)) (M.eX (M.kg hr) (by rfl) T.repr (by decide +kernel) (M.ao (M.aJ D_law_steps (hr.mono (by decide)) (by rfl) (M.ao (M.pv 4) (M.ao (M.pv 11) M.aa))) M.aa)) (bC _))
      (M.aj (M.aO M.fz))
      M.bz))))))))))))))))
   (M.aj (M.aO M.fz)))),fun ds S Q h => ?_⟩
  obtain ⟨ns,rfl,rfl,q⟩:=h
  have e0:aN Eg [.kT ns]=[some (.kT ns),none,none,none,none,none,none,none,none,none,none,none]:=rfl
  rw [e0]
  refine dI fun N1 h1 => ?_
  push_cast [yR]
  refine ⟨0,rfl,rfl,rfl,fun S1 X1 k1 l1=>⟨rfl,0,_,[],[],rfl,X1,Jb,by decide,?_⟩⟩
  rw [rX,rW]
  show Ak (.lst []) (.lst []) S1 _
  refine Cp (by decide +kernel) (by decide +kernel) ⟨_,rfl,kr ?_⟩
  clear X1 k1 l1
  refine ⟨by decide,[],rfl,C0,fun S2 own2 X2 n2 => ?_⟩
  obtain ⟨o2,ho2⟩:=bZ.obj X2
  refine ⟨S1.length,_,_,rfl,ho2,by decide +kernel,S1.length,own2,_,_,rfl,X2,fun p1 p2 p3 => ?_⟩
  rw [mH]
  show 0≤sizeLine∧_
  refine ⟨by decide,by decide,by show 2≤sizeLine;decide,?_⟩
  show Ak (gm (b7 []) (cB [])) (.tup [.tup [],.tup []]) S2 _
  rw [rX,rW]
  refine Jy (by decide +kernel) (by decide +kernel) ⟨_,rfl,kr (h1 _ _ ?_)⟩
  clear h1 X2 p1 p2 p3 ho2 n2
  refine dI fun N2 h2 => ?_
  push_cast [nW,tO]
  refine ⟨ns.length,rfl,8,ns.length,rfl,?_⟩
  obtain ⟨mm,em,hm⟩:∃ m:Nat,(1:Int)+(if (ns.length:Int)<8 then (ns.length:Int) else 8)=(m:Int)∧m≤9:=by
   by_cases h:(ns.length:Int)<8
   ·exact ⟨1+ns.length,by rw [if_pos h];omega,by omega⟩
   ·exact ⟨9,by rw [if_neg h];rfl,by omega⟩
  refine ⟨(mm:Int),congrArg D.int em,by omega,by omega,dD (LO ns) ?_ ?_ _ _ _ ⟨none,none,none,none,none,none,none,none,none,none,none,?_,rfl⟩⟩
  ·rintro δ S' ⟨v1,v2,v3,v4,v5,v6,v7,v8,v9,v10,v11,_,rfl⟩
   refine ⟨trivial,h2 _ _ ?_⟩
   push_cast [true_and]
   exact q _
  ·clear h2
   rintro x xs δ S0 N ⟨v1,v2,v3,v4,v5,v6,v7,v8,v9,v10,v11,hx,rfl⟩ hN
   obtain ⟨k,rfl,hk⟩:=hx x (by simp)
   have hxs:∀ e∈xs,∃ k:Nat,e = .int k∧k<100:=fun e he=>hx e (by simp [he])
   refine ⟨trivial,?_⟩
   refine dI fun N1 h1 => ?_
   push_cast [true_and]
   refine ⟨ns,k,rfl,by omega,fun z=>⟨z,rfl,h1 _ _ ?_⟩⟩
   clear h1
   refine dI fun N2 h2 => ?_
   push_cast [true_and]
   refine ⟨S0.length,8,0,rfl,bL,by decide,by decide,fun NA n1 lA nA ndA hn1 => ?_⟩
   rw [dm]
   refine ⟨S0.length,3,n1,rfl,bL,by omega,by decide,fun NB n2 lB nB ndB hn2 => ?_⟩
   rw [dm]
   refine ⟨S0.length,5,n2,rfl,bL,by omega,by decide,fun NM n3 lM nM ndM hn3=>⟨by show 3≤sizeLine;decide,h2 _ _ ?_⟩⟩
   clear h2
   rw [dm]
   refine dI fun N3 h3 => ?_
   push_cast [true_and]
   refine ⟨S0.length,n3,NA,NB,NM,_,rfl,⟨rfl,lA,lB,lM,ndA,ndM,nA,nB,nM⟩,bL,by omega,fun ks ts n4 hR hk1 hk8 ht23 _ hn4=>h3 _ _ ?_⟩
   clear h3
   rw [dm]
   generalize hXN:D.lst [D.lst (NA.map D.str),D.lst (NB.map D.str),D.lst (NM.map D.str)]=XN
   refine dI fun N4 h4 => ?_
   have go:∀ (ks:List Kn) (ts:List Ti) (n5:Nat),RO ks ts→1≤ks.length→ks.length≤40→ts.length≤300→n5≤300→N4 [some (.kT ns),some (.int (k:Int)),some (.loc S0.length),some XN,some (bq ks ts),v5,v6,v7,v8,v9,v10,v11] (S0++[some (.feed n5)]):=fun ks ts n5 hR hk1 hk40 ht300 hn5=>h4 _ _ (by
    clear h4
    refine dI fun N5 h5 => ?_
    push_cast [true_and]
    refine ⟨ks,ts,rfl,hR,h5 _ _ ?_⟩
    clear h5
    have hG:=Dc hR hk40 ht300
    rw [show (R.new (MO.lst (fW (b7 ks) (cB ts)))).d = .lst ((kC ks ts).map oz) from congrArg D.lst (pN ks ts)]
    refine dI fun N6 h6 => ?_
    push_cast [true_and]
    refine ⟨ks,ts,rfl,hR,hk40,ht300,fun S1 own X1 w1=>h6 _ _ ?_⟩
    clear h6
    have hp1:S1[S0.length]? = some (some (.feed n5)):=by rw [w1.keep _ (by rw [zaU];show _<_+1;omega)];exact bL
    have el:(S0++[some (MO.feed n5)]).length=S0.length+1:=by rw [zaU];rfl
    rw [el] at X1 ⊢
    refine dI fun N7 h7 => ?_
    push_cast [nW,tO]
    refine ⟨by decide,by decide,dD (L7 ns k S0.length XN (bq ks ts) (.lst ((kC ks ts).map oz)) v9 v10 v11 S1) ?_ ?_ _ _ _ ⟨[],v7,v8,rfl,(zbQ _).symm⟩⟩
    ·rintro δ S' ⟨Y,v7,v8,rfl,rfl⟩
     refine ⟨trivial,h7 _ _ ?_⟩
     clear h7
     have hp2:(S1++Y)[S0.length]? = some (some (.feed n5)):=dR hp1
     generalize S1++Y=S2 at hp2
     push_cast [nW]
     refine di ⟨_,rfl,_,rfl,_,rfl,S0.length,n5,ks,ts,rfl,hp2,by omega,hR,hk40,ht300,fun es n6 hG2 hL2 hn6=>⟨by show 2≤sizeLine;decide,?_⟩⟩
     show jB (fun _=>True) _ _ [.lst ((kC ks ts).map oz),.lst (es.map oz)] _ _ _
     refine dD (L9 ns k S0.length XN ks ts (.lst ((kC ks ts).map oz)) v7 v8) ?_ ?_ _ _ _ ⟨n6,_,v9,v10,v11,fun e he => ?_,rfl,eU hp2,by show n6+2≤500;omega⟩
     ·rintro δ S' ⟨n7,v6,v9,v10,v11,_,rfl,_,_⟩
      exact ⟨trivial,hN _ _ ⟨_,_,_,_,_,_,_,_,_,_,_,hxs,rfl⟩⟩
     ·rintro x xs' δ S3 M ⟨n7,v6,v9,v10,v11,hx9,rfl,hp3,hn7⟩ hM
      obtain ⟨es,rfl,hG3,hL3⟩:=hx9 x (by simp)
      refine ⟨trivial,?_⟩
      refine dI fun M1 g1 => ?_
      push_cast [true_and]
      refine ⟨_,rfl,g1 _ _ ?_⟩
      clear g1
      refine dI fun M2 g2 => ?_
      push_cast [true_and]
      refine ⟨es,rfl,hG3,fun S4 own4 X4 w4=>g2 _ _ ?_⟩
      clear g2
      obtain ⟨o4,ho4⟩:=X4.obj
      have hp4:S4[S0.length]? = some (some (.feed n7)):=by rw [w4.keep _ (gb hp3)];exact hp3
      refine dI fun M3 g3 => ?_
      push_cast [true_and]
      refine bX rfl ho4 (by decide +kernel) ⟨S3.length,own4,_,_,rfl,X4,fun p1 p2 p3 => ?_⟩
      have hS:=hL3.perms hR p1 p2 p3
      show yP [sA (aM es) (bM es)] S4 _
      rw [hL3.rows hR]
      refine mL hS.tq (by decide) (by decide) ⟨ks,ts,rfl,hR,mL hS.tq (by decide) (by decide) (qR ⟨_,rfl,kr ?_⟩)⟩
      refine FL hG3 ⟨_,rfl,kr (g3 _ _ ?_)⟩
      clear g3
      refine dI fun M4 g4 => ?_
      push_cast [true_and]
      refine ⟨.lst (ks.map eG),rfl,.lst (ks.map eG),rfl,ks.length,by show some _=_;rw [zbP],?_⟩
      have hkl:=hR.kl
      simp only [zbx] at hn7
      refine dz hp4 (by omega) (by omega) (by omega) fun z5 hz5 => ?_
      have hz6:z5<ks.length:=by omega
      refine ⟨eG ks[z5],cY (by rw [zbh,zam hz6];rfl),.str ks[z5].1,rfl,g4 _ _ ?_⟩
      clear g4
      have hr:ks[z5]∈ks:=zbD _
      have hm:=hR.nm _ hr
      have hx:(ks[z5]).1∈nms (aM es):=hL3.nm.mem_iff.mpr (zcs.mpr ⟨_,hr,rfl⟩)
      generalize (ks[z5]).1=y at hm hx
      have LP:S0.length ∉ own4:=fun z'=>by have:=w4.own _ z';have:=gb hp3;omega
      have X5:bZ C w (S4.set S0.length (some (.feed (n7+1)))) S3.length own4 (aM es) (bM es):=X4.frame fun c hc=>zaE fun z':S0.length=c=>LP (by rw [z'];exact hc)
      obtain ⟨o5,ho5⟩:=X5.obj
      push_cast [true_and]
      refine bX rfl ho5 (by decide +kernel) ⟨_,rfl,S3.length,own4,_,_,y,rfl,X5,hx,fun vs v1 v2 v3 v4 => ?_⟩
      have JS:=hL3.ro hR
      have pv:vs.Perm (ck (bM es) y):=lF v1 (rU JS.tn y) fun j=>(v2 j).trans j0.symm
      refine mL (rT JS pv) (by decide) (by decide) ⟨ks,ts,y,rfl,hR,cI hm.1,fun us u1 u2 => ?_⟩
      have e:=Bd hR.tn hL3.ti u1 u2 v1 v2 v4
      subst e
      refine mL (rT JS pv) (by decide) (by decide) (qR ⟨_,rfl,kr ?_⟩)
      exact hM _ _ ⟨n7+1,_,_,_,_,fun e he=>hx9 e (by simp [he]),rfl,eU hp4,by omega⟩
     ·simp only [zci,zbE,or_false] at he
      rcases he with rfl | rfl
      ·exact ⟨_,rfl,hG,by rw [rj,rg];exact Lk.cT hR⟩
      ·exact ⟨es,rfl,hG2,hL2⟩
    ·rintro x xs δ S' M ⟨Y,v7,v8,rfl,rfl⟩ hM
     clear h7
     refine ⟨trivial,?_⟩
     refine dI fun M1 g1 => ?_
     push_cast [gH]
     refine ⟨S0.length+1,own,ks,ts,rfl,X1.app,hR,g1 _ _ ?_⟩
     clear g1
     rw [pN]
     have e8:=bQ (S:=S1++Y++[some (MO.lst ((kC ks ts).map oz))]) (o:=.lst ((kC ks ts).map oz)) bL
     refine dI fun M2 g2 => ?_
     push_cast [true_and]
     refine BQ e8 (HB hG) (by decide) (by decide) (mL (HB hG) (by decide) (by decide) (qR ⟨_,rfl,kr (g2 _ _ ?_)⟩))
     clear g2
     push_cast [yU,e8,oB,true_and]
     refine ⟨_,_,_,rfl,rfl,bL,by rw [zbP,sizeLine_eq];have:=hG.len;omega,?_⟩
     rw [dm]
     exact hM _ _ ⟨Y++[_],_,_,rfl,zbk _ _ _⟩)
   push_cast [true_and]
   refine dz bL (by omega) (by decide) (by decide) fun z2 hz2 => ?_
   rw [dm]
   have lk0:ks.length≤40:=by omega
   show ∃ b,_
   refine ⟨_,rfl,?_⟩
   refine vQ (fun _ => ?_) (fun _=>go ks ts _ hR hk1 lk0 (by omega) (by omega))
   refine vQ (fun _ => ?_) (fun _=>go ks ts _ hR hk1 lk0 (by omega) (by omega))
   have gR:=gRO ndB lB nB ndM lM nM
   exact ⟨NA,NB,NM,by rw [hXN],lB,lM,go _ _ _ gR (by unfold gK;rw [zbP,zbq];decide) (by unfold gK;rw [zbP,zbq];decide) (by unfold uO;rw [zbP,zbq];decide) (by omega)⟩
  ·intro e he
   simp only [cW,zcs,zcb] at he
   obtain ⟨a,ha,rfl⟩:=he
   exact ⟨a,by simp,by omega⟩
noncomputable def xr (K:PySem.W.Frag):Sp:=fun vs H Q _=>∃ (a:Addr) (ns:List Int),vs=[.ref a]∧b9 K H a (ns.map V.int)∧ns.length≤63∧∀ H',Q (.bl true) H'
theorem Ih {f:Addr}{fd:FuncData}{k:Nat} (h:dO P w K mg base kQ k f fd rF (aL K Br)):dO P w K mg base kQ k f fd rF (xr K):=h.imp fun vs H Q E z=>by
 obtain ⟨a,ns,rfl,hS,_,q⟩:=z
 refine ⟨⟨H,fun _=>none⟩,[.kT ns],[],fun r S=>r = .dat (.bl true),⟨fh.refl _,fun n o e=>by simp at e,fun n m o o' e=>by simp at e,fun _ _=>rfl⟩,?_,⟨ns,rfl,rfl,fun _=>rfl⟩,fun r S' v w' H' _ _ rep e => ?_⟩
 ·simp only [ak,Rep];exact ⟨_,_,rfl,⟨a,rfl,hS⟩,rfl⟩
 ·subst e
  have:v = .bl true:=mP rep rfl
  subst this
  exact q H'
end
open PySem L2
theorem all_mk {l:PySem.W.OpenLaw}{w:World}{K:PySem.W.Frag}{h:Heap}{mg:Str→Option Value}{fa:Addr} (X:K.In h) (G:h.Ns mainGlobals mg) (hfa:mg "law" = some (.ref fa))
  {C:Addr}{t_K:Tok}{t_T:Tok}{t_M:Tok}{t_L:Tok}
  (a_C:zcC K mainGlobals "Web" = some (some (.ref C)))
  (e_scName:nZ K "is_name" xN)
  (e_scShown:nZ K "shown_web" qx)
  (e_scRead:nZ K "read_web" xG)
  (e_scKL:nZ K "is_knot_line" Nq)
  (e_scTL:nZ K "is_tie_line" Np)
  (e_scNamesP:nZ K "are_names" lC)
  (e_scCell:nZ K "_law_cell_at" xR)
  (e_scFeed:nZ K "_law_feed" xQ)
  (e_scNext:nZ K "_law_next" xK)
  (e_scNames:nZ K "_law_names" qy)
  (e_scRows:nZ K "_law_rows" xF)
  (e_scLWeb:nZ K "_law_web" xP)
  (e_scGreat:nZ K "_law_great" qC)
  (e_scLines:nZ K "_law_lines" qA)
  (e_scTurn:nZ K "_law_turned" xD)
  (e_scLSteps:nZ K "_law_steps" lD)
  (e_scTold:nZ K "_law_told" xE)
  (e_scLaw:nZ K "law" ve)
  (e_scInit:uT K C "__init__" "Web.__init__" oX)
  (e_scPutK:uT K C "put_knot" "Web.put_knot" xJ)
  (e_scPutT:uT K C "put_tie" "Web.put_tie" xH)
  (e_scKnots:uT K C "knots" "Web.knots" qB)
  (e_scMarks:uT K C "marks" "Web.marks" qz)
  (e_scHas:uT K C "has_tie" "Web.has_tie" Fb)
  (e_scSteps:uT K C "steps" "Web.steps" qw)
  (e_scWRows:uT K C "rows" "Web.rows" qv)
  (e_scNeed:uT K C "need_knot" "Web.need_knot" xM)
  (e_scLayK:uT K C "lay_knot" "Web.lay_knot" xO)
  (e_scLayT:uT K C "lay_tie" "Web.lay_tie" sr)
  (z_len:zcC K mainGlobals "len" = some none)
  (z_isinstance:zcC K mainGlobals "isinstance" = some none)
  (z_str:zcC K mainGlobals "str" = some none)
  (z_bool:zcC K mainGlobals "bool" = some none)
  (z_int:zcC K mainGlobals "int" = some none)
  (z_tuple:zcC K mainGlobals "tuple" = some none)
  (z_list:zcC K mainGlobals "list" = some none)
  (z_dict:zcC K mainGlobals "dict" = some none)
  (z_all:zcC K mainGlobals "all" = some none)
  (z_max:zcC K mainGlobals "max" = some none)
  (z_min:zcC K mainGlobals "min" = some none)
  (z_repr:zcC K mainGlobals "repr" = some none)
  (z_range:zcC K mainGlobals "range" = some none)
  (z_reversed:zcC K mainGlobals "reversed" = some none)
  (z_sorted:zcC K mainGlobals "sorted" = some none)
  (z_set:zcC K mainGlobals "set" = some none)
  (z_enumerate:zcC K mainGlobals "enumerate" = some none)
  (m_K:zcC K mainGlobals "MOST_KNOTS" = some (some (.int 40 t_K)))
  (m_T:zcC K mainGlobals "MOST_TIES" = some (some (.int 300 t_T)))
  (m_M:zcC K mainGlobals "MOST_MARKS" = some (some (.int 5 t_M)))
  (m_L:zcC K mainGlobals "LONGEST" = some (some (.int 8 t_L)))
  (x_pg:zbL K C Str.empty=true)
  (x_hd:zbt K C=true)
  (x_po:PySem.W.plainOver K C=true)
  (x_sa:zce K (.ref C) "__setattr__" = some (some (.builtin "object.__setattr__")))
  (x_marked:zce K (.ref C) "marked" = some none)
  (x_tied:zce K (.ref C) "tied" = some none)
  (x_near:zce K (.ref C) "near" = some none)
  (x_mk:PySem.W.makesIn K C=true)
  (x_kp:zcf K (.ref C)=true) :
  ∃ fd:FuncData,(∀ (s:Shared) (v:Value),BindsTo s fd ⟨[v],[]⟩ [("_law_script",v)])∧∀ base:Heap,K.In base→base.Ns mainGlobals mg→dO l.prog w K mg base kQ 6 fa fd ["_law_script"] (xr K):=by
 have D8:Src K mg "is_name" jR xN:=e_scName.src X G fun _ _ _ _ _ _=>J.uQ (fun _=>rfl)
 have Aq:Src K mg "shown_web" gJ qx:=e_scShown.src X G fun _ _ _ _ _ _=>J.uQ (fun _=>rfl)
 have D3:Src K mg "read_web" jQ xG:=e_scRead.src X G fun _ _ _ _ _ _=>J.uQ (fun _=>rfl)
 have KO:Src K mg "is_knot_line" uD Nq:=e_scKL.src X G fun _ _ _ _ _ _=>J.uQ (fun _=>rfl)
 have KN:Src K mg "is_tie_line" uC Np:=e_scTL.src X G fun _ _ _ _ _ _=>J.uQ (fun _=>rfl)
 have wz:Src K mg "are_names" d8 lC:=e_scNamesP.src X G fun _ _ _ _ _ _=>J.uQ (fun _=>rfl)
 have Ed:Src K mg "_law_cell_at" f9 xR:=e_scCell.src X G fun _ _ _ _ _ _=>J.Gr (fun _ _=>rfl)
 have Ec:Src K mg "_law_feed" f7 xQ:=e_scFeed.src X G fun _ _ _ _ _ _=>J.uQ (fun _=>rfl)
 have D6:Src K mg "_law_next" dF xK:=e_scNext.src X G fun _ _ _ _ _ _=>J.Gr (fun _ _=>rfl)
 have Ar:Src K mg "_law_names" eB qy:=e_scNames.src X G fun _ _ _ _ _ _=>J.Gr (fun _ _=>rfl)
 have D0:Src K mg "_law_rows" jP xF:=e_scRows.src X G fun _ _ _ _ _ _=>J.ND (fun _ _ _=>rfl)
 have Eb:Src K mg "_law_web" jU xP:=e_scLWeb.src X G fun _ _ _ _ _ _=>J.uQ (fun _=>rfl)
 have Aw:Src K mg "_law_great" gQ qC:=e_scGreat.src X G fun _ _ _ _ _ _=>J.uQ (fun _=>rfl)
 have Au:Src K mg "_law_lines" gO qA:=e_scLines.src X G fun _ _ _ _ _ _=>J.uQ (fun _=>rfl)
 have DY:Src K mg "_law_turned" jN xD:=e_scTurn.src X G fun _ _ _ _ _ _=>J.Gr (fun _ _=>rfl)
 have wA:Src K mg "_law_steps" fL lD:=e_scLSteps.src X G fun _ _ _ _ _ _=>J.Gr (fun _ _=>rfl)
 have DZ:Src K mg "_law_told" jO xE:=e_scTold.src X G fun _ _ _ _ _ _=>J.uQ (fun _=>rfl)
 have M7:M.ef K C "__init__" "Web.__init__" dG oX:=e_scInit.src fun _ _ _ _ _ _=>J.uQ (fun _=>rfl)
 have D5:M.ef K C "put_knot" "Web.put_knot" iy xJ:=e_scPutK.src fun _ _ _ _ _ _=>J.ND (fun _ _ _=>rfl)
 have D4:M.ef K C "put_tie" "Web.put_tie" iw xH:=e_scPutT.src fun _ _ _ _ _ _=>J.by4 (fun _ _ _ _=>rfl)
 have Av:M.ef K C "knots" "Web.knots" gP qB:=e_scKnots.src fun _ _ _ _ _ _=>J.uQ (fun _=>rfl)
 have As:M.ef K C "marks" "Web.marks" gM qz:=e_scMarks.src fun _ _ _ _ _ _=>J.Gr (fun _ _=>rfl)
 have GU:M.ef K C "has_tie" "Web.has_tie" nY Fb:=e_scHas.src fun _ _ _ _ _ _=>J.by4 (fun _ _ _ _=>rfl)
 have Ao:M.ef K C "steps" "Web.steps" gI qw:=e_scSteps.src fun _ _ _ _ _ _=>J.Gr (fun _ _=>rfl)
 have An:M.ef K C "rows" "Web.rows" fK qv:=e_scWRows.src fun _ _ _ _ _ _=>J.uQ (fun _=>rfl)
 have D7:M.ef K C "need_knot" "Web.need_knot" fZ xM:=e_scNeed.src fun _ _ _ _ _ _=>J.Gr (fun _ _=>rfl)
 have Ea:M.ef K C "lay_knot" "Web.lay_knot" jT xO:=e_scLayK.src fun _ _ _ _ _ _=>J.ND (fun _ _ _=>rfl)
 have D9:M.ef K C "lay_tie" "Web.lay_tie" jS sr:=e_scLayT.src fun _ _ _ _ _ _=>J.by4 (fun _ _ _ _=>rfl)
 obtain ⟨f_scLaw,oc_scLaw,od_scLaw,kV_scLaw,dc_scLaw,pm_scLaw,an_scLaw,cd_scLaw,ct_scLaw,sl_scLaw,a_scLaw,l_scLaw,c_scLaw,k_scLaw⟩:=e_scLaw.ex
 obtain ⟨f_scInit,oc_scInit,od_scInit,kV_scInit,dc_scInit,pm_scInit,an_scInit,cd_scInit,ct_scInit,sl_scInit,a_scInit,l_scInit,c_scInit,k_scInit,i_scInit⟩:=e_scInit.ex
 have e:=hfa.symm.trans (zco X G a_scLaw)
 cases e
 have F:=iZ (st:=ve) l_scLaw c_scLaw k_scLaw
 have T:Txt K mg C f_scInit:=⟨zbd X G z_len,zbd X G z_isinstance,zbd X G z_str,zbd X G z_bool,zbd X G z_int,zbd X G z_tuple,zbd X G z_list,zbd X G z_dict,zbd X G z_all,zbd X G z_max,zbd X G z_min,zbd X G z_repr,zbd X G z_range,zbd X G z_reversed,zbd X G z_sorted,zbd X G z_set,zbd X G z_enumerate,⟨_,zco X G m_K⟩,⟨_,zco X G m_T⟩,⟨_,zco X G m_M⟩,⟨_,zco X G m_L⟩,zco X G a_C,⟨x_pg,x_hd,x_po,x_sa⟩,⟨x_mk,a_scInit,i_scInit,x_kp⟩,x_marked,x_tied,x_near⟩
 refine ⟨zcB "law" "law" (cH ve) (bB ve) (ai ve) .none kV_scLaw dc_scLaw pm_scLaw an_scLaw cd_scLaw ct_scLaw,fun s v=>.of_eq rfl,fun base _ _ => ?_⟩
 have Em:=J6 (P:=l.prog) (w:=w) (base:=base) T D6
 have NX:=Kr Em
 have wJ:=J7 (P:=l.prog) (w:=w) (base:=base) T D7
 have Nh:=MD (P:=l.prog) (w:=w) (base:=base) T GU
 have rL:=Gi (P:=l.prog) (w:=w) (base:=base) T Av
 have rK:=Gg T As wJ
 have ja:=Gb T An rL rK
 have wH:=Kf (P:=l.prog) (w:=w) (base:=base) T (iZ (st:=oX) l_scInit c_scInit k_scInit)
 have wM:=(iZ (st:=oX) l_scInit c_scInit k_scInit).binds (ps:=dG) fun _ _ _ _ _ _=>J.uQ (fun _=>rfl)
 have K2:=Ka (P:=l.prog) (w:=w) (base:=base) T Ea
 have K1:=J9 (P:=l.prog) (w:=w) (base:=base) T D9
 have Ek:=J4 T D4 wJ Nh K1
 have El:=J5 T D5 K2
 have rJ:=Gd T Ao wJ
 have Ng:=Ke T Eb wH wM El Ek
 have KZ:=J1 (P:=l.prog) (w:=w) (base:=base) T DZ
 have Eo:=Di (P:=l.prog) (w:=w) (base:=base) T wA
 have HX:=Dh T wz (J8 (P:=l.prog) (w:=w) (base:=base) T D8)
 have K0:=J3 T D3 wH wM El Ek (OP T KO HX) (OO T KN HX)
 exact Ih (Kd T F wH wM (Ku (Kh T Ed)) (Ks (Kg T Ec)) NX (Gy (Gf T Ar Em)) (J2 T D0 NX) Ng ja rJ KZ Eo (Gj T Aw) (Gh T Au) (Ge T Aq ja) K0 (J0 T DY NX))
theorem walk {l:PySem.W.OpenLaw}{q:Program}{loose:List Str}{XP:(Str→Option Value)→Heap→Prop}{YP:World→Heap→Prop}{d:DefRec}{K:Params→PySem.W.Frag} (hn:l.most=some 63) (hdf:d.params.defaults=[])
  (hY:∀ (w:World) (h:Heap),YP w h→(K w.params).In h)
  (F:∀ (w:World) (mg:Str→Option Value) (fa:Addr) (h:Heap),(K w.params).In h→h.Ns mainGlobals mg→mg d.name=some (.ref fa) →
   ∃ fd:FuncData,(∀ (s:Shared) (u:Value),BindsTo s fd ⟨[u],[]⟩ [("_law_script",u)])∧∀ base:Heap,(K w.params).In base→base.Ns mainGlobals mg→dO l.prog w (K w.params) mg base kQ 6 fa fd ["_law_script"] (xr (K w.params))) :
  PySem.W.WalkO q loose XP YP l.row.toRowW d [] (fun f vs=>PySem.call f vs) :=
 L2.EB (n:=63) (k:=6) (x := "_law_script") (CX:=fun _=>kQ) (sp:=fun w=>xr (K w.params)) hn (by decide) hdf ⟨rfl,by decide,by decide,rfl⟩ hY F (fun _ _ a ns hl _ hS=>⟨a,ns,rfl,hS,hl,fun _=>rfl⟩) fun _ _ _ _ _ z=>z
end K13
open PySem PySem.W PyProof.Rows
namespace PySem.Challenge.cw_pathask_k13_webs_written_and_read_holds
def tw2193602078514770172:Nat:=0
def tw5933939049836101926:Nat:=0
def tw4619780915757798261:Nat:=0
def tw13085640266563793625:Nat:=0
def tw15122606168212737227:Nat:=0
def tw459003312705597158:Nat:=0
def tw863417726074870180:Nat:=0
def tw13447951086370900497:Nat:=0
def tw13406714042513043256:Nat:=0
def tw1358363522584391055:Nat:=0
def tw17332766233386248867:Nat:=0
def tw9217450298654233747:Nat:=0
def tw2009007976893718830:Nat:=0
def tw17868176913131144949:Nat:=0
def tw17081548021436327225:Nat:=0
def tw5078711844747561641:Nat:=0
def tw3946952743783680551:Nat:=0
def tw14985666694464787682:Nat:=0
def tw4346928155146531602:Nat:=0
def tw607653924056515546:Nat:=0
def tw12227967772084476984:Nat:=0
def tw17350794895346678758:Nat:=0
def tw9377137007176868915:Nat:=0
def tw7818649896754461225:Nat:=0
def tw7899722386391897168:Nat:=0
def tw10031494351027044522:Nat:=0
def tw163320964463859786:Nat:=0
def tw10459897851377384756:Nat:=0
def tw17585655584781942392:Nat:=0
def tw3743018493947819444:Nat:=0
def tw4558850882812594033:Nat:=0
def tw13781772889922273069:Nat:=0
def tw9113415867670530081:Nat:=0
def tw14392942436300694534:Nat:=0
def tw12866676348052482633:Nat:=0
def tw14878833611593495935:Nat:=0
def tw2561954797563416297:Nat:=0
def tw9045271631201612327:Nat:=0
def tw12605022289239839091:Nat:=0
def tw6119821522438156023:Nat:=0
def tw9932937590157536567:Nat:=0
def tw3334545184525038628:Nat:=0
def tw3974841399098930478:Nat:=0
def tw17296980626155995128:Nat:=0
def tw7303185683504526550:Nat:=0
def tw12460849102609715233:Nat:=0
def tw7990728566538376349:Nat:=0
def tw8547396596053940618:Nat:=0
def tw9131175136202617500:Nat:=0
def tw613942784405491630:Nat:=0
def tw12496704779484985778:Nat:=0
def tw13322269336682102599:Nat:=0
def tw17453812888395905388:Nat:=0
def tw14901568646951694155:Nat:=0
def tw1421627222539921052:Nat:=0
def tw9429799023123015662:Nat:=0
def tw7246091936192817388:Nat:=0
def tw13645841125365287409:Nat:=0
def tw14683042996686897312:Nat:=0
def tw3927566128273387219:Nat:=0
def tw6033578381865282812:Nat:=0
def tw3900949917047817167:Nat:=0
def tw3448461334415805265:Nat:=0
def tw1887855131696197384:Nat:=0
def tw14877838684648358854:Nat:=0
def tw16374943999448938191:Nat:=0
def tw14102356783035089575:Nat:=0
def tw8032136080226247905:Nat:=0
def tw4938620259925199563:Nat:=0
def tw4902982525309046461:Nat:=0
def tw16367195190146849730:Nat:=0
def tw16358531009480762056:Nat:=0
def tw4451337723462711908:Nat:=0
def tw14227049925122757481:Nat:=0
def tw14743759507032728586:Nat:=0
def tw5084302283116530926:Nat:=0
def tw8662798508581138866:Nat:=0
def tw7440840062509540082:Nat:=0
def tw8989995618844726412:Nat:=0
def tw7866029052668220541:Nat:=0
def tw4688221283737757659:Nat:=0
def tw6977370463268413564:Nat:=0
def tw2923789216991387662:Nat:=0
def tw1911470283561662427:Nat:=0
def tw8535315912114583069:Nat:=0
def tw8314531785566309815:Nat:=0
def tw12762329511808114739:Nat:=0
def tw18394269959224934865:Nat:=0
def tw16774102500951375959:Nat:=0
def tw16502203063112058133:Nat:=0
def tw9847718018980623347:Nat:=0
def tw3157072119844150626:Nat:=0
def tw2401150271811492326:Nat:=0
def tw11984956200191607694:Nat:=0
def tw14422458431954776084:Nat:=0
def tw17614625553646629673:Nat:=0
def tw10630782343681432406:Nat:=0
def tw384057264113184954:Nat:=0
def tw12578126978242069541:Nat:=0
def tw7205083935996043019:Nat:=0
def tw15573551630981591888:Nat:=0
def tw3674770459050776664:Nat:=0
def tw7637188262033259766:Nat:=0
def tw4205005623157741119:Nat:=0
def tw4626258962239169880:Nat:=0
def tw2809690122683942578:Nat:=0
def tw3444397910080391752:Nat:=0
def tw16126260029541343441:Nat:=0
def tw4770110133269903820:Nat:=0
def tw3393197169175992189:Nat:=0
def tw10586144454211309473:Nat:=0
def tw18107401616837246789:Nat:=0
def tw1618258897280387757:Nat:=0
def tw6483125021866293626:Nat:=0
def tw7975983259817584573:Nat:=0
def tw13979026188621347129:Nat:=0
def tw2428885518580245347:Nat:=0
def tw17841621463269975275:Nat:=0
def tw10837935315137871239:Nat:=0
def tw7027907335409889020:Nat:=0
def tw16181965763117009835:Nat:=0
def tw18176503892680358274:Nat:=0
def tw5150151932794208291:Nat:=0
def tw12697841738822277404:Nat:=0
def tw15901251639449234647:Nat:=0
def tw297341686973937916:Nat:=0
def tw16570572821292548197:Nat:=0
def tw491984190721105244:Nat:=0
def tw13749684701119211661:Nat:=0
def tw16091718003256508116:Nat:=0
def tw16336612767380442107:Nat:=0
def tw6063350751366550664:Nat:=0
def tw1837032852589975139:Nat:=0
def tw16186568965820110964:Nat:=0
def tw13181398281491912996:Nat:=0
def tw3596282606836427954:Nat:=0
def tw3782838751247091781:Nat:=0
def tw17591653487535588199:Nat:=0
def tw16525440181421761341:Nat:=0
def tw489376682444144507:Nat:=0
def tw958444058634890466:Nat:=0
def tw221973762169394091:Nat:=0
def tw1833173669901511130:Nat:=0
def tw4421982646374809081:Nat:=0
def tw13412074435966659436:Nat:=0
def tw2189444093978294865:Nat:=0
def tw294399512440118433:Nat:=0
def tw3479601410792122273:Nat:=0
def tw8714546897483559374:Nat:=0
def tw5581068210994522115:Nat:=0
def tw6760264178143246946:Nat:=0
def tw4405719173456435534:Nat:=0
def tw3876557802890482941:Nat:=0
def tw14108396364571039794:Nat:=0
def tw16661351364169197044:Nat:=0
def tw10812903397034911637:Nat:=0
def tw4886055987343722872:Nat:=0
def tw5911658854481881893:Nat:=0
def tw14950559142127900132:Nat:=0
def tw9463533076679772604:Nat:=0
def tw16553844925948774634:Nat:=0
def tw7046874200597942280:Nat:=0
def tw14538109138173746839:Nat:=0
def tw818716782087868535:Nat:=0
def tw11831653375495428446:Nat:=0
def tw1901350879410512570:Nat:=0
def tw7545863868648949003:Nat:=0
def tw12010300415166853174:Nat:=0
def tw1474386139372080833:Nat:=0
def tw1642993966412779692:Nat:=0
def tw3907851076876667446:Nat:=0
def tw11391904346315207012:Nat:=0
def tw1050819255138628661:Nat:=0
def tw17018642061001286593:Nat:=0
def tw13765909826929186527:Nat:=0
def tw17738633178050191851:Nat:=0
def tw2176464621593027391:Nat:=0
def tw16284603456777568577:Nat:=0
def tw16440446809654105583:Nat:=0
def tw18118206561116609265:Nat:=0
def tw17729712322617569176:Nat:=0
def tw10876565092062088522:Nat:=0
def tw13570819451729204310:Nat:=0
def tw1535493202969762472:Nat:=0
def tw15939313055553335373:Nat:=0
def tw12995586915871690326:Nat:=0
def tw310464681882573497:Nat:=0
def tw83581457505051277:Nat:=0
def tw4561306929510219947:Nat:=0
def tw6709318939472383641:Nat:=0
def tw16355850753235742048:Nat:=0
def tw7366883592009396310:Nat:=0
def tw15967356925742634346:Nat:=0
def tw14122836942551781861:Nat:=0
def tw17280835464499062640:Nat:=0
def tw3188419891006515587:Nat:=0
def tw7028409162983494021:Nat:=0
def tw9448884800809306380:Nat:=0
def tw10817612461606295296:Nat:=0
def tw3695298478246362105:Nat:=0
def tw13524764047517232048:Nat:=0
def tw18408163155588464276:Nat:=0
def tw11908890144968142106:Nat:=0
def tw9806670849282682254:Nat:=0
def tw8118098772946042263:Nat:=0
def tw6962038232678449479:Nat:=0
def tw5210925643048016720:Nat:=0
def tw2304430438459683118:Nat:=0
def tw17686227138321791975:Nat:=0
def tw10290639914804244336:Nat:=0
def tw6724543683069831999:Nat:=0
def tw15076736461657350907:Nat:=0
def tw6529299602949706515:Nat:=0
def tw5783413196931181535:Nat:=0
def tw13707360068157541569:Nat:=0
def tw11244067111620398833:Nat:=0
def tw704419629379224109:Nat:=0
def tw4651655413710248283:Nat:=0
def tw1663867683108238195:Nat:=0
def tw4524552213822150218:Nat:=0
def tw1796894823978160905:Nat:=0
def tw5383622887234612068:Nat:=0
def tw14315907177706191450:Nat:=0
def tw16017202288323709845:Nat:=0
def tw15697317671018211150:Nat:=0
def tw3066931886599235599:Nat:=0
def tw9939573431629480002:Nat:=0
def tw4985802190643861850:Nat:=0
def tw13447166635154618933:Nat:=0
def tw10409857375658393665:Nat:=0
def tw17632221246471369492:Nat:=0
def tw16488489244669803907:Nat:=0
def tw477293586114409874:Nat:=0
def tw14004856552691762095:Nat:=0
def tw10930169706345584201:Nat:=0
def tw3096208731299398218:Nat:=0
def tw2900028316896641604:Nat:=0
def tw5046185517035263875:Nat:=0
def tw8585963062352870105:Nat:=0
def tw14209446068268058335:Nat:=0
def tw5130270886438542332:Nat:=0
def tw9835610008802884361:Nat:=0
def tw15608378158547459140:Nat:=0
def tw9101214243401306881:Nat:=0
def tw17811932400476250238:Nat:=0
def tw7114746126477249108:Nat:=0
def tw601235643840426104:Nat:=0
def tw129235326812580816:Nat:=0
def tw12020850467489391318:Nat:=0
def tw2751506149301764172:Nat:=0
def tw11269168153646663278:Nat:=0
def tw4830821525167179594:Nat:=0
def tw5805244563138425485:Nat:=0
def tw9770250765557703908:Nat:=0
def tw1676388029444804774:Nat:=0
def tw688696636270333808:Nat:=0
def tw13769523635099451184:Nat:=0
end PySem.Challenge.cw_pathask_k13_webs_written_and_read_holds
set_option Elab.async true in
set_option maxRecDepth 100000 in
set_option maxHeartbeats 0 in
theorem PySem.Challenge.cw_pathask_k13_webs_written_and_read_holds : PySem.Challenge.rw_pathask_k13_webs_written_and_read.Holds := by
 w_on;o_law;k_head;(case hw=>w_witness2)
 k_fill
 refine K13.walk (l:=PySem.Challenge.rw_pathask_k13_webs_written_and_read) rfl rfl (fun w h Y=>PySem.W.kIn_of Y) ?F
 case F =>
  intro w mg fa h KX G hmg
  refine' K13.all_mk KX G hmg ?_ ?_ ?_ ?_ ?_ ?_ ?_ ?_ ?_ ?_ ?_ ?_ ?_ ?_ ?_ ?_ ?_ ?_ ?_ ?_ ?_ ?_ ?_ ?_ ?_ ?_ ?_ ?_ ?_ ?_ ?_ ?_ ?_ ?_ ?_ ?_ ?_ ?_ ?_ ?_ ?_ ?_ ?_ ?_ ?_ ?_ ?_ ?_ ?_ ?_ ?_ ?_ ?_ ?_ ?_ ?_ ?_ ?_ ?_ ?_
  all_goals try first | (refine' L2.nZ.of ?a ?l ?c ?k;(case a=>k_is);(case l=>k_is);(case c=>k_is);(case k=>k_is)) | (refine' L2.uT.of ?a ?l ?c ?k ?i;(case a=>k_is);(case l=>k_is);(case c=>k_is);(case k=>k_is);(case i=>k_is)) | k_is
