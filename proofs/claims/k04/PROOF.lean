import PyProof.Rows.All
import Wide.All
import OpenK.AllK
import Wide.FinOn
import Lean
import PyProof.EqAt
import PyProof.EqKinds
import PyProof.TupleCall
import KE.KRevIter
import KE.KIntText
import PyProof.Rows.StrNews
import KE.KSortTup
import PyProof.Rows.SetFrom
import PyProof.WalksMore
import KE.KRevSl
import PyProof.ZipIter
import PyProof.TupleIter
import PyProof.Rows.SortRuns
import PySem.Challenge.RW_pathask_k04_steps_and_webs_alike
open List renaming eq_nil_of_length_eq_zero→zaa,getElem?_append_right→zab,getElem?_eq_some_iff→zae,getElem?_append_left→zaf,drop_eq_getElem_cons→zag,pairwise_iff_getElem→zah,extract_eq_take_drop→zai,getElem?_eq_getElem→zak,eraseIdx_cons_succ→zal,filter_cons_of_neg→zam,filter_cons_of_pos→zan,drop_eq_nil_of_le→zao,take_of_length_le→zap,mem_append_right→zat,length_filter_le→zau,getElem?_eq_none→zav,take_append_drop→zaw,perm_append_comm→zax,mem_cons_of_mem→zaA,mem_append_left→zaB,getElem?_set_ne→zaC,mem_of_getElem? → zaD,pairwise_append→zaE,mem_of_mem_take→zaF,mem_of_mem_drop→zaG,replicate_succ→zaJ,map_congr_left→zaK,getElem_of_mem→zaL,filter_eq_self→zaM,filter_sublist→zaN,mem_cons_self→zaR,length_append→zaS,zip_cons_cons→zaT,mem_singleton→zaU,pairwise_cons→zaV,set_cons_zero→zaW,size_toArray→zbd,any_eq_false→zbe,getElem?_map→zbf,take_sublist→zbg,flatten_cons→zbh,append_assoc→zbi,getElem?_set→zbj,getElem_drop→zbk,getElem_take→zbl,pairwise_map→zbm,length_range→zbn,nodup_append→zbo,filter_congr→zbp,length_cons→zbu,length_take→zbv,filter_cons→zbw,length_drop→zbx,lookup_cons→zby,all_eq_true→zbz,take_length→zbA,not_mem_nil→zbB,getElem_mem→zbC,any_eq_true→zbD,mem_filter→zbH,mem_append→zbI,length_map→zbJ,append_nil→zbK,nodup_cons→zbL,find?_cons→zbM,length_nil→zbN,length_set→zbO,foldl_cons→zbP,nil_append→zbQ,map_append→zbR,length_zip→zbS,mem_range→zbV,replicate→zbW,mem_cons→zca,map_cons→zcb,any_cons→zcc,all_cons→zcd,map_nil→zcg,any_map→zch,set_set→zci,map_map→zcj,mem_map→zck,lookup→zcu,length→zcv,not_lt→zcw,range→zcC,cons→zcD,getD→zcE
open Array renaming perm_iff_toList_perm→zac,toList_setIfInBounds→zad,getElem?_toList→zay,toList_extract→zaI,length_toList→zaO,toList_append→zaP,toList_push→zbq
open PySem.Calls renaming call_function_entry→zaj,callWith_builtin→zas,spliced_cons→zbc
open PySem.Heap renaming get?_push_of_some→zaq,get?_update_other→zar,get?_update_self→zaz,get?_push_size→zaQ,lt_size→zct
open Nat renaming mul_le_mul_right→zaH,lt_of_lt_of_le→zaX,lt_irrefl→zce,ne_of_lt→zcl,le_trans→zcm,lt_or_ge→zcn,le_refl→zcx,zero_le→zcy,le_succ→zcz
open Int renaming emod_lt_of_pos→zaY,emod_nonneg→zbT,le_trans→zco,le_of_lt→zcp,le_refl→zcA
open Bool renaming false_ne_true→zaZ,false_eq_true→zba,and_eq_true→zbE
open PySem.W renaming mg_none_of→zbb,hasDictIn→zbr,emptyDict→zbs,plainGet→zbF,instObj→zbU,findIn→zbX,keepIn→zbY,codeIn→zbZ,mg_of→zcf,isFn→zcq,fnOf→zcr,nsIn→zcs
open Option renaming isSome_map→zbt,getD_some→zbG,some→zcB
set_option Elab.async false
set_option linter.all false
set_option maxRecDepth 100000
namespace L2
open PySem PySem.Spec PyProof.Rows
noncomputable abbrev Key:=Sum Int Str
noncomputable def nu:Key→Value→Bool
 | .inl k,v=>Value.isInt k v
 | .inr x,v=>Value.isStrOf x v
noncomputable def Mh (w:World):Key→Int
 | .inl k=>hashInt k
 | .inr x=>hashStr w x
theorem bJ:∀ {k:Key}{v:Value},nu k v=true→(∃ i t,k=Sum.inl i∧v=Value.int i t)∨(∃ x t,k=Sum.inr x∧v=Value.str x t)
 | .inl i,v,h=>by
  obtain ⟨t,e⟩:=Value.isInt_shape (k:=i) (v:=v) h
  exact .inl ⟨i,t,rfl,e⟩
 | .inr x,v,h=>by
  obtain ⟨t,e⟩:=Value.isStrOf_shape (x:=x) (v:=v) h
  exact .inr ⟨x,t,rfl,e⟩
theorem yT (i:Int) (t:Tok):nu (.inl i) (.int i t)=true:=by simp [nu,Value.isInt]
theorem yS (x:Str) (t:Tok):nu (.inr x) (.str x t)=true:=by simp [nu,Value.isStrOf]
theorem Ib (a b:Int):decide ((Sum.inl a:Key)=Sum.inl b)=(a==b):=by
 by_cases e:a=b
 ·subst e;simp
 ·have h : ¬ (Sum.inl a:Key)=Sum.inl b:=fun q=>e (Sum.inl.inj q)
  rw [decide_eq_false h]
  exact (beq_eq_false_iff_ne.mpr e).symm
theorem HZ (a b:Str):decide ((Sum.inr a:Key)=Sum.inr b)=decide (a=b):=by
 by_cases e:a=b
 ·subst e;simp
 ·have h : ¬ (Sum.inr a:Key)=Sum.inr b:=fun q=>e (Sum.inr.inj q)
  rw [decide_eq_false h,decide_eq_false e]
theorem Ia (a:Int) (b:Str):decide ((Sum.inl a:Key)=Sum.inr b)=false:=decide_eq_false (fun q=>nomatch q)
theorem H9 (a:Str) (b:Int):decide ((Sum.inr a:Key)=Sum.inl b)=false:=decide_eq_false (fun q=>nomatch q)
noncomputable def bx (prog:Program) (w:World):PySem.KeyKind prog w Key where
 is:=nu
 hash:=Mh w
 inj:=fun v a b ha hb=>by
  rcases bJ ha with ⟨i,t,rfl,rfl⟩ | ⟨x,t,rfl,rfl⟩
  ·rcases bJ hb with ⟨j,u,rfl,e⟩ | ⟨y,u,rfl,e⟩
   ·injection e with e1 _;rw [e1]
   ·exact nomatch e
  ·rcases bJ hb with ⟨j,u,rfl,e⟩ | ⟨y,u,rfl,e⟩
   ·exact nomatch e
   ·injection e with e1 _;rw [e1]
 byValue:=fun k v h=>by
  rcases bJ h with ⟨i,t,rfl,rfl⟩ | ⟨x,t,rfl,rfl⟩ <;> rfl
 pyHash:=fun hv h=>by
  rcases bJ hv with ⟨i,t,rfl,rfl⟩ | ⟨x,t,rfl,rfl⟩
  ·exact wpAny_pyHash_int h
  ·exact wpAny_pyHash_str h
 eqBool:=fun hu hv h=>by
  rcases bJ hu with ⟨i,t,rfl,rfl⟩ | ⟨x,t,rfl,rfl⟩
  ·rcases bJ hv with ⟨j,u,rfl,rfl⟩ | ⟨y,u,rfl,rfl⟩
   ·rw [Ib] at h;exact wpAny_eqBool_int h
   ·rw [Ia] at h;exact SeqAt.EqAt.int_str i t y u _ _ _ _ h
  ·rcases bJ hv with ⟨j,u,rfl,rfl⟩ | ⟨y,u,rfl,rfl⟩
   ·rw [H9] at h;exact SeqAt.EqAt.str_int x t j u _ _ _ _ h
   ·rw [HZ] at h;exact wpAny_eqBool_str h
 «strs» := fun k x t v h=>by
  rcases bJ h with ⟨i,u,rfl,e⟩ | ⟨y,u,rfl,e⟩
  ·exact nomatch e
  ·injection e with e1 _
   subst e1
   cases v <;> rfl
theorem sC (prog:Program) (w:World) (i:Int) (t:Tok):(bx prog w).is (.inl i) (.int i t)=true:=yT i t
theorem sA (prog:Program) (w:World) (x:Str) (t:Tok):(bx prog w).is (.inr x) (.str x t)=true:=yS x t
inductive V where
 | bN | bl (b:Bool) | int (i:Int) | str (x:Str) | uh (b:Array UInt8) | Lu (b:UInt64) | ref (a:Addr) | ty (n:String)
 deriving DecidableEq
noncomputable def RelV:V→Value→Prop
 | .bN,u=>u=Value.none
 | .bl b,u=>u=Value.bool b
 | .int i,u=>∃ t,u=Value.int i t
 | .str x,u=>∃ t,u=Value.str x t
 | .uh b,u=>∃ t,u=Value.bytes b t
 | .Lu b,u=>∃ t,u=Value.float b t
 | .ref a,u=>u=Value.ref a
 | .ty n,u=>u=Value.type n
noncomputable abbrev Vals:List V→List Value→Prop:=Paired RelV
theorem Vals.length {xs:List V}{us:List Value} (r:Vals xs us):xs.length=us.length:=Paired.length r
theorem Vals.get:∀ {xs:List V}{us:List Value}{i:Nat}{x:V},Vals xs us→xs[i]? = some x→∃ u,us[i]? = some u∧RelV x u
 | _,_,_,_,.nil,e=>by simp at e
 | _,_,0,_,.cons r _,e=>by simp at e;subst e;exact ⟨_,rfl,r⟩
 | _,_,i+1,x,.cons _ t,e=>by
  obtain ⟨u,h1,h2⟩:=Vals.get (i:=i) (x:=x) t (by simpa using e)
  exact ⟨u,by simpa using h1,h2⟩
theorem Vals.set {x:V}{u:Value} (r:RelV x u):∀ {xs:List V}{us:List Value} (i:Nat),Vals xs us→Vals (xs.set i x) (us.set i u)
 | _,_,_,.nil=>.nil
 | _,_,0,.cons _ t=>.cons r t
 | _,_,i+1,.cons q t=>.cons q (Vals.set r i t)
theorem Vals.append:∀ {xs ys:List V}{us ws:List Value},Vals xs us→Vals ys ws→Vals (xs++ys) (us++ws)
 | _,_,_,_,.nil,s=>s
 | _,_,_,_,.cons r t,s=>.cons r (Vals.append t s)
theorem Vals.take:∀ {xs:List V}{us:List Value} (n:Nat),Vals xs us→Vals (xs.take n) (us.take n)
 | _,_,0,_=>.nil
 | _,_,_+1,.nil=>.nil
 | _,_,n+1,.cons r t=>.cons r (Vals.take n t)
theorem Vals.drop:∀ {xs:List V}{us:List Value} (n:Nat),Vals xs us→Vals (xs.drop n) (us.drop n)
 | _,_,0,r=>r
 | _,_,_+1,.nil=>.nil
 | _,_,n+1,.cons _ t=>Vals.drop n t
noncomputable def gM:Option V→Option Value→Prop
 | some v,some u=>RelV v u
 | none,none=>True
 | _,_=>False
noncomputable def KV {κ:Type}:List (κ×V)→List (κ×Value)→Prop:=Paired fun (p:κ×V) (q:κ×Value)=>p.1=q.1∧RelV p.2 q.2
noncomputable def kV:Key→V
 | .inl i=>.int i
 | .inr x=>.str x
inductive HO where
 | lst (xs:List V)
 | tup (xs:List V)
 | dK (kvs:List (Key×V)) | dT (kvs:List (List Key×V))
 | set (S:Int→Bool) (n:Nat)
 | ins (C dx:Addr) (fs:List (Str×V))
 | own (x:Addr)
 | xd (fs:List (Str×V))
 | met (f x:Addr)
 | LV (lo hi:Int)
 | Dh (o:Obj) (u:HO)
 | Gk (ps:Array Value)
 | ext (φ:Heap→Prop)
noncomputable abbrev Hp:=Addr→Option HO
noncomputable def upd (H:Hp) (a:Addr) (o:HO):Hp:=fun b=>if b=a then some o else H b
theorem aM {H:Hp}{a:Addr}{o:HO}:upd H a o a=some o:=by unfold upd;rw [if_pos rfl]
theorem aJ {H:Hp}{a b:Addr}{o:HO} (h:b≠a):upd H a o b=H b:=by unfold upd;rw [if_neg h]
theorem Kg {H:Hp}{a b:Addr}{o u:HO} (h:H a=some o) (h':H b=some u) (d:o≠u):a≠b:=by
 intro e;subst e;rw [h] at h';exact d (zcB.inj h')
theorem aX {H:Hp}{a b:Addr}{o:HO} (h:H a=some o) (h':H b=none):a≠b:=by
 intro e;subst e;rw [h] at h';cases h'
section
variable (P:Program) (w:World)
noncomputable def bw (H:Hp) (h:Heap) (a:Addr):HO→Prop
 | .lst xs=>xs.length≤sizeLine∧∃ (its:List Value) (n:Nat),Vals xs its∧h.get? a=some { cls:=.type "list",data:=.seq its.toArray n }
 | .tup xs=>xs.length≤sizeLine∧∃ its:List Value,Vals xs its∧IsTup h a its.toArray
 | .dK kvs=>kvs.length≤sizeLine∧(a==sysModules)=false∧∃ vs,KV kvs vs∧h.DictOf (bx P w) a vs
 | .dT kvs=>kvs.length≤sizeLine∧(a==sysModules)=false∧∃ xs:List (List Key×Addr×Value),
   Paired (fun (p:List Key×V) (q:List Key×Addr×Value)=>p.1=q.1∧H q.2.1=some (.tup (p.1.map kV))∧RelV p.2 q.2.2) kvs xs ∧
   ∃ o es ep,h.get? a=some o∧o.ExactDict∧o.data = .dict es ep∧es.toList=xs.map (entryOfKey (tupleKind (bx P w)))∧(xs.map (·.1)).Nodup
 | .set S n=>h.SetOf (intKind P w) a S n
 | .ins C dx fs=>H dx=some (.own a)∧fs.length≤1000∧dx≠a∧h.get? a=some (zbU C dx) ∧
   ∃ mA,h.Ns1 dx mA∧(∀ f,gM (fs.lookup f) (mA f))∧PySem.Within mA (fs.map (·.1))
 | .own _=>∃ o,h.get? a=some o
 | .xd fs=>∃ mA,h.Ns1 a mA∧∀ f,gM (fs.lookup f) (mA f)
 | .LV lo hi=>∃ t u v,h.get? a=some { cls:=.type "range",data:=.fields #[.int lo t,.int hi u,.int 1 v] }
 | .Dh o u=>h.get? a=some o∧bw H h a u
 | .Gk ps=>h.get? a=some { cls:=.none,data:=.fields ps }
 | .met f x=>h.get? a=some (PySem.W.methodObj (.ref f) (.ref x))
 | .ext φ=>φ h∧(∃ o,h.get? a=some o)∧∀ h1 h2:Heap,φ h1→(∀ o,h1.get? a=some o→h2.get? a=some o)→φ h2
noncomputable def iI (H:Hp) (h:Heap):Prop:=∀ a o,H a=some o→bw P w H h a o
end
section
variable {P:Program}{w:World}{H H':Hp}{h h':Heap}{a:Addr}{o:HO}
theorem bw.lt (x:bw P w H h a o):a<h.objs.size:=by
 cases o with
 | lst xs=>obtain ⟨_,_,_,_,e⟩:=x;exact zct e
 | tup xs=>obtain ⟨_,_,_,p⟩:=x;exact p.lt
 | dK kvs=>obtain ⟨_,_,_,_,o,_,_,e,_⟩:=x;exact zct e
 | dT kvs=>obtain ⟨_,_,_,_,o,_,_,e,_⟩:=x;exact zct e
 | set S n=>obtain ⟨o,_,_,_,e,_⟩:=x;exact zct e
 | ins C dx fs=>obtain ⟨_,_,_,e,_⟩:=x;exact zct e
 | own y=>obtain ⟨_,e⟩:=x;exact zct e
 | xd fs=>obtain ⟨_,⟨_,_,_,e,_⟩,_⟩:=x;exact zct e
 | LV lo hi=>obtain ⟨_,_,_,e⟩:=x;exact zct e
 | Dh ob u=>obtain ⟨e,_⟩:=x;exact zct e
 | Gk ps=>exact zct (show h.get? a=some _ from x)
 | met f y=>exact zct (show h.get? a=some _ from x)
 | ext φ=>obtain ⟨_,⟨_,e⟩,_⟩:=x;exact zct e
theorem Paired.HU {α β:Type}{F G:α→β→Prop}:∀ {l₁:List α}{l₂:List β},Paired F l₁ l₂→(∀ a b,F a b→G a b)→Paired G l₁ l₂
 | _,_,.nil,_=>.nil
 | _,_,.cons r t,f=>.cons (f _ _ r) (Paired.HU t f)
theorem bw.stay (x:bw P w H h a o) (k:∀ b u,(b=a∨H b=some (.own a))→h.get? b=some u→h'.get? b=some u)
  (ho:∀ b,H b=some (.own a)→H' b=some (.own a)) (ht:∀ b xs,H b=some (.tup xs)→H' b=some (.tup xs)):bw P w H' h' a o:=by
 induction o with
 | lst xs=>obtain ⟨z,its,n,r,e⟩:=x;exact ⟨z,its,n,r,k _ _ (.inl rfl) e⟩
 | tup xs=>obtain ⟨z,its,r,ob,e,c⟩:=x;exact ⟨z,its,r,ob,k _ _ (.inl rfl) e,c⟩
 | dK kvs=>obtain ⟨z,y,vs,r,ob,es,ep,e,c⟩:=x;exact ⟨z,y,vs,r,ob,es,ep,k _ _ (.inl rfl) e,c⟩
 | dT kvs =>
  obtain ⟨z,y,xs,r,ob,es,ep,e,c⟩:=x
  exact ⟨z,y,xs,Paired.HU r fun p q z=>⟨z.1,ht _ _ z.2.1,z.2.2⟩,ob,es,ep,k _ _ (.inl rfl) e,c⟩
 | set S n=>obtain ⟨ob,es,ep,t,e,c⟩:=x;exact ⟨ob,es,ep,t,k _ _ (.inl rfl) e,c⟩
 | ins C dx fs =>
  obtain ⟨d,z,ne,e,mA,⟨od,es,ep,e2,c⟩,r⟩:=x
  exact ⟨ho _ d,z,ne,k _ _ (.inl rfl) e,mA,⟨od,es,ep,k _ _ (.inr d) e2,c⟩,r⟩
 | own y=>obtain ⟨ob,e⟩:=x;exact ⟨ob,k _ _ (.inl rfl) e⟩
 | xd fs=>obtain ⟨mA,⟨od,es,ep,e,c⟩,r⟩:=x;exact ⟨mA,⟨od,es,ep,k _ _ (.inl rfl) e,c⟩,r⟩
 | LV lo hi=>obtain ⟨t,u,v,e⟩:=x;exact ⟨t,u,v,k _ _ (.inl rfl) e⟩
 | Dh ob u ih=>obtain ⟨e,q⟩:=x;exact ⟨k _ _ (.inl rfl) e,ih q⟩
 | Gk ps =>
  have e:h.get? a=some { cls:=.none,data:=.fields ps }:=x
  show h'.get? a=some { cls:=.none,data:=.fields ps }
  exact k a _ (.inl rfl) e
 | met f y =>
  have e:h.get? a=some (PySem.W.methodObj (.ref f) (.ref y)):=x
  show h'.get? a=some (PySem.W.methodObj (.ref f) (.ref y))
  exact k a _ (.inl rfl) e
 | ext φ=>obtain ⟨p,⟨o,e⟩,st⟩:=x;exact ⟨st _ _ p fun o q=>k _ _ (.inl rfl) q,⟨o,k _ _ (.inl rfl) e⟩,st⟩
theorem iI.lt (x:iI P w H h) (e:H a=some o):a<h.objs.size:=(x a o e).lt
theorem iI.fresh (x:iI P w H h) (e:h.objs.size≤a):H a=none:=by
 cases q:H a with
 | none=>rfl
 | some u=>exact absurd (zaX (x.lt q) e) (zce _)
theorem iI.kept (x:iI P w H h) (k:∀ b u,h.get? b=some u→h'.get? b=some u):iI P w H h':=fun a o e =>
 (x a o e).stay (fun b u _ q=>k b u q) (fun _ q=>q) fun _ _ q=>q
theorem iI.laid (x:iI P w H h) (k:∀ b u,h.get? b=some u→h'.get? b=some u) (hp:h.objs.size≤a) (new:bw P w (upd H a o) h' a o):iI P w (upd H a o) h':=fun b u e=>by
 have hn:=x.fresh hp
 by_cases hb:b=a
 ·subst hb;rw [aM] at e;cases e;exact new
 ·rw [aJ hb] at e
  exact (x b u e).stay (fun c v _ q=>k c v q) (fun c q=>by rw [aJ (aX q hn)];exact q) fun c xs q=>by rw [aJ (aX q hn)];exact q
end
noncomputable def Rd (H:Hp) (a:Addr) (u:HO):Prop:=H a=some u∨∃ o,H a=some (.Dh o u)
theorem Rd.ok {P:Program}{w:World}{H:Hp}{h:Heap}{a:Addr}{u:HO} (r:Rd H a u) (x:iI P w H h):bw P w H h a u:=by
 rcases r with r | ⟨o,r⟩
 ·exact x a u r
 ·obtain ⟨_,q⟩:=x a _ r
  exact q
noncomputable def La:Option HO→Prop
 | some (.lst _)=>True
 | some (.dK _)=>True
 | some (.dT _)=>True
 | some (.set _ _)=>True
 | some (.ins _ _ _)=>True
 | some (.ext _)=>True
 | _=>False
section
variable {P:Program}{w:World}{H:Hp}{h h':Heap}{x e:Addr}{o':HO}
theorem iI.write (ok:iI P w H h) (mu:La (H x)) (he:e=x∨H e=some (.own x)) (k:∀ b u,b≠e→h.get? b=some u→h'.get? b=some u) (heo:∃ u,h'.get? e=some u)
  (new:bw P w (upd H x o') h' x o'):iI P w (upd H x o') h':=fun b u q=>by
 have Kd:∀ c y,H c=some (.own y)→c≠x:=fun c y r z=>by subst z;rw [r] at mu;exact mu
 have Mb:∀ c xs,H c=some (.tup xs)→c≠x:=fun c xs r z=>by subst z;rw [r] at mu;exact mu
 by_cases hb:b=x
 ·subst hb;rw [aM] at q;cases q;exact new
 ·rw [aJ hb] at q
  by_cases hbe:b=e
  ·have q':H b=some (.own x):=by
    rcases he with z | z
    ·exact absurd (hbe.trans z) hb
    ·rw [hbe];exact z
   rw [q] at q';cases q'
   obtain ⟨v,hv⟩:=heo
   exact ⟨v,by rw [hbe];exact hv⟩
  ·refine (ok b u q).stay (fun c v hc r=>k c v ?_ r) (fun c r=>by rw [aJ (Kd c b r)];exact r) fun c xs r=>by rw [aJ (Mb c xs r)];exact r
   rcases hc with rfl | hc
   ·exact hbe
   ·rintro rfl
    rcases he with z | z
    ·exact Kd c b hc z
    ·rw [hc] at z;cases z;exact hb rfl
end
structure Un (fs ex:List Addr) (H H':Hp) (h h':Heap):Prop where
 keep:∀ b o,h.get? b=some o→H b=none→b ∉ fs→b ∉ ex→h'.get? b=some o
 slot:∀ b o,h.get? b=some o→H b=none→b∈fs→b ∉ ex→∃ sl,h'.get? b=some { o with slots:=sl }
 free:∀ b o,h.get? b=some o→H b=none→b ∉ ex→H' b=none
 there:∀ b o,h.get? b=some o→b ∉ ex→∃ o',h'.get? b=some o'
 tups:∀ b xs,H b=some (.tup xs)→H' b=some (.tup xs)
 oi:∀ b o u,H b=some (.Dh o u)→H' b=some (.Dh o u)
 pR:∀ b ps,H b=some (.Gk ps)→∃ more,H' b=some (.Gk (ps++more))
section
variable {fs fs' ex ex':List Addr}{H H1 H2:Hp}{h h1 h2 h':Heap}{a x e:Addr}{o:HO}
theorem Un.any (u:Un fs ex H H1 h h1) {b:Addr}{ob:Obj} (q:h.get? b=some ob) (n:H b=none) (hx:b ∉ ex):∃ sl,h1.get? b=some { ob with slots:=sl }:=by
 by_cases hb:b∈fs
 ·exact u.slot b ob q n hb hx
 ·exact ⟨ob.slots,u.keep b ob q n hb hx⟩
theorem Un.kept (k:∀ b u,h.get? b=some u→h'.get? b=some u):Un fs ex H H h h' :=
 ⟨fun b ob q _ _ _=>k b ob q,fun b ob q _ _ _=>⟨ob.slots,k b ob q⟩,fun _ _ _ n _=>n,fun b ob q _=>⟨ob,k b ob q⟩,fun _ _ q=>q,fun _ _ _ q=>q,fun _ ps q=>⟨#[],by rw [q];simp⟩⟩
theorem Un.refl:Un fs ex H H h h:=Un.kept fun _ _ q=>q
theorem Un.laid (k:∀ b u,h.get? b=some u→h'.get? b=some u) (hp:h.objs.size≤a) (hn:H a=none):Un fs ex H (upd H a o) h h' where
 keep:=fun b u q _ _ _=>k b u q
 slot:=fun b u q _ _ _=>⟨u.slots,k b u q⟩
 free:=fun b u q n _=>by rw [aJ (zcl (zaX (zct q) hp))];exact n
 there:=fun b u q _=>⟨u,k b u q⟩
 tups:=fun b xs q=>by rw [aJ (aX q hn)];exact q
 oi:=fun b u xs q=>by rw [aJ (aX q hn)];exact q
 pR:=fun b ps q=>⟨#[],by rw [aJ (aX q hn),q];simp⟩
theorem Un.write (mu:La (H x)) (he:e=x∨H e=some (.own x)) (k:∀ b u,b≠e→h.get? b=some u→h'.get? b=some u) (heo:∃ u,h'.get? e=some u):Un fs ex H (upd H x o) h h':=by
 have hx:∀ b,H b=none→b≠x:=fun b n z=>by subst z;rw [n] at mu;exact mu
 have hb:∀ b,H b=none→b≠e:=fun b n z=>by
  subst z
  rcases he with r | r
  ·exact hx b n r
  ·rw [n] at r;cases r
 have hm:∀ b u,H b=some u → ¬ La (some u)→b≠x:=fun b u q nm z=>by subst z;rw [q] at mu;exact nm mu
 refine ⟨fun b u q n _ _=>k b u (hb b n) q,fun b u q n _ _=>⟨u.slots,k b u (hb b n) q⟩,fun b u q n _=>by rw [aJ (hx b n)];exact n,fun b u q _ => ?_,
  fun b xs q=>by rw [aJ (hm b _ q fun z=>z)];exact q,fun b u xs q=>by rw [aJ (hm b _ q fun z=>z)];exact q,fun b ps q=>⟨#[],by rw [aJ (hm b _ q fun z=>z),q];simp⟩⟩
 by_cases hbe:b=e
 ·subst hbe;exact heo
 ·exact ⟨u,k b u hbe q⟩
end
noncomputable def Lj (h:Heap) (H:Hp):List Addr:=(zcC h.objs.size).filter fun a=>(H a).isSome
noncomputable def qP (h:Heap) (H:Hp):Heap:=PySem.W.hideAll h (Lj h H)
theorem yZ (h:Heap) (H:Hp):(qP h H).objs.size=h.objs.size:=PySem.W.hideAll_size _ _
theorem BI {h:Heap}{H:Hp}{b:Addr}{o:Obj} (e:h.get? b=some o) (n:H b=none):(qP h H).get? b=some o :=
 PySem.W.hideAll_get _ e fun hm=>by
  have q:(H b).isSome=true:=(zbH.mp hm).2
  rw [n] at q;simp at q
theorem Ec {h:Heap}{H:Hp}{b:Addr}{o:Obj} (e:(qP h H).get? b=some o):h.get? b=some o∧H b=none:=by
 have e':h.get? b=some o:=PySem.W.of_hideAll (Lj h H) e
 refine ⟨e',?_⟩
 cases q:H b with
 | none=>rfl
 | some x =>
  have hm:b∈Lj h H:=zbH.mpr ⟨zbV.mpr (zct e'),by simp [q]⟩
  have z:(qP h H).get? b=none:=PySem.W.hideAll_none (Lj h H) hm
  rw [z] at e;cases e
noncomputable def E4 (g h:Heap) (L:Addr):List (Addr×Obj):=(zcC h.objs.size).filterMap fun a=>if a=L∨(g.get? a).isSome=true then none else (h.get? a).map fun o=>(a,o)
noncomputable def rest (g h:Heap) (L d:Addr):List (Addr×Obj):=(E4 g h L).filter fun p=>decide (p.1≠d)
structure Mod (K:PySem.W.Frag) (mg:Str→Option Value) (base:Heap):Prop where
 Lr:K.In base
 glob:base.Ns mainGlobals mg
 blt:∃ mb,base.Ns builtinsNs mb∧∀ x:Str,x ≠ "__name__" → mb x=bootBuiltins x
 nolimit:base.NoLimit
structure Cx where
 prog:Program
 w:World
 K:PySem.W.Frag
 mg:Str→Option Value
 base:Heap
 A:Around
 N:List Str
 s₀:Shared
 H₀:Hp
 env:Env
 outer:List Env
 stack:List Env
 ex:List Addr
 fn:Str→Bool
 calm:Bool
 pn:List (Addr×Obj)
 xe:Value→Shared→Prop
noncomputable def frs (l:List Env):List Addr:=l.filterMap (·.frame)
noncomputable abbrev Cx.fs (X:Cx):List Addr:=frs X.outer
noncomputable def K6 (sc:Scope) (x:Str):Prop:=sc.names.lookup x=some .local∨sc.names.lookup x=some .cell∨sc.names.lookup x=some .free
noncomputable def Loc (sc:Scope) (x:Str):Prop:=sc.names.lookup x=some .local∨sc.names.lookup x=some .cell
noncomputable def Look (env:Env) (h:Heap) (m:Str→Option Value) (x:Str) (u:Value):Prop :=
 (env.kindOf x=some .local∧m x=some u)∨((env.kindOf x=some .cell∨env.kindOf x=some .free)∧∃ c,env.cells.lookup x=some c∧h.IsCell c (some u))
structure Cx.Ok (X:Cx):Prop where
 mod:Mod X.K X.mg X.base
 kind:X.env.scope.kind = .function
 glob:X.env.globals=mainGlobals
 blt:X.env.builtins=builtinsNs
 above:X.s₀.heap.objs.size≤X.env.locals
 inj:∀ x y c,X.env.cells.lookup x=some c→X.env.cells.lookup y=some c→x=y
 has:∀ x,(X.env.kindOf x=some .cell∨X.env.kindOf x=some .free)→∃ c,X.env.cells.lookup x=some c
 KQ:∀ x c,X.fn x=true→X.env.cells.lookup x=some c→X.s₀.heap.objs.size≤c
 hd:X.calm=true→X.A.handled=none
 frames:X.A.frames=some X.stack
 stk:X.stack=X.outer∨(X.stack=X.env::X.outer∧X.env.frame=some X.env.locals)
 Ms:∀ b∈X.ex,b≠X.env.locals∧∀ x c,X.env.cells.lookup x=some c→c≠b
 bs:∀ b o,X.base.get? b=some o→X.s₀.heap.get? b=some o∧X.H₀ b=none
 EY:X.base.objs.size≤X.s₀.heap.objs.size
 Bl:∀ b o,X.base.get? b=some o→b ∉ X.ex
 Ez:∀ b∈X.ex,b ∉ X.fs
 lg:X.s₀.heap.FunFrames X.base X.outer
 Il:∀ b∈X.fs,X.H₀ b=none
structure Inv (X:Cx) (pins:List (Addr×Obj)) (σ:List (Option V)) (H:Hp) (s:Shared):Prop where
 ok:X.Ok
 os:s.os=X.s₀.os
 bare:AllBare s.gens
 base:Un X.fs X.ex X.H₀ H X.s₀.heap s.heap
 loc:∃ m,s.heap.Ns X.env.locals m∧∀ (i:Nat) (x:Str) (v:V),X.N[i]? = some x→σ[i]? = some (some v)→K6 X.env.scope x→∃ u,RelV v u∧Look X.env s.heap m x u
 cell:∀ x c,X.env.cells.lookup x=some c→∃ v,s.heap.IsCell c v
 free:H X.env.locals=none
 gD:∀ x c,X.env.cells.lookup x=some c→H c=none
 pin:∀ p∈X.pn++pins,s.heap.get? p.1=some p.2∧H p.1=none∧p.1≠X.env.locals∧p.1 ∉ X.fs∧∀ v,p.2.data ≠ .cell v
 hok:iI X.prog X.w H s.heap
 len:σ.length=X.N.length
section
variable {X:Cx}{pins:List (Addr×Obj)}{σ:List (Option V)}{H H':Hp}{s:Shared}{h':Heap}
theorem Cx.Ok.Mc (ok:X.Ok) {b:Addr}{o:Obj} (e:X.base.get? b=some o):b ∉ X.fs:=fun hb=>by
 have:=(ok.lg.mem hb).1
 rw [e] at this;cases this
theorem Inv.bs (I:Inv X pins σ H s):∀ b o,X.base.get? b=some o→s.heap.get? b=some o∧H b=none:=fun b o e =>
 ⟨I.base.keep b o (I.ok.bs b o e).1 (I.ok.bs b o e).2 (I.ok.Mc e) (I.ok.Bl b o e),I.base.free b o (I.ok.bs b o e).1 (I.ok.bs b o e).2 (I.ok.Bl b o e)⟩
theorem Inv.bk (I:Inv X pins σ H s):∀ b o,X.base.get? b=some o→s.heap.get? b=some o:=fun b o e=>(I.bs b o e).1
theorem Inv.mod (I:Inv X pins σ H s):Mod X.K X.mg X.base:=I.ok.mod
theorem Inv.xG (I:Inv X pins σ H s):X.K.In s.heap:=I.ok.mod.Lr.keeps I.bk
theorem Inv.lt (I:Inv X pins σ H s):X.env.locals<s.heap.objs.size:=let ⟨_,hn,_⟩:=I.loc;hn.lt
theorem Inv.sz (I:Inv X pins σ H s):X.s₀.heap.objs.size≤s.heap.objs.size:=zcm I.ok.above (Nat.le_of_lt I.lt)
theorem Inv.Ke (I:Inv X pins σ H s) {a:Addr} (h:s.heap.objs.size≤a):a ∉ X.fs:=fun hb=>by
 obtain ⟨_,o,ho,_⟩:=I.ok.lg.mem hb
 exact absurd (zaX (zct ho) (zcm I.sz h)) (zce _)
theorem Inv.IS (I:Inv X pins σ H s):∀ x c,X.env.cells.lookup x=some c→c≠X.env.locals:=fun x c e z=>by
 obtain ⟨v,o,ho,hd⟩:=I.cell x c e
 obtain ⟨m,⟨o',es,ep,ho',hd',_⟩,_⟩:=I.loc
 rw [z,ho'] at ho;cases ho;rw [hd'] at hd;cases hd
theorem Inv.lg (I:Inv X pins σ H s):s.heap.FunFrames X.base X.outer:=by
 have all:∀ (l:List Env),(∀ b∈frs l,b∈X.fs)→X.s₀.heap.FunFrames X.base l→s.heap.FunFrames X.base l:=by
  intro l
  induction l with
  | nil=>intro _ _;trivial
  | cons env r ih =>
   intro hs hl
   obtain ⟨hk,⟨L,o,hf,hn,ho,hd⟩,hr⟩:=hl
   have hL:L∈X.fs:=hs L (by unfold frs;rw [List.filterMap_cons,hf];exact zaR)
   obtain ⟨sl,e⟩:=I.base.slot L o ho (I.ok.Il L hL) hL fun z=>I.ok.Ez L z hL
   exact ⟨hk,⟨L,_,hf,hn,e,hd⟩,ih (fun b hb=>hs b (by unfold frs;rw [List.filterMap_cons,hf];exact zaA _ hb)) hr⟩
 exact all X.outer (fun _ hb=>hb) I.ok.lg
theorem Inv.stack (I:Inv X pins σ H s):s.heap.FunFrames X.base X.stack:=by
 rcases I.ok.stk with e | ⟨e,hf⟩
 ·rw [e];exact I.lg
 ·rw [e]
  obtain ⟨m,hn,_⟩:=I.loc
  refine .cons (by rw [I.ok.kind];decide) hf hn ?_ I.lg
  exact Heap.get?_none_of_le (zcm I.ok.EY I.ok.above)
theorem Inv.mj (I:Inv X pins σ H s):∀ b∈frs X.stack,b∈X.env.locals::X.fs:=fun b hb=>by
 rcases I.ok.stk with e | ⟨e,hf⟩
 ·rw [e] at hb;exact zaA _ hb
 ·rw [e] at hb
  unfold frs at hb
  rw [List.filterMap_cons,hf] at hb
  exact hb
theorem Inv.wg (I:Inv X pins σ H s):∀ b∈frs X.stack,H b=none:=fun b hb=>by
 rcases zca.mp (I.mj b hb) with e | hb
 ·rw [e];exact I.free
 ·obtain ⟨_,o,ho,_⟩:=I.ok.lg.mem hb
  exact I.base.free b o ho (I.ok.Il b hb) fun z=>I.ok.Ez b z hb
theorem Inv.step {g':Array GenState}{t':Nat}{d':Drawn}{ch:List Addr} (I:Inv X pins σ H s)
  (hch:∀ b∈ch,(b∈X.ex∨X.s₀.heap.objs.size≤b)∧b≠X.env.locals∧(∀ x c,X.env.cells.lookup x=some c→c≠b)∧∀ p∈X.pn++pins,p.1≠b)
  (keep:∀ b o,b≠X.env.locals→b ∉ X.fs→b ∉ ch→s.heap.get? b=some o→H b=none→h'.get? b=some o)
  (slot:∀ b o,b≠X.env.locals→b∈X.fs→b ∉ ch→s.heap.get? b=some o→H b=none→∃ sl,h'.get? b=some { o with slots:=sl }) (free:∀ b o,b ∉ ch→s.heap.get? b=some o→H b=none→H' b=none)
  (there:∀ b o,b ∉ ch→s.heap.get? b=some o→∃ o',h'.get? b=some o')
  (tups:∀ b xs,H b=some (.tup xs)→H' b=some (.tup xs)) (oi:∀ b o u,H b=some (.Dh o u)→H' b=some (.Dh o u)) (pR:∀ b ps,H b=some (.Gk ps)→∃ more,H' b=some (.Gk (ps++more)))
  (ns:∀ m,s.heap.Ns X.env.locals m→h'.Ns X.env.locals m) (hok:iI X.prog X.w H' h') (hg:AllBare g') :
  Inv X pins σ H' { s with heap:=h',gens:=g',drawn:=d',toks:=t' }:=by
 have neL:∀ b o,X.s₀.heap.get? b=some o→b≠X.env.locals:=fun b o e=>zcl (zaX (zct e) I.ok.above)
 have neC:∀ b o,X.s₀.heap.get? b=some o→b ∉ X.ex→b ∉ ch:=fun b o e hx hb=>by
  rcases (hch b hb).1 with z | z
  ·exact hx z
  ·exact absurd (zaX (zct e) z) (zce _)
 have cellK:∀ x c,X.env.cells.lookup x=some c→∀ v,s.heap.IsCell c v→h'.IsCell c v:=fun x c e v ⟨o,ho,hd⟩=>by
  have nch:c ∉ ch:=fun z=>(hch c z).2.2.1 x c e rfl
  by_cases hc:c∈X.fs
  ·obtain ⟨sl,q⟩:=slot c o (I.IS x c e) hc nch ho (I.gD x c e)
   exact ⟨_,q,hd⟩
  ·exact ⟨o,keep c o (I.IS x c e) hc nch ho (I.gD x c e),hd⟩
 refine ⟨I.ok,I.os,hg,⟨fun b o e n hb hx => ?_,fun b o e n hb hx => ?_,fun b o e n hx => ?_,fun b o e hx => ?_,fun b xs e=>tups b xs (I.base.tups b xs e),fun b o xs e=>oi b o xs (I.base.oi b o xs e),fun b ps e => ?_⟩,?_,fun x c e => ?_,?_,fun x c e => ?_,fun p hp => ?_,hok,I.len⟩
 ·exact keep b o (neL b o e) hb (neC b o e hx) (I.base.keep b o e n hb hx) (I.base.free b o e n hx)
 ·obtain ⟨sl,e1⟩:=I.base.slot b o e n hb hx
  obtain ⟨sl',e2⟩:=slot b _ (neL b o e) hb (neC b o e hx) e1 (I.base.free b o e n hx)
  exact ⟨sl',e2⟩
 ·obtain ⟨o',e1⟩:=I.base.there b o e hx
  exact free b o' (neC b o e hx) e1 (I.base.free b o e n hx)
 ·obtain ⟨o',e1⟩:=I.base.there b o e hx
  exact there b o' (neC b o e hx) e1
 ·obtain ⟨m1,e1⟩:=I.base.pR b ps e
  obtain ⟨m2,e2⟩:=pR b _ e1
  exact ⟨m1++m2,by rw [e2,Array.append_assoc]⟩
 ·obtain ⟨m,hn,hl⟩:=I.loc
  refine ⟨m,ns m hn,fun i x v e1 e2 e3 => ?_⟩
  obtain ⟨u,r,l⟩:=hl i x v e1 e2 e3
  refine ⟨u,r,?_⟩
  rcases l with l | ⟨k,c,e,z⟩
  ·exact .inl l
  ·exact .inr ⟨k,c,e,cellK x c e _ z⟩
 ·obtain ⟨v,z⟩:=I.cell x c e
  exact ⟨v,cellK x c e v z⟩
 ·obtain ⟨m,⟨o,_,_,ho,_⟩,_⟩:=I.loc
  exact free _ o (fun z=>(hch _ z).2.1 rfl) ho I.free
 ·obtain ⟨v,o,ho,hd⟩:=I.cell x c e
  exact free c o (fun z=>(hch c z).2.2.1 x c e rfl) ho (I.gD x c e)
 ·obtain ⟨e,n,ne,nf,d⟩:=I.pin p hp
  have nch:p.1 ∉ ch:=fun z=>(hch p.1 z).2.2.2 p hp rfl
  exact ⟨keep p.1 p.2 ne nf nch e n,free p.1 p.2 nch e n,ne,nf,d⟩
theorem Inv.un {t':Nat} (I:Inv X pins σ H s) (u:Un X.fs [] H H' s.heap h') (hok:iI X.prog X.w H' h'):Inv X pins σ H' { s with heap:=h',toks:=t' }:=by
 obtain ⟨m,⟨o,es,ep,ho,r⟩,_⟩:=id I.loc
 obtain ⟨sl,hL⟩:=u.any ho I.free (by simp)
 exact I.step (g':=s.gens) (d':=s.drawn) (ch:=[]) (fun _ z=>nomatch z) (fun b o _ hb _ e n=>u.keep b o e n hb (by simp)) (fun b o _ hb _ e n=>u.slot b o e n hb (by simp)) (fun b o _ e n=>u.free b o e n (by simp)) (fun b o _ e=>u.there b o e (by simp)) u.tups u.oi u.pR (fun m' hm=>by
  obtain ⟨o',es',ep',ho',r'⟩:=hm
  rw [ho] at ho';cases ho'
  exact ⟨_,es',ep',hL,r'⟩) hok I.bare
theorem Inv.call {g':Array GenState}{t':Nat}{d':Drawn}{ch:List Addr} (I:Inv X pins σ H s) (u:Un (frs X.stack) ch H H' s.heap h') (hok:iI X.prog X.w H' h') (hg:AllBare g')
  (hch:∀ b∈ch,(b∈X.ex∨X.s₀.heap.objs.size≤b)∧b≠X.env.locals∧(∀ x c,X.env.cells.lookup x=some c→c≠b)∧∀ p∈X.pn++pins,p.1≠b) :
  Inv X pins σ H' { s with heap:=h',gens:=g',drawn:=d',toks:=t' }:=by
 obtain ⟨m,⟨o,es,ep,ho,r⟩,_⟩:=id I.loc
 obtain ⟨sl,hL⟩:=u.any ho I.free fun z=>(hch _ z).2.1 rfl
 exact I.step (ch:=ch) hch (fun b o hL hb hc e n=>u.keep b o e n (fun z=>(zca.mp (I.mj b z)).elim hL hb) hc) (fun b o _ _ hc e n=>u.any e n hc) (fun b o hc e n=>u.free b o e n hc) (fun b o hc e=>u.there b o e hc) u.tups u.oi u.pR (fun m' hm=>by
  obtain ⟨o',es',ep',ho',r'⟩:=hm
  rw [ho] at ho';cases ho'
  exact ⟨_,es',ep',hL,r'⟩) hok hg
theorem Inv.turned {t':Nat}{it:Addr} (I:Inv X pins σ H s) (k:∀ b o,b≠it→s.heap.get? b=some o→h'.get? b=some o) (hn:H it=none) (hL:it≠X.env.locals)
  (h1:it∈X.ex∨X.s₀.heap.objs.size≤it) (h2:∀ x c,X.env.cells.lookup x=some c→c≠it) (h3:∀ p∈X.pn++pins,p.1≠it):Inv X pins σ H { s with heap:=h',toks:=t' }:=by
 have nit:∀ b u,H b=some u→b≠it:=fun b u e z=>by rw [z,hn] at e;cases e
 refine I.step (g':=s.gens) (d':=s.drawn) (ch:=[it]) (fun b hb => ?_) (fun b o _ _ hc e _=>k b o (fun z=>hc (by simp [z])) e) (fun b o _ _ hc e _=>⟨o.slots,k b o (fun z=>hc (by simp [z])) e⟩) (fun _ _ _ _ n=>n)
  (fun b o hc e=>⟨o,k b o (fun z=>hc (by simp [z])) e⟩) (fun _ _ e=>e) (fun _ _ _ e=>e) (fun b ps e=>⟨#[],by rw [e];simp⟩) (fun m hm => ?_) (fun b u e => ?_) I.bare
 ·have e:b=it:=by simpa using hb
  subst e
  exact ⟨h1,hL,h2,h3⟩
 ·obtain ⟨o,es,ep,ho,r⟩:=hm
  exact ⟨o,es,ep,k _ o (Ne.symm hL) ho,r⟩
 ·refine (I.hok b u e).stay (fun c v hc q=>k c v ?_ q) (fun _ q=>q) fun _ _ q=>q
  rcases hc with z | z
  ·rw [z];exact nit b u e
  ·exact nit c _ z
theorem Inv.tok (I:Inv X pins σ H s) (t:Nat):Inv X pins σ H { s with toks:=t }:=I.un (h':=s.heap) (t':=t) Un.refl I.hok
theorem Inv.kept {t':Nat} (I:Inv X pins σ H s) (k:∀ b u,s.heap.get? b=some u→h'.get? b=some u):Inv X pins σ H { s with heap:=h',toks:=t' }:=I.un (Un.kept k) (I.hok.kept k)
theorem Inv.laid {a:Addr}{o:HO}{t':Nat} (I:Inv X pins σ H s) (k:∀ b u,s.heap.get? b=some u→h'.get? b=some u) (hp:s.heap.objs.size≤a) (new:bw X.prog X.w (upd H a o) h' a o) :
  Inv X pins σ (upd H a o) { s with heap:=h',toks:=t' }:=I.un (Un.laid k hp (I.hok.fresh hp)) (I.hok.laid k hp new)
theorem Inv.write {x e:Addr}{o:HO}{t':Nat} (I:Inv X pins σ H s) (mu:La (H x)) (he:e=x∨H e=some (.own x)) (k:∀ b u,b≠e→s.heap.get? b=some u→h'.get? b=some u) (heo:∃ u,h'.get? e=some u)
  (new:bw X.prog X.w (upd H x o) h' x o):Inv X pins σ (upd H x o) { s with heap:=h',toks:=t' }:=I.un (Un.write mu he k heo) (I.hok.write mu he k heo new)
theorem Inv.jn {pins':List (Addr×Obj)} (I:Inv X pins σ H s) (h:∀ p∈pins',s.heap.get? p.1=some p.2∧H p.1=none∧p.1≠X.env.locals∧p.1 ∉ X.fs∧∀ v,p.2.data ≠ .cell v):Inv X pins' σ H s :=
 ⟨I.ok,I.os,I.bare,I.base,I.loc,I.cell,I.free,I.gD,fun p hp=>(zbI.mp hp).elim (fun z=>I.pin p (zaB _ z)) (h p),I.hok,I.len⟩
theorem su {N:List Str} (hN:N.Nodup) {i j:Nat}{x:Str} (a:N[i]? = some x) (b:N[j]? = some x):i=j:=by
 obtain ⟨h1,e1⟩:=zae.mp a
 obtain ⟨h2,e2⟩:=zae.mp b
 exact (List.getElem_inj hN).mp (e1.trans e2.symm)
theorem yx {M:Model}{A:Around}{E:Value→Shared→Prop}{i:Nat}{x:Str}{v:V}{u:Value}{Q:Unit→Shared→Prop} (I:Inv X pins σ H s) (hN:X.N.Nodup) (hi:X.N[i]? = some x) (hx:Loc X.env.scope x) (r:RelV v u)
  (h:∀ s',Inv X pins (σ.set i (some v)) H s'→(∃ a,Heap.SameBut a s.heap s'.heap∧(a=X.env.locals∨X.env.cells.lookup x=some a))→Q () s') (hf:X.fn x=true∨X.env.scope.names.lookup x=some .local:=by first | exact .inl rfl | exact .inr rfl | assumption):wpAny M A (storeName X.env x u) Q E s:=by
 obtain ⟨m,hn,hl⟩:=id I.loc
 have hcls:(X.env.scope.kind == .class||(X.env.scope.kind == .module&&X.env.locals != X.env.globals))=false:=by rw [I.ok.kind];rfl
 have hiσ:i<σ.length:=by rw [I.len];exact (zae.mp hi).1
 have IS:=I.IS
 have tracked:∀ {a:Addr}{h':Heap},(∃ o,s.heap.get? a=some o∧H a=none)→Heap.SameBut a s.heap h'→iI X.prog X.w H h':=fun {a h'} ha hs b ob e=>by
  obtain ⟨_,_,hfree⟩:=ha
  refine (I.hok b ob e).stay (fun c w' hc q=>(hs.2 c ?_).trans q) (fun _ q=>q) fun _ _ q=>q
  rintro rfl
  rcases hc with rfl | hc
  ·rw [hfree] at e;cases e
  ·rw [hfree] at hc;cases hc
 rcases hx with hk | hk
 ·refine wpAny_storeName_local hk hn (fun h' hn' hs => ?_) hcls
  obtain ⟨oL,_,_,hoL,_⟩:=id hn
  refine h _ ⟨I.ok,I.os,I.bare,⟨fun b o e n hb hx => ?_,fun b o e n hb hx => ?_,I.base.free,fun b o e hx => ?_,I.base.tups,I.base.oi,I.base.pR⟩,⟨_,hn',fun j y v' e1 e2 e3 => ?_⟩,fun y c e => ?_,I.free,I.gD,fun p hp => ?_,tracked ⟨oL,hoL,I.free⟩ hs,by simpa using I.len⟩ ⟨_,hs,.inl rfl⟩
  ·exact (hs.2 b (zcl (zaX (zct e) I.ok.above))).trans (I.base.keep b o e n hb hx)
  ·obtain ⟨sl,e1⟩:=I.base.slot b o e n hb hx
   exact ⟨sl,(hs.2 b (zcl (zaX (zct e) I.ok.above))).trans e1⟩
  ·obtain ⟨o',e1⟩:=I.base.there b o e hx
   exact ⟨o',(hs.2 b (zcl (zaX (zct e) I.ok.above))).trans e1⟩
  ·by_cases hj:j=i
   ·subst hj
    rw [hi] at e1;cases e1
    rw [List.getElem?_set_self hiσ] at e2
    cases e2
    exact ⟨u,r,.inl ⟨hk,by simp⟩⟩
   ·rw [zaC (Ne.symm hj)] at e2
    obtain ⟨u',r',q⟩:=hl j y v' e1 e2 e3
    refine ⟨u',r',?_⟩
    rcases q with ⟨k,e⟩ | ⟨k,c,e,z⟩
    ·refine .inl ⟨k,?_⟩
     have:y≠x:=fun e=>hj (su hN e1 (e ▸ hi))
     simp [this,e]
    ·exact .inr ⟨k,c,e,z.sameBut hs (IS y c e)⟩
  ·obtain ⟨w',z⟩:=I.cell y c e
   exact ⟨w',z.sameBut hs (IS y c e)⟩
  ·obtain ⟨e,n,ne,nf,d⟩:=I.pin p hp
   exact ⟨(hs.2 p.1 ne).trans e,n,ne,nf,d⟩
 ·have hfn:X.fn x=true:=by
   rcases hf with z | z
   ·exact z
   ·rw [z] at hk;cases hk
  obtain ⟨c,hc⟩:=I.ok.has x (.inl hk)
  obtain ⟨w',z⟩:=I.cell x c hc
  refine wpAny_storeName_cell I.ok.kind hk hc z (fun h' hc' hs => ?_)
  obtain ⟨oc,hoc,hocd⟩:=id z
  refine h { s with heap:=h' } ⟨I.ok,I.os,I.bare,⟨fun b o e n hb hx => ?_,fun b o e n hb hx => ?_,I.base.free,fun b o e hx => ?_,I.base.tups,I.base.oi,I.base.pR⟩,⟨m,hn.sameBut hs (Ne.symm (IS x c hc)),fun j y v' e1 e2 e3 => ?_⟩,fun y c' e => ?_,I.free,I.gD,fun p hp => ?_,tracked ⟨oc,hoc,I.gD x c hc⟩ hs,by simpa using I.len⟩ ⟨c,hs,.inr hc⟩
  ·exact (hs.2 b (zcl (zaX (zct e) (I.ok.KQ x c hfn hc)))).trans (I.base.keep b o e n hb hx)
  ·obtain ⟨sl,e1⟩:=I.base.slot b o e n hb hx
   exact ⟨sl,(hs.2 b (zcl (zaX (zct e) (I.ok.KQ x c hfn hc)))).trans e1⟩
  ·obtain ⟨o',e1⟩:=I.base.there b o e hx
   exact ⟨o',(hs.2 b (zcl (zaX (zct e) (I.ok.KQ x c hfn hc)))).trans e1⟩
  ·by_cases hj:j=i
   ·subst hj
    rw [hi] at e1;cases e1
    rw [List.getElem?_set_self hiσ] at e2
    cases e2
    exact ⟨u,r,.inr ⟨.inl hk,c,hc,hc'⟩⟩
   ·rw [zaC (Ne.symm hj)] at e2
    obtain ⟨u',r',q⟩:=hl j y v' e1 e2 e3
    refine ⟨u',r',?_⟩
    rcases q with q | ⟨k,c',e,z'⟩
    ·exact .inl q
    ·refine .inr ⟨k,c',e,z'.sameBut hs ?_⟩
     rintro rfl
     exact hj (su hN e1 (I.ok.inj _ _ _ e hc ▸ hi))
  ·by_cases hcc:c'=c
   ·subst hcc;exact ⟨_,hc'⟩
   ·obtain ⟨w2,z2⟩:=I.cell y c' e
    exact ⟨w2,z2.sameBut hs hcc⟩
  ·obtain ⟨e,n,ne,nf,d⟩:=I.pin p hp
   refine ⟨(hs.2 p.1 ?_).trans e,n,ne,nf,d⟩
   intro q
   rw [q,hoc] at e
   have q':oc=p.2:=zcB.inj e
   exact d w' (by rw [← q'];exact hocd)
theorem mh {M:Model}{A:Around}{E:Value→Shared→Prop}{i:Nat}{x:Str}{v:V}{u:Value}{Q:Unit→Shared→Prop} (I:Inv X pins σ H s) (hN:X.N.Nodup) (hi:X.N[i]? = some x) (hx:Loc X.env.scope x) (r:RelV v u)
  (h:∀ s',Inv X pins (σ.set i (some v)) H s'→Q () s') (hf:X.fn x=true∨X.env.scope.names.lookup x=some .local:=by first | exact .inl rfl | exact .inr rfl | assumption):wpAny M A (storeName X.env x u) Q E s :=
 yx I hN hi hx r (fun s' I' _=>h s' I') hf
theorem Inv.KP {s':Shared}{ch:List Addr} (I:Inv X pins σ H s) (ho:s'.os=s.os) (u:Un (frs X.stack) ch H H' s.heap s'.heap) (hok:iI X.prog X.w H' s'.heap) (hg:AllBare s'.gens)
  (hch:∀ b∈ch,(b∈X.ex∨X.s₀.heap.objs.size≤b)∧b≠X.env.locals∧(∀ x c,X.env.cells.lookup x=some c→c≠b)∧∀ p∈X.pn++pins,p.1≠b):Inv X pins σ H' s':=by
 obtain ⟨h',g',d',t',o'⟩:=s'
 have e:o'=s.os:=ho
 subst e
 exact I.call (g':=g') (t':=t') (d':=d') u hok hg hch
end
noncomputable abbrev XK:=Value→Option Addr→Hp→Prop
noncomputable abbrev St:=List (Option V)
noncomputable abbrev VK:=V→Hp→Prop
noncomputable abbrev TE:=St→Hp→VK→Prop
noncomputable abbrev TT:=St→Hp→(Bool→Hp→Prop)→Prop
noncomputable abbrev TA:=St→Hp→(List V→Hp→Prop)→Prop
structure Ends where
 nx:St→Hp→Prop
 rt:VK
 bk:St→Hp→Prop:=fun _ _=>False
 ct:St→Hp→Prop:=fun _ _=>False
noncomputable abbrev TS:=Ends→St→Hp→Prop
noncomputable def EP (X:Cx) (pins:List (Addr×Obj)) (σ:St) (Q:VK) (u:Value) (s':Shared):Prop:=∃ v H',Inv X pins σ H' s'∧RelV v u∧Q v H'
noncomputable def TP (X:Cx) (pins:List (Addr×Obj)) (σ:St) (Q:Bool→Hp→Prop) (b:Bool) (s':Shared):Prop:=∃ H',Inv X pins σ H' s'∧Q b H'
noncomputable def AP (X:Cx) (pins:List (Addr×Obj)) (σ:St) (Q:List V→Hp→Prop) (us:List Value) (s':Shared):Prop:=∃ vs H',Inv X pins σ H' s'∧Vals vs us∧Q vs H'
noncomputable def SP (X:Cx) (pins:List (Addr×Obj)) (D:Ends) (f:Flow) (s':Shared):Prop :=
 match f with
 | .next=>∃ σ' H',Inv X pins σ' H' s'∧D.nx σ' H'
 | .brk=>∃ σ' H',Inv X pins σ' H' s'∧D.bk σ' H'
 | .cont=>∃ σ' H',Inv X pins σ' H' s'∧D.ct σ' H'
 | .ret u=>∃ v σ' H',Inv X pins σ' H' s'∧RelV v u∧D.rt v H'
noncomputable def PE (X:Cx) (e:Expr) (t:TE):Prop :=
 ∀ (pins:List (Addr×Obj)) (s:Shared) (σ:St) (H:Hp) (Q:VK),Inv X pins σ H s→t σ H Q→wpAny (model X.prog X.w) X.A (eval e X.env) (EP X pins σ Q) X.xe s
noncomputable def PT (X:Cx) (e:Expr) (t:TT):Prop :=
 ∀ (pins:List (Addr×Obj)) (s:Shared) (σ:St) (H:Hp) (Q:Bool→Hp→Prop),Inv X pins σ H s→t σ H Q→wpAny (model X.prog X.w) X.A (isTrue e X.env (eval e X.env)) (TP X pins σ Q) X.xe s
noncomputable def PW (X:Cx) (e:Expr) (t:TT):Prop :=
 ∀ (whole:Sem Value) (pins:List (Addr×Obj)) (s:Shared) (σ:St) (H:Hp) (Q:Bool→Hp→Prop),Inv X pins σ H s→t σ H Q→wpAny (model X.prog X.w) X.A (isTrue e X.env whole) (TP X pins σ Q) X.xe s
theorem PW.pt {X:Cx}{e:Expr}{t:TT} (h:PW X e t):PT X e t:=h _
noncomputable def PA (X:Cx) (es:List Expr) (t:TA):Prop :=
 ∀ (pos:Pos) (pins:List (Addr×Obj)) (s:Shared) (σ:St) (H:Hp) (Q:List V→Hp→Prop),Inv X pins σ H s→t σ H Q→wpAny (model X.prog X.w) X.A (spliced (backTo pos (starEach es X.env))) (AP X pins σ Q) X.xe s
noncomputable def PS (X:Cx) (st:Stmt) (t:TS):Prop :=
 ∀ (pins:List (Addr×Obj)) (s:Shared) (σ:St) (H:Hp) (D:Ends),Inv X pins σ H s→t D σ H→wpAny (model X.prog X.w) X.A (exec st X.env) (SP X pins D) X.xe s
noncomputable def tT (X:Cx) (st:List Stmt) (t:TS):Prop :=
 ∀ (pins:List (Addr×Obj)) (s:Shared) (σ:St) (H:Hp) (D:Ends),Inv X pins σ H s→t D σ H→wpAny (model X.prog X.w) X.A (execs st X.env) (SP X pins D) X.xe s
theorem cF {α:Type}{t:Sem α}{Q Q':α→Shared→Prop}{M:Model}{A:Around}{E:Value→Shared→Prop}{s:Shared} (h:wpAny M A t Q E s) (hQ:∀ a s,Q a s→Q' a s):wpAny M A t Q' E s:=wpAny_mono h hQ fun _ _ x=>x
section
variable {X:Cx}
noncomputable def l7 (i:Nat):TE:=fun σ H Q=>∃ v,σ[i]? = some (some v)∧Q v H
noncomputable def tC (v:V):TE:=fun _ H Q=>Q v H
theorem A8 {i:Nat}{x:Str}{pos:Pos} (hN:X.N[i]? = some x) (hv:K6 X.env.scope x) (hd:(x==("__debug__" : Str))=false:=by decide) (hcd:(x==("__classdict__" : Str))=false:=by decide):PE X (.Name x pos) (l7 i):=by
 intro pins s σ H Q I h
 obtain ⟨v,e,h⟩:=h
 obtain ⟨m,hn,hl⟩:=I.loc
 obtain ⟨u,r,l⟩:=hl i x v hN e hv
 have fin:EP X pins σ Q u s:=⟨v,H,I,r,h⟩
 rcases l with ⟨hk,hm⟩ | ⟨hk,c,hc,hcell⟩
 ·exact wpAny_Name (wpAny_loadName_local I.ok.kind hk hn hm fin) hd
 ·rcases hk with hk | hk
  ·exact wpAny_Name (wpAny_loadName_cell I.ok.kind hk hc hcell fin) hd
  ·exact wpAny_Name (wpAny_loadName_free I.ok.kind hk hc hcell fin hcd) hd
theorem ah {i j pos}:PE X (.Constant (.int i) j pos) (tC (.int i)):=fun _ _ _ H _ I h=>wpAny_Constant_int ⟨.int i,H,I.tok _,⟨_,rfl⟩,h⟩
theorem d9 {b j pos}:PE X (.Constant (.bool b) j pos) (tC (.bl b)):=fun _ _ _ H _ I h=>Constant_bool ⟨.bl b,H,I,rfl,h⟩
theorem m7 {j pos}:PE X (.Constant .none j pos) (tC .bN):=fun _ _ _ H _ I h=>Constant_none ⟨.bN,H,I,rfl,h⟩
theorem aL {x j pos}:PE X (.Constant (.str x) j pos) (tC (.str x)):=fun _ _ _ H _ I h=>Calls.Constant_str ⟨.str x,H,I.tok _,⟨_,rfl⟩,h⟩
noncomputable def Gl (X:Cx) (x:Str):Prop:=X.env.kindOf x=some .globalImplicit
theorem qJ {E:Value→Shared→Prop}{pins:List (Addr×Obj)}{s:Shared}{σ:St}{H:Hp}{x:Str}{u:Value}{pos:Pos}{Q:Value→Shared→Prop} (I:Inv X pins σ H s) (hg:Gl X x) (hm:X.mg x=some u) (h:Q u s)
  (hd:(x==("__debug__" : Str))=false:=by decide):wpAny (model X.prog X.w) X.A (eval (.Name x pos) X.env) Q E s :=
 Calls.Name_function_global I.ok.kind hg (Calls.loadGlobal_global (by rw [I.ok.glob];exact I.mod.glob.keeps I.bk) hm h) hd
theorem vg {E:Value→Shared→Prop}{pins:List (Addr×Obj)}{s:Shared}{σ:St}{H:Hp}{x:Str}{u:Value}{pos:Pos}{Q:Value→Shared→Prop} (I:Inv X pins σ H s) (hg:Gl X x) (hm:X.mg x=none) (hv:bootBuiltins x=some u) (h:Q u s)
  (hn:x ≠ "__name__" := by decide) (hd:(x==("__debug__" : Str))=false:=by decide):wpAny (model X.prog X.w) X.A (eval (.Name x pos) X.env) Q E s:=by
 obtain ⟨mb,h1,h2⟩:=I.mod.blt
 exact Calls.Name_function_global I.ok.kind hg (Calls.loadGlobal_builtin (by rw [I.ok.glob];exact I.mod.glob.keeps I.bk) hm (by rw [I.ok.blt];exact h1.keeps I.bk) ((h2 x hn).trans hv) h) hd
theorem qt {x:Str}{v:V}{u:Value}{pos:Pos} (hg:Gl X x) (hm:X.mg x=some u) (r:RelV v u) (hd:(x==("__debug__" : Str))=false:=by decide):PE X (.Name x pos) (tC v) :=
 fun _ _ _ H _ I h=>qJ I hg hm ⟨v,H,I,r,h⟩ hd
variable {a b:Expr}{ta tb:TE}{pos:Pos}
noncomputable def tB (t:TE):TT:=fun σ H Q=>t σ H fun x H1=>∃ c,x = .bl c∧Q c H1
variable {tA tB':TT}{rest:List Expr}
noncomputable def JE (t u:TT):TT:=fun σ H Q=>t σ H fun c H1=>if c=true then u σ H1 Q else Q false H1
noncomputable def JC (t:TT):TT:=fun σ H Q=>t σ H fun c H1=>Q (!c) H1
theorem pw_and1 (ha:PT X a tA):PW X (.BoolOp .And [a] pos) tA:=by
 intro wh pins s σ H Q I h
 refine isTrue_and (cF (ha pins s σ H Q I h) fun c s1 e => ?_)
 cases c with
 | true=>exact isTrue_and_nil e
 | false=>exact e
theorem pw_and (ha:PT X a tA) (hb:PW X (.BoolOp .And (b::rest) pos) tB'):PW X (.BoolOp .And (a::b::rest) pos) (JE tA tB'):=by
 intro wh pins s σ H Q I h
 refine isTrue_and (cF (ha pins s σ H _ I h) fun c s1 ⟨H1,I1,q1⟩ => ?_)
 cases c with
 | true=>exact hb wh pins s1 σ H1 Q I1 q1
 | false=>exact ⟨H1,I1,q1⟩
theorem qo (ha:PT X a tA):PT X (.UnaryOp .Not a pos) (JC tA):=by
 intro pins s σ H Q I h
 exact isTrue_not (ha pins s σ H (fun c H1=>Q (!c) H1) I h)
end
noncomputable def dh (K:PySem.W.Frag) (H:Hp) (a:Addr) (xs:List V):Prop :=
 Rd H a (.lst xs) ∨
  ∃ (o:Obj) (its:Array Value) (n:Nat),K.lookup a=some o∧o.cls = .type "list" ∧ o.dict=none∧o.data = .seq its n∧its.size≤sizeLine∧Vals xs its.toList
noncomputable def eX (K:PySem.W.Frag) (H:Hp) (a:Addr) (xs:List V):Prop :=
 Rd H a (.tup xs) ∨
  ∃ (o:Obj) (its:Array Value) (n:Nat),K.lookup a=some o∧o.cls = .type "tuple" ∧ o.data = .seq its n∧its.size≤sizeLine∧Vals xs its.toList
noncomputable def Mz:Value→Option V
 | .none=>some .bN
 | .bool b=>some (.bl b)
 | .int i _=>some (.int i)
 | .str x _=>some (.str x)
 | .bytes b _=>some (.uh b)
 | .float b _=>some (.Lu b)
 | .ref a=>some (.ref a)
 | .type n=>some (.ty n)
 | _=>none
theorem RelV.abs {x:V}{u:Value} (r:RelV x u):Mz u=some x:=by
 cases x with
 | bN=>cases r;rfl
 | bl _=>cases r;rfl
 | int _=>obtain ⟨t,rfl⟩:=r;rfl
 | str _=>obtain ⟨t,rfl⟩:=r;rfl
 | uh _=>obtain ⟨t,rfl⟩:=r;rfl
 | Lu _=>obtain ⟨t,rfl⟩:=r;rfl
 | ref _=>cases r;rfl
 | ty _=>cases r;rfl
theorem RelV.inj {x y:V}{u:Value} (r:RelV x u) (q:RelV y u):x=y:=zcB.inj (r.abs.symm.trans q.abs)
theorem Vals.inj:∀ {xs ys:List V}{us:List Value},Vals xs us→Vals ys us→xs=ys
 | _,_,_,.nil,.nil=>rfl
 | _,_,_,.cons r t,.cons r' t'=>by rw [r.inj r',Vals.inj t t']
section
variable {X:Cx}{pins:List (Addr×Obj)}{σ:St}{H:Hp}{s:Shared}{a:Addr}{xs ys:List V}
theorem dh.of {K:PySem.W.Frag} (h:H a=some (.lst xs)):dh K H a xs:=.inl (.inl h)
theorem eX.of {K:PySem.W.Frag} (h:H a=some (.tup xs)):eX K H a xs:=.inl (.inl h)
theorem Inv.list (I:Inv X pins σ H s) (h:dh X.K H a xs):∃ its:List Value,Vals xs its∧PlainL s.heap a its.toArray∧xs.length≤sizeLine:=by
 rcases h with h | ⟨o,its,n,hk,hc,hd,hs,hz,r⟩
 ·obtain ⟨z,its,n,r,e⟩:=h.ok I.hok
  exact ⟨its,r,⟨_,n,e,rfl,rfl,rfl⟩,z⟩
 ·refine ⟨its.toList,r,⟨o,n,I.xG a o hk,hc,hd,by simpa using hs⟩,?_⟩
  have e:=r.length
  simp only [zaO] at e
  omega
theorem Inv.tuple (I:Inv X pins σ H s) (h:eX X.K H a xs):∃ its:List Value,Vals xs its∧IsTup s.heap a its.toArray∧xs.length≤sizeLine:=by
 rcases h with h | ⟨o,its,n,hk,hc,hs,hz,r⟩
 ·obtain ⟨z,its,r,p⟩:=h.ok I.hok
  exact ⟨its,r,p,z⟩
 ·refine ⟨its.toList,r,⟨o,I.xG a o hk,hc,n,by simpa using hs⟩,?_⟩
  have e:=r.length
  simp only [zaO] at e
  omega
theorem Inv.Bv (I:Inv X pins σ H s) (h:dh X.K H a xs) (h':dh X.K H a ys):xs=ys:=by
 obtain ⟨its,r,⟨o,n,e,_,_,d⟩,_⟩:=I.list h
 obtain ⟨its',r',⟨o',n',e',_,_,d'⟩,_⟩:=I.list h'
 rw [e] at e';cases e'
 rw [d] at d'
 injection d' with d1 _
 have:its=its':=by simpa using congrArg Array.toList d1
 subst this
 exact r.inj r'
theorem Inv.yw (I:Inv X pins σ H s) (h:eX X.K H a xs) (h':eX X.K H a ys):xs=ys:=by
 obtain ⟨its,r,⟨o,e,_,n,d⟩,_⟩:=I.tuple h
 obtain ⟨its',r',⟨o',e',_,n',d'⟩,_⟩:=I.tuple h'
 rw [e] at e';cases e'
 rw [d] at d'
 injection d' with d1 _
 have:its=its':=by simpa using congrArg Array.toList d1
 subst this
 exact r.inj r'
end
noncomputable abbrev Cx.nW (X:Cx) (E:Value→Shared→Prop):Cx:={ X with xe:=E }
noncomputable abbrev Cx.Df (X:Cx):Cx:=X.nW fun _ _=>False
theorem Cx.Ok.nW {X:Cx} (ok:X.Ok) (E:Value→Shared→Prop):(X.nW E).Ok :=
 ⟨ok.mod,ok.kind,ok.glob,ok.blt,ok.above,ok.inj,ok.has,ok.KQ,ok.hd,ok.frames,ok.stk,ok.Ms,ok.bs,ok.EY,ok.Bl,ok.Ez,ok.lg,ok.Il⟩
theorem Cx.Ok.gj {X:Cx}{E:Value→Shared→Prop} (ok:(X.nW E).Ok):X.Ok :=
 ⟨ok.mod,ok.kind,ok.glob,ok.blt,ok.above,ok.inj,ok.has,ok.KQ,ok.hd,ok.frames,ok.stk,ok.Ms,ok.bs,ok.EY,ok.Bl,ok.Ez,ok.lg,ok.Il⟩
section
variable {X:Cx}{pins:List (Addr×Obj)}{σ:St}{H:Hp}{s:Shared}{E:Value→Shared→Prop}
theorem Inv.nW (I:Inv X pins σ H s) (E:Value→Shared→Prop):Inv (X.nW E) pins σ H s:=⟨I.ok.nW E,I.os,I.bare,I.base,I.loc,I.cell,I.free,I.gD,I.pin,I.hok,I.len⟩
theorem Inv.gj (I:Inv (X.nW E) pins σ H s):Inv X pins σ H s:=⟨I.ok.gj,I.os,I.bare,I.base,I.loc,I.cell,I.free,I.gD,I.pin,I.hok,I.len⟩
theorem SP.gj {D:Ends}{f:Flow}{s':Shared} (h:SP (X.nW E) pins D f s'):SP X pins D f s':=by
 cases f with
 | next=>obtain ⟨σ',H',I,q⟩:=h;exact ⟨σ',H',I.gj,q⟩
 | brk=>obtain ⟨σ',H',I,q⟩:=h;exact ⟨σ',H',I.gj,q⟩
 | cont=>obtain ⟨σ',H',I,q⟩:=h;exact ⟨σ',H',I.gj,q⟩
 | ret u=>obtain ⟨v,σ',H',I,r,q⟩:=h;exact ⟨v,σ',H',I.gj,r,q⟩
theorem tT.Df {st:List Stmt}{t:TS} (h:tT X.Df st t):tT X st t:=fun pins s σ H D I hw =>
 wpAny_mono (h pins s σ H D (I.nW _) hw) (fun _ _ q=>q.gj) fun _ _ z=>False.elim z
end
section
variable {X:Cx}{st:Stmt}{rest:List Stmt}{t u:TS}{e:Expr}{te:TE}{pos:Pos}
noncomputable def Ab:TS:=fun D σ H=>D.nx σ H
noncomputable def Dy (t u:TS):TS:=fun D σ H=>t { D with nx:=u D } σ H
theorem aQ:tT X [] Ab:=fun _ _ σ H _ I h=>wpAny_execs_nil ⟨σ,H,I,h⟩
theorem af (h1:PS X st t) (h2:tT X rest u):tT X (st::rest) (Dy t u):=by
 intro pins s σ H D I h
 refine wpAny_execs_cons (cF (h1 pins s σ H { D with nx:=u D } I h) fun f s1 q => ?_)
 cases f with
 | next =>
  obtain ⟨σ',H',I',q⟩:=q
  exact h2 pins s1 σ' H' D I' q
 | ret v=>exact q
 | brk=>exact q
 | cont=>exact q
theorem aj (h1:PS X st t):tT X [st] t:=by
 intro pins s σ H D I h
 refine wpAny_execs_cons (cF (h1 pins s σ H D I h) fun f s1 q => ?_)
 cases f with
 | next=>exact wpAny_execs_nil q
 | ret v=>exact q
 | brk=>exact q
 | cont=>exact q
theorem Inv.quiet {pins:List (Addr×Obj)}{σ:St}{H:Hp}{s:Shared} (I:Inv X pins σ H s):interactive X.env=false:=by simp [interactive,I.ok.kind]
noncomputable def Ae (te:TE):TS:=fun D σ H=>te σ H fun _ H1=>D.nx σ H1
theorem aE (he:PE X e te) (hs:swapsWith e none pos.line X.env=pure false:=by rfl):PS X (.Expr e pos) (Ae te):=by
 intro pins s σ H D I h
 exact wpAny_Expr_any (cF (he pins s σ H _ I h) fun v s1 ⟨x,H1,I1,r1,q1⟩=>⟨σ,H1,I1,q1⟩) I.quiet hs
noncomputable def z9 (te:TE):TS:=fun D σ H=>te σ H D.rt
theorem aV (he:PE X e te):PS X (.Return (some e) pos) (z9 te):=by
 intro pins s σ H D I h
 exact wpAny_Return_some (cF (he pins s σ H _ I h) fun v s1 ⟨x,H1,I1,r1,q1⟩=>⟨x,σ,H1,I1,r1,q1⟩)
noncomputable def Gp (c:TT) (t u:TS):TS:=fun D σ H=>c σ H fun b H1=>if b=true then t D σ H1 else u D σ H1
theorem bG {c:Expr}{a b:List Stmt}{tc:TT} (hc:PT X c tc) (ha:tT X a t) (hb:tT X b u):PS X (.If c a b pos) (Gp tc t u):=by
 intro pins s σ H D I h
 refine wpAny_If (cF (hc pins s σ H _ I h) fun d s1 ⟨H1,I1,q1⟩ => ?_)
 cases d with
 | true=>exact ha pins s1 σ H1 D I1 q1
 | false=>exact hb pins s1 σ H1 D I1 q1
noncomputable def Gm:TS:=fun _ _ _=>False
theorem cj:PS X st Gm:=fun _ _ _ _ _ _ h=>h.elim
end
noncomputable abbrev TG:=V→St→Hp→(St→Hp→Prop)→Prop
noncomputable abbrev Fg:=List V→St→Hp→(St→Hp→Prop)→Prop
noncomputable def PG (X:Cx) (target:Expr) (t:TG):Prop :=
 ∀ (pins:List (Addr×Obj)) (s:Shared) (σ:St) (H:Hp) (v:V) (u:Value) (Q:St→Hp→Prop),Inv X pins σ H s→RelV v u→t v σ H Q →
  wpAny (model X.prog X.w) X.A (assign target X.env u) (fun _ s'=>∃ σ' H',Inv X pins σ' H' s'∧Q σ' H') X.xe s
noncomputable def Jp (X:Cx) (ts:List Expr) (t:Fg):Prop :=
 ∀ (pins:List (Addr×Obj)) (s:Shared) (σ:St) (H:Hp) (vs:List V) (us:List Value) (Q:St→Hp→Prop),Inv X pins σ H s→Vals vs us→t vs σ H Q →
  wpAny (model X.prog X.w) X.A (assignInOrder ((assignEach ts X.env).map (·.2)) us) (fun _ s'=>∃ σ' H',Inv X pins σ' H' s'∧Q σ' H') X.xe s
noncomputable abbrev Jm:=V→V→V→Hp→(Hp→Prop)→Prop
noncomputable def K8 (X:Cx) (t:Jm):Prop :=
 ∀ (pins:List (Addr×Obj)) (s:Shared) (σ:St) (H:Hp) (o i v:V) (ov iv u:Value) (Q:Hp→Prop),Inv X pins σ H s→RelV o ov→RelV i iv→RelV v u→t o i v H Q →
  wpAny (model X.prog X.w) X.A (setItem ov iv u) (fun _ s'=>∃ H',Inv X pins σ H' s'∧Q H') X.xe s
section
variable {X:Cx}{pos:Pos}
noncomputable def kP (i:Nat):TG:=fun v σ H Q=>Q (σ.set i (some v)) H
theorem aq {i:Nat}{x:Str} (hN:X.N.Nodup) (hi:X.N[i]? = some x) (hx:Loc X.env.scope x) (hf:X.fn x=true∨X.env.scope.names.lookup x=some .local:=by first | exact .inl rfl | exact .inr rfl | assumption):PG X (.Name x pos) (kP i):=by
 intro pins s σ H v u Q I r h
 exact wpAny_assign_Name (mh I hN hi hx r (fun s' I'=>⟨_,H,I',h⟩) hf)
noncomputable def Kz:Fg:=fun vs σ H Q=>vs=[]∧Q σ H
noncomputable def F0 (t:TG) (u:Fg):Fg:=fun vs σ H Q=>∃ v r,vs=v::r∧t v σ H fun σ' H'=>u r σ' H' Q
theorem dQ:Jp X [] Kz:=by
 intro pins s σ H vs us Q I r h
 obtain ⟨e,h⟩:=h
 subst e
 cases r
 exact assignInOrder_nil ⟨σ,H,I,h⟩
theorem aY {e:Expr}{es:List Expr}{t:TG}{u:Fg} (h1:PG X e t) (h2:Jp X es u)
  (hs:(assignEach (e::es) X.env).map (·.2)=assign e X.env::(assignEach es X.env).map (·.2):=by rfl):Jp X (e::es) (F0 t u):=by
 intro pins s σ H vs us Q I r h
 obtain ⟨v,vr,e1,h⟩:=h
 subst e1
 cases r with
 | cons r rr =>
  rw [hs]
  refine assignInOrder_cons (cF (h1 pins s σ H _ _ _ I r h) fun _ s1 ⟨σ1,H1,I1,q1⟩ => ?_)
  exact h2 pins s1 σ1 H1 _ _ Q I1 rr q1
noncomputable def Kw (K:PySem.W.Frag) (n:Nat) (t:Fg):TG:=fun v σ H Q=>∃ a xs,v = .ref a∧eX K H a xs∧xs.length=n∧t xs σ H Q
theorem fu {es:List Expr}{k:Nat}{t:Fg}{n:Nat} (hc:X.calm=true) (h:Jp X es t)
  (hn:(assignEach es X.env).length=n:=by rfl) (hst:(assignEach es X.env).findIdx? (·.1)=none:=by rfl):PG X (.Tuple es k pos) (Kw X.K n t):=by
 intro pins s σ H v u Q I r hw
 obtain ⟨a,xs,e1,hq,hl,hw⟩:=hw
 subst e1
 cases r
 obtain ⟨its,rv,ht,hz⟩:=I.tuple hq
 refine assign_Tuple_tuple (I.ok.hd hc) ht (by simp [hn,← hl,rv.length]) hst fun h' hx => ?_
 have I1:Inv X pins σ H { s with heap:=h' }:=I.kept (t':=s.toks) fun b o e=>hx b o (zcl (zct e)) e
 exact h pins _ σ H xs _ Q I1 (by simpa using rv) hw
noncomputable def Ky (to ti:TE) (t:Jm):TG:=fun v σ H Q=>to σ H fun o H1=>ti σ H1 fun i H2=>t o i v H2 fun H3=>Q σ H3
theorem Hy {o i:Expr}{to ti:TE}{t:Jm} (ho:PE X o to) (hi:PE X i ti) (hs:K8 X t)
  (ha:∀ v,assign (.Subscript o i pos) X.env v=(do
   let ov ← holding [v] (eval o X.env)
   let iv ← holding [v,ov] (eval i X.env)
   standAt pos
   holding [v,ov,iv] (setItem ov iv v)
   release [v,ov,iv] []):=by intro _;rfl):PG X (.Subscript o i pos) (Ky to ti t):=by
 intro pins s σ H v u Q I r h
 rw [ha]
 refine wpAny_bind (wpAny_holding (cF (ho pins s σ H _ I h) fun ov s1 ⟨x,H1,I1,r1,q1⟩ => ?_))
 refine wpAny_bind (wpAny_holding (cF (hi pins s1 σ H1 _ I1 q1) fun iv s2 ⟨y,H2,I2,r2,q2⟩ => ?_))
 refine wpAny_bind (wpAny_standAt (wpAny_bind (wpAny_holding (cF (hs pins s2 σ H2 x y v ov iv u _ I2 r1 r2 r q2) fun _ s3 ⟨H3,I3,q3⟩ => ?_))))
 exact wpAny_release ⟨σ,H3,I3,q3⟩
noncomputable def uv (te:TE) (g:TG):TS:=fun D σ H=>te σ H fun x H1=>g x σ H1 D.nx
theorem qp {tg e:Expr}{te:TE}{g:TG} (he:PE X e te) (hg:PG X tg g) (hs:swapsWithSole [tg] e pos.line X.env=pure false:=by rfl) (hw:swappedStores [tg] e X.env=pure none:=by rfl)
  (h1:(assignEach [tg] X.env).map (·.2)=[assign tg X.env]:=by rfl):PS X (.Assign [tg] e pos) (uv te g):=by
 intro pins s σ H D I h
 refine wpAny_Assign_stores (cF (he pins s σ H _ I h) fun v s1 ⟨x,H1,I1,r1,q1⟩ => ?_) hs hw
 rw [h1]
 exact cF (hg pins s1 σ H1 x v _ I1 r1 q1) fun _ s2 q=>q
theorem aD {i:Nat}{x:Str}{e:Expr}{te:TE}{pos':Pos} (hN:X.N.Nodup) (hi:X.N[i]? = some x) (hx:Loc X.env.scope x) (he:PE X e te) (hs:swapsWith e (some (.Name x pos')) pos.line X.env=pure false:=by rfl) (hf:X.fn x=true∨X.env.scope.names.lookup x=some .local:=by first | exact .inl rfl | exact .inr rfl | assumption) :
  PS X (.Assign [.Name x pos'] e pos) (uv te (kP i)):=by
 intro pins s σ H D I h
 refine wpAny_Assign_Name (cF (he pins s σ H _ I h) fun v s1 ⟨y,H1,I1,r1,q1⟩ => ?_) hs
 exact mh I1 hN hi hx r1 (fun s2 I2=>⟨_,H1,I2,q1⟩) hf
end
structure It where
 go:Nat→Hp→Prop
 zQ:Nat→Hp→V→Hp→Prop
 stop:Nat→Hp→Prop
noncomputable def lD (X:Cx) (pins:List (Addr×Obj)) (H:Hp) (b:Addr):Prop :=
 H b=none∧b≠X.env.locals∧b ∉ X.fs∧(b∈X.ex∨X.s₀.heap.objs.size≤b)∧(∀ x c,X.env.cells.lookup x=some c→c≠b)∧∀ p∈X.pn++pins,p.1≠b
theorem Inv.zb {X:Cx}{pins:List (Addr×Obj)}{σ:St}{H H':Hp}{s:Shared}{b:Addr} (I:Inv X pins σ H s) (hb:s.heap.objs.size≤b) (hn:H' b=none):lD X pins H' b:=by
 refine ⟨hn,Nat.ne_of_gt (zaX I.lt hb),I.Ke hb,.inr (zcm I.sz hb),fun x c e z => ?_,fun p hp z => ?_⟩
 ·obtain ⟨v,q⟩:=I.cell x c e
  exact absurd (zaX q.lt (by rw [z];exact hb)) (zce _)
 ·exact absurd (zaX (zct (I.pin p hp).1) (by rw [z];exact hb)) (zce _)
structure Turn (P:Program) (w:World) (K:PySem.W.Frag) (tg:Expr) (J:It) (fp:List Addr) (it:Addr) (tn:Nat→Heap→Prop):Prop where
 mem:it∈fp
 obj:∀ i h,tn i h→∀ b∈fp,∃ o,h.get? b=some o∧∀ v,o.data ≠ .cell v
 keep:∀ i h h',tn i h→(∀ b∈fp,∀ o,h.get? b=some o→h'.get? b=some o)→tn i h'
 item:∀ (X:Cx),X.prog=P→X.w=w→X.K=K→X.calm=true→∀ (i:Nat) (pins:List (Addr×Obj)) (s:Shared) (σ:St) (H:Hp) (E:Value→Shared→Prop),Inv X pins σ H s→(∀ b∈fp,lD X pins H b)→tn i s.heap→J.go i H →
  wpAny (model P w) X.A (pyNext (.ref it)) (fun r s1=>∃ u,r=some u ∧
   wpAny (model P w) X.A (letOwnedTupleGo tg (.ref it) u) (fun _ s2=>∃ x H',Inv X pins σ H' s2∧RelV x u∧J.zQ i H x H'∧tn (i+1) s2.heap∧∀ b∈fp,H' b=none) E s1) E s
 done:∀ (X:Cx),X.prog=P→X.w=w→X.K=K→X.calm=true→∀ (i:Nat) (pins:List (Addr×Obj)) (s:Shared) (σ:St) (H:Hp) (E:Value→Shared→Prop),Inv X pins σ H s→(∀ b∈fp,lD X pins H b)→tn i s.heap→J.stop i H →
  wpAny (model P w) X.A (pyNext (.ref it)) (fun r s1=>r=none∧Inv X pins σ H s1) E s
 self:∀ (A:Around) (i:Nat) (s:Shared) (Q:Value→Shared→Prop) (E:Value→Shared→Prop),tn i s.heap→Q (.ref it) s→wpAny (model P w) A (pyIter (.ref it)) Q E s
noncomputable abbrev TI:=St→Hp→(It→Hp→Prop)→Prop
noncomputable def MZ (X:Cx) (pins:List (Addr×Obj)) (σ:St) (tg:Expr) (R:It→Hp→Prop) (itv:Value) (s2:Shared):Prop :=
 ∃ (it:Addr) (fp:List Addr) (tn:Nat→Heap→Prop) (J:It) (H':Hp),itv = .ref it∧Inv X pins σ H' s2∧Turn X.prog X.w X.K tg J fp it tn∧tn 0 s2.heap∧(∀ b∈fp,lD X pins H' b)∧R J H'
noncomputable def PI (X:Cx) (tg iter:Expr) (wi:TI):Prop :=
 ∀ (pins:List (Addr×Obj)) (s:Shared) (σ:St) (H:Hp) (R:It→Hp→Prop),Inv X pins σ H s→wi σ H R →
  wpAny (model X.prog X.w) X.A (eval iter X.env) (fun v s1=>wpAny (model X.prog X.w) X.A (pyIter v) (MZ X pins σ tg R) X.xe s1) X.xe s
theorem xP {M:Model}{A:Around}{E:Value→Shared→Prop}{s:Shared}{tg:Expr}{it:Addr}{u:Value}{o:Obj}{n:String}{vs:Array Value}{Q:Unit→Shared→Prop} (ho:s.heap.get? it=some o) (hc:o.cls = .type n) (hd:o.data = .fields vs)
  (hn:["enumerate","zip","dict_itemiterator","dict_reverseitemiterator","odict_iterator","itertools.zip_longest","itertools.pairwise"].contains n=false) (hQ:Q () s):wpAny M A (letOwnedTupleGo tg (.ref it) u) Q E s:=by
 unfold letOwnedTupleGo
 cases tg <;> first
  | exact wpAny_pure hQ
  | (cases u <;> first
    | exact wpAny_pure hQ
    | (refine wpAny_bind (wpAny_load ho ?_);rw [hc,hd];show wpAny M A (if (["enumerate","zip","dict_itemiterator","dict_reverseitemiterator","odict_iterator","itertools.zip_longest","itertools.pairwise"].contains n&&vs[0]? == some (rawInt _))=true then _ else _) Q E s;rw [if_neg (by intro h;rw [hn,Bool.false_and] at h;cases h)];exact wpAny_pure hQ))
noncomputable def Lc (K:PySem.W.Frag) (a:Addr):It :=
 ⟨fun i H=>∃ xs x,dh K H a xs∧xs[i]? = some x,fun i H x H'=>H'=H∧∀ xs,dh K H a xs→xs[i]? = some x,fun i H=>∃ xs,dh K H a xs∧xs.length≤i⟩
noncomputable def LC (K:PySem.W.Frag) (a:Addr):It :=
 ⟨fun i H=>∃ xs x,eX K H a xs∧xs[i]? = some x,fun i H x H'=>H'=H∧∀ xs,eX K H a xs→xs[i]? = some x,fun i H=>∃ xs,eX K H a xs∧xs.length≤i⟩
noncomputable def Js (lo:Int) (n:Nat):It:=⟨fun i _=>i<n,fun i H x H'=>H'=H∧x = .int (lo+i),fun i _=>n≤i⟩
theorem yv {P:Program}{w:World}{K:PySem.W.Frag}{tg:Expr} (a it:Addr):Turn P w K tg (Lc K a) [it] it (fun i h=>h.IsListIter it a i) where
 mem:=by simp
 obj:=fun i h st b hb=>by
  have e:b=it:=by simpa using hb
  subst e
  obtain ⟨o,e,c,d⟩:=st
  exact ⟨o,e,fun v z=>by rw [d] at z;cases z⟩
 keep:=fun i h h' st k=>st.at fun o e=>k it (by simp) o e
 item:=by
  intro X hP hw hK hc i pins s σ H E I hf st hg
  subst hP hw hK
  obtain ⟨xs,x,hq,hx⟩:=hg
  obtain ⟨its,rv,p,hz⟩:=I.list hq
  obtain ⟨u,hu,ru⟩:=rv.get hx
  obtain ⟨f0,f1,f2,f3,f4,f5⟩:=hf it (by simp)
  refine wpAny_pyNext_list_item st p.isList (x:=u) (by simpa using hu) fun h' st' sb => ?_
  have I1:Inv X pins σ H { s with heap:=h' }:=I.turned (t':=s.toks) (fun b o hb e=>(sb.2 b hb).trans e) f0 f1 f3 f4 f5
  obtain ⟨o,e,c,d⟩:=id st'
  exact ⟨u,rfl,xP (s:={ s with heap:=h' }) e c d (by decide) ⟨x,H,I1,ru,⟨rfl,fun ys hy=>by rw [I.Bv hy hq];exact hx⟩,st',fun b hb=>(hf b hb).1⟩⟩
 done:=by
  intro X hP hw hK hc i pins s σ H E I hf st hg
  subst hP hw hK
  obtain ⟨xs,hq,hx⟩:=hg
  obtain ⟨its,rv,p,hz⟩:=I.list hq
  obtain ⟨f0,f1,f2,f3,f4,f5⟩:=hf it (by simp)
  have hl:=rv.length
  exact wpAny_pyNext_list_end (I.ok.hd hc) st p.isList (by simp;omega) fun h' eb=>⟨rfl,I.turned (t':=s.toks) (fun b o hb e=>eb b o hb e) f0 f1 f3 f4 f5⟩
 self:=fun _ _ _ _ _ st h=>wpAny_pyIter_listiter st h
theorem uq {P:Program}{w:World}{K:PySem.W.Frag}{tg:Expr} (a it:Addr):Turn P w K tg (LC K a) [it] it (fun i h=>h.IsTupleIter it a i) where
 mem:=by simp
 obj:=fun i h st b hb=>by
  have e:b=it:=by simpa using hb
  subst e
  obtain ⟨o,e,c,d⟩:=st
  exact ⟨o,e,fun v z=>by rw [d] at z;cases z⟩
 keep:=fun i h h' st k=>st.at fun o e=>k it (by simp) o e
 item:=by
  intro X hP hw hK hc i pins s σ H E I hf st hg
  subst hP hw hK
  obtain ⟨xs,x,hq,hx⟩:=hg
  obtain ⟨its,rv,p,hz⟩:=I.tuple hq
  obtain ⟨u,hu,ru⟩:=rv.get hx
  obtain ⟨f0,f1,f2,f3,f4,f5⟩:=hf it (by simp)
  refine wpAny_pyNext_tuple_item st (show s.heap.IsTuple a its.toArray from p) (x:=u) (by simpa using hu) fun h' st' sb => ?_
  have I1:Inv X pins σ H { s with heap:=h' }:=I.turned (t':=s.toks) (fun b o hb e=>(sb.2 b hb).trans e) f0 f1 f3 f4 f5
  obtain ⟨o,e,c,d⟩:=id st'
  exact ⟨u,rfl,xP (s:={ s with heap:=h' }) e c d (by decide) ⟨x,H,I1,ru,⟨rfl,fun ys hy=>by rw [I.yw hy hq];exact hx⟩,st',fun b hb=>(hf b hb).1⟩⟩
 done:=by
  intro X hP hw hK hc i pins s σ H E I hf st hg
  subst hP hw hK
  obtain ⟨xs,hq,hx⟩:=hg
  obtain ⟨its,rv,p,hz⟩:=I.tuple hq
  obtain ⟨f0,f1,f2,f3,f4,f5⟩:=hf it (by simp)
  have hl:=rv.length
  exact wpAny_pyNext_tuple_end (I.ok.hd hc) st (show s.heap.IsTuple a its.toArray from p) (by simp;omega) fun h' eb=>⟨rfl,I.turned (t':=s.toks) (fun b o hb e=>eb b o hb e) f0 f1 f3 f4 f5⟩
 self:=fun _ _ _ _ _ st h=>wpAny_pyIter_tupleiter st h
theorem ur {P:Program}{w:World}{K:PySem.W.Frag}{tg:Expr} (it:Addr) (lo:Int) (n:Nat):Turn P w K tg (Js lo n) [it] it (fun i h=>IsRangeIter h it (lo+(i:Nat)*1) ((n:Int) - (i:Nat)) 1) where
 mem:=by simp
 obj:=fun i h st b hb=>by
  have e:b=it:=by simpa using hb
  subst e
  exact ⟨_,st,fun v z=>by
   have z':Data.fields _=Data.cell v:=z
   cases z'⟩
 keep:=fun i h h' st k=>k it (by simp) _ st
 item:=by
  intro X hP hw hK hc i pins s σ H E I hf st hg
  subst hP hw hK
  obtain ⟨f0,f1,f2,f3,f4,f5⟩:=hf it (by simp)
  have W:=Walks.range (prog:=X.prog) (w:=X.w) (I.ok.hd hc) it lo 1 n
  refine W.item i s _ _ hg st fun v h' tk hv st' kk => ?_
  obtain ⟨t,rfl⟩:=hv
  have I1:Inv X pins σ H { s with heap:=h',toks:=tk }:=I.turned (fun b o hb e=>kk b o (by simpa using hb) e) f0 f1 f3 f4 f5
  refine ⟨_,rfl,xP (s:={ s with heap:=h',toks:=tk }) (n := "range_iterator") st' rfl rfl (by decide) ⟨.int (lo+i),H,I1,⟨t,?_⟩,⟨rfl,rfl⟩,st',fun b hb=>(hf b hb).1⟩⟩
  rw [Int.mul_one]
 done:=by
  intro X hP hw hK hc i pins s σ H E I hf st hg
  subst hP hw hK
  obtain ⟨f0,f1,f2,f3,f4,f5⟩:=hf it (by simp)
  exact wpAny_pyNext_range_end (I.ok.hd hc) st (by have:n≤i:=hg;omega) fun h' eb=>⟨rfl,I.turned (t':=s.toks) (fun b o hb e=>eb b o hb e) f0 f1 f3 f4 f5⟩
 self:=fun _ _ _ _ _ st h=>wpAny_pyIter_rangeiter st h
section
variable {X:Cx}{tg:Expr}
theorem AX {pins:List (Addr×Obj)}{σ:St}{H:Hp}{s:Shared}{R:It→Hp→Prop}{E:Value→Shared→Prop}{lo hi:Int}{t u v:Tok}{tk:Nat} (I:Inv X pins σ H s) (h1 : -(2 ^ 62)≤lo) (h2:lo<2 ^ 62) (h3 : -(2 ^ 62)≤hi) (h4:hi<2 ^ 62)
  (q:R (Js lo (hi - lo).toNat) H):wpAny (model X.prog X.w) X.A (pyIter (.ref s.heap.objs.size)) (MZ X pins σ tg R) E { s with heap:=s.heap.push { cls:=.type "range",data:=.fields #[.int lo t,.int hi u,.int 1 v] },toks:=tk }:=by
 refine wpAny_pyIter_range (IsRange.new ..) (small_one h1 h2 h3 h4) ?_
 have I1:Inv X pins σ H { s with heap:=s.heap.push { cls:=.type "range",data:=.fields #[.int lo t,.int hi u,.int 1 v] },toks:=tk }:=I.kept fun b o e=>zaq _ e
 refine ⟨(s.heap.push { cls:=.type "range",data:=.fields #[.int lo t,.int hi u,.int 1 v] }).objs.size,[(s.heap.push { cls:=.type "range",data:=.fields #[.int lo t,.int hi u,.int 1 v] }).objs.size],_,_,H,rfl,
  I1.kept (t':=tk) fun b o e=>zaq _ e,ur _ lo (hi - lo).toNat,?_,fun b hb => ?_,q⟩
 ·have e1:lo+((0:Nat):Int)*1=lo:=by simp
  have e2:(((hi - lo).toNat:Nat):Int) - ((0:Nat):Int)=Builtin.Range.rangeSize lo hi 1:=by rw [rangeSize_one];split <;> omega
  show IsRangeIter _ _ (lo+((0:Nat):Int)*1) ((((hi - lo).toNat:Nat):Int) - ((0:Nat):Int)) 1
  rw [e1,e2]
  exact zaQ _ rfl
 ·have e:b=(s.heap.push { cls:=.type "range",data:=.fields #[.int lo t,.int hi u,.int 1 v] }).objs.size:=by simpa using hb
  subst e
  exact I1.zb (zcx _) (I1.hok.fresh (zcx _))
noncomputable def BE (ta:TA):TI:=fun σ H R=>ta σ H fun vs H1=>∃ j:Int,vs=[.int j] ∧ -(2 ^ 62)≤j∧j<2 ^ 62∧R (Js 0 j.toNat) H1
theorem bK {a:Expr}{ta:TA}{p pos:Pos} (hg:Gl X "range") (hm:X.mg "range" = none) (ha:PA X [a] ta) (hs:starEach [a] X.env=[(false,eval a X.env)]:=by rfl):PI X tg (.Call (.Name "range" p) [a] [] pos) (BE ta):=by
 intro pins s σ H R I h
 refine Call_ (vg I hg hm boot_range (PyProof.Rows.callWith_type1 (cF (ha pos pins s σ H _ I h) fun us s1 ⟨vs,H1,I1,r1,q1⟩ => ?_) hs rfl))
 obtain ⟨j,e,q1,q2,q⟩:=q1
 subst e
 cases r1 with
 | cons r rr =>
  cases rr
  obtain ⟨t,rfl⟩:=r
  exact call_range_1 (AX I1 (by omega) (by omega) q1 q2 (by simpa using q))
noncomputable def Gq (wi:TI) (g:TG) (tb:TS):TS:=fun D σ H=>wi σ H fun J H1=>∃ W:Nat→Nat→St→Hp→Prop,(∃ m,W 0 m σ H1)∧∀ i m σ H,W i m σ H →
 (J.stop i H∧D.nx σ H)∨(J.go i H∧∃ N:St→Hp→Prop,(∀ σ' H',N σ' H'→∃ m',m'<m∧W (i+1) m' σ' H')∧∀ x H',J.zQ i H x H'→g x σ H' fun σ2 H2=>tb { D with nx:=N,ct:=N,bk:=D.nx } σ2 H2)
noncomputable def m6 (fp:List Addr) (h:Heap):List (Addr×Obj):=fp.filterMap fun b=>(h.get? b).map fun o=>(b,o)
theorem fX {fp:List Addr}{h:Heap}{b:Addr}{o:Obj} (hb:b∈fp) (e:h.get? b=some o):(b,o)∈m6 fp h:=List.mem_filterMap.mpr ⟨b,hb,by rw [e];rfl⟩
theorem yJ {fp:List Addr}{h:Heap}{p:Addr×Obj} (hp:p∈m6 fp h):p.1∈fp∧h.get? p.1=some p.2:=by
 obtain ⟨b,hb,e⟩:=List.mem_filterMap.mp hp
 cases q:h.get? b with
 | none=>rw [q] at e;cases e
 | some o =>
  rw [q] at e
  have e':(b,o)=p:=zcB.inj e
  subst e'
  exact ⟨hb,q⟩
theorem Inv.pinned {pins:List (Addr×Obj)}{σ:St}{H:Hp}{s:Shared}{fp:List Addr} (I:Inv X pins σ H s) (hf:∀ b∈fp,lD X pins H b) (ho:∀ b∈fp,∃ o,s.heap.get? b=some o∧∀ v,o.data ≠ .cell v):Inv X (pins++m6 fp s.heap) σ H s :=
 I.jn fun p hp=>(zbI.mp hp).elim (fun z=>I.pin p (zat _ z)) fun z=>by
  obtain ⟨hb,e⟩:=yJ z
  obtain ⟨f0,f1,f2,_⟩:=hf p.1 hb
  obtain ⟨o,e',d⟩:=ho p.1 hb
  rw [e] at e';cases e'
  exact ⟨e,f0,f1,f2,d⟩
theorem Inv.gk {pins pl:List (Addr×Obj)}{σ:St}{H:Hp}{s:Shared} (I:Inv X (pins++pl) σ H s):Inv X pins σ H s:=I.jn fun p hp=>I.pin p (zat _ (zaB _ hp))
theorem cV {iter:Expr}{body:List Stmt}{wi:TI}{g:TG}{tb:TS}{pos:Pos} (hp:PassesOwn (model X.prog X.w) X.A X.env X.xe) (hc:X.calm=true) (hi:PI X tg iter wi) (hg:PG X tg g) (hb:tT X body tb)
  (hs:∀ x,foldedSetIterable iter X.env x=pure x:=by intro _;rfl):PS X (.For tg iter body [] pos) (Gq wi g tb):=by
 intro pins s σ H D I h
 refine wpAny_For (cF (hi pins s σ H _ I h) fun v s1 h1=>cF h1 fun itv s2 h2 => ?_) hs
 obtain ⟨it,fp,tn,J,H2,e,I2,T,st2,f2,W,⟨m0,w0⟩,turn⟩:=h2
 subst e
 have Gr:∀ {H':Hp},(∀ b∈fp,H' b=none)→∀ b∈fp,lD X pins H' b:=fun hn b hb=>⟨hn b hb,(f2 b hb).2⟩
 refine codeAny_forLoop_any (fun n s'=>∃ i σ' H',Inv X pins σ' H' s'∧tn i s'.heap∧(∀ b∈fp,H' b=none)∧W i n σ' H') ?_ m0 ⟨0,σ,H2,I2,st2,fun b hb=>(f2 b hb).1,w0⟩
 rintro n s3 ⟨i,σ3,H3,I3,st3,fr3,w3⟩
 rcases turn i n σ3 H3 w3 with ⟨stop,qn⟩ | ⟨go,N,hN,step⟩
 ·refine wpAny_passesOwn hp (cF (T.done X rfl rfl rfl hc i pins s3 σ3 H3 X.xe I3 (Gr fr3) st3 stop) fun r s4 ⟨hr,I4⟩ => ?_)
  subst hr
  exact wpAny_execs_nil ⟨σ3,H3,I4,qn⟩
 ·refine wpAny_passesOwn hp (cF (T.item X rfl rfl rfl hc i pins s3 σ3 H3 X.xe I3 (Gr fr3) st3 go) fun r s4 ⟨u,hr,h4⟩ => ?_)
  subst hr
  refine wpAny_passesOwn hp (cF h4 fun _ s5 ⟨x,H5,I5,r5,y5,st5,fr5⟩ => ?_)
  have I5':=I5.pinned (Gr fr5) (T.obj _ _ st5)
  refine wpAny_passesOwn hp (cF (hg _ s5 σ3 H5 x u _ I5' r5 (step x H5 y5)) fun _ s6 ⟨σ6,H6,I6,q6⟩ => ?_)
  refine wpAny_passesOwn hp (cF (hb _ s6 σ6 H6 _ I6 q6) fun f s7 q7 => ?_)
  have again:∀ {σ7:St}{H7:Hp},Inv X (pins++m6 fp s5.heap) σ7 H7 s7→N σ7 H7→∃ m,m<n∧∃ i σ' H',Inv X pins σ' H' s7∧tn i s7.heap∧(∀ b∈fp,H' b=none)∧W i m σ' H':=fun {σ7 H7} I7 n7=>by
   obtain ⟨m',hm,w7⟩:=hN σ7 H7 n7
   refine ⟨m',hm,i+1,σ7,H7,I7.gk,T.keep _ _ _ st5 fun b hb o e=>(I7.pin (b,o) (zat _ (zat _ (fX hb e)))).1,fun b hb => ?_,w7⟩
   obtain ⟨o,e,d⟩:=T.obj _ _ st5 b hb
   exact (I7.pin (b,o) (zat _ (zat _ (fX hb e)))).2.1
  cases f with
  | next=>obtain ⟨σ7,H7,I7,n7⟩:=q7;exact again I7 n7
  | cont=>obtain ⟨σ7,H7,I7,n7⟩:=q7;exact again I7 n7
  | brk=>obtain ⟨σ7,H7,I7,q7⟩:=q7;exact ⟨σ7,H7,I7.gk,q7⟩
  | ret v=>obtain ⟨x7,σ7,H7,I7,r7,q7⟩:=q7;exact ⟨x7,σ7,H7,I7.gk,r7,q7⟩
end
theorem zd {lo:Int}{n:Nat}{g:TG}{tb:TS}{D:Ends}{σ:St}{H:Hp} (Pv:Nat→St→Hp→Prop) (h0:Pv 0 σ H)
  (hs:∀ i σ H,i<n→Pv i σ H→g (.int (lo+i)) σ H fun σ2 H2=>tb { D with nx:=Pv (i+1),ct:=Pv (i+1),bk:=D.nx } σ2 H2) (hd:∀ σ H,Pv n σ H→D.nx σ H) :
  ∃ W:Nat→Nat→St→Hp→Prop,(∃ m,W 0 m σ H)∧∀ i m σ H,W i m σ H →
   ((Js lo n).stop i H∧D.nx σ H)∨((Js lo n).go i H∧∃ N:St→Hp→Prop,(∀ σ' H',N σ' H'→∃ m',m'<m∧W (i+1) m' σ' H')∧∀ x H',(Js lo n).zQ i H x H'→g x σ H' fun σ2 H2=>tb { D with nx:=N,ct:=N,bk:=D.nx } σ2 H2):=by
 refine ⟨fun i m σ H=>m=n - i∧i≤n∧Pv i σ H,⟨n,by simp,zcy _,h0⟩,?_⟩
 rintro i m σ H ⟨rfl,hi,p⟩
 by_cases hlt:i<n
 ·refine .inr ⟨hlt,Pv (i+1),fun σ' H' p'=>⟨n - (i+1),by omega,rfl,hlt,p'⟩,fun x H' y => ?_⟩
  obtain ⟨e,y⟩:=y
  subst e y
  exact hs i σ _ hlt p
 ·have e:i=n:=by omega
  subst e
  exact .inl ⟨zcx _,hd σ H p⟩
noncomputable abbrev R2:=V→V→Hp→VK→Prop
noncomputable def gh (X:Cx) (f:Value→Value→Sem Value) (r:R2):Prop :=
 ∀ (pins:List (Addr×Obj)) (s:Shared) (σ:St) (H:Hp) (x y:V) (v u:Value) (Q:VK),Inv X pins σ H s→RelV x v→RelV y u→r x y H Q →
  wpAny (model X.prog X.w) X.A (f v u) (EP X pins σ Q) X.xe s
noncomputable def bV (X:Cx) (f:Value) (r:List V→Hp→VK→Prop):Prop :=
 ∀ (pins:List (Addr×Obj)) (s:Shared) (σ:St) (H:Hp) (xs:List V) (us:List Value) (Q:VK),Inv X pins σ H s→Vals xs us→r xs H Q →
  wpAny (model X.prog X.w) X.A (call f us) (EP X pins σ Q) X.xe s
noncomputable def MF (X:Cx) (r:V→Hp→(Bool→Hp→Prop)→Prop):Prop :=
 ∀ (pins:List (Addr×Obj)) (s:Shared) (σ:St) (H:Hp) (x:V) (v:Value) (Q:Bool→Hp→Prop),Inv X pins σ H s→RelV x v→r x H Q →
  wpAny (model X.prog X.w) X.A (truthy v) (TP X pins σ Q) X.xe s
noncomputable def vX (r:R2) (ta tb:TE):TE:=fun σ H Q=>ta σ H fun x H1=>tb σ H1 fun y H2=>r x y H2 Q
noncomputable def rI (C:Int→Int→Prop) (g:Int→Int→V):R2:=fun x y H Q=>∃ i j,x = .int i∧y = .int j∧C i j∧Q (g i j) H
noncomputable def De (g:Int→Int→V):R2:=fun x y H Q=>∃ i j,x = .int i∧y = .int j∧Q (g i j) H
section
variable {X:Cx}{a b c:Expr}{ta tb tc:TE}{pos:Pos}
theorem IV (ha:PE X a ta) (hb:PE X b tb) {pins:List (Addr×Obj)}{s:Shared}{σ:St}{H:Hp}{R:V→V→Hp→Prop} (I:Inv X pins σ H s)
  (h:ta σ H fun x H1=>tb σ H1 fun y H2=>R x y H2) {Q:Value→Shared→Prop}{f:Value→Value→Sem Value}
  (hf:∀ v u s2 x y H2,Inv X pins σ H2 s2→RelV x v→RelV y u→R x y H2→wpAny (model X.prog X.w) X.A (f v u) Q X.xe s2) :
  wpAny (model X.prog X.w) X.A (eval a X.env) (fun v s₁=>wpAny (model X.prog X.w) X.A (eval b X.env) (fun u s₂=>wpAny (model X.prog X.w) X.A (f v u) Q X.xe s₂) X.xe s₁) X.xe s:=by
 refine cF (ha pins s σ H _ I h) fun v s1 ⟨x,H1,I1,r1,q1⟩ => ?_
 refine cF (hb pins s1 σ H1 _ I1 q1) fun u s2 ⟨y,H2,I2,r2,q2⟩ => ?_
 exact hf v u s2 x y H2 I2 r1 r2 q2
theorem aO {op:Operator}{r:R2} (ho:gh X (binaryOp op) r) (ha:PE X a ta) (hb:PE X b tb):PE X (.BinOp a op b pos) (vX r ta tb):=by
 intro pins s σ H Q I h
 exact wpAny_BinOp (IV ha hb I h fun v u s2 x y H2 I2 rx ry q=>ho pins s2 σ H2 x y v u Q I2 rx ry q)
theorem Lo {f:Value→Value→Sem Value}{C:Int→Int→Prop}{g:Int→Int→Int}
  (rule:∀ (i j:Int) (t u:Tok) (s:Shared) (Q:Value→Shared→Prop) (E:Value→Shared→Prop),C i j→Q (.int (g i j) s.toks) { s with toks:=s.toks+1 }→wpAny (model X.prog X.w) X.A (f (.int i t) (.int j u)) Q E s) :
  gh X f (rI C fun i j=>.int (g i j)):=by
 intro pins s σ H x y v u Q I rx ry h
 obtain ⟨i,j,rfl,rfl,hc,q⟩:=h
 obtain ⟨t,rfl⟩:=rx
 obtain ⟨t',rfl⟩:=ry
 exact rule i j t t' s _ _ hc ⟨.int (g i j),H,I.tok _,⟨_,rfl⟩,q⟩
theorem J7 {f:Value→Value→Sem Value}{g:Int→Int→Int}
  (rule:∀ (i j:Int) (t u:Tok) (s:Shared) (Q:Value→Shared→Prop) (E:Value→Shared→Prop),Q (.int (g i j) s.toks) { s with toks:=s.toks+1 }→wpAny (model X.prog X.w) X.A (f (.int i t) (.int j u)) Q E s) :
  gh X f (De fun i j=>.int (g i j)):=by
 intro pins s σ H x y v u Q I rx ry h
 obtain ⟨i,j,rfl,rfl,q⟩:=h
 obtain ⟨t,rfl⟩:=rx
 obtain ⟨t',rfl⟩:=ry
 exact rule i j t t' s _ _ ⟨.int (g i j),H,I.tok _,⟨_,rfl⟩,q⟩
theorem HL {f:Value→Value→Sem Value}{g:Int→Int→Bool}
  (rule:∀ (i j:Int) (t u:Tok) (s:Shared) (Q:Value→Shared→Prop) (E:Value→Shared→Prop),Q (.bool (g i j)) s→wpAny (model X.prog X.w) X.A (f (.int i t) (.int j u)) Q E s) :
  gh X f (De fun i j=>.bl (g i j)):=by
 intro pins s σ H x y v u Q I rx ry h
 obtain ⟨i,j,rfl,rfl,q⟩:=h
 obtain ⟨t,rfl⟩:=rx
 obtain ⟨t',rfl⟩:=ry
 exact rule i j t t' s _ _ ⟨.bl (g i j),H,I,rfl,q⟩
noncomputable def C9 (i j:Int):Prop:=0<j∧j<1073741824
noncomputable def MM (i j:Int):Prop:=0≤j∧j≤1000000∧i.natAbs<2 ^ 64
noncomputable def zP (i j:Int):Prop:=(-(2 ^ 64)<i∧i<2 ^ 64)∨(-(2 ^ 64)<j∧j<2 ^ 64)
theorem zP.ok {i j:Int} (h:zP i j):IntMulOk i j:=by
 rcases h with ⟨h1,h2⟩ | ⟨h1,h2⟩
 ·exact .of_left (intBits_le_64 h1 h2)
 ·exact .of_right (intBits_le_64 h1 h2)
theorem dH:gh X (binaryOp .Add) (De fun i j=>.int (i+j)):=J7 fun _ _ _ _ _ _ _ q=>add_int q
theorem HB:gh X (binaryOp .Sub) (De fun i j=>.int (i - j)):=J7 fun _ _ _ _ _ _ _ q=>sub_int q
theorem fy:gh X (binaryOp .Mult) (rI zP fun i j=>.int (i*j)):=Lo fun _ _ _ _ _ _ _ hc q=>mul_int q hc.ok
theorem xA:gh X (binaryOp .FloorDiv) (rI C9 fun i j=>.int (i / j)):=Lo fun i j _ _ _ _ _ hc q=>by
 have h1:(0:Int)<j:=hc.1
 have h2:j<1073741824:=hc.2
 exact floordiv_int (by omega) (by rw [Int.fdiv_eq_ediv_of_nonneg i (by omega)];exact q) (.inl (PyProof.noPylong_small (by omega)))
theorem fz:gh X (binaryOp .Mod) (rI (fun _ j=>0<j) fun i j=>.int (i % j)):=Lo fun i j _ _ _ _ _ hc q=>by
 have h1:(0:Int)<j:=hc
 exact mod_int' (by omega) (by rw [Int.fmod_eq_emod_of_nonneg i (by omega)];exact q)
theorem HE:gh X (binaryOp .Pow) (rI MM fun i j=>.int (i ^ j.toNat)):=Lo fun _ _ _ _ _ _ _ hc q=>pow_int_small hc.1 hc.2.1 hc.2.2 q
end
noncomputable def JG:V→V→Bool
 | .bN,.bN=>true | .bN,.int _=>true | .int _,.bN=>true | .bN,.bl _=>true | .bl _,.bN=>true | .bN,.str _=>true | .str _,.bN=>true
 | .int _,.int _=>true | .bl _,.bl _=>true | .str _,.str _=>true | .uh _,.uh _=>true
 | .int _,.str _=>true | .str _,.int _=>true | .bl _,.str _=>true | .str _,.bl _=>true
 | _,_=>false
noncomputable def rEq:R2:=fun x y H Q=>JG x y=true∧Q (.bl (decide (x=y))) H
noncomputable def rNe:R2:=fun x y H Q=>JG x y=true∧Q (.bl (!decide (x=y))) H
theorem xX {i j:Int}:decide (V.int i=V.int j)=(i==j):=by
 rw [Bool.eq_iff_iff]
 simp
theorem BZ {i j:Bool}:decide (V.bl i=V.bl j)=(i==j):=by
 rw [Bool.eq_iff_iff]
 simp
theorem xW {i j:Str}:decide (V.str i=V.str j)=(i==j):=by
 rw [Bool.eq_iff_iff]
 simp
theorem xY {i j:Array UInt8}:decide (V.uh i=V.uh j)=(i.toList==j.toList):=by
 rw [Bool.eq_iff_iff]
 cases i
 cases j
 simp
section
variable {X:Cx}{a b c:Expr}{ta tb tc:TE}{pos:Pos}
theorem bh {pins:List (Addr×Obj)}{σ:St}{H:Hp}{s:Shared}{Q:VK}{k k':Bool} (I:Inv X pins σ H s) (q:Q (.bl k) H) (e:k=k'):EP X pins σ Q (.bool k') s:=by
 subst e
 exact ⟨.bl k,H,I,rfl,q⟩
theorem Bd:gh X (compareOp .Eq) rEq:=by
 intro pins s σ H x y v u Q I rx ry h
 obtain ⟨hs,q⟩:=h
 cases x with
 | bN =>
  cases rx
  cases y with
  | bN=>cases ry;exact PySem.EqNone.eq_none_none (bh I q (by simp))
  | bl j=>cases ry;exact PySem.EqNone.eq_none_bool (bh I q (by simp))
  | int j=>obtain ⟨t',rfl⟩:=ry;exact PySem.EqNone.eq_none_int (bh I q (by simp))
  | str j=>obtain ⟨t',rfl⟩:=ry;exact PySem.EqNone.eq_none_str (bh I q (by simp))
  | _=>exact absurd (show false=true from hs) zaZ
 | bl i =>
  cases rx
  cases y with
  | bN=>cases ry;exact PySem.EqNone.eq_bool_none (bh I q (by simp))
  | bl j=>cases ry;exact eq_bool (bh I q BZ)
  | str j=>obtain ⟨t',rfl⟩:=ry;exact PySem.EqMixed.eq_bool_str (bh I q (by simp))
  | _=>exact absurd (show false=true from hs) zaZ
 | int i =>
  obtain ⟨t,rfl⟩:=rx
  cases y with
  | bN=>cases ry;exact PySem.EqNone.eq_int_none (bh I q (by simp))
  | int j=>obtain ⟨t',rfl⟩:=ry;exact eq_int (bh I q xX)
  | str j=>obtain ⟨t',rfl⟩:=ry;exact PySem.EqMixed.eq_int_str (bh I q (by simp))
  | _=>exact absurd (show false=true from hs) zaZ
 | str i =>
  obtain ⟨t,rfl⟩:=rx
  cases y with
  | bN=>cases ry;exact PySem.EqNone.eq_str_none (bh I q (by simp))
  | bl j=>cases ry;exact PySem.EqMixed.eq_str_bool (bh I q (by simp))
  | int j=>obtain ⟨t',rfl⟩:=ry;exact PySem.EqMixed.eq_str_int (bh I q (by simp))
  | str j=>obtain ⟨t',rfl⟩:=ry;exact eq_str (bh I q xW)
  | _=>exact absurd (show false=true from hs) zaZ
 | uh i =>
  obtain ⟨t,rfl⟩:=rx
  cases y with
  | uh j=>obtain ⟨t',rfl⟩:=ry;exact PySem.W.eq_bytes (bh I q xY)
  | _=>exact absurd (show false=true from hs) zaZ
 | _=>cases y <;> exact absurd (show false=true from hs) zaZ
theorem J4:gh X (compareOp .NotEq) rNe:=by
 intro pins s σ H x y v u Q I rx ry h
 obtain ⟨hs,q⟩:=h
 cases x with
 | bN =>
  cases rx
  cases y with
  | bN=>cases ry;exact PySem.EqNone.ne_none_none (bh I q (by simp))
  | bl j=>cases ry;exact PySem.EqNone.ne_none_bool (bh I q (by simp))
  | int j=>obtain ⟨t',rfl⟩:=ry;exact PySem.EqNone.ne_none_int (bh I q (by simp))
  | str j=>obtain ⟨t',rfl⟩:=ry;exact PySem.EqNone.ne_none_str (bh I q (by simp))
  | _=>exact absurd (show false=true from hs) zaZ
 | bl i =>
  cases rx
  cases y with
  | bN=>cases ry;exact PySem.EqNone.ne_bool_none (bh I q (by simp))
  | bl j=>cases ry;exact ne_bool (bh I q (congrArg not BZ))
  | str j=>obtain ⟨t',rfl⟩:=ry;exact PySem.EqMixed.ne_bool_str (bh I q (by simp))
  | _=>exact absurd (show false=true from hs) zaZ
 | int i =>
  obtain ⟨t,rfl⟩:=rx
  cases y with
  | bN=>cases ry;exact PySem.EqNone.ne_int_none (bh I q (by simp))
  | int j=>obtain ⟨t',rfl⟩:=ry;exact ne_int (bh I q (congrArg not xX))
  | str j=>obtain ⟨t',rfl⟩:=ry;exact PySem.EqMixed.ne_int_str (bh I q (by simp))
  | _=>exact absurd (show false=true from hs) zaZ
 | str i =>
  obtain ⟨t,rfl⟩:=rx
  cases y with
  | bN=>cases ry;exact PySem.EqNone.ne_str_none (bh I q (by simp))
  | bl j=>cases ry;exact PySem.EqMixed.ne_str_bool (bh I q (by simp))
  | int j=>obtain ⟨t',rfl⟩:=ry;exact PySem.EqMixed.ne_str_int (bh I q (by simp))
  | str j=>obtain ⟨t',rfl⟩:=ry;exact ne_str (bh I q (congrArg not xW))
  | _=>exact absurd (show false=true from hs) zaZ
 | uh i =>
  obtain ⟨t,rfl⟩:=rx
  cases y with
  | uh j=>obtain ⟨t',rfl⟩:=ry;exact PySem.W.ne_bytes (bh I q (congrArg not xY))
  | _=>exact absurd (show false=true from hs) zaZ
 | _=>cases y <;> exact absurd (show false=true from hs) zaZ
theorem J5:gh X (compareOp .Lt) (De fun i j=>.bl (decide (i<j))):=HL fun _ _ _ _ _ _ _ q=>lt_int q
theorem FO:gh X (compareOp .Gt) (De fun i j=>.bl (decide (j<i))):=HL fun _ _ _ _ _ _ _ q=>gt_int q
theorem J6:gh X (compareOp .GtE) (De fun i j=>.bl (decide (j≤i))):=HL fun _ _ _ _ _ _ _ q=>ge_int q
theorem br (b:Expr) {op:CmpOp} (h:op ≠ .In:=by decide) (h2:op ≠ .NotIn:=by decide):behindInMarks op b=false:=by
 have e1:(op==CmpOp.In)=false:=by cases op <;> first | rfl | exact absurd rfl h
 have e2:(op==CmpOp.NotIn)=false:=by cases op <;> first | rfl | exact absurd rfl h2
 cases b <;> simp [behindInMarks,e1,e2]
theorem ju {op:CmpOp}{r:R2} (ho:gh X (compareOp op) r) (ha:PE X a ta) (hb:PE X b tb) (hm:behindInMarks op b=false):PE X (.Compare a [op] [b] pos) (vX r ta tb):=by
 intro pins s σ H Q I h
 exact wpAny_Compare1 (IV ha hb I h fun v u s2 x y H2 I2 rx ry q=>ho pins s2 σ H2 x y v u Q I2 rx ry q) hm
noncomputable def Fy (t:TE):TT:=fun σ H Q=>t σ H fun x H'=>∃ k,x = .bl k∧Q k H'
theorem aA {op:CmpOp}{r:R2} (ho:gh X (compareOp op) r) (ha:PE X a ta) (hb:PE X b tb) (hm:behindInMarks op b=false):PT X (.Compare a [op] [b] pos) (Fy (vX r ta tb)):=by
 intro pins s σ H Q I h
 refine wpAny_isTrue_Compare1 (cF (ha pins s σ H _ I h) fun v s1 ⟨x,H1,I1,r1,q1⟩=>cF (hb pins s1 σ H1 _ I1 q1) fun u s2 ⟨y,H2,I2,r2,q2⟩ =>
  cF (ho pins s2 σ H2 x y v u _ I2 r1 r2 q2) fun c s3 ⟨z,H3,I3,r3,k,e,q3⟩ => ?_) hm
 subst e
 cases r3
 exact wpAny_truthy_bool ⟨H3,I3,q3⟩
noncomputable def CD (K:PySem.W.Frag) (x:V) (H:Hp) (k:Bool):Prop :=
 match x with
 | .bN=>k=false
 | .bl b=>k=b
 | .int i=>k=(i != 0)
 | .str y=>y.length≤sizeLine∧k=((y.length:Int) != 0)
 | .uh y=>y.size≤sizeLine∧k=((y.size:Int) != 0)
 | .ref p=>(∃ xs,dh K H p xs∧k = !xs.isEmpty)∨(∃ xs,eX K H p xs∧k = !xs.isEmpty)∨∃ kvs,H p=some (.dK kvs)∧k = !kvs.isEmpty
 | _=>False
theorem vm {κ:Type}{kvs:List (κ×V)}{vs:List (κ×Value)} (r:KV kvs vs):(!vs.isEmpty) = !kvs.isEmpty:=by
 cases r <;> rfl
theorem nv {xs:List V}{its:List Value} (r:Vals xs its):(!its.toArray.isEmpty) = !xs.isEmpty:=by
 cases r <;> simp
theorem kB:(sizeLine:Nat)<2 ^ 63:=by rw [sizeLine_eq];decide
theorem Gh:MF X (fun x H Q=>∃ k,CD X.K x H k∧Q k H):=by
 intro pins s σ H x v Q I rx h
 obtain ⟨k,e,q⟩:=h
 have hl:=kB
 have hs:sizeLine=16777216:=sizeLine_eq
 cases x with
 | bN =>
  cases rx
  have e':k=false:=e
  subst e'
  exact truthy_none ⟨H,I,q⟩
 | bl b =>
  cases rx
  have e':k=b:=e
  subst e'
  exact wpAny_truthy_bool ⟨H,I,q⟩
 | int i =>
  obtain ⟨t,rfl⟩:=rx
  have e':k=(i != 0):=e
  subst e'
  exact PySem.P.truthy_int ⟨H,I,q⟩
 | str y =>
  obtain ⟨t,rfl⟩:=rx
  obtain ⟨hy,e'⟩:y.length≤sizeLine∧k=((y.length:Int) != 0):=e
  subst e'
  exact PySem.P.truthy_str (by omega) ⟨H,I.tok _,q⟩
 | uh y =>
  obtain ⟨t,rfl⟩:=rx
  obtain ⟨hy,e'⟩:y.size≤sizeLine∧k=((y.size:Int) != 0):=e
  subst e'
  exact PySem.W.truthy_bytes (by omega) ⟨H,I.tok _,q⟩
 | ref p =>
  cases rx
  have e':(∃ xs,dh X.K H p xs∧k = !xs.isEmpty)∨(∃ xs,eX X.K H p xs∧k = !xs.isEmpty)∨∃ kvs,H p=some (.dK kvs)∧k = !kvs.isEmpty:=e
  rcases e' with ⟨xs,hx,e'⟩ | ⟨xs,hx,e'⟩ | ⟨kvs,hx,e'⟩
  ·subst e'
   obtain ⟨its,r,pl,hz⟩:=I.list hx
   have hlen:=r.length
   exact wpAny_truthy_list pl.isList (by simp only [zbd];omega) ⟨H,I.tok _,by rw [nv r];exact q⟩
  ·subst e'
   obtain ⟨its,r,pl,hz⟩:=I.tuple hx
   have hlen:=r.length
   exact truthy_tuple pl (by simp only [zbd];omega) ⟨H,I.tok _,by rw [nv r];exact q⟩
  ·subst e'
   obtain ⟨hz,hS,vs,r,m⟩:kvs.length≤sizeLine∧(p==sysModules)=false∧∃ vs,KV kvs vs∧s.heap.DictOf (bx X.prog X.w) p vs:=I.hok p _ hx
   have hlen:kvs.length=vs.length:=Paired.length r
   exact wpAny_truthy_dict hS m (by omega) ⟨H,I.tok _,by rw [vm r];exact q⟩
 | _=>exact (show False from e).elim
theorem A4 (ha:PE X a ta) (he:∀ whole,isTrue a X.env whole=(do let v ← whole;standAt a.pos;holding [v] (truthy v))) :
  PT X a (fun σ H Q=>ta σ H fun x H'=>∃ k,CD X.K x H' k∧Q k H'):=by
 intro pins s σ H Q I h
 exact isTrue_plain (cF (ha pins s σ H _ I h) fun v s1 ⟨x,H1,I1,r1,q1⟩=>Gh pins s1 σ H1 x v Q I1 r1 q1) (he _)
theorem iW:gh X (binaryOp .Add) (fun x y H Q=>∃ i j,x = .str i∧y = .str j∧i.length+j.length≤sizeLine∧Q (.str (i++j)) H):=by
 intro pins s σ H x y v u Q I rx ry h
 obtain ⟨i,j,rfl,rfl,hz,q⟩:=h
 obtain ⟨t,rfl⟩:=rx
 obtain ⟨t',rfl⟩:=ry
 exact add_str (fun t' tk=>⟨.str (i++j),H,I.tok _,⟨_,rfl⟩,q⟩) hz
theorem vals1 {x:V}{us:List Value} (r:Vals [x] us):∃ u,us=[u]∧RelV x u:=by
 cases r with
 | cons r1 r2=>cases r2;exact ⟨_,rfl,r1⟩
theorem vals2 {x y:V}{us:List Value} (r:Vals [x,y] us):∃ u w',us=[u,w']∧RelV x u∧RelV y w':=by
 cases r with
 | cons r1 r2 =>
  cases r2 with
  | cons r3 r4=>cases r4;exact ⟨_,_,rfl,r1,r3⟩
theorem zm (hc:X.calm=true):bV X (.builtin "max") (fun xs H Q=>∃ i j,xs=[.int i,.int j]∧Q (.int (if j > i then j else i)) H):=by
 intro pins s σ H xs us Q I r h
 obtain ⟨i,j,rfl,q⟩:=h
 obtain ⟨u,w',rfl,⟨t,rfl⟩,⟨t',rfl⟩⟩:=vals2 r
 refine max_two_ints (I.ok.hd hc) fun h' tk k=>⟨_,H,I.kept k,?_,q⟩
 by_cases hj:j > i
 ·rw [if_pos hj,if_pos hj];exact ⟨_,rfl⟩
 ·rw [if_neg hj,if_neg hj];exact ⟨_,rfl⟩
theorem zk (hc:X.calm=true):bV X (.builtin "min") (fun xs H Q=>∃ i j,xs=[.int i,.int j]∧Q (.int (if j<i then j else i)) H):=by
 intro pins s σ H xs us Q I r h
 obtain ⟨i,j,rfl,q⟩:=h
 obtain ⟨u,w',rfl,⟨t,rfl⟩,⟨t',rfl⟩⟩:=vals2 r
 refine min_two_ints (I.ok.hd hc) fun h' tk k=>⟨_,H,I.kept k,?_,q⟩
 by_cases hj:j<i
 ·rw [if_pos hj,if_pos hj];exact ⟨_,rfl⟩
 ·rw [if_neg hj,if_neg hj];exact ⟨_,rfl⟩
noncomputable def Jr (K:PySem.W.Frag) (x:V) (H:Hp) (n:Nat):Prop :=
 match x with
 | .str y=>y.length≤sizeLine∧n=y.length
 | .uh y=>y.size≤sizeLine∧n=y.size
 | .ref p=>(∃ xs,dh K H p xs∧n=xs.length)∨∃ xs,eX K H p xs∧n=xs.length
 | _=>False
theorem tP:bV X (.builtin "len") (fun xs H Q=>∃ x n,xs=[x]∧Jr X.K x H n∧Q (.int n) H):=by
 intro pins s σ H xs us Q I r h
 obtain ⟨x,n,rfl,e,q⟩:=h
 obtain ⟨u,rfl,rx⟩:=vals1 r
 have hl:=kB
 have hs:sizeLine=16777216:=sizeLine_eq
 cases x with
 | str y =>
  obtain ⟨t,rfl⟩:=rx
  obtain ⟨hy,e'⟩:y.length≤sizeLine∧n=y.length:=e
  subst e'
  exact len_str (by omega) ⟨.int _,H,I.tok _,⟨_,rfl⟩,q⟩
 | uh y =>
  obtain ⟨t,rfl⟩:=rx
  obtain ⟨hy,e'⟩:y.size≤sizeLine∧n=y.size:=e
  subst e'
  exact PySem.W.len_bytes (by omega) ⟨.int _,H,I.tok _,⟨_,rfl⟩,q⟩
 | ref p =>
  cases rx
  have e':(∃ xs,dh X.K H p xs∧n=xs.length)∨∃ xs,eX X.K H p xs∧n=xs.length:=e
  rcases e' with ⟨xs,hx,e'⟩ | ⟨xs,hx,e'⟩
  ·subst e'
   obtain ⟨its,r',pl,hz⟩:=I.list hx
   have hlen:=r'.length
   exact Calls.call_len_list pl.isList (by simp only [zbd];omega) ⟨.int xs.length,H,I.tok _,⟨_,by simp only [zbd];rw [hlen]⟩,q⟩
  ·subst e'
   obtain ⟨its,r',pl,hz⟩:=I.tuple hx
   have hlen:=r'.length
   exact len_tuple pl (by simp only [zbd];omega) ⟨.int xs.length,H,I.tok _,⟨_,by simp only [zbd];rw [hlen]⟩,q⟩
 | _=>exact (show False from e).elim
end
structure vN (h:Heap) (x dx C:Addr) (mA:Str→Option Value):Prop where
 obj:h.get? x=some (zbU C dx)
 ns:h.Ns1 dx mA
 ne:dx≠x
theorem yP {h:Heap}{dx:Addr}{mA:Str→Option Value} (n:h.Ns1 dx mA):∃ od,h.get? dx=some od∧∀ name,PySem.W.lookIn name od=some (mA name):=by
 obtain ⟨o,es,ep,ho,hd,hk,_,hm⟩:=n
 refine ⟨o,ho,fun name => ?_⟩
 have e:=hm name
 unfold nsFind findBy at e
 rw [← Array.find?_toList] at e
 unfold PySem.W.lookIn
 rw [hd]
 dsimp only
 split
 ·rename_i y q
  rw [q] at e
  exact congrArg some e
 ·rename_i q
  rw [q] at e
  have a:es.toList.any (·.refKey)=false:=by
   rw [zbe]
   intro y hy
   obtain ⟨z,t,hkey⟩:=hk y (Array.mem_toList_iff.mp hy)
   simp [DictEntry.refKey,hkey]
  have a' : ¬ es.toList.any (·.refKey)=true:=by rw [a];exact zaZ
  rw [if_neg a']
  exact congrArg some e
theorem vN.look {h:Heap}{x dx C:Addr}{mA:Str→Option Value} (I:vN h x dx C mA):∃ od,PySem.W.InstAt h x (zbU C dx) C (some od)∧∀ name,PySem.W.lookIn name od=some (mA name) :=
 let ⟨od,ho,hl⟩:=yP I.ns
 ⟨od,⟨I.obj,rfl,rfl,ho⟩,hl⟩
section
variable {prog:Program}{w:World}{A:Around}{E:Value→Shared→Prop}{s:Shared}{K:PySem.W.Frag}{x dx C f:Addr}{mA:Str→Option Value}{name:Str}{v:Value}
theorem get_map {expr:Bool}{Q:Value→Shared→Prop} (X:K.In s.heap) (I:vN s.heap x dx C mA) (hg:zbF K C name=true) (hh:zbr K C=true)
  (ha:zbX K (.ref C) name=some none) (hv:mA name=some v) (hv':PySem.W.handedIn v=true) (h:Q v { s with toks:=s.toks+1 }) :
  wpAny (model prog w) A (getAttr (.ref x) name expr) Q E s:=by
 obtain ⟨od,J,hl⟩:=I.look
 exact PySem.W.get_value X J (PySem.W.plainGet_of hg).1 (PySem.W.findObj_own hh ha rfl (by rw [hl,hv])) hv' h
theorem BL {pl:Sem Bool}{Q:Value×List Value→Shared→Prop} (X:K.In s.heap) (I:vN s.heap x dx C mA) (hg:zbF K C name=true)
  (hf:zbX K (.ref C) name=some (some (.ref f))) (ht:zcq K (.ref f)=true) (hv:mA name=none) (h:Q (.ref f,[.ref x]) s) :
  wpAny (model prog w) A (getMethod (.ref x) name pl) Q E s:=by
 obtain ⟨od,J,hl⟩:=I.look
 exact PySem.W.method_fn X J (PySem.W.plainGet_of hg).1 (PySem.W.plainGet_of hg).2 hf (beq_iff_eq.mp ht) (by show (PySem.W.lookIn name od).map (·.isSome)=some false;rw [hl,hv];rfl) h
theorem DF {ns:List Str}{Q:Unit→Shared→Prop} (X:K.In s.heap) (I:vN s.heap x dx C mA)
  (hs:zbX K (.ref C) "__setattr__" = some (some (.builtin "object.__setattr__"))) (hp:PySem.W.plainOver K C=true) (ht:PySem.W.takerIn K C name=some none) (hh:zbr K C=true)
  (hw:PySem.Within mA ns) (hsz:ns.length≤sizeLine)
  (h:∀ h',vN h' x dx C (fun y=>if y=name then some v else mA y)→Heap.SameBut dx s.heap h'→Q () { s with heap:=h',toks:=s.toks+2 }) :
  wpAny (model prog w) A (setAttr (.ref x) name v) Q E s:=by
 obtain ⟨od,J,hl⟩:=I.look
 refine PySem.W.set_plain X J hs (PySem.W.osa_open (s:={ s with toks:=s.toks+1 }) (r:=none) X J hp ht fun b => ?_)
 obtain ⟨cd,hc,hd'⟩:=PySem.W.any_some hh
 have hx:s.heap.get? x=some ⟨.ref C,some dx,.plain,#[]⟩:=I.obj
 refine wpAny_bind (wpAny_pure (wpAny_bind (wpAny_bind (wpAny_loadPart hx (wpAny_bind (PySem.W.Looks.here (s:={ s with toks:=s.toks+1 }) (PySem.W.looks_clsIn X hc) ?_))))))
 rw [hd']
 refine wpAny_pure (a:=some dx) (wpAny_bind (wpAny_pure (wpAny_bind ?_)))
 refine wpAny_nsSet1 (s:={ s with toks:=s.toks+1 }) I.ns fun h' hn2 hs2 => ?_
 obtain ⟨oD,esD,epD,hoD,hdD,hcD⟩:=hn2.count (PySem.Within.cons name v hw)
 refine wpAny_bind (wpAny_lookBehind hoD (by rw [hdD];exact pastItsLine_dict (zcm hcD (by rw [zbu];omega))) ?_)
 exact wpAny_pure (h _ ⟨(hs2.2 _ (Ne.symm I.ne)).trans I.obj,hn2,I.ne⟩ hs2)
theorem Bt {R:Result→Shared→Prop}{vs:List Value}{kw:List (Str×Value)} (X:K.In s.heap) (hm:PySem.W.makesIn K C=true)
  (hi:zbX K (.ref C) "__init__" = some (some (.ref f))) (hf:PySem.W.typeIn K (.ref f)=some (.type "function"))
  (h:codeAny (model prog w) (A.under (.builtin "type.__call__" ⟨.ref C::vs,kw⟩)) (.call (.ref f) ⟨.ref (s.heap.objs.size+1)::vs,kw⟩) (PySem.W.InitBack (s.heap.objs.size+1) R)
   { s with heap:=(s.heap.push zbs).push (zbU C s.heap.objs.size) }) :
  codeAny (model prog w) A (.call (.ref C) ⟨vs,kw⟩) R s:=by
 obtain ⟨hh,g,d,t,os⟩:=s
 exact PySem.W.make_core (PySem.W.makes_of X hm) (PySem.W.looks_findIn X hi) (fun self=>PySem.W.bind_fn X self hf) (.inl rfl) h
end
noncomputable def fV (f:Str) (v:V):List (Str×V)→List (Str×V)
 | []=>[(f,v)]
 | (g,x)::r=>if g=f then (g,v)::r else (g,x)::fV f v r
theorem kM (f g:Str) (v:V):∀ fs:List (Str×V),(fV f v fs).lookup g=if g=f then some v else fs.lookup g
 | []=>by
  show zcu g [(f,v)]=_
  by_cases h:g=f
  ·have hb:(g==f)=true:=beq_iff_eq.mpr h
   simp only [zcu,hb,if_pos h]
  ·have hb:(g==f)=false:=beq_eq_false_iff_ne.mpr h
   simp only [zcu,hb,if_neg h]
 | (k,x)::r=>by
  have ih:=kM f g v r
  rw [show fV f v ((k,x)::r)=(if k=f then (k,v)::r else (k,x)::fV f v r) from rfl]
  by_cases hk:k=f
  ·rw [if_pos hk]
   by_cases h:g=k
   ·have hb:(g==k)=true:=beq_iff_eq.mpr h
    simp only [zcu,hb,if_pos (h.trans hk)]
   ·have hb:(g==k)=false:=beq_eq_false_iff_ne.mpr h
    simp only [zcu,hb,if_neg (fun e:g=f=>h (e.trans hk.symm))]
  ·rw [if_neg hk]
   by_cases h:g=k
   ·have hb:(g==k)=true:=beq_iff_eq.mpr h
    simp only [zcu,hb,if_neg (fun e:g=f=>hk (h.symm.trans e))]
   ·have hb:(g==k)=false:=beq_eq_false_iff_ne.mpr h
    simp only [zcu,hb]
    exact ih
theorem kC (f:Str) (v:V):∀ fs:List (Str×V),f∈(fV f v fs).map (·.1)∧∀ g,g∈fs.map (·.1)→g∈(fV f v fs).map (·.1)
 | []=>⟨by simp [fV],fun g h=>by simp at h⟩
 | (k,x)::r=>by
  obtain ⟨i1,i2⟩:=kC f v r
  rw [show fV f v ((k,x)::r)=(if k=f then (k,v)::r else (k,x)::fV f v r) from rfl]
  by_cases hk:k=f
  ·rw [if_pos hk]
   subst hk
   exact ⟨by simp,fun g h=>by simpa using h⟩
  ·rw [if_neg hk]
   refine ⟨?_,fun g h => ?_⟩
   ·rw [zcb]
    exact zaA _ i1
   ·rw [zcb] at h ⊢
    rcases zca.mp h with e | e
    ·exact zca.mpr (.inl e)
    ·exact zaA _ (i2 g e)
theorem kN (f:Str) (v:V):∀ fs:List (Str×V),(fV f v fs).length≤fs.length+1
 | []=>by simp [fV]
 | (k,x)::r=>by
  have ih:=kN f v r
  rw [show fV f v ((k,x)::r)=(if k=f then (k,v)::r else (k,x)::fV f v r) from rfl]
  by_cases hk:k=f
  ·rw [if_pos hk,zbu,zbu];omega
  ·rw [if_neg hk,zbu,zbu];omega
theorem gM.some_of {v:V}{o:Option Value} (r:gM (some v) o):∃ u,o=some u∧RelV v u:=by
 cases o with
 | none=>exact (show False from r).elim
 | some u=>exact ⟨u,rfl,r⟩
theorem gM.none_of {o:Option Value} (r:gM none o):o=none:=by
 cases o with
 | none=>rfl
 | some u=>exact (show False from r).elim
theorem za {v:V}{u:Value} (r:RelV v u):PySem.W.handedIn u=true:=by
 cases v with
 | bN=>cases (show u=Value.none from r);rfl
 | bl b=>cases (show u=Value.bool b from r);rfl
 | int i=>obtain ⟨t,e⟩:=(show ∃ t,u=Value.int i t from r);cases e;rfl
 | str x=>obtain ⟨t,e⟩:=(show ∃ t,u=Value.str x t from r);cases e;rfl
 | uh b=>obtain ⟨t,e⟩:=(show ∃ t,u=Value.bytes b t from r);cases e;rfl
 | Lu b=>obtain ⟨t,e⟩:=(show ∃ t,u=Value.float b t from r);cases e;rfl
 | ref a=>cases (show u=Value.ref a from r);rfl
 | ty n=>cases (show u=Value.type n from r);rfl
section
variable {P:Program}{w:World}{H H':Hp}{h h':Heap}{a C dx:Addr}{fs fs':List (Str×V)}
theorem qN (hok:iI P w H h) (e:H a=some (.ins C dx fs)):∃ mA,vN h a dx C mA∧(∀ f,gM (fs.lookup f) (mA f))∧PySem.Within mA (fs.map (·.1))∧fs.length≤1000∧H dx=some (.own a):=by
 obtain ⟨d,z,ne,ob,mA,n,r,q⟩:=(show bw P w H h a (.ins C dx fs) from hok a _ e)
 exact ⟨mA,⟨ob,n,ne⟩,r,q,z,d⟩
end
structure yr (K:PySem.W.Frag) (C:Addr):Prop where
 pg:zbF K C Str.empty=true
 hd:zbr K C=true
 po:PySem.W.plainOver K C=true
 sa:zbX K (.ref C) "__setattr__" = some (some (.builtin "object.__setattr__"))
theorem yr.get {K:PySem.W.Frag}{C:Addr} (c:yr K C) (f:Str):zbF K C f=true:=c.pg
noncomputable def eS (K:PySem.W.Frag) (C:Addr) (f:Str):Prop:=zbX K (.ref C) f=some none
theorem eS.JA {K:PySem.W.Frag}{C:Addr}{f:Str} (n:eS K C f):PySem.W.takerIn K C f=some none:=by
 unfold PySem.W.takerIn
 rw [show zbX K (.ref C) f=some none from n]
 rfl
structure Meth (K:PySem.W.Frag) (C:Addr) (m:Str) (f:Addr):Prop where
 at_:zbX K (.ref C) m=some (some (.ref f))
 fn:zcq K (.ref f)=true
 kp:zbY K (.ref f)=true
section
variable {X:Cx}{pins:List (Addr×Obj)}{σ:St}{H:Hp}{s:Shared}{a C dx:Addr}{fs:List (Str×V)}{f:Str}{v:V}{A:Around}{E:Value→Shared→Prop}
theorem vn {b:Bool}{Q:Value→Shared→Prop} (I:Inv X pins σ H s) (e:H a=some (.ins C dx fs)) (c:yr X.K C) (n:eS X.K C f) (l:fs.lookup f=some v)
  (h:∀ u s',Inv X pins σ H s'→RelV v u→Q u s'):wpAny (model X.prog X.w) A (getAttr (.ref a) f b) Q E s:=by
 obtain ⟨mA,O,r,_,_,_⟩:=qN I.hok e
 obtain ⟨u,hu,ru⟩:=gM.some_of (v:=v) (o:=mA f) (by rw [← l];exact r f)
 exact get_map I.xG O (c.get f) c.hd n hu (za ru) (h u _ (I.tok _) ru)
theorem nC {m:Str}{g:Addr}{pl:Sem Bool}{Q:Value×List Value→Shared→Prop} (I:Inv X pins σ H s) (e:H a=some (.ins C dx fs)) (c:yr X.K C) (k:Meth X.K C m g) (l:fs.lookup m=none)
  (h:Q (.ref g,[.ref a]) s):wpAny (model X.prog X.w) A (getMethod (.ref a) m pl) Q E s:=by
 obtain ⟨mA,O,r,_,_,_⟩:=qN I.hok e
 have hn:mA m=none:=gM.none_of (by rw [← l];exact r m)
 exact BL I.xG O (c.get m) k.at_ k.fn hn h
theorem uF {y:V}{u:Value}{Q:Unit→Shared→Prop} (I:Inv X pins σ H s) (e:H a=some (.ins C dx fs)) (c:yr X.K C) (n:eS X.K C f) (hl:fs.length<1000) (ry:RelV y u)
  (h:∀ s',Inv X pins σ (upd H a (.ins C dx (fV f y fs))) s'→Q () s'):wpAny (model X.prog X.w) A (setAttr (.ref a) f u) Q E s:=by
 obtain ⟨mA,O,r,wi,_,ho⟩:=qN I.hok e
 have hz:(fs.map (·.1)).length≤sizeLine:=by rw [zbJ,sizeLine_eq];omega
 refine DF I.xG O c.sa c.po n.JA c.hd wi hz fun h' O' sb=>h _ ?_
 have hd:∃ o,h'.get? dx=some o:=let ⟨o,_,_,e',_⟩:=O'.ns;⟨o,e'⟩
 refine I.write (x:=a) (e:=dx) (by rw [e];exact True.intro) (.inr ho) (fun b q hb z=>(sb.2 b hb).trans z) hd ?_
 refine ⟨by rw [aJ O.ne];exact ho,?_,O.ne,O'.obj,_,O'.ns,fun g => ?_,fun g hg => ?_⟩
 ·have:=kN f y fs;omega
 ·show gM ((fV f y fs).lookup g) (if g=f then some u else mA g)
  rw [kM]
  by_cases q:g=f
  ·rw [if_pos q,if_pos q];exact ry
  ·rw [if_neg q,if_neg q];exact r g
 ·by_cases q:g=f
  ·rw [q];exact (kC f y fs).1
  ·refine (kC f y fs).2 g (wi g fun z=>hg ?_)
   show (if g=f then some u else mA g)=none
   rw [if_neg q];exact z
theorem Inv.made (I:Inv X pins σ H s):Inv X pins σ (upd (upd H s.heap.objs.size (.own (s.heap.objs.size+1))) (s.heap.objs.size+1) (.ins C s.heap.objs.size []))
  { s with heap:=(s.heap.push zbs).push (zbU C s.heap.objs.size) }:=by
 have e1:(s.heap.push zbs).get? s.heap.objs.size=some zbs:=zaQ s.heap rfl
 have e2:((s.heap.push zbs).push (zbU C s.heap.objs.size)).get? (s.heap.objs.size+1)=some (zbU C s.heap.objs.size):=by
  have:=zaQ (s.heap.push zbs) (o:=zbU C s.heap.objs.size) rfl
  rwa [Heap.size_push] at this
 have e3:(s.heap.push zbs).Ns s.heap.objs.size (fun _=>none):=⟨zbs,#[],_,e1,rfl,(fun e he=>absurd he (by simp)),fun _=>rfl⟩
 have I1:=I.laid (a:=s.heap.objs.size) (o:=.own (s.heap.objs.size+1)) (h':=s.heap.push zbs) (t':=s.toks) (fun b u q=>zaq _ q) (zcx _) ⟨_,e1⟩
 refine I1.laid (a:=s.heap.objs.size+1) (o:=.ins C s.heap.objs.size []) (t':=s.toks) (fun b u q=>zaq _ q) (Nat.le_of_eq (Heap.size_push _ _)) ?_
 have ne:s.heap.objs.size≠s.heap.objs.size+1:=zcl (Nat.lt_succ_self _)
 refine ⟨by rw [aJ ne,aM],zcy _,ne,e2,fun _=>none,(Heap.Ns1.of_empty e3).at fun o q=>zaq _ q,fun _=>True.intro,fun y hy=>absurd rfl hy⟩
theorem EZ {prog:Program}{w:World}{env:Env}{e:Expr}{f:Str}{pos:Pos}{s:Shared}{Q:Value→Shared→Prop} (hb:attributeBase e f env (eval e env)=eval e env)
  (h:wpAny (model prog w) A (eval e env) (fun o s₁=>wpAny (model prog w) A (getAttr o f true) Q E s₁) E s):wpAny (model prog w) A (eval (.Attribute e f pos) env) Q E s :=
 Attribute_any_ h (by rw [arm_eval_Attribute,hb])
end
noncomputable def LM (K:PySem.W.Frag) (ta:TE) (f:Str):TE:=fun σ H Q=>ta σ H fun x H1=>∃ a C dx fs v,x = .ref a∧H1 a=some (.ins C dx fs)∧yr K C∧eS K C f∧fs.lookup f=some v∧Q v H1
noncomputable def LU (K:PySem.W.Frag) (ta tv:TE) (f:Str):TS:=fun D σ H=>tv σ H fun y H1=>ta σ H1 fun x H2=>∃ a C dx fs,x = .ref a∧H2 a=some (.ins C dx fs)∧yr K C∧eS K C f∧fs.length<1000 ∧
 D.nx σ (upd H2 a (.ins C dx (fV f y fs)))
section
variable {X:Cx}{o e value:Expr}{f:Str}{pos pos' tpos:Pos}{ta tv:TE}
theorem bz (he:PE X e ta) (hb:attributeBase e f X.env (eval e X.env)=eval e X.env):PE X (.Attribute e f pos) (LM X.K ta f):=by
 intro pins s σ H Q I h
 refine EZ hb (cF (he pins s σ H _ I h) fun u s1 ⟨x,H1,I1,rx,a,C,dx,fs,v,ex,ea,c,n,l,q⟩ => ?_)
 subst ex
 obtain rfl:u=Value.ref a:=rx
 exact vn I1 ea c n l fun u' s2 I2 ru=>⟨v,H1,I2,ru,q⟩
theorem mY (ha:PE X o ta) (hv:PE X value tv) (hs:swapsWith value (some (.Attribute o f pos')) pos.line X.env=pure false):PS X (.Assign [.Attribute o f pos'] value pos) (LU X.K ta tv f):=by
 intro pins s σ H D I h
 refine plainObj_wpAny_Assign_Attribute (cF (hv pins s σ H _ I h) fun u s1 ⟨y,H1,I1,ry,q⟩=>cF (ha pins s1 σ H1 _ I1 q) fun ov s2 ⟨x,H2,I2,rx,a,C,dx,fs,ex,ea,c,n,l,q2⟩ => ?_) hs
 subst ex
 obtain rfl:ov=Value.ref a:=rx
 exact uF I2 ea c n l ry fun s3 I3=>⟨σ,_,I3,q2⟩
end
structure bf (k:Nat) (A:Around):Prop where
 hd:A.handled=none
 dp:A.depth+3*k+5<recursionLimit
 un:A.units+16*k+200<cLine
 gd:A.guards=some []
theorem bf.mono {j k:Nat}{A:Around} (r:bf k A) (h:j≤k):bf j A:=⟨r.hd,by have:=r.dp;omega,by have:=r.un;omega,r.gd⟩
theorem bf.deeper {k:Nat}{A:Around} (r:bf (k+1) A) (env:Env):bf k (A.deeper env) :=
 ⟨r.hd,by have:=r.dp;show A.depth+1+3*k+5<_;omega,by have:=r.un;show A.units+3+16*k+200<_;omega,r.gd⟩
theorem u7 {A:Around}{C:Addr}{us:List Value}{kw:List (Str×Value)}:(A.under (.builtin "type.__call__" ⟨.ref C::us,kw⟩)).depth=A.depth+1:=by
 first | rfl | simp [Around.under,Code.weight,Code.isCreation,Code.isGuard,Code.isCaller,Code.frames,Code.isFrame,guardIds]
theorem u6 {A:Around}{C:Addr}{us:List Value}{kw:List (Str×Value)}:(A.under (.builtin "type.__call__" ⟨.ref C::us,kw⟩)).units=A.units+1:=by
 first | rfl | simp [Around.under,Code.cUnits,Code.frames,Code.isFrame]
theorem bf.make {k:Nat}{A:Around} (r:bf (k+1) A) (C:Addr) (us:List Value) (kw:List (Str×Value)):bf k (A.under (.builtin "type.__call__" ⟨.ref C::us,kw⟩)) :=
 ⟨r.hd,by have:=r.dp;rw [u7];omega,by have:=r.un;rw [u6];omega,r.gd⟩
theorem bf.depth {k:Nat}{A:Around} (r:bf k A):A.depth<recursionLimit:=by have:=r.dp;omega
theorem bf.units {k:Nat}{A:Around} (r:bf k A):A.units+64<cLine:=by have:=r.un;omega
noncomputable def Aa:TA:=fun _ H Q=>Q [] H
noncomputable def vY (ta:TE) (tr:TA):TA:=fun σ H Q=>ta σ H fun x H1=>tr σ H1 fun xs H2=>Q (x::xs) H2
section
variable {X:Cx}{e:Expr}{es:List Expr}{te:TE}{t:TA}{pos:Pos}
theorem aa:PA X [] Aa:=fun _ _ _ _ H Q I h=>Calls.spliced_nil ⟨[],H,I,.nil,h⟩
theorem D8 (ha:PE X e te) (hr:PA X es t) (hs:starEach (e::es) X.env=(false,eval e X.env)::starEach es X.env:=by rfl):PA X (e::es) (vY te t):=by
 intro pos pins s σ H Q I h
 rw [hs]
 show wpAny _ _ (spliced ((false,eval e X.env)::backTo pos (starEach es X.env))) _ _ s
 refine zbc (cF (ha pins s σ H _ I h) fun u s1 ⟨x,H1,I1,r1,q1⟩ => ?_)
 exact cF (hr pos pins s1 σ H1 _ I1 q1) fun us s2 ⟨xs,H2,I2,r2,q2⟩=>⟨x::xs,H2,I2,.cons r1 r2,q2⟩
noncomputable def JB (t:TA):TE:=fun σ H Q=>t σ H fun xs H1=>xs.length≤sizeLine∧∀ p,H1 p=none→Q (.ref p) (upd H1 p (.tup xs))
noncomputable def Gn (t:TA):TE:=fun σ H Q=>t σ H fun xs H1=>xs.length≤sizeLine∧∀ p,H1 p=none→Q (.ref p) (upd H1 p (.lst xs))
theorem aR {x1} (h:PA X es t):PE X (.Tuple es x1 pos) (JB t):=by
 intro pins s σ H Q I hq
 refine wpAny_Tuple_spliced (cF (h pos pins s σ H _ I hq) fun us s1 ⟨xs,H1,I1,r,z,q⟩=>⟨by rw [← r.length];exact z,?_⟩)
 have hf:H1 s1.heap.objs.size=none:=I1.hok.fresh (zcx _)
 refine ⟨.ref s1.heap.objs.size,upd H1 s1.heap.objs.size (.tup xs),I1.laid (t':=s1.toks) (fun b u e=>zaq _ e) (zcx _) ?_,rfl,q _ hf⟩
 exact ⟨z,us,r,⟨_,zaQ _ rfl,rfl,_,rfl⟩⟩
theorem cy (h:PA X es t):PE X (.List es pos) (Gn t):=by
 intro pins s σ H Q I hq
 refine wpAny_List_spliced (cF (h pos pins s σ H _ I hq) fun us s1 ⟨xs,H1,I1,r,z,q⟩=>⟨by rw [← r.length];exact z,?_⟩)
 have hf:H1 s1.heap.objs.size=none:=I1.hok.fresh (zcx _)
 refine ⟨.ref s1.heap.objs.size,upd H1 s1.heap.objs.size (.lst xs),I1.laid (t':=s1.toks) (fun b u e=>zaq _ e) (zcx _) ?_,rfl,q _ hf⟩
 exact ⟨z,us,0,r,zaQ _ rfl⟩
end
noncomputable abbrev Sp:=List V→Hp→VK→XK→Prop
noncomputable abbrev C8:=List Env→Hp→Shared→XK→Value→Shared→Prop
structure vR (P:Program) (w:World) (K:PySem.W.Frag) (mg:Str→Option Value) (base:Heap) (A:Around) (outer:List Env) (s:Shared) (H:Hp):Prop where
 frames:A.frames=some outer
 mod:Mod K mg base
 bs:∀ b o,base.get? b=some o→s.heap.get? b=some o∧H b=none
 EY:base.objs.size≤s.heap.objs.size
 lg:s.heap.FunFrames base outer
 Il:∀ b∈frs outer,H b=none
 hok:iI P w H s.heap
 bare:AllBare s.gens
noncomputable def CE (outer:List Env) (P:Program) (w:World) (H:Hp) (s:Shared) (Q:VK) (u:Value) (s':Shared):Prop :=
 ∃ v H',s'.os=s.os∧AllBare s'.gens∧Un (frs outer) [] H H' s.heap s'.heap∧iI P w H' s'.heap∧RelV v u∧Q v H'
noncomputable def CR (CX:C8) (outer:List Env) (P:Program) (w:World) (H:Hp) (s:Shared) (Q:VK) (E:XK) (r:Result) (s':Shared):Prop :=
 match r with
 | .ok (.ret u)=>CE outer P w H s Q u s'
 | .ok _=>False
 | .error e=>CX outer H s E e s'
structure d8 (P:Program) (w:World) (K:PySem.W.Frag) (mg:Str→Option Value) (base:Heap) (CX:C8) (k:Nat) (f:Addr) (fd:FuncData) (ps:List Str) (sp:Sp):Prop where
 len:∀ vs H Q E,sp vs H Q E→vs.length=ps.length
 run:∀ (A:Around) (outer:List Env) (s:Shared) (H:Hp) (args:Args) (us:List Value) (vs:List V) (Q:VK) (E:XK),bf k A→vR P w K mg base A outer s H→BindsTo s fd args (ps.zip us)→Vals vs us→sp vs H Q E →
  codeAny (model P w) A (.call (.ref f) args) (CR CX outer P w H s Q E) s
theorem d8.imp {P:Program}{w:World}{K:PySem.W.Frag}{mg:Str→Option Value}{base:Heap}{CX:C8}{k:Nat}{f:Addr}{fd:FuncData}{ps:List Str}{sp sp':Sp} (F:d8 P w K mg base CX k f fd ps sp)
  (h:∀ vs H Q E,sp' vs H Q E→sp vs H Q E):d8 P w K mg base CX k f fd ps sp' :=
 ⟨fun vs H Q E q=>F.len vs H Q E (h _ _ _ _ q),fun A outer s H args us vs Q E hr he hb hv hs=>F.run A outer s H args us vs Q E hr he hb hv (h _ _ _ _ hs)⟩
theorem vR.make {P:Program}{w:World}{K:PySem.W.Frag}{mg:Str→Option Value}{base:Heap}{A:Around}{outer:List Env}{s:Shared}{H:Hp} (e:vR P w K mg base A outer s H) (C:Addr) (us:List Value) (kw:List (Str×Value)) :
  vR P w K mg base (A.under (.builtin "type.__call__" ⟨.ref C::us,kw⟩)) outer s H:=⟨by first | exact e.frames | (simpa [Around.under,Code.envs,Code.isFrame,pushEnvs] using e.frames),e.mod,e.bs,e.EY,e.lg,e.Il,e.hok,e.bare⟩
section
variable {X:Cx}{pins:List (Addr×Obj)}{σ:St}{H:Hp}{s s':Shared}
theorem Inv.KG (I:Inv X pins σ H s):vR X.prog X.w X.K X.mg X.base X.A X.stack s H :=
 ⟨I.ok.frames,I.ok.mod,I.bs,zcm I.ok.EY I.sz,I.stack,I.wg,I.hok,I.bare⟩
theorem Inv.after {Q:VK}{u:Value} (I:Inv X pins σ H s) (h:CE X.stack X.prog X.w H s Q u s'):EP X pins σ Q u s':=by
 obtain ⟨v,H',os,bare,un,hok,r,q⟩:=h
 obtain ⟨hh,g,d,t,os'⟩:=s'
 obtain rfl:os'=s.os:=os
 exact ⟨v,H',I.call (h':=hh) (g':=g) (d':=d) (t':=t) (ch:=[]) un hok bare (fun b z=>absurd z (by simp)),r,q⟩
end
noncomputable def vZ (sp:Sp) (dvs:List V) (E:XK) (t:TA):TE:=fun σ H Q=>t σ H fun vs H1=>sp (vs++dvs) H1 Q E
noncomputable def Ac (C:Addr) (m:Str) (sp:Sp) (dvs:List V) (E:XK) (ta:TE) (t:TA):TE:=fun σ H Q=>ta σ H fun x H1=>∃ a dx fs,x = .ref a∧H1 a=some (.ins C dx fs)∧fs.lookup m=none ∧
 t σ H1 fun vs H2=>sp (x::(vs++dvs)) H2 Q E
noncomputable def JD (C:Addr) (sp:Sp) (dvs:List V) (E:XK) (t:TA):TE:=fun σ H Q=>t σ H fun vs H1=>∀ x dx,H1 x=none→H1 dx=none→dx≠x →
 sp (.ref x::(vs++dvs)) (upd (upd H1 dx (.own x)) x (.ins C dx [])) (fun v H2=>v = .bN∧Q (.ref x) H2) E
noncomputable def Binds (K:PySem.W.Frag) (fd:FuncData) (ps:List Str) (ds:List Value):Prop :=
 ∀ (s:Shared) (us:List Value),K.In s.heap→(us++ds).length=ps.length→BindsTo s fd ⟨us,[]⟩ (ps.zip (us++ds))
theorem Binds.all {K:PySem.W.Frag}{fd:FuncData}{ps:List Str} (h:∀ us:List Value,us.length=ps.length→bindArgs fd ⟨us,[]⟩=pure (ps.zip us)):Binds K fd ps []:=fun s us _ hl=>by
 rw [zbK] at hl ⊢
 exact .of_eq (h us hl)
noncomputable def Passes (CX:C8) (X:Cx) (E:XK):Prop:=∀ (pins:List (Addr×Obj)) (σ:St) (H:Hp) (s:Shared) (e:Value) (s':Shared),Inv X pins σ H s→CX X.stack H s E e s'→X.xe e s'
section
variable {X:Cx}{CX:C8}{k:Nat}{f C:Addr}{fd:FuncData}{ps:List Str}{sp:Sp}{dvs:List V}{ds:List Value}{E:XK}{x m:Str}{p pos apos:Pos}{e o:Expr}{es:List Expr}{ta:TE}{t:TA}
theorem uK {pins:List (Addr×Obj)}{σ:St}{H:Hp}{s:Shared}{Q:VK}{us:List Value}{vs:List V} (F:d8 X.prog X.w X.K X.mg X.base CX k f fd ps sp) (hr:bf k X.A) (hb:Binds X.K fd ps ds) (hd:Vals dvs ds) (hx:Passes CX X E)
  (I:Inv X pins σ H s) (r:Vals vs us) (h:sp (vs++dvs) H Q E):wpAny (model X.prog X.w) X.A (call (.ref f) us) (EP X pins σ Q) X.xe s:=by
 have r2:Vals (vs++dvs) (us++ds):=r.append hd
 have hl:(us++ds).length=ps.length:=by rw [← r2.length];exact F.len _ _ _ _ h
 refine wpAny_call (codeAny_mono (F.run X.A X.stack s H ⟨us,[]⟩ (us++ds) (vs++dvs) Q E hr I.KG (hb s us I.xG hl) r2 h) fun r s' hq => ?_)
 cases r with
 | error e=>exact hx pins σ H s e s' I hq
 | ok fl =>
  cases fl with
  | ret u=>exact I.after hq
  | next=>exact False.elim hq
  | brk=>exact False.elim hq
  | cont=>exact False.elim hq
theorem D7 (F:d8 X.prog X.w X.K X.mg X.base CX k f fd ps sp) (hr:bf k X.A) (hg:Gl X x) (hm:X.mg x=some (.ref f)) (hk:zbY X.K (.ref f)=true) (hb:Binds X.K fd ps ds) (hd:Vals dvs ds) (hx:Passes CX X E)
  (ha:PA X (e::es) t) (hdb:(x==("__debug__" : Str))=false:=by decide) (he:starEach (e::es) X.env=(false,eval e X.env)::starEach es X.env:=by rfl) (hpl:(backTo pos (starEach es X.env)).any (·.1)=false:=by rfl) :
  PE X (.Call (.Name x p) (e::es) [] pos) (vZ sp dvs E t):=by
 intro pins s σ H Q I h
 refine wpAny_Call_Name_kw (qJ I hg hm ?_ hdb)
 refine PySem.W.callWith_K (h₀:=X.base) I.ok.mod.Lr hk (cF (ha pos pins s σ H _ I h) fun us s1 ⟨vs,H1,I1,r,q⟩=>⟨I1.xG,?_⟩) he hpl
 exact uK F hr hb hd hx I1 r q
theorem aP {pl:Sem Bool} (he:PE X o ta) (c:yr X.K C) (hm:Meth X.K C m f) (F:d8 X.prog X.w X.K X.mg X.base CX k f fd ps sp) (hr:bf k X.A) (hb:Binds X.K fd ps ds) (hd:Vals dvs ds) (hx:Passes CX X E) (ha:PA X (e::es) t)
  (hst:starEach (e::es) X.env=(false,eval e X.env)::starEach es X.env:=by rfl) (hpl:(backTo pos (starEach es X.env)).any (·.1)=false:=by rfl)
  (ht:eval (.Call (.Attribute o m apos) (e::es) [] pos) X.env=(do
   let ov ← eval o X.env
   standAt apos.atName
   let (f,first) ← holding [ov] (getMethod ov m pl)
   callWith pos f first (backTo pos (starEach (e::es) X.env)) (backToKw pos (keywordEach [] X.env))):=by rfl) :
  PE X (.Call (.Attribute o m apos) (e::es) [] pos) (Ac C m sp dvs E ta t):=by
 intro pins s σ H Q I h
 refine PySem.W.methodCall_KW (pl:=pl) (cF (he pins s σ H _ I h) fun u s1 ⟨x,H1,I1,rx,a,dx,fs,ex,ea,l,q⟩ => ?_) ht
 subst ex
 obtain rfl:u=Value.ref a:=rx
 refine nC I1 ea c hm l ?_
 refine PySem.W.callWith_K (first:=[.ref a]) (h₀:=X.base) I.ok.mod.Lr hm.kp (cF (ha pos pins s1 σ H1 _ I1 q) fun us s2 ⟨vs,H2,I2,r,q2⟩=>⟨I2.xG,?_⟩) hst hpl
 exact uK (us:=.ref a::us) (vs:=.ref a::vs) F hr hb hd hx I2 (.cons rfl r) q2
theorem cu {pl:Sem Bool} (he:PE X o ta) (c:yr X.K C) (hm:Meth X.K C m f) (F:d8 X.prog X.w X.K X.mg X.base CX k f fd ps sp) (hr:bf k X.A) (hb:Binds X.K fd ps ds) (hd:Vals dvs ds) (hx:Passes CX X E)
  (ht:eval (.Call (.Attribute o m apos) [] [] pos) X.env=(do
   let ov ← eval o X.env
   standAt apos.atName
   let (f,first) ← holding [ov] (getMethod ov m pl)
   callWith pos f first (backTo pos (starEach [] X.env)) (backToKw pos (keywordEach [] X.env))):=by rfl) :
  PE X (.Call (.Attribute o m apos) [] [] pos) (Ac C m sp dvs E ta Aa):=by
 intro pins s σ H Q I h
 refine PySem.W.methodCall_KW (pl:=pl) (cF (he pins s σ H _ I h) fun u s1 ⟨x,H1,I1,rx,a,dx,fs,ex,ea,l,q⟩ => ?_) ht
 subst ex
 obtain rfl:u=Value.ref a:=rx
 refine nC I1 ea c hm l ?_
 exact PySem.W.callWith_K0 (first:=[.ref a]) I1.xG hm.kp (uK (us:=[.ref a]) (vs:=[.ref a]) F hr hb hd hx I1 (.cons rfl .nil) q)
structure Mk (K:PySem.W.Frag) (C f:Addr):Prop where
 makes:PySem.W.makesIn K C=true
 init:zbX K (.ref C) "__init__" = some (some (.ref f))
 fn:zcq K (.ref f)=true
 kp:zbY K (.ref C)=true
theorem AL {pins:List (Addr×Obj)}{σ:St}{H:Hp}{s:Shared}{Q:VK}{us:List Value}{vs:List V} (M:Mk X.K C f) (F:d8 X.prog X.w X.K X.mg X.base CX k f fd ps sp) (hr:bf (k+1) X.A) (hb:Binds X.K fd ps ds) (hd:Vals dvs ds)
  (hx:Passes CX X E) (I:Inv X pins σ H s) (r:Vals vs us)
  (h:∀ x dx,H x=none→H dx=none→dx≠x→sp (.ref x::(vs++dvs)) (upd (upd H dx (.own x)) x (.ins C dx [])) (fun v H2=>v = .bN∧Q (.ref x) H2) E) :
  wpAny (model X.prog X.w) X.A (call (.ref C) us) (EP X pins σ Q) X.xe s:=by
 have hq:=h (s.heap.objs.size+1) s.heap.objs.size (I.hok.fresh (zcz _)) (I.hok.fresh (zcx _)) (zcl (Nat.lt_succ_self _))
 have I2:=Inv.made (C:=C) I
 have r2:Vals (V.ref (s.heap.objs.size+1)::(vs++dvs)) (Value.ref (s.heap.objs.size+1)::(us++ds)):=.cons rfl (r.append hd)
 have hl:(Value.ref (s.heap.objs.size+1)::us++ds).length=ps.length:=by
  have e:=r2.length
  rw [F.len _ _ _ _ hq] at e
  exact e.symm
 refine wpAny_call (Bt (f:=f) I.xG M.makes M.init (beq_iff_eq.mp M.fn) (codeAny_mono (F.run _ X.stack _ _ ⟨Value.ref (s.heap.objs.size+1)::us,[]⟩ (Value.ref (s.heap.objs.size+1)::(us++ds)) _ _ E (hr.make C us [])
  (I2.KG.make C us []) (hb _ (Value.ref (s.heap.objs.size+1)::us) I2.xG hl) r2 hq) fun r s' hq' => ?_))
 cases r with
 | error e=>exact hx pins σ _ _ e s' I2 hq'
 | ok fl =>
  cases fl with
  | ret u =>
   obtain ⟨v,H',I3,rv,ev,q3⟩:=I2.after hq'
   subst ev
   exact ⟨rv,⟨V.ref (s.heap.objs.size+1),H',I3,rfl,q3⟩⟩
  | next=>exact False.elim hq'
  | brk=>exact False.elim hq'
  | cont=>exact False.elim hq'
theorem jq (M:Mk X.K C f) (F:d8 X.prog X.w X.K X.mg X.base CX k f fd ps sp) (hr:bf (k+1) X.A) (hg:Gl X x) (hm:X.mg x=some (.ref C)) (hb:Binds X.K fd ps ds) (hd:Vals dvs ds) (hx:Passes CX X E)
  (hdb:(x==("__debug__" : Str))=false:=by decide):PE X (.Call (.Name x p) [] [] pos) (JD C sp dvs E Aa):=by
 intro pins s σ H Q I h
 refine wpAny_Call_Name_kw (qJ I hg hm ?_ hdb)
 exact PySem.W.callWith_K0 I.xG M.kp (AL (us:=[]) M F hr hb hd hx I .nil h)
end
structure aG (N P:List Str) (sc:Scope):Prop where
 kind:sc.kind = .function
 co:sc.isCoroutine=false
 gen:sc.isGenerator=false
 nd:N.Nodup
 pre:N.take P.length=P
 par:∀ x∈P,sc.names.lookup x=some .local∨sc.names.lookup x=some .cell
 HQ:∀ y∈sc.names,y.2 ≠ .free
theorem pC {kindOf:Str→Option NameKind}{x:Str}:∀ {binds:List (Str×Value)}{m:Str→Option Value},(∀ v,(x,v) ∉ binds)→bindL kindOf binds m x=m x
 | [],_,_=>rfl
 | (n,v)::r,m,h=>by
  unfold bindL
  rw [pC fun w hw=>h w (zaA _ hw)]
  split
  ·have:x≠n:=by rintro rfl;exact h v zaR
   simp [this]
  ·rfl
theorem pF {kindOf:Str→Option NameKind}{x:Str}:∀ {binds:List (Str×Value)}{m:Str→Option Value},(∀ v,(x,v) ∉ binds)→bindC kindOf binds m x=m x
 | [],_,_=>rfl
 | (n,v)::r,m,h=>by
  unfold bindC
  rw [pF fun w hw=>h w (zaA _ hw)]
  split
  ·rfl
  ·have:x≠n:=by rintro rfl;exact h v zaR
   simp [this]
theorem pD {kindOf:Str→Option NameKind}{x:Str}{v:Value}:∀ {P:List Str}{vs:List Value}{i:Nat}{m:Str→Option Value},P.Nodup→P[i]? = some x→vs[i]? = some v→kindOf x=some .local →
  bindL kindOf (P.zip vs) m x=some v
 | [],_,_,_,_,h,_,_=>by simp at h
 | _::_,[],_,_,_,_,h,_=>by simp at h
 | p::P,w::vs,0,m,nd,h1,h2,hk=>by
  simp at h1 h2;subst h1;subst h2
  show bindL kindOf ((p,w)::P.zip vs) m p=_
  unfold bindL
  rw [pC fun v hv=>(zbL.mp nd).1 (List.of_mem_zip hv).1,if_pos hk]
  simp
 | p::P,w::vs,i+1,m,nd,h1,h2,hk=>by
  show bindL kindOf ((p,w)::P.zip vs) m x=_
  unfold bindL
  exact pD (i:=i) (zbL.mp nd).2 (by simpa using h1) (by simpa using h2) hk
theorem pG {kindOf:Str→Option NameKind}{x:Str}{v:Value}:∀ {P:List Str}{vs:List Value}{i:Nat}{m:Str→Option Value},P.Nodup→P[i]? = some x→vs[i]? = some v→kindOf x≠some .local →
  bindC kindOf (P.zip vs) m x=some v
 | [],_,_,_,_,h,_,_=>by simp at h
 | _::_,[],_,_,_,_,h,_=>by simp at h
 | p::P,w::vs,0,m,nd,h1,h2,hk=>by
  simp at h1 h2;subst h1;subst h2
  show bindC kindOf ((p,w)::P.zip vs) m p=_
  unfold bindC
  rw [pF fun v hv=>(zbL.mp nd).1 (List.of_mem_zip hv).1,if_neg hk]
  simp
 | p::P,w::vs,i+1,m,nd,h1,h2,hk=>by
  show bindC kindOf ((p,w)::P.zip vs) m x=_
  unfold bindC
  exact pG (i:=i) (zbL.mp nd).2 (by simpa using h1) (by simpa using h2) hk
noncomputable def start (N:List Str) (vs:List V):St:=vs.map some++zbW (N.length - vs.length) none
noncomputable def jM (CX:C8) (P:Program) (w:World) (K:PySem.W.Frag) (mg:Str→Option Value) (base:Heap) (N:List Str) (qual:Str) (scope:Scope) (f:Addr) (cd:Value) (A:Around) (outer:List Env) (s:Shared) (H:Hp) (E:XK):Cx where
 prog:=P
 w:=w
 K:=K
 mg:=mg
 base:=base
 A:=A.deeper (envOfC qual scope s.heap.objs.size f cd)
 N:=N
 s₀:=s
 H₀:=H
 env:=envOfC qual scope s.heap.objs.size f cd
 outer:=outer
 stack:=envOfC qual scope s.heap.objs.size f cd::outer
 ex:=[]
 calm:=true
 fn:=fun _=>true
 pn:=[]
 xe:=fun e s'=>wpAny (model P w) (A.deeper (envOfC qual scope s.heap.objs.size f cd)) (leaving (envOfC qual scope s.heap.objs.size f cd) e) (fun _ s''=>CX outer H s E e s'') (fun e' s''=>CX outer H s E e' s'') s'
theorem tL {sc:Scope}{n:Nat}{x:Str} (h:sc.names.lookup x=some .cell):∃ c,(cellsFrom n sc.names []).lookup x=some c:=by
 have q:=PySem.W.cellsFrom_some sc.names n [] (.inl h)
 exact Option.isSome_iff_exists.mp q
theorem yW {CX:C8}{P:Program}{w:World}{K:PySem.W.Frag}{mg:Str→Option Value}{base:Heap}{N ps:List Str}{qual:Str}{scope:Scope}{f:Addr}{cd:Value}{A:Around}{outer:List Env}{s s1:Shared}{H:Hp}{E:XK}{us:List Value}{vs:List V}
  (S:aG N ps scope) (hd:A.handled=none) (e0:vR P w K mg base A outer s H) (hl:vs.length=ps.length) (r:Vals vs us)
  (x:InCallC s s.heap.objs.size (bindL (envOfC qual scope s.heap.objs.size f cd).kindOf (ps.zip us) fun _=>none) (cellsFrom (s.heap.objs.size+1) scope.names []) (bindC (envOfC qual scope s.heap.objs.size f cd).kindOf (ps.zip us) fun _=>none) s1) :
  Inv (jM CX P w K mg base N qual scope f cd A outer s H E) [] (start N vs) H s1:=by
 have hpl:ps.length≤N.length:=by have:=congrArg zcv S.pre;rw [zbv] at this;omega
 obtain ⟨h1,tk,rfl,hk⟩:=x.done
 have noA:∀ b:Addr,b ∉ (jM CX P w K mg base N qual scope f cd A outer s H E).ex:=fun b z=>absurd (show b∈([]:List Addr) from z) (by simp)
 refine ⟨⟨e0.mod,S.kind,rfl,rfl,zcx _,fun y z c h1 h2 => ?_,fun y hy => ?_,fun y c _ h => ?_,fun _=>hd,Around.frames_deeper e0.frames,.inr ⟨rfl,rfl⟩,fun b z=>absurd z (noA b),e0.bs,e0.EY,fun b _ _=>noA b,fun b z=>absurd z (noA b),e0.lg,e0.Il⟩,
  rfl,e0.bare,Un.kept hk,⟨_,x.toInCall.ns,fun i y v h1 h2 h3 => ?_⟩,fun y c h=>⟨_,x.cell y c h⟩,e0.hok.fresh (zcx _),fun y c h => ?_,fun p hp=>absurd (show p∈([]:List (Addr×Obj)) from hp) (by simp),e0.hok.kept hk,?_⟩
 ·exact name_of_addr x.apart (PySem.mem_of_lookup h1) (PySem.mem_of_lookup h2)
 ·have hy:scope.names.lookup y=some .cell∨scope.names.lookup y=some .free:=hy
  rcases hy with hy | hy
  ·exact tL hy
  ·exact absurd rfl (S.HQ _ (PySem.mem_of_lookup hy))
 ·exact Nat.le_of_lt (x.above y c (PySem.mem_of_lookup h))
 ·have hi:i<vs.length:=by
   unfold start at h2
   by_cases hi:i<vs.length
   ·exact hi
   ·rw [zab (by simpa using hi)] at h2
    rw [List.getElem?_replicate] at h2
    split at h2 <;> cases h2
  have ha:vs[i]? = some v:=by
   unfold start at h2
   rw [zaf (by simpa using hi),zbf] at h2
   cases e:vs[i]? with
   | none=>rw [e] at h2;cases h2
   | some a=>rw [e] at h2;cases h2;rfl
  obtain ⟨u,hu,rv⟩:=r.get ha
  have hp:ps[i]? = some y:=by
   rw [← S.pre,List.getElem?_take_of_lt (by omega)];exact h1
  have ndP:ps.Nodup:=by rw [← S.pre];exact S.nd.sublist (zbg _ _)
  refine ⟨u,rv,?_⟩
  rcases S.par y (zaD hp) with k | k
  ·exact .inl ⟨k,pD ndP hp hu k⟩
  ·obtain ⟨c,e⟩:=tL (n:=s.heap.objs.size+1) k
   refine .inr ⟨.inl k,c,e,?_⟩
   have q:=x.cell y c e
   rw [pG ndP hp hu (by show scope.names.lookup y≠_;rw [k];decide)] at q
   exact q
 ·exact e0.hok.fresh (Nat.le_of_lt (x.above y c (PySem.mem_of_lookup h)))
 ·unfold start
  show _=N.length
  rw [zaS,zbJ,List.length_replicate]
  omega
theorem KC {CX:C8}{P:Program}{w:World}{K:PySem.W.Frag}{mg:Str→Option Value}{base:Heap}{k:Nat}{f:Addr}{name qual:Str}{params:Arguments}{body:List Stmt}{scope:Scope}{dV kV doc pm cdv ct oc:Value}{an od:Option Addr}
  {osl:Array (Option Value)}{N ps:List Str}{sp:Sp} (lk:K.lookup f=some ⟨oc,od,.func (zcr name qual params body scope dV kV doc pm an cdv ct),osl⟩) (hcd:zbZ K cdv qual=true) (S:aG N ps scope)
  (len:∀ vs H Q E,sp vs H Q E→vs.length=ps.length)
  (hbody:∀ (A:Around) (outer:List Env) (s:Shared) (H:Hp) (vs:List V) (Q:VK) (E:XK),bf k (A.deeper (envOfC qual scope s.heap.objs.size f cdv))→sp vs H Q E →
   ∃ t,tT (jM CX P w K mg base N qual scope f cdv A outer s H E) body t∧t { nx:=fun _ H'=>Q .bN H',rt:=Q } (start N vs) H) :
  d8 P w K mg base CX (k+1) f (zcr name qual params body scope dV kV doc pm an cdv ct) ps sp:=by
 refine ⟨len,fun A outer s H args us vs Q E hr e0 hb r hsp => ?_⟩
 have hl:=len _ _ _ _ hsp
 have KX:K.In s.heap:=e0.mod.Lr.keeps fun b o e=>(e0.bs b o e).1
 have lim:s.heap.NoLimit:=e0.mod.nolimit.keeps fun b o e=>(e0.bs b o e).1
 have hkind:∀ y∈ps.zip us,scope.names.lookup y.1=some .local∨(scope.names.lookup y.1=some .cell∧((cellsFrom (s.heap.objs.size+1) scope.names []).lookup y.1).isSome=true):=fun ⟨n,v⟩ hy=>by
  rcases S.par n (List.of_mem_zip hy).1 with q | q
  ·exact .inl q
  ·exact .inr ⟨q,PySem.W.cellsFrom_some _ _ _ (.inl q)⟩
 refine codeAny_call_function hr.depth (KX _ _ lk) rfl S.co S.gen rfl (PySem.W.codeRec_of KX hcd) (hb _ _ _ _ ?_)
 refine wpAny_newFunctionEnv_cells S.kind hkind fun env he s1 x => ?_
 subst he
 refine ⟨lim.keeps x.toInCall.keep,codeAny_func ?_⟩
 obtain ⟨t,ht,hq⟩:=hbody A outer s H vs Q E (hr.deeper _) hsp
 have I:Inv (jM CX P w K mg base N qual scope f cdv A outer s H E) [] (start N vs) H s1:=yW S hr.hd e0 hl r x
 refine wpAny_mono (ht [] s1 (start N vs) H _ I hq) (fun fl s' hs => ?_) fun e s' hs=>hs
 have fin:∀ {σ':St}{H':Hp}{v:V}{u:Value},Inv (jM CX P w K mg base N qual scope f cdv A outer s H E) [] σ' H' s'→RelV v u→Q v H'→CE outer P w H s Q u s' :=
  fun {σ' H' v u} J rv q=>⟨v,H',J.os,J.bare,J.base,J.hok,rv,q⟩
 cases fl with
 | ret u =>
  obtain ⟨v,σ',H',J,rv,q⟩:=hs
  exact fin J rv q
 | next =>
  obtain ⟨σ',H',J,q⟩:=hs
  exact fin (v:=V.bN) (u:=Value.none) J rfl q
 | brk =>
  obtain ⟨_,_,_,q⟩:=hs
  exact False.elim q
 | cont =>
  obtain ⟨_,_,_,q⟩:=hs
  exact False.elim q
section
variable {X:Cx}{x:Str}{p pos:Pos}{e:Expr}{es:List Expr}{t:TA}{id T:String}{r:List V→Hp→VK→Prop}
noncomputable def Jw (r:List V→Hp→VK→Prop) (t:TA):TE:=fun σ H Q=>t σ H fun vs H1=>r vs H1 Q
theorem Ba (hc:bV X (.builtin id) r) (hg:Gl X x) (hm:X.mg x=none) (hv:bootBuiltins x=some (.builtin id)) (ha:PA X (e::es) t) (hn:x ≠ "__name__" := by decide) (hdb:(x==("__debug__" : Str))=false:=by decide)
  (he:starEach (e::es) X.env=(false,eval e X.env)::starEach es X.env:=by rfl) (hpl:(backTo pos (starEach es X.env)).any (·.1)=false:=by rfl):PE X (.Call (.Name x p) (e::es) [] pos) (Jw r t):=by
 intro pins s σ H Q I h
 refine wpAny_Call_Name_kw (vg I hg hm hv ?_ hn hdb)
 exact PyProof.Rows.callWith_builtin1 (cF (ha pos pins s σ H _ I h) fun us s1 ⟨vs,H1,I1,r1,q1⟩=>hc pins s1 σ H1 vs us Q I1 r1 q1) he hpl
theorem yF (hc:bV X (.type T) r) (hg:Gl X x) (hm:X.mg x=none) (hv:bootBuiltins x=some (.type T)) (ha:PA X (e::es) t) (hn:x ≠ "__name__" := by decide) (hdb:(x==("__debug__" : Str))=false:=by decide)
  (he:starEach (e::es) X.env=(false,eval e X.env)::starEach es X.env:=by rfl) (hpl:(backTo pos (starEach es X.env)).any (·.1)=false:=by rfl):PE X (.Call (.Name x p) (e::es) [] pos) (Jw r t):=by
 intro pins s σ H Q I h
 refine wpAny_Call_Name_kw (vg I hg hm hv ?_ hn hdb)
 exact PyProof.Rows.callWith_type1 (cF (ha pos pins s σ H _ I h) fun us s1 ⟨vs,H1,I1,r1,q1⟩=>hc pins s1 σ H1 vs us Q I1 r1 q1) he hpl
end
section
variable {κ:Type} [DecidableEq κ]
noncomputable def eW (kvs:List (κ×V)) (k:κ):Option V:=(kvs.find? fun kv=>decide (kv.1=k)).map (·.2)
noncomputable def putK (kvs:List (κ×V)) (k:κ) (v:V):List (κ×V) :=
 if (kvs.any fun kv=>decide (kv.1=k))=true then kvs.map (fun kv=>if kv.1=k then (kv.1,v) else kv) else kvs++[(k,v)]
noncomputable def kQ (kvs:List (κ×V)) (k:κ):List (κ×V):=kvs.filter fun kv=>decide (kv.1≠k)
theorem lY {p:κ×V}{r:List (κ×V)}{k:κ} (e:p.1=k):eW (p::r) k=some p.2:=by simp [eW,zbM,e]
theorem lZ {p:κ×V}{r:List (κ×V)}{k:κ} (e : ¬ p.1=k):eW (p::r) k=eW r k:=by simp [eW,zbM,e]
theorem l6 (k:κ):∀ kvs:List (κ×V),(kvs.any fun kv=>decide (kv.1=k))=(eW kvs k).isSome
 | []=>rfl
 | p::r=>by
  rw [zcc]
  by_cases e:p.1=k
  ·simp only [lY e,decide_eq_true e,Bool.true_or,Option.isSome_some]
  ·rw [lZ e,decide_eq_false e,Bool.false_or];exact l6 k r
theorem fh (kvs:List (κ×V)) (k:κ) (v:V):(putK kvs k v).length≤kvs.length+1:=by
 unfold putK
 split
 ·rw [zbJ];omega
 ·rw [zaS,zbu,zbN];omega
theorem gM.fO {o:Option V}{u:Option Value} (r:gM o u):o.isSome=u.isSome:=by
 cases o with
 | none=>cases u with
  | none=>rfl
  | some _=>exact (show False from r).elim
 | some _=>cases u with
  | none=>exact (show False from r).elim
  | some _=>rfl
theorem KV.val {kvs:List (κ×V)}{vs:List (κ×Value)} (r:KV kvs vs) (k:κ):gM (eW kvs k) (valueAt vs k):=by
 unfold KV at r
 induction r with
 | nil=>exact True.intro
 | @cons p q ps qs h t ih =>
  obtain ⟨h1,h2⟩:=h
  by_cases e:p.1=k
  ·have e':q.1=k:=h1.symm.trans e
   have b:valueAt (q::qs) k=some q.2:=by simp [valueAt,zbM,e']
   rw [lY e,b];exact h2
  ·have e' : ¬ q.1=k:=fun z=>e (h1.trans z)
   have b:valueAt (q::qs) k=valueAt qs k:=by simp [valueAt,zbM,e']
   rw [lZ e,b];exact ih
theorem KV.any {kvs:List (κ×V)}{vs:List (κ×Value)} (r:KV kvs vs) (k:κ):(kvs.any fun kv=>decide (kv.1=k))=vs.any fun kv=>decide (kv.1=k):=by
 unfold KV at r
 induction r with
 | nil=>rfl
 | cons h t ih=>rw [zcc,zcc,ih,h.1]
theorem KV.repl {kvs:List (κ×V)}{vs:List (κ×Value)} (r:KV kvs vs) (k:κ) {y:V}{u:Value} (ry:RelV y u) :
  KV (kvs.map fun kv=>if kv.1=k then (kv.1,y) else kv) (vs.map fun kv=>if kv.1=k then (kv.1,u) else kv):=by
 unfold KV at r ⊢
 induction r with
 | nil=>exact .nil
 | @cons p q ps qs h t ih =>
  rw [zcb,zcb]
  refine .cons ?_ ih
  obtain ⟨h1,h2⟩:=h
  by_cases e:p.1=k
  ·rw [if_pos e,if_pos (h1.symm.trans e)];exact ⟨h1,ry⟩
  ·rw [if_neg e,if_neg (fun z=>e (h1.trans z))];exact ⟨h1,h2⟩
theorem KV.put {kvs:List (κ×V)}{vs:List (κ×Value)} (r:KV kvs vs) (k:κ) {y:V}{u:Value} (ry:RelV y u):KV (putK kvs k y) (stored vs k u):=by
 unfold putK stored
 rw [r.any k]
 by_cases e:(vs.any fun kv=>decide (kv.1=k))=true
 ·rw [if_pos e,if_pos e];exact r.repl k ry
 ·rw [if_neg e,if_neg e];exact Paired.snoc r ⟨rfl,ry⟩
theorem KV.drop {kvs:List (κ×V)}{vs:List (κ×Value)} (r:KV kvs vs) (k:κ):KV (kQ kvs k) (without vs k):=by
 unfold KV at r ⊢
 unfold kQ without
 induction r with
 | nil=>exact .nil
 | @cons p q ps qs h t ih =>
  obtain ⟨h1,h2⟩:=h
  rw [zbw,zbw]
  by_cases e:p.1=k
  ·have a : ¬ decide (p.1≠k)=true:=by simp [e]
   have b : ¬ decide (q.1≠k)=true:=by simp [h1.symm.trans e]
   rw [if_neg a,if_neg b];exact ih
  ·have e' : ¬ q.1=k:=fun z=>e (h1.trans z)
   have a:decide (p.1≠k)=true:=by simp [e]
   have b:decide (q.1≠k)=true:=by simp [e']
   rw [if_pos a,if_pos b];exact .cons ⟨h1,h2⟩ ih
theorem KV.length {kvs:List (κ×V)}{vs:List (κ×Value)} (r:KV kvs vs):kvs.length=vs.length:=Paired.length r
theorem BW (kvs:List (κ×V)) (k:κ):(kQ kvs k).length≤kvs.length:=zau _ _
end
theorem kO {P:Program}{w:World}{k:Key}{u:Value} (r:RelV (kV k) u):(bx P w).is k u=true:=by
 cases k with
 | inl i=>obtain ⟨t,e⟩:=(show ∃ t,u=Value.int i t from r);subst e;exact sC P w i t
 | inr x=>obtain ⟨t,e⟩:=(show ∃ t,u=Value.str x t from r);subst e;exact sA P w x t
theorem oY {P:Program}{w:World}:∀ {ks:List Key}{us:List Value},Vals (ks.map kV) us→ItemsAre (bx P w) ks us
 | [],_,r=>by rw [zcg] at r;cases r;exact .nil
 | k::ks,_,r=>by
  rw [zcb] at r
  cases r with
  | cons h t=>exact .cons (kO h) (oY t)
noncomputable abbrev KT (H:Hp):List (List Key×V)→List (List Key×Addr×Value)→Prop:=Paired fun p q=>p.1=q.1∧H q.2.1=some (.tup (p.1.map kV))∧RelV p.2 q.2.2
theorem KT.val {H:Hp}{kvs:List (List Key×V)}{xs:List (List Key×Addr×Value)} (r:KT H kvs xs) (k:List Key):gM (eW kvs k) ((atKey xs k).map (·.2)):=by
 induction r with
 | nil=>exact True.intro
 | @cons p q ps qs h t ih =>
  obtain ⟨h1,_,h2⟩:=h
  by_cases e:p.1=k
  ·have e':q.1=k:=h1.symm.trans e
   have b:atKey (q::qs) k=some q.2:=by simp [atKey,zbM,e']
   rw [lY e,b];exact h2
  ·have e' : ¬ q.1=k:=fun z=>e (h1.trans z)
   have b:atKey (q::qs) k=atKey qs k:=by simp [atKey,zbM,e']
   rw [lZ e,b];exact ih
theorem KT.repl {H:Hp}{kvs:List (List Key×V)}{xs:List (List Key×Addr×Value)} (r:KT H kvs xs) (k:List Key) {y:V}{u:Value} (ry:RelV y u) :
  KT H (kvs.map fun kv=>if kv.1=k then (kv.1,y) else kv) (xs.map (putAt k u)):=by
 induction r with
 | nil=>exact .nil
 | @cons p q ps qs h t ih =>
  rw [zcb,zcb]
  refine .cons ?_ ih
  obtain ⟨h1,h2,h3⟩:=h
  unfold putAt
  by_cases e:p.1=k
  ·rw [if_pos e,if_pos (h1.symm.trans e)];exact ⟨h1,h2,ry⟩
  ·rw [if_neg e,if_neg (fun z=>e (h1.trans z))];exact ⟨h1,h2,h3⟩
theorem KT.put {H:Hp}{kvs:List (List Key×V)}{xs:List (List Key×Addr×Value)} (r:KT H kvs xs) (k:List Key) {b:Addr}{y:V}{u:Value} (hb:H b=some (.tup (k.map kV))) (ry:RelV y u) :
  KT H (putK kvs k y) (storedH xs k b u):=by
 have e:(kvs.any fun kv=>decide (kv.1=k))=(atKey xs k).isSome:=by
  rw [l6,(r.val k).fO,zbt]
 unfold putK storedH
 rw [e]
 by_cases q:(atKey xs k).isSome=true
 ·rw [if_pos q,if_pos q];exact r.repl k ry
 ·rw [if_neg q,if_neg q];exact Paired.snoc r ⟨rfl,hb,ry⟩
theorem KT.keeps {H H':Hp}{kvs:List (List Key×V)}{xs:List (List Key×Addr×Value)} (r:KT H kvs xs) (ht:∀ b ys,H b=some (.tup ys)→H' b=some (.tup ys)):KT H' kvs xs :=
 Paired.HU r fun _ _ z=>⟨z.1,ht _ _ z.2.1,z.2.2⟩
section
variable {P:Program}{w:World}{H:Hp}{h:Heap}{a:Addr}
theorem FI {u:HO} (ok:iI P w H h) (e:Rd H a u):bw P w H h a u:=e.ok ok
theorem nH {kvs:List (Key×V)} (ok:iI P w H h) (e:Rd H a (.dK kvs)):kvs.length≤sizeLine∧(a==sysModules)=false∧∃ vs,KV kvs vs∧h.DictOf (bx P w) a vs :=
 show bw P w H h a (.dK kvs) from FI ok e
theorem xV {kvs:List (Key×V)} (ok:iI P w H h) (e:H a=some (.dK kvs)):kvs.length≤sizeLine∧(a==sysModules)=false∧∃ vs,KV kvs vs∧h.DictOf (bx P w) a vs:=nH ok (.inl e)
theorem nq {ks:List Key} (ok:iI P w H h) (e:H a=some (.tup (ks.map kV))):(tupleKind (bx P w)).is h ks a:=by
 obtain ⟨_,its,r,o,h1,h2,n,h3⟩:=(show bw P w H h a (.tup (ks.map kV)) from ok a _ e)
 exact ⟨o,its.toArray,n,h1,h2,h3,by simpa using oY r⟩
theorem pq {kvs:List (List Key×V)} (ok:iI P w H h) (e:Rd H a (.dT kvs)):kvs.length≤sizeLine∧(a==sysModules)=false ∧
  ∃ xs,KT H kvs xs∧h.DictOfH (tupleKind (bx P w)) a xs:=by
 obtain ⟨z,y,xs,r,o,es,ep,h1,h2,h3,h4,h5⟩:=(show bw P w H h a (.dT kvs) from FI ok e)
 refine ⟨z,y,xs,r,o,es,ep,h1,h2,h3,h4,fun x hx => ?_,h5⟩
 have all:∀ {l:List (List Key×V)}{m:List (List Key×Addr×Value)},KT H l m→∀ x∈m,(tupleKind (bx P w)).is h x.1 x.2.1:=by
  intro l m q
  induction q with
  | nil=>intro x hx;exact nomatch hx
  | @cons p q ps qs hq t ih =>
   intro x hx
   rcases zca.mp hx with e | hx
   ·subst e
    exact nq ok (by rw [← hq.1];exact hq.2.1)
   ·exact ih x hx
 exact all r x hx
theorem KH {kvs:List (List Key×V)} (ok:iI P w H h) (e:H a=some (.dT kvs)):kvs.length≤sizeLine∧(a==sysModules)=false ∧
  ∃ xs,KT H kvs xs∧h.DictOfH (tupleKind (bx P w)) a xs:=pq ok (.inl e)
end
noncomputable def iJ (H:Hp) (a:Addr) (y:V) (r:Option V):Prop :=
 (∃ kvs k,Rd H a (.dK kvs)∧y=kV k∧r=eW kvs k)∨∃ kvs k b,Rd H a (.dT kvs)∧y = .ref b∧H b=some (.tup (k.map kV))∧r=eW kvs k
noncomputable def vU (H:Hp) (a:Addr) (y v:V) (H':Hp):Prop :=
 (∃ kvs k,H a=some (.dK kvs)∧y=kV k∧kvs.length<sizeLine∧H'=upd H a (.dK (putK kvs k v))) ∨
 ∃ kvs k b,H a=some (.dT kvs)∧y = .ref b∧H b=some (.tup (k.map kV))∧kvs.length<sizeLine∧H'=upd H a (.dT (putK kvs k v))
theorem iJ.k {H:Hp}{a:Addr}{kvs:List (Key×V)}{k:Key} (e:H a=some (.dK kvs)):iJ H a (kV k) (eW kvs k):=.inl ⟨kvs,k,.inl e,rfl,rfl⟩
theorem vU.k {H:Hp}{a:Addr}{kvs:List (Key×V)}{k:Key}{v:V} (e:H a=some (.dK kvs)) (hl:kvs.length<sizeLine):vU H a (kV k) v (upd H a (.dK (putK kvs k v))):=.inl ⟨kvs,k,e,rfl,hl,rfl⟩
section
variable {X:Cx}{pins:List (Addr×Obj)}{σ:St}{H:Hp}{s:Shared}{a:Addr}{y v:V}{u r:Value}{o:Option V}{A:Around}{E:Value→Shared→Prop}
theorem Inv.big (I:Inv X pins σ H s):sysModules<s.heap.objs.size:=by
 have h:mainGlobals<s.heap.objs.size:=(I.mod.glob.keeps I.bk).lt
 exact Nat.lt_trans (by decide) h
theorem zf {Q:Value→Shared→Prop} (hu:A.units+1<cLine) (I:Inv X pins σ H s) (g:iJ H a y (some v)) (ry:RelV y u) (h:∀ w' s',Inv X pins σ H s'→RelV v w'→Q w' s') :
  wpAny (model X.prog X.w) A (getItem (.ref a) u) Q E s:=by
 rcases g with ⟨kvs,k,e,ey,l⟩ | ⟨kvs,k,b,e,ey,eb,l⟩
 ·subst ey
  obtain ⟨z,hd,vs,rel,dd⟩:=nH I.hok e
  obtain ⟨w',hw,rw'⟩:=gM.some_of (v:=v) (o:=valueAt vs k) (by rw [l];exact rel.val k)
  exact wpAny_getItem_of (kO ry) dd.mapOf hw (h w' _ (I.tok _) rw')
 ·subst ey
  cases (show u=Value.ref b from ry)
  obtain ⟨z,hd,xs,rel,dd⟩:=pq I.hok e
  obtain ⟨w',hw,rw'⟩:=gM.some_of (v:=v) (o:=(atKey xs k).map (·.2)) (by rw [l];exact rel.val k)
  obtain ⟨p,hp,hp2⟩:=Option.map_eq_some_iff.mp hw
  refine wpAny_getItem_heap (tupleKind_room_in1 hu) (nq I.hok eb) dd hp ?_
  rw [hp2]
  exact h w' _ (I.tok _) rw'
theorem Mv {Q:Value→Shared→Prop} (hu:A.units+1<cLine) (I:Inv X pins σ H s) (g:iJ H a y o) (ry:RelV y u) (h:∀ s',Inv X pins σ H s'→Q (.bool o.isSome) s') :
  wpAny (model X.prog X.w) A (compareOp .In u (.ref a)) Q E s:=by
 rcases g with ⟨kvs,k,e,ey,l⟩ | ⟨kvs,k,b,e,ey,eb,l⟩
 ·subst ey
  obtain ⟨z,hd,vs,rel,dd⟩:=nH I.hok e
  refine wpAny_in_of (kO ry) hd dd.mapOf ?_
  rw [← (rel.val k).fO,← l]
  exact h _ (I.tok _)
 ·subst ey
  cases (show u=Value.ref b from ry)
  obtain ⟨z,hd,xs,rel,dd⟩:=pq I.hok e
  refine wpAny_in_heap (tupleKind_room_in1 hu) (nq I.hok eb) hd dd ?_
  have q:=(rel.val k).fO
  rw [zbt] at q
  rw [← q,← l]
  exact h _ (I.tok _)
theorem EG {Q:Value→Shared→Prop} (hu:A.units+1<cLine) (I:Inv X pins σ H s) (g:iJ H a y o) (ry:RelV y u) (h:∀ s',Inv X pins σ H s'→Q (.bool (!o.isSome)) s') :
  wpAny (model X.prog X.w) A (compareOp .NotIn u (.ref a)) Q E s:=by
 rcases g with ⟨kvs,k,e,ey,l⟩ | ⟨kvs,k,b,e,ey,eb,l⟩
 ·subst ey
  obtain ⟨z,hd,vs,rel,dd⟩:=nH I.hok e
  refine wpAny_notIn_of (kO ry) hd dd.mapOf ?_
  rw [← (rel.val k).fO,← l]
  exact h _ (I.tok _)
 ·subst ey
  cases (show u=Value.ref b from ry)
  obtain ⟨z,hd,xs,rel,dd⟩:=pq I.hok e
  refine wpAny_notIn_heap (tupleKind_room_in1 hu) (nq I.hok eb) hd dd ?_
  have q:=(rel.val k).fO
  rw [zbt] at q
  rw [← q,← l]
  exact h _ (I.tok _)
theorem iw {h':Heap}{t':Nat}{ob:HO} (I:Inv X pins σ H s) (mu:La (H a)) (hs:Heap.SameBut a s.heap h') (he:∃ q,h'.get? a=some q) (new:bw X.prog X.w (upd H a ob) h' a ob) :
  Inv X pins σ (upd H a ob) { s with heap:=h',toks:=t' } :=
 I.write (x:=a) (e:=a) mu (.inl rfl) (fun b q hb z=>(hs.2 b hb).trans z) he new
theorem vv {P:Program}{w:World}{H':Hp}{h':Heap}{kvs:List (Key×V)}{vs:List (Key×Value)} (z:kvs.length≤sizeLine) (hd:(a==sysModules)=false) (rel:KV kvs vs) (dd:h'.DictOf (bx P w) a vs) :
  bw P w H' h' a (.dK kvs):=⟨z,hd,vs,rel,dd⟩
theorem ze {H':Hp}{Q:Unit→Shared→Prop} (hu:A.units+1<cLine) (I:Inv X pins σ H s) (g:vU H a y v H') (ry:RelV y u) (rv:RelV v r) (h:∀ s',Inv X pins σ H' s'→Q () s') :
  wpAny (model X.prog X.w) A (setItem (.ref a) u r) Q E s:=by
 rcases g with ⟨kvs,k,e,ey,l,eH⟩ | ⟨kvs,k,b,e,ey,eb,l,eH⟩
 ·subst ey eH
  obtain ⟨z,hd,vs,rel,dd⟩:=xV I.hok e
  have hz:vs.length≤sizeLine:=by rw [← rel.length];exact z
  have hl:(putK kvs k v).length≤sizeLine:=by have:=fh kvs k v;omega
  refine wpAny_setItem_pairs (hsz:=hz) (kO ry) dd fun h' dd' hs=>h _ ?_
  have he:∃ q,h'.get? a=some q:=let ⟨q,_,_,hq,_⟩:=dd';⟨q,hq⟩
  exact iw I (by rw [e];exact True.intro) hs he (vv hl hd (rel.put k rv) dd')
 ·subst ey eH
  cases (show u=Value.ref b from ry)
  obtain ⟨z,hd,xs,rel,dd⟩:=KH I.hok e
  have hz:xs.length≤sizeLine:=by rw [← Paired.length rel];exact z
  have hl:(putK kvs k v).length≤sizeLine:=by have:=fh kvs k v;omega
  refine wpAny_setItem_heap (hsz:=hz) (tupleKind_room_in1 hu) (nq I.hok eb) dd fun h' dd' hs=>h _ ?_
  obtain ⟨q,es,ep,hq,h2,h3,h4,_,h5⟩:=dd'
  refine iw I (by rw [e];exact True.intro) hs ⟨q,hq⟩ ⟨hl,hd,_,(rel.put k eb rv).keeps fun c ys ec => ?_,q,es,ep,hq,h2,h3,h4,h5⟩
  rw [aJ (Kg ec e (fun z=>nomatch z))]
  exact ec
end
section
variable {X:Cx}{pins:List (Addr×Obj)}{σ:St}{H:Hp}{s:Shared}{a:Addr}{kvs:List (Key×V)}{k:Key}{u:Value}{A:Around}{E:Value→Shared→Prop}
theorem KJ {v:V}{more:List Value}{Q:Value→Shared→Prop} (I:Inv X pins σ H s) (e:H a=some (.dK kvs)) (ry:RelV (kV k) u) (l:eW kvs k=some v) (hm:more=[]∨∃ x,more=[x])
  (h:∀ w' s',Inv X pins σ (upd H a (.dK (kQ kvs k))) s'→RelV v w'→Q w' s'):wpAny (model X.prog X.w) A (call (.builtin "dict.pop") (.ref a::u::more)) Q E s:=by
 obtain ⟨z,hd,vs,rel,dd⟩:=xV I.hok e
 obtain ⟨w',hw,rw'⟩:=gM.some_of (v:=v) (o:=valueAt vs k) (by rw [← l];exact rel.val k)
 have hp:(keyPart u).isSome=true:=by
  cases k with
  | inl i=>obtain ⟨t,q⟩:=(show ∃ t,u=Value.int i t from ry);subst q;rfl
  | inr x=>obtain ⟨t,q⟩:=(show ∃ t,u=Value.str x t from ry);subst q;rfl
 have ha:argsOk "dict.pop" ⟨.ref a::u::more,[]⟩:=by
  rcases hm with q | ⟨x,q⟩
  ·subst q;exact PySem.F.args_dict_pop_2 _ _
  ·subst q;exact PySem.F.args_dict_pop_3 _ _ _
 refine call_meetsIn PySem.F.slot_dict_pop dd.typeIs PySem.F.entry_dict_pop ha (meets_dict_pop_there (bx X.prog X.w) a (kO ry) more hm hp)
  ⟨vs,w',dd,by rw [← rel.length];exact z,hw,fun h' dd' hs=>h w' _ ?_ rw'⟩
 have he:∃ q,h'.get? a=some q:=let ⟨q,_,_,hq,_⟩:=dd';⟨q,hq⟩
 exact iw I (by rw [e];exact True.intro) hs he (vv (zcm (BW kvs k) z) hd (rel.drop k) dd')
theorem KL {Q:Value→Shared→Prop} (I:Inv X pins σ H s) (e:Rd H a (.dK kvs)) (h:∀ t s',Inv X pins σ H s'→Q (.int kvs.length t) s'):wpAny (model X.prog X.w) A (call (.builtin "len") [.ref a]) Q E s:=by
 obtain ⟨z,hd,vs,rel,dd⟩:=nH I.hok e
 refine call_len_dict hd dd (by rw [← rel.length];rw [sizeLine_eq] at z;omega) ?_
 rw [← rel.length]
 exact h _ _ (I.tok _)
end
noncomputable def Ft (i:Expr):Prop:=∀ ov iv,subscripted i false ov iv=operate [ov,iv] (getItem ov iv)
theorem Dz {prog:Program}{w:World}{A:Around}{E:Value→Shared→Prop}{s:Shared}{env:Env}{value slice:Expr}{pos:Pos}{T id:String}{Q:Value→Shared→Prop}
  (hl:typeLookup (.type T) "__getitem__" = pure (some (.builtin id))) (hs:Ft slice)
  (h:wpAny (model prog w) A (eval value env) (fun o s₁=>wpAny (model prog w) A (eval slice env) (fun i s₂=>s₂.TypeIs o T∧wpAny (model prog w) A (getItem o i) Q E s₂) E s₁) E s) :
  wpAny (model prog w) A (eval (.Subscript value slice pos) env) Q E s:=by
 refine Subscript_ (wpAny_mono h (fun o s₁ h₁=>wpAny_mono h₁ (fun i s₂ h₂ => ?_) fun _ _ x=>x) fun _ _ x=>x)
 obtain ⟨hT,h₂⟩:=h₂
 unfold subscriptTail
 refine wpAny_bind ?_
 rw [getitemInPython_of_ne hT.not_modules]
 refine wpAny_bind (wpAny_specialOf hT hl ?_)
 have fin:wpAny (model prog w) A (subscripted slice false o i) (fun r s₃=>wpAny (model prog w) A (letTemporaryGo value o r >>= fun _=>pure r) Q E s₃) E s₂:=by
  rw [hs o i]
  exact wpAny_operating (wpAny_mono h₂ (fun r s₃ h₃=>wpAny_bind (wpAny_letTemporaryGo (wpAny_pure h₃))) fun _ _ x=>x)
 first
  | exact wpAny_pure (wpAny_bind fin)
  | exact wpAny_bind (wpAny_pure (wpAny_bind fin))
  | exact wpAny_bind fin
theorem sW {X:Cx}{pins:List (Addr×Obj)}{σ:St}{H:Hp}{s:Shared}{a:Addr}{y:V}{o:Option V} (I:Inv X pins σ H s) (g:iJ H a y o):s.TypeIs (.ref a) "dict" := by
 rcases g with ⟨kvs,k,e,_,_⟩ | ⟨kvs,k,b,e,_,_,_⟩
 ·obtain ⟨_,_,vs,_,dd⟩:=nH I.hok e
  exact dd.typeIs
 ·obtain ⟨_,_,xs,_,dd⟩:=pq I.hok e
  exact dd.typeIs
noncomputable def Ai (td ty:TE):TE:=fun σ H Q=>td σ H fun x H1=>ty σ H1 fun y H2=>∃ a v,x = .ref a∧iJ H2 a y (some v)∧Q v H2
noncomputable def AJ (td ty tv:TE):TS:=fun D σ H=>tv σ H fun v H1=>td σ H1 fun x H2=>ty σ H2 fun y H3=>∃ a H4,x = .ref a∧vU H3 a y v H4∧D.nx σ H4
section
variable {X:Cx}{o i e value:Expr}{pos pos' tpos:Pos}{td ty tv:TE}
theorem c6 (hu:X.A.units+1<cLine) (ho:PE X o td) (hi:PE X i ty) (hs:Ft i):PE X (.Subscript o i pos) (Ai td ty):=by
 intro pins s σ H Q I h
 refine Dz PySem.F.slot_dict_getitem.lookup hs (cF (ho pins s σ H _ I h) fun u s1 ⟨x,H1,I1,rx,q1⟩=>cF (hi pins s1 σ H1 _ I1 q1) fun iv s2 ⟨y,H2,I2,ry,a,v,ex,g,q2⟩ => ?_)
 subst ex
 obtain rfl:u=Value.ref a:=rx
 exact ⟨sW I2 g,zf hu I2 g ry fun w' s3 I3 rw'=>⟨v,H2,I3,rw',q2⟩⟩
theorem jm (hu:X.A.units+1<cLine) (ho:PE X o td) (hi:PE X i ty) (hv:PE X value tv) (hs:swapsWith value (some (.Subscript o i pos')) pos.line X.env=pure false) :
  PS X (.Assign [.Subscript o i pos'] value pos) (AJ td ty tv):=by
 intro pins s σ H D I h
 refine wpAny_Assign_Subscript (cF (hv pins s σ H _ I h) fun r s1 ⟨v,H1,I1,rv,q1⟩=>cF (ho pins s1 σ H1 _ I1 q1) fun u s2 ⟨x,H2,I2,rx,q2⟩=>cF (hi pins s2 σ H2 _ I2 q2) fun iv s3 ⟨y,H3,I3,ry,a,H4,ex,g,q3⟩ => ?_) hs
 subst ex
 obtain rfl:u=Value.ref a:=rx
 exact ze hu I3 g ry rv fun s4 I4=>⟨σ,H4,I4,q3⟩
end
theorem sV {P:Program}{w:World}{H:Hp} (h:Heap) (hb:sysModules<h.objs.size):bw P w H (h.push { cls:=.type "dict",data:=.dict #[] }) h.objs.size (.dK []) :=
 ⟨zcy _,beq_eq_false_iff_ne.mpr (Ne.symm (zcl hb)),[],.nil,Heap.DictOf.new h⟩
noncomputable def Ah:TE:=fun _ H Q=>∀ p,H p=none→Q (.ref p) (upd H p (.dK []))
section
variable {X:Cx}{pos:Pos}
theorem jt:PE X (.Dict [] [] pos) Ah:=fun pins s σ H Q I h =>
 wpAny_Dict_empty ⟨.ref s.heap.objs.size,_,I.laid (a:=s.heap.objs.size) (o:=.dK []) (t':=s.toks) (fun _ _ q=>zaq _ q) (zcx _) (sV s.heap I.big),rfl,h _ (I.hok.fresh (zcx _))⟩
end
noncomputable def uu:List (TE×TE)→St→Hp→(List (V×V)→Hp→Prop)→Prop
 | [],_,H,Q=>Q [] H
 | (tk,tv)::r,σ,H,Q=>tk σ H fun x H1=>tv σ H1 fun y H2=>uu r σ H2 fun ps H3=>Q ((x,y)::ps) H3
noncomputable abbrev VV:List (V×V)→List (Value×Value)→Prop:=Paired fun p q=>RelV p.1 q.1∧RelV p.2 q.2
noncomputable def K9 (X:Cx) (pos:Pos) (keys:List (Option Expr)) (values:List Expr) (pO:List (TE×TE)):Prop :=
 ∀ (pins:List (Addr×Obj)) (s:Shared) (σ:St) (H:Hp) (Q:List (V×V)→Hp→Prop),Inv X pins σ H s→uu pO σ H Q →
  wpAny (model X.prog X.w) X.A (evalPairs (pairTrees keys values X.env pos)) (fun vs s'=>∃ ps H',Inv X pins σ H' s'∧VV ps vs∧Q ps H') X.xe s
theorem qq {X:Cx}{pos:Pos}:K9 X pos [] [] []:=fun pins s σ H Q I h=>pairTrees_nil_walk ⟨[],H,I,.nil,h⟩
theorem gx {X:Cx}{pos:Pos}{k v:Expr}{ks:List (Option Expr)}{vs:List Expr}{tk tv:TE}{pO:List (TE×TE)} (hk:PE X k tk) (hv:PE X v tv) (hr:K9 X pos ks vs pO) :
  K9 X pos (some k::ks) (v::vs) ((tk,tv)::pO):=fun pins s σ H Q I h =>
 pairTrees_cons_walk (cF (hk pins s σ H _ I h) fun u s1 ⟨x,H1,I1,rx,q1⟩=>cF (hv pins s1 σ H1 _ I1 q1) fun w2 s2 ⟨y,H2,I2,ry,q2⟩ =>
  cF (hr pins s2 σ H2 _ I2 q2) fun ws s3 ⟨ps,H3,I3,rel,q3⟩=>⟨(x,y)::ps,H3,I3,.cons ⟨rx,ry⟩ rel,q3⟩)
noncomputable def nh (kvs more:List (Key×V)):List (Key×V):=more.foldl (fun acc kv=>putK acc kv.1 kv.2) kvs
theorem KV.merge:∀ {more:List (Key×V)}{rs:List (Key×Value)}{kvs:List (Key×V)}{vs:List (Key×Value)},KV more rs→KV kvs vs→KV (nh kvs more) (merged vs rs):=by
 intro more rs kvs vs r
 unfold KV at r
 induction r generalizing kvs vs with
 | nil=>intro q;exact q
 | @cons p q ps qs h t ih =>
  intro r0
  have e:KV (putK kvs p.1 p.2) (stored vs q.1 q.2):=by
   have:=r0.put p.1 h.2
   rw [← h.1];exact this
  exact ih e
theorem iO:∀ (more kvs:List (Key×V)),(nh kvs more).length≤kvs.length+more.length
 | [],kvs=>by show kvs.length≤kvs.length+0;omega
 | p::r,kvs=>by
  have h1:=iO r (putK kvs p.1 p.2)
  have h2:=fh kvs p.1 p.2
  show (nh (putK kvs p.1 p.2) r).length≤_
  rw [zbu];omega
theorem nQ {P:Program}{w:World}:∀ {kvs:List (Key×V)}{ws:List (Value×Value)},VV (kvs.map fun kv=>(kV kv.1,kv.2)) ws→∃ rs,Carries (bx P w) ws rs∧KV kvs rs
 | [],_,r=>by rw [zcg] at r;cases r;exact ⟨[],True.intro,.nil⟩
 | p::kvs,_,r=>by
  rw [zcb] at r
  cases r with
  | @cons a b as bs h t =>
   obtain ⟨rs,c,q⟩:=nQ (P:=P) (w:=w) t
   obtain ⟨b1,b2⟩:=b
   exact ⟨(p.1,b2)::rs,⟨kO h.1,rfl,c⟩,.cons ⟨rfl,h.2⟩ q⟩
noncomputable def FA (pO:List (TE×TE)):TE:=fun σ H Q=>∀ p,H p=none→uu pO σ (upd H p (.dK [])) fun ps H2=>H2 p=some (.dK [])∧∃ kvs:List (Key×V),ps=kvs.map (fun kv=>(kV kv.1,kv.2))∧kvs.length≤15∧Q (.ref p) (upd H2 p (.dK (nh [] kvs)))
theorem qv {X:Cx}{pos:Pos}{keys:List (Option Expr)}{values:List Expr}{pO:List (TE×TE)} (h:K9 X pos keys values pO) (hall:keys.all (·.isSome)=true) (hl:keys.length=values.length) (h0:keys≠[])
  (h15:keys.length≤15):PE X (.Dict keys values pos) (FA pO):=by
 intro pins s σ H Q I q
 have hn:=I.hok.fresh (zcx s.heap.objs.size)
 have I1:=I.laid (a:=s.heap.objs.size) (o:=.dK []) (h':=s.heap.push { cls:=.type "dict",data:=.dict #[] }) (t':=s.toks) (fun _ _ q=>zaq _ q) (zcx _) (sV s.heap I.big)
 refine wpAny_Dict_walk (knd:=bx X.prog X.w) hall hl h0 h15 (cF (h pins _ σ _ _ I1 (q _ hn)) fun ws s2 ⟨ps,H2,I2,rel,e,kvs,ep,lk,q2⟩ => ?_)
 subst ep
 obtain ⟨rs,c,rk⟩:=nQ (P:=X.prog) (w:=X.w) rel
 obtain ⟨z,hd,vs0,r0,dd⟩:=xV I2.hok e
 cases r0
 refine ⟨rs,c,dd,fun h' dd' hs=>⟨.ref s.heap.objs.size,_,?_,rfl,q2⟩⟩
 have hz:(nh [] kvs).length≤sizeLine:=by
  have h1:=iO kvs []
  rw [zbN] at h1
  rw [sizeLine_eq];omega
 have he:∃ q,h'.get? s.heap.objs.size=some q:=let ⟨q,_,_,hq,_⟩:=dd';⟨q,hq⟩
 exact iw I2 (by rw [e];exact True.intro) hs he (vv hz hd (rk.merge .nil) dd')
structure M1 (X:Cx) (o:Expr) (m:Str) (apos:Pos) (e:Expr) (cpos:Pos):Prop where
 base:attributeBase o m X.env (eval o X.env)=eval o X.env
 few:((backTo cpos (starEach [e] X.env)).all (fun x => !x.1)&&(backToKw cpos (keywordEach [] X.env)).all (fun x=>x.1.isSome)
  && decide (([e]:List Expr).length+([]:List Keyword).length+(if ([]:List Keyword).isEmpty then 0 else 1)<30))=true
 line:(apos.endLine==cpos.line)=true
 trees:backTo cpos (starEach [e] X.env)=[(false,eval e X.env)]
structure M2 (X:Cx) (o:Expr) (m:Str) (apos:Pos) (e f:Expr) (cpos:Pos):Prop where
 base:attributeBase o m X.env (eval o X.env)=eval o X.env
 few:((backTo cpos (starEach [e,f] X.env)).all (fun x => !x.1)&&(backToKw cpos (keywordEach [] X.env)).all (fun x=>x.1.isSome)
  && decide (([e,f]:List Expr).length+([]:List Keyword).length+(if ([]:List Keyword).isEmpty then 0 else 1)<30))=true
 line:(apos.endLine==cpos.line)=true
 trees:backTo cpos (starEach [e,f] X.env)=[(false,eval e X.env),(false,eval f X.env)]
noncomputable def Nc (H:Hp) (a:Addr):Prop:=(∃ kvs,Rd H a (.dK kvs))∨∃ kvs,Rd H a (.dT kvs)
theorem Ig {X:Cx}{pins:List (Addr×Obj)}{σ:St}{H:Hp}{s:Shared}{a:Addr} (I:Inv X pins σ H s) (d:Nc H a) :
  s.TypeIs (.ref a) "dict" ∧ (∀ b,Value.ref a = .ref b→∃ ob,s.heap.get? b=some ob∧ob.dict=none)∧(a==sysModules)=false:=by
 rcases d with ⟨kvs,e⟩ | ⟨kvs,e⟩
 ·obtain ⟨_,hd,vs,_,dd⟩:=nH I.hok e
  refine ⟨dd.typeIs,fun b q => ?_,hd⟩
  cases q
  obtain ⟨ob,_,_,h1,h2,_⟩:=dd
  exact ⟨ob,h1,h2.2.1⟩
 ·obtain ⟨_,hd,xs,_,dd⟩:=pq I.hok e
  refine ⟨dd.typeIs,fun b q => ?_,hd⟩
  cases q
  obtain ⟨ob,_,_,h1,h2,_⟩:=dd
  exact ⟨ob,h1,h2.2.1⟩
noncomputable def Af (td ty:TE):TE:=fun σ H Q=>td σ H fun x H1=>∃ a,x = .ref a∧Nc H1 a∧ty σ H1 fun y H2=>∃ kvs k v,H2 a=some (.dK kvs)∧y=kV k∧eW kvs k=some v∧Q v (upd H2 a (.dK (kQ kvs k)))
section
variable {X:Cx}{o e f:Expr}{apos cpos:Pos}{td ty tx:TE}
theorem A9 (ho:PE X o td) (he:PE X e ty) (m:M1 X o "pop" apos e cpos):PE X (.Call (.Attribute o "pop" apos) [e] [] cpos) (Af td ty):=by
 intro pins s σ H Q I h
 refine wpAny_Call_method m.base m.few m.line PySem.F.plainAttrs_dict PySem.F.slot_dict_pop PySem.F.type_dict_pop (cF (ho pins s σ H _ I h) fun u s1 ⟨x,H1,I1,rx,a,ex,d,q1⟩ => ?_)
 subst ex
 obtain rfl:u=Value.ref a:=rx
 obtain ⟨t1,t2,_⟩:=Ig I1 d
 refine ⟨t1,t2,?_⟩
 rw [m.trees]
 refine zas rfl (Calls.evalArgs_plain (zbc (cF (he pins s1 σ H1 _ I1 q1) fun iv s2 ⟨y,H2,I2,ry,kvs,k,v,ea,ey,l,q2⟩=>Calls.spliced_nil ?_)))
 subst ey
 exact KJ I2 ea ry l (.inl rfl) fun w' s3 I3 rw'=>⟨v,_,I3,rw',q2⟩
end
end L2
namespace HT
open PySem PyProof.Rows
section
variable {prog:Program}{w:World}{A:Around}{E:Value→Shared→Prop}{s:Shared}
theorem EW {t b:Addr}{vs ws:List Value}{Q:Value→Shared→Prop} (ht:IsTup s.heap t vs.toArray) (hb:IsTup s.heap b ws.toArray) (hv:vs≠[])
  (h1:ws=[]→Q (.ref t) s) (h2:ws≠[]→Q (.ref s.heap.objs.size) { s with heap:=s.heap.push { cls:=.type "tuple",data:=.seq (vs++ws).toArray } })
  (hsz:vs.length+ws.length≤sizeLine):wpAny (model prog w) A (binaryOp .Add (.ref t) (.ref b)) Q E s:=by
 obtain ⟨⟨cls,dd,data,sl⟩,ho,hc,n,hd⟩:=id ht
 obtain ⟨⟨cls2,dd2,data2,sl2⟩,ho2,hc2,n2,hd2⟩:=id hb
 simp only at hc hd hc2 hd2
 subst hc hd hc2 hd2
 have e:vs.toArray++ws.toArray=(vs++ws).toArray:=by simp
 by_cases hw:ws=[]
 ·exact concat_meets ⟨_,ho,rfl⟩ ⟨_,ho2,rfl⟩ noFill_tuple_add seq_tuple_add PySem.F.slot_tuple_add PySem.F.entry_tuple_add (PySem.F.args_tuple_add_2 _ _)
   (tuple_addW1 t b vs.toArray ws.toArray n n2 dd dd2 sl sl2 (by simpa using hv) (by simp [hw])) ⟨ho,ho2,h1 hw⟩
 ·refine concat_meets ⟨_,ho,rfl⟩ ⟨_,ho2,rfl⟩ noFill_tuple_add seq_tuple_add PySem.F.slot_tuple_add PySem.F.entry_tuple_add (PySem.F.args_tuple_add_2 _ _)
   (tuple_addW2 t b vs.toArray ws.toArray n n2 dd dd2 sl sl2 (by simpa using hv) (by simpa using hw) (by rw [zbd,zbd];exact hsz)) ⟨ho,ho2,?_⟩
  rw [e]
  exact h2 hw
noncomputable def bZ (n d:Nat):Option Int→Nat
 | none=>d
 | some v=>if v<0 then (v+(n:Int)).toNat else min v.toNat n
theorem w6 (n d k:Nat):bZ n d (some (k:Int))=min k n:=by
 show (if (k:Int)<0 then ((k:Int)+(n:Int)).toNat else min (k:Int).toNat n)=min k n
 rw [if_neg (by omega),Int.toNat_natCast]
theorem G8 (n d:Nat) (hd:d≤n) (o:Option Int):bZ n d o≤n:=by
 cases o with
 | none=>exact hd
 | some v =>
  show (if v<0 then (v+(n:Int)).toNat else min v.toNat n)≤n
  by_cases hv:v<0
  ·rw [if_pos hv];omega
  ·rw [if_neg hv];exact Nat.min_le_right _ _
theorem x6 (v:Int) (n d:Nat):(if v<0 then max (v+(n:Int)) 0 else min v (n:Int))=((bZ n d (some v):Nat):Int):=by
 show (if v<0 then max (v+(n:Int)) 0 else min v (n:Int))=(((if v<0 then (v+(n:Int)).toNat else min v.toNat n):Nat):Int)
 by_cases hv:v<0
 ·simp only [if_pos hv];omega
 ·simp only [if_neg hv];omega
theorem vG (lo hi:Option Int) (n:Nat):Builtin.Slice.sliceAdjust lo hi 1 (n:Int)=(((bZ n 0 lo:Nat):Int),((bZ n n hi:Nat):Int)):=by
 have h1 : ¬ ((1:Int)<0):=by omega
 unfold Builtin.Slice.sliceAdjust
 simp only [h1,if_false]
 refine Prod.ext ?_ ?_
 ·cases lo with
  | none=>rfl
  | some v=>exact x6 v n 0
 ·cases hi with
  | none=>rfl
  | some v=>exact x6 v n n
theorem uR (i j:Nat):Builtin.Slice.slicePlaces (i:Int) (j:Int) 1=j - i:=by
 unfold Builtin.Slice.slicePlaces
 have h1:(1:Int) > 0:=by omega
 simp only [h1,if_true,Int.ediv_one]
 split <;> omega
theorem mz {v:Value}{o:Option Int}{Q:Option Int→Shared→Prop} (p:IsPart v o) (h:Q o s):wpAny (model prog w) A (Builtin.Slice.slicePartIndex v) Q E s:=by
 cases p with
 | none=>exact slicePart_none h
 | int i t=>exact slicePart_int h
theorem fH {sl:Addr}{vl vu:Value}{lo hi:Option Int}{n:Nat}{Q:Int×Int×Nat→Shared→Prop} (hs:s.heap.IsSliceOf sl vl vu .none) (pl:IsPart vl lo) (pu:IsPart vu hi)
  (h:Q (((bZ n 0 lo:Nat):Int),1,bZ n n hi - bZ n 0 lo) s):wpAny (model prog w) A (Builtin.Slice.sliceApplied (.ref sl) (pure (n:Int))) Q E s:=by
 obtain ⟨os,hos,hcs,hds⟩:=id hs
 unfold Builtin.Slice.sliceApplied Builtin.Slice.sliceFields
 refine wpAny_bind (wpAny_bind (wpAny_field hos hds (x:=vl) rfl (wpAny_bind (wpAny_field hos hds (x:=vu) rfl (wpAny_bind (wpAny_field hos hds (x:=.none) rfl (wpAny_pure ?_)))))))
 refine wpAny_bind (slicePart_none ?_)
 show wpAny _ _ (if ((1:Int)==0)=true then _ else _) _ _ s
 rw [if_neg (by decide)]
 refine wpAny_bind (mz pl (wpAny_bind (mz pu (wpAny_bind (wpAny_pure ?_)))))
 show wpAny _ _ (match Builtin.Slice.sliceAdjust lo hi 1 (n:Int) with | (lo,hi)=>pure (lo,(1:Int),Builtin.Slice.slicePlaces lo hi 1)) _ _ s
 rw [vG lo hi n]
 show wpAny _ _ (pure (((bZ n 0 lo:Nat):Int),(1:Int),Builtin.Slice.slicePlaces ((bZ n 0 lo:Nat):Int) ((bZ n n hi:Nat):Int) 1)) _ _ s
 rw [uR]
 exact wpAny_pure h
theorem A7 (xs:Array Value) (i k:Nat):((zcC k).filterMap fun (m:Nat)=>xs[((i:Int)+(m:Int)*1).toNat]?).toArray=((xs.toList.drop i).take k).toArray:=by
 have e:(fun (m:Nat)=>xs[((i:Int)+(m:Int)*1).toNat]?)=fun m=>xs[i+m]? := by
  funext m
  have:((i:Int)+(m:Int)*1).toNat=i+m:=by omega
  rw [this]
 rw [e]
 have:=pick_run xs i k
 rw [List.filterMap_map] at this
 have e2:((fun x=>xs[x]?) ∘ fun x=>i+x)=fun m=>xs[i+m]? := rfl
 rw [e2] at this
 rw [this]
theorem jF {t sl:Addr}{items:Array Value}{vl vu:Value}{lo hi:Option Int}{Q:Value→Shared→Prop} (ht:IsTup s.heap t items) (hs:s.heap.IsSliceOf sl vl vu .none) (pl:IsPart vl lo) (pu:IsPart vu hi)
  (hw : ¬ (bZ items.size 0 lo=0∧bZ items.size items.size hi=items.size))
  (h:Q (.ref s.heap.objs.size) { s with heap:=s.heap.push { cls:=.type "tuple",data:=.seq ((items.toList.drop (bZ items.size 0 lo)).take (bZ items.size items.size hi - bZ items.size 0 lo)).toArray } })
  (hsz:items.size≤sizeLine):wpAny (model prog w) A (getItem (.ref t) (.ref sl)) Q E s:=by
 have xM:sizeOk (.seq ((items.toList.drop (bZ items.size 0 lo)).take (bZ items.size items.size hi - bZ items.size 0 lo)).toArray):=by
  show ((items.toList.drop (bZ items.size 0 lo)).take (bZ items.size items.size hi - bZ items.size 0 lo)).toArray.size≤sizeLine
  rw [zbd,zbv,zbx,zaO]
  omega
 have hj:bZ items.size items.size hi≤items.size:=G8 _ _ (zcx _) hi
 obtain ⟨os,hos,hcs,hds⟩:=id hs
 have hTs:s.TypeIs (.ref sl) "slice" := ⟨os,hos,hcs⟩
 unfold getItem
 try with_reducible refine wpAny_holding ?_
 first | refine wpAny_bind (wpAny_pure ?_) | skip
 refine wpAny_bind (wpAny_sequenceKey ht.typeIs (by decide) ?_)
 refine wpAny_bind (wpAny_callSpecial?_slot (name:=Str.ofString "__getitem__") ht.typeIs PyProof.Rows.slot_tuple_getitem
  (wpAny_call_entry PyProof.Rows.slot_tuple_getitem ht.typeIs entry_tuple_getitem ?_ (args_tuple_getitem _ _)))
 show wpAny _ _ (Builtin.Tuple.tupleItemsOf (.ref t) >>= _) _ _ s
 refine wpAny_bind (tupleItemsOf_ ht ?_)
 refine wpAny_bind (wpAny_typeOf hTs ?_)
 rw [if_pos (by decide)]
 refine wpAny_bind (fH hs pl pu ?_)
 have hno : ¬ ((((bZ items.size 0 lo:Nat):Int)==0&&(1:Int)==1&&(bZ items.size items.size hi - bZ items.size 0 lo)==items.size)=true):=by
  intro q
  rw [zbE,zbE] at q
  have q1:((bZ items.size 0 lo:Nat):Int)=0:=eq_of_beq q.1.1
  have q2:bZ items.size items.size hi - bZ items.size 0 lo=items.size:=eq_of_beq q.2
  exact hw ⟨by omega,by omega⟩
 show wpAny _ _ (if (((bZ items.size 0 lo:Nat):Int)==0&&(1:Int)==1&&(bZ items.size items.size hi - bZ items.size 0 lo)==items.size)=true then _ else _) _ _ s
 rw [if_neg hno,A7]
 first
  | exact wpAny_bind (m:=Builtin.Tuple.tupleExact _) (wpAny_newObj_type (wpAny_pure ⟨_,rfl,wpAny_pure h⟩) xM)
  | exact wpAny_bind (m:=Builtin.Tuple.tupleExact _) (wpAny_newObj_type (wpAny_bind (wpAny_pure (wpAny_pure ⟨_,rfl,wpAny_pure h⟩))) xM)
  | exact wpAny_bind (wpAny_bind (m:=Builtin.Tuple.tupleExact _) (wpAny_newObj_type (wpAny_pure (wpAny_pure ⟨_,rfl,wpAny_pure h⟩)) xM))
  | exact wpAny_bind (wpAny_bind (m:=Builtin.Tuple.tupleExact _) (wpAny_newObj_type (wpAny_pure ⟨_,rfl,wpAny_pure h⟩) xM))
end
end HT
namespace L2
open PySem PySem.Spec PyProof.Rows
noncomputable abbrev TO:=St→Hp→(Option Int→Hp→Prop)→Prop
noncomputable def PO (X:Cx) (e:Option Expr) (t:TO):Prop :=
 ∀ (pins:List (Addr×Obj)) (s:Shared) (σ:St) (H:Hp) (Q:Option Int→Hp→Prop),Inv X pins σ H s→t σ H Q →
  wpAny (model X.prog X.w) X.A (evalPart e X.env) (fun u s'=>∃ o H',Inv X pins σ H' s'∧IsPart u o∧Q o H') X.xe s
noncomputable def gW:TO:=fun _ H Q=>Q none H
noncomputable def oA (t:TE):TO:=fun σ H Q=>t σ H fun x H1=>∃ i,x = .int i∧Q (some i) H1
theorem intsAre_of {ns:List Int}:∀ {us:List Value},Vals (ns.map V.int) us→IntsAre us ns:=by
 induction ns with
 | nil=>intro us r;rw [zcg] at r;cases r;exact .nil
 | cons n ns ih =>
  intro us r
  rw [zcb] at r
  cases r with
  | cons r1 r2 =>
   obtain ⟨t,e⟩:=r1
   subst e
   exact .cons n t (ih r2)
section
variable {X:Cx}{e:Expr}{te:TE}{lo hi:Option Expr}{tl th:TO}{pos p2:Pos}
theorem c5:PO X none gW:=by
 intro pins s σ H Q I h
 rw [evalPart_none]
 exact wpAny_pure ⟨none,H,I,.none,h⟩
theorem cI (h:PE X e te):PO X (some e) (oA te):=by
 intro pins s σ H Q I hw
 rw [evalPart_some]
 refine cF (h pins s σ H _ I hw) fun u s1 ⟨x,H1,I1,r1,q1⟩ => ?_
 obtain ⟨i,rfl,q⟩:=q1
 obtain ⟨t,rfl⟩:=r1
 exact ⟨some i,H1,I1,.int i t,q⟩
noncomputable def zU (X:Cx) (r:V→Option Int→Option Int→Hp→VK→Prop):Prop :=
 ∀ (pins:List (Addr×Obj)) (s:Shared) (σ:St) (H:Hp) (x:V) (v vl vu:Value) (lo hi:Option Int) (sl:Addr) (Q:VK),Inv X pins σ H s→RelV x v→s.heap.IsSliceOf sl vl vu .none→IsPart vl lo→IsPart vu hi→r x lo hi H Q →
  ∃ T id,typeLookup (.type T) "__getitem__" = pure (some (.builtin id))∧s.TypeIs v T∧wpAny (model X.prog X.w) X.A (getItem v (.ref sl)) (EP X pins σ Q) X.xe s
theorem zU.or {r r':V→Option Int→Option Int→Hp→VK→Prop} (h:zU X r) (h':zU X r'):zU X (fun x lo hi H Q=>r x lo hi H Q∨r' x lo hi H Q):=by
 intro pins s σ H x v vl vu lo hi sl Q I rx hs pl pu q
 rcases q with q | q
 ·exact h pins s σ H x v vl vu lo hi sl Q I rx hs pl pu q
 ·exact h' pins s σ H x v vl vu lo hi sl Q I rx hs pl pu q
noncomputable def Jv (r:V→Option Int→Option Int→Hp→VK→Prop) (te:TE) (tl th:TO):TE:=fun σ H Q=>te σ H fun x H1=>tl σ H1 fun l H2=>th σ H2 fun u H3=>r x l u H3 Q
theorem b7 {r:V→Option Int→Option Int→Hp→VK→Prop} (hr:zU X r) (he:PE X e te) (hl:PO X lo tl) (hu:PO X hi th):PE X (.Subscript e (.Slice lo hi none p2) pos) (Jv r te tl th):=by
 intro pins s σ H Q I h
 refine Subscript_ (cF (he pins s σ H _ I h) fun v s1 ⟨x,H1,I1,r1,q1⟩ => ?_)
 refine wpAny_Slice (cF (hl pins s1 σ H1 _ I1 q1) fun vl s2 ⟨l,H2,I2,pl,q2⟩=>cF (hu pins s2 σ H2 _ I2 q2) fun vu s3 ⟨u,H3,I3,pu,q3⟩ => ?_)
 rw [evalPart_none]
 refine wpAny_pure ?_
 have I4:Inv X pins σ H3 { s3 with heap:=s3.heap.push { cls:=.type "slice",data:=.fields #[vl,vu,.none] } }:=I3.kept (t':=s3.toks) fun b ob q=>zaq _ q
 obtain ⟨T,id,hT,ht,hg⟩:=hr pins { s3 with heap:=s3.heap.push { cls:=.type "slice",data:=.fields #[vl,vu,.none] } } σ H3 x v vl vu l u s3.heap.objs.size Q I4 r1 (Heap.IsSliceOf.new ..) pl pu q3
 show wpAny (model X.prog X.w) X.A (subscriptTail e (.Slice lo hi none p2) v (.ref s3.heap.objs.size)) (EP X pins σ Q) X.xe { s3 with heap:=s3.heap.push { cls:=.type "slice",data:=.fields #[vl,vu,.none] } }
 exact tail_any (ops:=[.ref s3.heap.objs.size,v]) ht hT hg (by with_unfolding_all rfl)
noncomputable def lz (xs:List V) (lo hi:Option Int):List V:=(xs.drop (HT.bZ xs.length 0 lo)).take (HT.bZ xs.length xs.length hi - HT.bZ xs.length 0 lo)
theorem kU (xs:List V) (lo hi:Option Int):(lz xs lo hi).length≤xs.length:=by
 unfold lz
 rw [zbv,zbx]
 omega
noncomputable def LY (K:PySem.W.Frag):V→Option Int→Option Int→Hp→VK→Prop:=fun x lo hi H Q=>∃ a xs,x = .ref a∧eX K H a xs ∧
 ¬ (HT.bZ xs.length 0 lo=0∧HT.bZ xs.length xs.length hi=xs.length)∧∀ p,H p=none→Q (.ref p) (upd H p (.tup (lz xs lo hi)))
theorem Gx:zU X (LY X.K):=by
 intro pins s σ H x v vl vu lo hi sl Q I rx hs pl pu h
 obtain ⟨a,xs,rfl,hx,hw,q⟩:=h
 cases rx
 obtain ⟨its,r,ht,hz⟩:=I.tuple hx
 have hlen:its.toArray.size=xs.length:=by rw [zbd];exact r.length.symm
 refine ⟨"tuple",_,PyProof.Rows.slot_tuple_getitem.lookup,ht.typeIs,?_⟩
 refine HT.jF ht hs pl pu (by rw [hlen];exact hw) ?_ (by rw [hlen];exact hz)
 rw [hlen]
 refine ⟨.ref s.heap.objs.size,_,I.laid (t':=s.toks) (o:=.tup (lz xs lo hi)) (fun b ob q=>zaq _ q) (zcx _) ?_,rfl,q _ (I.hok.fresh (zcx _))⟩
 exact ⟨zcm (kU xs lo hi) hz,_,(r.drop (HT.bZ xs.length 0 lo)).take (HT.bZ xs.length xs.length hi - HT.bZ xs.length 0 lo),IsTup.new _ _⟩
noncomputable def J2 (K:PySem.W.Frag):R2:=fun x y H Q=>∃ a b xs ys,x = .ref a∧y = .ref b∧eX K H a xs∧eX K H b ys∧xs≠[]∧xs.length+ys.length≤sizeLine ∧
 (ys=[]→Q (.ref a) H)∧(ys≠[]→∀ p,H p=none→Q (.ref p) (upd H p (.tup (xs++ys))))
theorem Vals.qE {xs:List V}{us:List Value} (r:Vals xs us):us=[]↔xs=[]:=by
 cases r with
 | nil=>simp
 | cons _ _=>simp
theorem Ea:gh X (binaryOp .Add) (J2 X.K):=by
 intro pins s σ H x y v u Q I rx ry h
 obtain ⟨a,b,xs,ys,rfl,rfl,ha,hb,hx,hz,q1,q2⟩:=h
 cases rx
 cases ry
 obtain ⟨its,r1,p1,_⟩:=I.tuple ha
 obtain ⟨its2,r2,p2,_⟩:=I.tuple hb
 refine HT.EW p1 p2 (fun z=>hx (r1.qE.mp z)) (fun z=>⟨.ref a,H,I,rfl,q1 (r2.qE.mp z)⟩) (fun z => ?_) (by rw [← r1.length,← r2.length];exact hz)
 refine ⟨.ref s.heap.objs.size,_,I.laid (t':=s.toks) (o:=.tup (xs++ys)) (fun b ob q=>zaq _ q) (zcx _) ?_,rfl,q2 (fun w=>z (r2.qE.mpr w)) _ (I.hok.fresh (zcx _))⟩
 exact ⟨by rw [zaS];exact hz,_,r1.append r2,IsTup.new _ _⟩
end
noncomputable def zR (n:Nat) (i:Int):Option Nat:=if 0≤i then (if i<n then some i.toNat else none) else if -(n:Int)≤i then some (i+n).toNat else none
noncomputable def nU {α:Type} (xs:List α) (i:Int):Option α:=(zR xs.length i).bind fun j=>xs[j]?
theorem xK {n:Nat}{i:Int}{j:Nat} (h:zR n i=some j):seqIndex? i n=some j∧j<n ∧ -(n:Int)≤i∧i<n:=by
 unfold zR at h
 by_cases h0:0≤i
 ·rw [if_pos h0] at h
  by_cases h1:i<n
  ·rw [if_pos h1] at h
   have e:i.toNat=j:=zcB.inj h
   exact ⟨by rw [seqIndex_of h0 h1,e],by omega,by omega,h1⟩
  ·rw [if_neg h1] at h;cases h
 ·rw [if_neg h0] at h
  by_cases h1 : -(n:Int)≤i
  ·rw [if_pos h1] at h
   have e:(i+n).toNat=j:=zcB.inj h
   exact ⟨by rw [seqIndex_neg (by omega) h1,e],by omega,h1,by omega⟩
  ·rw [if_neg h1] at h;cases h
theorem qY {α:Type}{xs:List α}{i:Int}{v:α} (h:nU xs i=some v):∃ j,seqIndex? i xs.length=some j∧xs[j]? = some v∧j<xs.length ∧ -(xs.length:Int)≤i∧i<xs.length:=by
 unfold nU at h
 cases e:zR xs.length i with
 | none=>rw [e] at h;cases h
 | some j =>
  rw [e] at h
  obtain ⟨h1,h2,h3,h4⟩:=xK e
  exact ⟨j,h1,h,h2,h3,h4⟩
theorem dg {α:Type}{xs:List α}{j:Nat}{v:α} (h:xs[j]? = some v):nU xs (j:Int)=some v:=by
 have hj:j<xs.length:=(zae.mp h).1
 have e:zR xs.length (j:Int)=some j:=by
  unfold zR
  rw [if_pos (by omega),if_pos (by omega)];simp
 unfold nU;rw [e];exact h
noncomputable def rj (b:Expr):Prop:=∀ o i,subscripted b false o i=operate [o,i] (getItem o i)
noncomputable def zV (X:Cx) (r:R2):Prop :=
 ∀ (value slice:Expr) (pins:List (Addr×Obj)) (s:Shared) (σ:St) (H:Hp) (x y:V) (v u:Value) (Q:VK),Inv X pins σ H s→RelV x v→RelV y u→r x y H Q →
  subscripted slice false v u=operate [v,u] (getItem v u)→wpAny (model X.prog X.w) X.A (subscriptTail value slice v u) (EP X pins σ Q) X.xe s
noncomputable def Fv (X:Cx) (id:String) (r:V→List V→Hp→VK→Prop):Prop :=
 ∀ (pins:List (Addr×Obj)) (s:Shared) (σ:St) (H:Hp) (x:V) (xs:List V) (v:Value) (us:List Value) (Q:VK),Inv X pins σ H s→RelV x v→Vals xs us→r x xs H Q →
  wpAny (model X.prog X.w) X.A (call (.builtin id) (v::us)) (EP X pins σ Q) X.xe s
section
variable {X:Cx}{a b:Expr}{ta tb:TE}{pos:Pos}
theorem zV.or {r r':R2} (h:zV X r) (h':zV X r'):zV X (fun x y H Q=>r x y H Q∨r' x y H Q):=by
 intro value slice pins s σ H x y v u Q I rx ry q hs
 rcases q with q | q
 ·exact h value slice pins s σ H x y v u Q I rx ry q hs
 ·exact h' value slice pins s σ H x y v u Q I rx ry q hs
theorem az {r:R2} (hr:zV X r) (ha:PE X a ta) (hb:PE X b tb) (hs:rj b):PE X (.Subscript a b pos) (vX r ta tb):=by
 intro pins s σ H Q I h
 exact Subscript_ (IV ha hb I h fun v u s2 x y H2 I2 rx ry q=>hr a b pins s2 σ H2 x y v u Q I2 rx ry q (hs _ _))
noncomputable def Ho (K:PySem.W.Frag):R2:=fun x y H Q=>∃ p xs i v,x = .ref p∧y = .int i∧dh K H p xs∧nU xs i=some v∧Q v H
noncomputable def J0 (K:PySem.W.Frag):R2:=fun x y H Q=>∃ p xs i v,x = .ref p∧y = .int i∧eX K H p xs∧nU xs i=some v∧Q v H
noncomputable def J1:R2:=fun x y H Q=>∃ z i c,x = .str z∧y = .int i∧z.length≤sizeLine∧nU z.cps.toList i=some c∧Q (.str ⟨#[c]⟩) H
theorem xJ:zV X (Ho X.K):=by
 intro value slice pins s σ H x y v u Q I rx ry h hs
 obtain ⟨p,xs,i,z,rfl,rfl,hq,he,q⟩:=h
 cases rx
 obtain ⟨t,rfl⟩:=ry
 obtain ⟨its,r,pl,hz⟩:=I.list hq
 obtain ⟨j,h1,h2,h3,h4,h5⟩:=qY he
 obtain ⟨w,ew,rw'⟩:=r.get h2
 have hl:=r.length
 have hn:=kB
 have fin:EP X pins σ Q w s:=⟨z,H,I,rw',q⟩
 by_cases h0:0≤i
 ·have hj:i.toNat=j:=by
   rw [seqIndex_of h0 h5] at h1
   exact zcB.inj h1
  exact item_listR pl.isList h0 (by omega) (by rw [hj];simpa using ew) fin hs
 ·have hj:(i+(its.toArray.size:Int)).toNat=j:=by
   rw [seqIndex_neg (by omega) h4] at h1
   rw [zbd,← hl]
   exact zcB.inj h1
  exact subscriptTail_builtinR (x:=w) pl.isList.typeIs slot_list_getitem.lookup
   (wpAny_getItem_list_neg (Q:=fun r s'=>r=w∧EP X pins σ Q r s') pl.isList (by omega) (by rw [zbd] <;> omega) (by omega) (by rw [hj];simpa using ew) ⟨rfl,fin⟩) hs
theorem BA:zV X (J0 X.K):=by
 intro value slice pins s σ H x y v u Q I rx ry h hs
 obtain ⟨p,xs,i,z,rfl,rfl,hq,he,q⟩:=h
 cases rx
 obtain ⟨t,rfl⟩:=ry
 obtain ⟨its,r,pl,hz⟩:=I.tuple hq
 obtain ⟨j,h1,h2,h3,h4,h5⟩:=qY he
 obtain ⟨w,ew,rw'⟩:=r.get h2
 have hl:=r.length
 have hn:=kB
 have fin:EP X pins σ Q w s:=⟨z,H,I,rw',q⟩
 exact subscriptTail_builtinR (x:=w) pl.typeIs slot_tuple_getitem.lookup
  (getItem_tuple (j:=j) (Q:=fun r s'=>r=w∧EP X pins σ Q r s') pl (by omega) (by omega) (by rw [zbd,← hl];exact h1) (by simpa using ew) ⟨rfl,fin⟩) hs
theorem vh:zV X J1:=by
 intro value slice pins s σ H x y v u Q I rx ry h hs
 obtain ⟨z,i,c,rfl,rfl,hz,he,q⟩:=h
 obtain ⟨t,rfl⟩:=rx
 obtain ⟨t',rfl⟩:=ry
 obtain ⟨j,h1,h2,h3,h4,h5⟩:=qY he
 have hl:z.cps.toList.length=z.length:=by simp [Str.length]
 rw [hl] at h1 h4 h5
 have hn:=kB
 exact tail_any (typeIs_str s z t) slot_str_getitem.lookup (getItem_str (c:=c) (by
  have e1:decide (i < -(2 ^ 63:Int))=false:=decide_eq_false (by omega)
  have e2:decide (i≥2 ^ 63)=false:=decide_eq_false (by omega)
  rw [e1,e2,Bool.or_false]) (by rw [h1];simpa using h2) ⟨.str ⟨#[c]⟩,H,I.tok _,⟨_,rfl⟩,q⟩) hs
noncomputable def rIx (K:PySem.W.Frag):R2:=fun x y H Q=>Ho K x y H Q∨J0 K x y H Q∨J1 x y H Q
theorem Ie:zV X (rIx X.K):=xJ.or (BA.or vh)
theorem u5 (its:List Value) (n j:Nat) (u:Value):Obj.mapSeq (·.setIfInBounds j u) { cls:=.type "list",data:=.seq its.toArray n }={ cls:=.type "list",data:=.seq (its.set j u).toArray n }:=by
 simp [Obj.mapSeq]
theorem Inv.lst {pins:List (Addr×Obj)}{σ:St}{H:Hp}{s:Shared}{p:Addr}{xs:List V} (I:Inv X pins σ H s) (h:H p=some (.lst xs)) :
  ∃ (its:List Value) (n:Nat),Vals xs its∧s.heap.get? p=some { cls:=.type "list",data:=.seq its.toArray n }∧xs.length≤sizeLine:=by
 obtain ⟨z,its,n,r,e⟩:=I.hok p _ h
 exact ⟨its,n,r,e,z⟩
theorem Inv.HW {pins:List (Addr×Obj)}{σ:St}{H:Hp}{s:Shared}{p:Addr}{xs ys:List V}{its its':List Value}{n n':Nat}{f:Obj→Obj} (I:Inv X pins σ H s) (h:H p=some (.lst xs))
  (ho:s.heap.get? p=some { cls:=.type "list",data:=.seq its.toArray n }) (hf:f { cls:=.type "list",data:=.seq its.toArray n }={ cls:=.type "list",data:=.seq its'.toArray n' }) (r:Vals ys its') (hz:ys.length≤sizeLine) (t:Nat) :
  Inv X pins σ (upd H p (.lst ys)) { s with heap:=s.heap.update p f,toks:=t }:=by
 have e:(s.heap.update p f).get? p=some { cls:=.type "list",data:=.seq its'.toArray n' }:=by
  rw [zaz f ho (by rw [hf] <;> rfl),hf]
 refine I.write (x:=p) (e:=p) (by rw [h];trivial) (.inl rfl) (fun b u hb q=>(zar _ _ (Ne.symm hb)).trans q) ⟨_,e⟩ ?_
 exact ⟨hz,its',n',r,e⟩
noncomputable def FJ:V→V→V→Hp→(Hp→Prop)→Prop:=fun o i v H Q=>∃ p xs k j,o = .ref p∧i = .int k∧H p=some (.lst xs)∧zR xs.length k=some j∧Q (upd H p (.lst (xs.set j v)))
theorem set_list:K8 X FJ:=by
 intro pins s σ H o i v ov iv u Q I ro ri rv h
 obtain ⟨p,xs,k,j,rfl,rfl,hp,hj,q⟩:=h
 cases ro
 obtain ⟨t,rfl⟩:=ri
 obtain ⟨its,n,r,ho,hz⟩:=I.lst hp
 obtain ⟨h1,h2,h3,h4⟩:=xK hj
 have hl:=r.length
 have hn:=kB
 have I':Inv X pins σ (upd H p (.lst (xs.set j v))) { s with heap:=s.heap.update p (Obj.mapSeq (·.setIfInBounds j u)) } :=
  I.HW hp ho (u5 its n j u) (r.set rv j) (by rw [zbO];exact hz) s.toks
 by_cases h0:0≤k
 ·have hk:k.toNat=j:=by
   rw [seqIndex_of h0 h4] at h1
   exact zcB.inj h1
  exact PySem.W.ki_setAt ho h0 (by omega) (by rw [zbd,← hl];exact h4) (by rw [hk];exact ⟨_,I',q⟩)
 ·have hk:(k+(its.toArray.size:Int)).toNat=j:=by
   rw [seqIndex_neg (by omega) h3] at h1
   rw [zbd,← hl]
   exact zcB.inj h1
  exact PySem.W.ki_setBack ho (by omega) (by rw [zbd,← hl];exact h3) (by omega) (by rw [hk];exact ⟨_,I',q⟩)
theorem pX (lo hi:Option Int) (n:Nat):(sliceBounds lo hi none n).1=((HT.bZ n 0 lo:Nat):Int)∧(sliceBounds lo hi none n).2.1=((HT.bZ n n hi:Nat):Int)∧(sliceBounds lo hi none n).2.2=1:=by
 refine ⟨?_,?_,rfl⟩
 ·cases lo with
  | none=>simp [sliceBounds,HT.bZ]
  | some i =>
   simp only [sliceBounds,HT.bZ,Option.getD_none,show (1:Int) > 0 by decide,if_true]
   by_cases h:i<0
   ·simp only [h,if_true] <;> omega
   ·simp only [h,if_false] <;> omega
 ·cases hi with
  | none=>simp [sliceBounds,HT.bZ]
  | some i =>
   simp only [sliceBounds,HT.bZ,Option.getD_none,show (1:Int) > 0 by decide,if_true]
   by_cases h:i<0
   ·simp only [h,if_true] <;> omega
   ·simp only [h,if_false] <;> omega
theorem nY (its:List Value) (lo hi:Option Int):slicePick its.toArray lo hi none=((its.drop (HT.bZ its.length 0 lo)).take (HT.bZ its.length its.length hi - HT.bZ its.length 0 lo)).toArray:=by
 obtain ⟨h1,h2,h3⟩:=pX lo hi its.toArray.size
 unfold slicePick
 rw [h1,h2,h3]
 simp only [sliceRange_one,pick_run,zbd] <;> rfl
noncomputable def AY (K:PySem.W.Frag):V→Option Int→Option Int→Hp→VK→Prop:=fun x lo hi H Q=>∃ a xs,x = .ref a∧dh K H a xs∧∀ p,H p=none→Q (.ref p) (upd H p (.lst (lz xs lo hi)))
theorem wH:zU X (AY X.K):=by
 intro pins s σ H x v vl vu lo hi sl Q I rx hs pl pu h
 obtain ⟨a,xs,rfl,hx,q⟩:=h
 cases rx
 obtain ⟨its,r,ht,hz⟩:=I.list hx
 have hlen:=r.length
 refine ⟨"list",_,slot_list_getitem.lookup,ht.isList.typeIs,?_⟩
 refine wpAny_getItem_list_slice ht.isList hs pl pu .none (by simp) ?_ (by rw [zbd] <;> omega)
 rw [nY,← hlen]
 refine ⟨.ref s.heap.objs.size,_,I.laid (t':=s.toks) (o:=.lst (lz xs lo hi)) (fun b ob q=>zaq _ q) (zcx _) ?_,rfl,q _ (I.hok.fresh (zcx _))⟩
 exact ⟨zcm (kU xs lo hi) hz,_,0,(r.drop (HT.bZ xs.length 0 lo)).take (HT.bZ xs.length xs.length hi - HT.bZ xs.length 0 lo),zaQ _ rfl⟩
theorem qW:bV X (.type "list") (fun xs H Q=>∃ p ys,xs=[.ref p]∧(dh X.K H p ys∨eX X.K H p ys)∧∀ l,H l=none→Q (.ref l) (upd H l (.lst ys))):=by
 intro pins s σ H xs us Q I r h
 obtain ⟨p,ys,rfl,hq,q⟩:=h
 obtain ⟨u,rfl,rx⟩:=vals1 r
 cases rx
 have fin:∀ (its:List Value),Vals ys its→ys.length≤sizeLine→∀ (h':Heap) (c':Nat),(∀ b o',s.heap.get? b=some o'→h'.get? b=some o') →
   h'.get? s.heap.objs.size=some { cls:=.type "list",dict:=none,data:=.seq its.toArray c',slots := #[] }→EP X pins σ Q (.ref s.heap.objs.size) { s with heap:=h' }:=fun its r' hz h' c' kp e =>
  ⟨.ref s.heap.objs.size,_,I.laid (t':=s.toks) kp (zcx _) (show bw X.prog X.w _ h' _ (.lst ys) from ⟨hz,its,c',r',e⟩),rfl,q _ (I.hok.fresh (zcx _))⟩
 rcases hq with hq | hq
 ·obtain ⟨its,r',pl,hz⟩:=I.list hq
  have hlen:=r'.length
  obtain ⟨o,ho,hc,n,hd⟩:=pl.isList
  exact call_list_seq p (.inl rfl) ho hc hd (fun h' c' kp e=>fin its r' hz h' c' kp e) (by simp only [zbd] <;> omega)
 ·obtain ⟨its,r',pl,hz⟩:=I.tuple hq
  have hlen:=r'.length
  obtain ⟨o,ho,hc,n,hd⟩:=pl
  exact call_list_seq p (.inr rfl) ho hc hd (fun h' c' kp e=>fin its r' hz h' c' kp e) (by simp only [zbd] <;> omega)
theorem ou:bV X (.type "tuple") (fun xs H Q=>∃ p ys,xs=[.ref p]∧((dh X.K H p ys∧∀ l,H l=none→Q (.ref l) (upd H l (.tup ys)))∨(eX X.K H p ys∧Q (.ref p) H))):=by
 intro pins s σ H xs us Q I r h
 obtain ⟨p,ys,rfl,h⟩:=h
 obtain ⟨u,rfl,rx⟩:=vals1 r
 cases rx
 rcases h with ⟨hq,q⟩ | ⟨hq,q⟩
 ·obtain ⟨its,r',pl,hz⟩:=I.list hq
  have hlen:=r'.length
  refine call_tuple_list pl.isList (fun h' kp => ?_) (by simp only [zbd] <;> omega)
  have I1:Inv X pins σ H { s with heap:=h' }:=I.kept (t':=s.toks) kp
  have I2:Inv X pins σ (upd H h'.objs.size (.tup ys)) { s with heap:=h'.push { cls:=.type "tuple",data:=.seq its.toArray } } :=
   I1.laid (t':=s.toks) (fun b o e=>zaq _ e) (zcx _) (show bw X.prog X.w _ _ _ (.tup ys) from ⟨hz,its,r',IsTup.new _ _⟩)
  exact ⟨.ref h'.objs.size,_,I2,rfl,q _ (I1.hok.fresh (zcx _))⟩
 ·obtain ⟨its,r',pl,hz⟩:=I.tuple hq
  exact call_tuple_same pl ⟨.ref p,H,I,rfl,q⟩
noncomputable def LG (K:PySem.W.Frag) (T:String) (x:V) (H:Hp):Prop:=match x with
 | .str _=>T = "str"
 | .int _=>T = "int"
 | .ref p=>(T = "list" ∧ ∃ xs,dh K H p xs)∨(T = "tuple" ∧ ∃ o,K.lookup p=some o∧o.cls = .type "tuple" ∧ o.dict=none) ∨
   (T = "dict" ∧ ((∃ kvs,H p=some (.dK kvs))∨∃ kvs,H p=some (.dT kvs)))∨(T = "set" ∧ ∃ S n,H p=some (.set S n))
 | _=>False
theorem Gg {pins:List (Addr×Obj)}{σ:St}{H:Hp}{s:Shared}{T:String}{x:V}{v:Value} (I:Inv X pins σ H s) (r:RelV x v) (ty:LG X.K T x H) :
  s.TypeIs v T∧∀ a,v = .ref a→∃ ob,s.heap.get? a=some ob∧ob.dict=none:=by
 cases x with
 | str z =>
  obtain ⟨t,rfl⟩:=r
  cases (show T = "str" from ty)
  exact ⟨typeIs_str s z t,fun _ e=>nomatch e⟩
 | int i =>
  obtain ⟨t,rfl⟩:=r
  cases (show T = "int" from ty)
  exact ⟨typeIs_int s i t,fun _ e=>nomatch e⟩
 | ref p =>
  cases r
  rcases ty with ⟨rfl,xs,hq⟩ | ⟨rfl,o,hk,hc,hd⟩ | ⟨rfl,hk⟩ | ⟨rfl,S,n,hk⟩
  ·obtain ⟨its,_,pl,_⟩:=I.list hq
   refine ⟨pl.isList.typeIs,fun a e => ?_⟩
   cases e
   obtain ⟨o,n,e,c,hd,_⟩:=pl
   exact ⟨o,e,hd⟩
  ·refine ⟨⟨o,I.xG p o hk,hc⟩,fun a e => ?_⟩
   cases e
   exact ⟨o,I.xG _ o hk,hd⟩
  ·have z:∃ o,s.heap.get? p=some o∧o.ExactDict:=by
    rcases hk with ⟨kvs,hk⟩ | ⟨kvs,hk⟩
    ·obtain ⟨_,_,_,_,o,_,_,e,ex,_⟩:=I.hok p _ hk
     exact ⟨o,e,ex⟩
    ·obtain ⟨_,_,_,_,o,_,_,e,ex,_⟩:=I.hok p _ hk
     exact ⟨o,e,ex⟩
   obtain ⟨o,e,ex⟩:=z
   refine ⟨⟨o,e,ex.1⟩,fun a e2 => ?_⟩
   cases e2
   exact ⟨o,e,ex.2.1⟩
  ·obtain ⟨o,_,_,_,e,ex,_⟩:=I.hok p _ hk
   refine ⟨⟨o,e,ex.1⟩,fun a e2 => ?_⟩
   cases e2
   exact ⟨o,e,ex.2.1⟩
 | _=>exact False.elim ty
noncomputable def Ll (K:PySem.W.Frag) (T:String) (r:V→List V→Hp→VK→Prop) (to:TE) (t:TA):TE:=fun σ H Q=>to σ H fun x H1=>LG K T x H1∧t σ H1 fun xs H2=>r x xs H2 Q
variable {o e:Expr}{es:List Expr}{to:TE}{t:TA}{name:Str}{apos cpos:Pos}{T id:String}{r:V→List V→Hp→VK→Prop}
theorem kK (pa:PlainAttrs T) (slot:Slot T name id) (hty:typeOf (.builtin id)=pure (.type "method_descriptor")) (hm:Fv X id r) (ho:PE X o to) (ha:PA X (e::es) t)
  (hbase:attributeBase o name X.env (eval o X.env)=eval o X.env:=by rfl)
  (hfew:((backTo cpos (starEach (e::es) X.env)).all (fun x => !x.1)&&(backToKw cpos (keywordEach [] X.env)).all (fun x=>x.1.isSome)
   && decide ((e::es).length+([]:List Keyword).length+(if ([]:List Keyword).isEmpty then 0 else 1)<30))=true:=by rfl)
  (hline:(apos.endLine==cpos.line)=true:=by rfl) (hs:starEach (e::es) X.env=(false,eval e X.env)::starEach es X.env:=by rfl) (hplain:(backTo cpos (starEach es X.env)).any (·.1)=false:=by rfl) :
  PE X (.Call (.Attribute o name apos) (e::es) [] cpos) (Ll X.K T r to t):=by
 intro pins s σ H Q I h
 refine wpAny_Call_method_late hbase hfew hline rfl (cF (ho pins s σ H _ I h) fun v s1 ⟨x,H1,I1,r1,ty,q1⟩ => ?_)
 obtain ⟨h1,h2⟩:=Gg I1 r1 ty
 refine ⟨T,id,pa,slot,hty,h1,h2,?_⟩
 have hA:=ha cpos pins s1 σ H1 _ I1 q1
 rw [hs] at hA ⊢
 refine zas (by show (false||(backTo cpos (starEach es X.env)).any (·.1))=false;rw [hplain] <;> rfl) (Calls.evalArgs_plain ?_)
 exact cF hA fun us s2 ⟨vs,H2,I2,r2,q2⟩=>hm pins s2 σ H2 x vs v us Q I2 r1 r2 q2
end
noncomputable def MtM (X:Cx) (id:String) (r:V→List V→Hp→VK→Prop):Prop :=
 ∀ (pins:List (Addr×Obj)) (s:Shared) (σ:St) (H:Hp) (x:V) (xs:List V) (v:Value) (us:List Value) (Q:VK),Inv X pins σ H s→RelV x v→Vals xs us→r x xs H Q →
  wpAny (model X.prog X.w) X.A (call (.builtin id) (v::us)) (EP X pins σ Q) X.xe s
theorem Vals.one:∀ {x:V}{us:List Value},Vals [x] us→∃ u,us=[u]∧RelV x u
 | _,_,.cons r .nil=>⟨_,rfl,r⟩
theorem Vals.rep {xs:List V}{us:List Value} (h:Vals xs us):∀ k:Nat,Vals (zbW k xs).flatten (zbW k us).flatten
 | 0=>.nil
 | k+1=>by
  rw [zaJ,zaJ,zbh,zbh]
  exact Vals.append h (Vals.rep h k)
theorem foldl_rep (its:List Value):∀ (k:Nat) (acc:List Value),
  List.foldl (fun x1 x2=>x1++x2) acc.toArray (zbW k its.toArray)=(acc++(zbW k its).flatten).toArray
 | 0,acc=>by simp
 | k+1,acc=>by
  have e:acc.toArray++its.toArray=(acc++its).toArray:=by simp
  have e2:(acc++its)++(zbW k its).flatten=acc++(zbW (k+1) its).flatten:=by
   rw [zaJ,zbh,zbi]
  rw [← e2,← foldl_rep its k (acc++its),← e,zaJ,zbP]
section
variable {X:Cx}{pins:List (Addr×Obj)}{σ:St}{H:Hp}{s:Shared}{l b:Addr}{xs ys zs:List V}
theorem Inv.Mf {its its':List Value}{n:Nat}{f:Array Value→Array Value}{t':Nat} (I:Inv X pins σ H s) (hH:H l=some (.lst xs))
  (e:s.heap.get? l=some { cls:=.type "list",data:=.seq its.toArray n }) (hf:f its.toArray=its'.toArray) (hv:Vals ys its') (hz:ys.length≤sizeLine) :
  Inv X pins σ (upd H l (.lst ys)) { s with heap:=s.heap.update l (Obj.mapSeq f),toks:=t' }:=by
 have q:=PySem.IsL.update e f
 rw [hf] at q
 refine I.write (x:=l) (e:=l) (by rw [hH];exact trivial) (.inl rfl) (fun b' u hb hu=>(zar s.heap (Obj.mapSeq f) (Ne.symm hb)).trans hu) ⟨_,q⟩ ?_
 exact ⟨hz,its',_,hv,q⟩
theorem Inv.Ko {its:List Value}{t':Nat} (I:Inv X pins σ H s) (hv:Vals ys its) (hz:ys.length≤sizeLine) :
  Inv X pins σ (upd H s.heap.objs.size (.lst ys)) { s with heap:=s.heap.push { cls:=.type "list",data:=.seq its.toArray },toks:=t' } :=
 I.laid (fun _ _ q=>zaq _ q) (zcx _) ⟨hz,its,0,hv,zaQ _ rfl⟩
theorem Inv.fresh (I:Inv X pins σ H s):H s.heap.objs.size=none:=I.hok.fresh (zcx _)
theorem Inv.El (I:Inv X pins σ H s) (hH:H l=some (.lst xs)):xs.length≤sizeLine∧∃ (its:List Value) (n:Nat),Vals xs its∧xs.length=its.length∧s.heap.get? l=some { cls:=.type "list",data:=.seq its.toArray n }:=by
 obtain ⟨z,its,n,r,e⟩:=I.hok l _ hH
 exact ⟨z,its,n,r,r.length,e⟩
theorem Bk {n:Nat} (h:n≤sizeLine):Builtin.List.listTooLong n=false:=by
 unfold Builtin.List.listTooLong
 exact decide_eq_false (by omega)
end
section
variable {X:Cx}
noncomputable def xu:V→List V→Hp→VK→Prop:=fun x vs H Q=>∃ l xs y,x = .ref l∧vs=[y]∧H l=some (.lst xs)∧xs.length<sizeLine∧Q .bN (upd H l (.lst (xs++[y])))
theorem oU:MtM X "list.append" xu:=by
 intro pins s σ H x vs v us Q I rx rv h
 obtain ⟨l,xs,y,rfl,rfl,hH,hz,q⟩:=h
 cases rx
 obtain ⟨u,rfl,ru⟩:=rv.one
 obtain ⟨z,its,n,r,hl,e⟩:=I.El hH
 refine call_meets F.slot_list_append ⟨_,e,rfl⟩ F.entry_list_append (F.args_list_append_2 _ _) (PySem.list_append l its.toArray n u (by rw [zbd];omega)) ⟨e,?_⟩
 refine ⟨.bN,_,I.Mf (its':=its++[u]) hH e (by simp) (r.append (.cons ru .nil)) ?_,rfl,q⟩
 rw [zaS,List.length_singleton]
 omega
noncomputable def J3:R2:=fun x y H Q=>∃ l b xs zs,x = .ref l∧y = .ref b∧H l=some (.lst xs)∧H b=some (.lst zs)∧xs.length+zs.length≤sizeLine∧∀ p,H p=none→Q (.ref p) (upd H p (.lst (xs++zs)))
theorem Be:gh X (binaryOp .Add) J3:=by
 intro pins s σ H x y v u Q I rx ry h
 obtain ⟨l,b,xs,zs,rfl,rfl,hH,hB,hz,q⟩:=h
 cases rx
 cases ry
 obtain ⟨z,its,n,r,hl,e⟩:=I.El hH
 obtain ⟨z2,its2,n2,r2,hl2,e2⟩:=I.El hB
 refine PySem.P.add_list e e2 ?_ (by rw [zbd,zbd];omega)
 have ea:its.toArray++its2.toArray=(its++its2).toArray:=by simp
 rw [ea]
 exact ⟨.ref _,_,I.Ko (t':=s.toks) (r.append r2) (by rw [zaS];omega),rfl,q _ I.fresh⟩
noncomputable def LZ:R2:=fun x y H Q=>∃ l k xs,x = .ref l∧y = .int k∧H l=some (.lst xs) ∧ -(2 ^ 63)≤k∧k<2 ^ 63∧xs.length*k.toNat≤sizeLine ∧
 ∀ p,H p=none→Q (.ref p) (upd H p (.lst (zbW k.toNat xs).flatten))
theorem len_rep {α:Type} (xs:List α) (k:Nat):(zbW k xs).flatten.length=k*xs.length:=by
 induction k with
 | zero=>simp
 | succ k ih=>rw [zaJ,zbh,zaS,ih,Nat.succ_mul,Nat.add_comm]
theorem HC:gh X (binaryOp .Mult) LZ:=by
 intro pins s σ H x y v u Q I rx ry h
 obtain ⟨l,k,xs,rfl,rfl,hH,h1,h2,hz,q⟩:=h
 cases rx
 obtain ⟨t,rfl⟩:=ry
 obtain ⟨z,its,n,r,hl,e⟩:=I.El hH
 have hlen:its.toArray.size*k.toNat≤sizeLine:=by rw [zbd,← hl];exact hz
 have hcap : ¬ its.toArray.size*k.toNat > (2 ^ 63 - 1) / 8:=by
  have:(sizeLine:Nat)≤(2 ^ 63 - 1) / 8:=by decide
  omega
 have hfit : ¬ (!Builtin.List.listFitsIndex k)=true:=by
  rw [fitsIndex_both h1 h2]
  exact zaZ
 have Ks : ¬ Builtin.List.listTooLong (its.toArray.size*k.toNat)=true:=by
  rw [Bk hlen]
  exact zaZ
 have hnew:List.foldl (fun x1 x2=>x1++x2) #[] (zbW (if its.toArray.isEmpty=true then 0 else k.toNat) its.toArray)=(zbW k.toNat its).flatten.toArray:=by
  have f0:∀ m:Nat,List.foldl (fun x1 x2=>x1++x2) #[] (zbW m its.toArray)=(zbW m its).flatten.toArray:=fun m=>by
   have:=foldl_rep its m []
   rw [zbQ] at this
   exact this
  rw [f0]
  cases its with
  | nil=>simp
  | cons a r'=>rw [if_neg (by simp)]
 refine wpAny_binaryOp_repeat_ref (T := "list") (U := "int") (by decide) ⟨_,e,rfl⟩ (fun s'=>typeIs_int s' k t) noFill_list_mul F.fills_int_mul F.slot_int_rmul repeat_list F.slot_int_index.lookup
  (call_meets F.slot_int_rmul (typeIs_int s k t) F.entry_int_rmul (F.args_int_rmul_2 _ _) (int___rmul___int_list k t l its.toArray n)
   ⟨e,rfl,⟨_,e,rfl⟩,call_meets F.slot_list_mul ⟨_,e,rfl⟩ F.entry_list_mul (F.args_list_mul_2 _ _) (AutoListH.list___mul___list_int_3 l its.toArray n k t hfit hcap Ks) ⟨e,?_⟩⟩)
 rw [hnew]
 exact ⟨.ref _,_,I.Ko (t':=s.toks) (r.rep k.toNat) (by rw [len_rep,Nat.mul_comm];exact hz),rfl,q _ I.fresh⟩
end
end L2
namespace Att
open PySem PySem.W PySem.Calls PyProof.Rows
theorem k7 {P:Params}{h:Heap}:∀ (ns:List Int) (vs:List Value),WellAll P h vs (ns.map WData.int)→IntsAre vs ns:=by
 intro ns
 induction ns with
 | nil =>
  intro vs w
  rw [zcg] at w
  cases w
  exact .nil
 | cons n ns ih =>
  intro vs w
  rw [zcb] at w
  cases w with
  | cons a b =>
   cases a
   exact .cons _ _ (ih _ b)
theorem yD {l:OpenLaw}{n:Nat} (hn:l.most=some n) {P:Params}{h:Heap}{args:List WData}{vals:List Value}
  (hpre:l.row.toRowW.claim.pre args=true) (hwl:WellAll P h vals args) :
  ∃ a vs ns,vals=[Value.ref a]∧args=[WData.list (ns.map WData.int)]∧h.get? a=some { cls:=.type "list",data:=.seq vs.toArray }∧IntsAre vs ns∧ns.length≤n:=by
 have hsh:WShape.hasAll [] args [.list .int]=true:=(pre_splitW hpre).1
 have hc:l.pre.holds [] { args:=args }=true:=(pre_splitW hpre).2
 obtain ⟨d,r,rfl,h1,h2⟩:=hasAllW_cons hsh
 obtain rfl:=hasAllW_nil h2
 obtain ⟨xs,rfl,h3⟩:=hasW_list h1
 obtain ⟨ns,rfl⟩:=items_int h3
 have hlen:ns.length≤n:=by
  unfold OpenLaw.pre at hc
  have h4:(WTm.not (.lt (.lit (.int (n:Int))) (.len (.arg 0)))).holds [] { args:=[.list (ns.map .int)] }=true:=by
   have h4:=(holds_andW hc).1
   rw [hn] at h4
   exact h4
  have h5:=condW_of h4 (w_not (w_lt w_lit (w_len_list (w_arg rfl))))
  rw [zbJ] at h5
  refine Nat.le_of_not_lt fun q => ?_
  have q':(n:Int)<((ns.length:Nat):Int):=by omega
  first
   | (rw [decide_eq_true q'] at h5;exact absurd h5 (by decide))
   | (simp at h5;omega)
 cases hwl with
 | cons w1 w2 =>
  cases w2
  cases w1 with
  | list ho hall=>exact ⟨_,_,ns,rfl,rfl,ho,k7 ns _ hall,hlen⟩
theorem yE (l:OpenLaw) (args:List WData):l.row.toRowW.claim.post args (.bool true) args=true :=
 postW_of (r:=l.row.toRowW) (X:=(true==true))
  (show WShape.has [] (.bool true) .bool=true by first | rfl | decide | simp [WShape.has,WShape.arms,WShape.armsAll])
  (show (WTm.eq .res (.lit (.bool true))).value [] { args:=args,res:=some (.bool true),after:=args }=some (.bool (true==true)) from w_eq_bool (w_res rfl) w_lit) rfl
theorem tQ {l:OpenLaw}{n:Nat}{q:Program}{loose:List Str}{XP:(Str→Option Value)→Heap→Prop}{YP:World→Heap→Prop}{d:DefRec}
  (hn:l.most=some n) (hdf:d.params.defaults=[])
  (call:∀ (w:World) (s₀ s₁:Shared) (mg mb:Str→Option Value) (fa:Addr) (o:Obj) (pm cd doc:Value) (a:Addr) (vs:List Value) (ns:List Int),
   Ground q loose [] XP w s₀ mg mb s₁.heap→YP w s₁.heap →
   s₁.heap.get? fa=some o→o.data = .func (docDef d.name d.params d.body d.scope pm cd doc)→s₁.heap.CodeRec cd d.name→mg d.name=some (.ref fa) →
   s₁.heap.get? a=some { cls:=.type "list",data:=.seq vs.toArray }→IntsAre vs ns→ns.length≤n→s₁.gens = #[] →
   codeAny (model l.prog w) callerA (.call (.ref fa) ⟨[.ref a],[]⟩) (fun r s'=>r = .ok (.ret (.bool true))∧OldK s₁.heap s'.heap∧s'.os=s₁.os∧AllBare s'.gens) s₁) :
  WalkO q loose XP YP l.row.toRowW d [] (fun f vs=>PySem.call f vs):=by
 intro w s₀ s₁ mg mb G Y fa o pm cd doc dV kV ho hd hcd hD hmg hg args vals as hpre hlay hrd hwl hlo
 obtain rfl:dV = .none:=Dflts.none hD hdf
 obtain rfl:kV = .none:=Dflts.noKw hD
 obtain ⟨a,vs,ns,rfl,rfl,hobj,hints,hlen⟩:=yD hn hpre hwl
 refine enter_call (codeAny_mono (call w s₀ s₁ mg mb fa o pm cd doc a vs ns G Y ho (fd_plain hd) hcd hmg hobj hints hlen hg) fun r s' hq => ?_)
 obtain ⟨rfl,h2,h3,h4⟩:=hq
 exact ⟨.inl ⟨.bool true,.bool true,[],rfl,fun _=>rfl,.bool true,yE l _,fun _=>⟨List.Pairwise.nil,fun _ hm=>(nomatch hm)⟩⟩,h2,h3,h4⟩
end Att
namespace L2
open PySem PySem.Spec PyProof.Rows
theorem j6:∀ {vs:List Value}{ns:List Int},IntsAre vs ns→Vals (ns.map V.int) vs
 | _,_,.nil=>.nil
 | _,_,.cons n t h=>.cons ⟨t,rfl⟩ (j6 h)
noncomputable def Jq (H:Hp):Prop:=∀ b,H b=none∨∃ o xs,H b=some (.Dh o (.lst xs))
theorem Bx {P:Program}{w:World}{K:PySem.W.Frag}{mg mb:Str→Option Value}{CX:C8}{k:Nat}{fa a:Addr}{fd:FuncData}{x:Str}{sp:Sp}{s₁:Shared}{vs:List Value}{ns:List Int}
  (KX:K.In s₁.heap) (hns:s₁.heap.Ns mainGlobals mg) (hb:s₁.heap.Ns builtinsNs mb) (hbb:∀ x:Str,x ≠ "__name__" → mb x=bootBuiltins x) (hlim:s₁.heap.NoLimit) (hg:s₁.gens = #[])
  (ha:s₁.heap.get? a=some { cls:=.type "list",data:=.seq vs.toArray }) (hi:IntsAre vs ns) (hl:ns.length≤sizeLine) (hr:bf k callerA)
  (F:∀ base:Heap,K.In base→base.Ns mainGlobals mg→d8 P w K mg base CX k fa fd [x] sp) (hbind:∀ (s:Shared) (u:Value),BindsTo s fd ⟨[u],[]⟩ [(x,u)])
  (hsp:∀ H:Hp,Jq H→dh K H a (ns.map V.int)→sp [.ref a] H (fun v _=>v = .bl true) fun _ _ _=>False)
  (hCX:∀ H e s',CX [] H s₁ (fun _ _ _=>False) e s'→False) :
  codeAny (model P w) callerA (.call (.ref fa) ⟨[.ref a],[]⟩) (fun r s'=>r = .ok (.ret (.bool true))∧OldK s₁.heap s'.heap∧s'.os=s₁.os∧AllBare s'.gens) s₁:=by
 have rv:=j6 hi
 have Mg:=hi.length
 have core:∀ H:Hp,Jq H→dh K H a (ns.map V.int)→iI P w H s₁.heap→(∀ b,H b≠none→b=a)→(H a≠none→K.lookup a=none) →
   codeAny (model P w) callerA (.call (.ref fa) ⟨[.ref a],[]⟩) (fun r s'=>r = .ok (.ret (.bool true))∧OldK s₁.heap s'.heap∧s'.os=s₁.os∧AllBare s'.gens) s₁:=by
  intro H hO hS hok hA hK
  have x9:∀ {b:Addr}{o:Obj},s₁.heap.get? b=some o→H b=none→(qP s₁.heap H).get? b=some o:=fun e n=>BI e n
  have noA:∀ {b:Addr}{o:Obj}{es:Array DictEntry}{ep:Nat},s₁.heap.get? b=some o→o.data = .dict es ep→H b=none:=fun {b o es ep} e d=>by
   cases q:H b with
   | none=>rfl
   | some u =>
    have e':b=a:=hA b (by rw [q];simp)
    subst e'
    rw [ha] at e;cases e
    have d':Data.seq vs.toArray _=Data.dict es ep:=d
    cases d'
  have nsK:∀ {b:Addr}{m:Str→Option Value},s₁.heap.Ns b m→(qP s₁.heap H).Ns b m:=fun {b m} ⟨o,es,ep,e,d,r⟩=>⟨o,es,ep,x9 e (noA e d),d,r⟩
  have hKb:K.In (qP s₁.heap H):=fun b o e=>x9 (KX b o e) (by
   cases q:H b with
   | none=>rfl
   | some u =>
    have e':b=a:=hA b (by rw [q];simp)
    subst e'
    rw [hK (by rw [q];simp)] at e;cases e)
  have hM:Mod K mg (qP s₁.heap H):=⟨hKb,nsK hns,⟨mb,nsK hb,hbb⟩,let ⟨mc,h1,h2⟩:=hlim;⟨mc,nsK h1,h2⟩⟩
  have e0:vR P w K mg (qP s₁.heap H) callerA [] s₁ H:=⟨rfl,hM,fun b o e=>Ec e,Nat.le_of_eq (yZ _ _),trivial,fun b hb=>absurd (show b∈([]:List Addr) from hb) (by simp),hok,.of_eq hg⟩
  refine codeAny_mono ((F _ hKb (nsK hns)).run callerA [] s₁ H ⟨[.ref a],[]⟩ [.ref a] [.ref a] _ _ hr e0 (hbind s₁ (.ref a)) (.cons rfl .nil) (hsp H hO hS)) fun r s' h => ?_
  cases r with
  | error e=>exact (hCX H e s' h).elim
  | ok fl =>
   cases fl with
   | next=>exact False.elim h
   | brk=>exact False.elim h
   | cont=>exact False.elim h
   | ret u =>
    obtain ⟨v,H',os,bare,un,hok',r',q⟩:=h
    have q':v = .bl true:=q
    subst q'
    obtain rfl:u=Value.bool true:=r'
    refine ⟨rfl,OldK.of_keep fun b o e => ?_,os,bare⟩
    cases q:H b with
    | none=>exact un.keep b o e q (by intro z;exact absurd (show b∈([]:List Addr) from z) (by simp)) (by simp)
    | some u =>
     rcases hO b with z | ⟨ob,xs,z⟩
     ·rw [q] at z;cases z
     ·have z2:=un.oi b ob _ z
      obtain ⟨e1,_⟩:=hok b _ z
      obtain ⟨e2,_⟩:=hok' b _ z2
      rw [e] at e1;cases e1
      exact e2
 cases hk:K.lookup a with
 | some o =>
  have e:=KX a o hk
  rw [ha] at e
  cases e
  refine core (fun _=>none) (fun _=>.inl rfl) (.inr ⟨_,vs.toArray,_,hk,rfl,rfl,rfl,by rw [zbd,Mg];exact hl,by simpa using rv⟩) (fun b u z=>by have z':(none:Option HO)=some u:=z;cases z') (fun b z=>absurd rfl z) fun z=>absurd rfl z
 | none =>
  refine core (fun b=>if b=a then some (.Dh { cls:=.type "list",data:=.seq vs.toArray } (.lst (ns.map V.int))) else none) (fun b => ?_) (.inl (.inr ⟨{ cls:=.type "list",data:=.seq vs.toArray },if_pos rfl⟩)) (fun b u z => ?_) (fun b z => ?_) fun _=>hk
  ·by_cases hb:b=a
   ·exact .inr ⟨_,_,if_pos hb⟩
   ·exact .inl (if_neg hb)
  ·by_cases hb:b=a
   ·have z':=(if_pos hb).symm.trans z
    cases z'
    subst hb
    exact ⟨ha,by rw [zbJ];exact hl,vs,_,rv,ha⟩
   ·have z':=(if_neg hb).symm.trans z
    cases z'
  ·by_cases hb:b=a
   ·exact hb
   ·exact absurd (if_neg hb) z
theorem Dq {l:PySem.W.OpenLaw}{n k:Nat}{q:Program}{loose:List Str}{XP:(Str→Option Value)→Heap→Prop}{YP:World→Heap→Prop}{d:DefRec}{K:Params→PySem.W.Frag}{CX:World→C8}{sp:World→Sp}{x:Str}
  (hn:l.most=some n) (hn2:n≤sizeLine) (hdf:d.params.defaults=[]) (hr:bf k callerA)
  (hY:∀ (w:World) (h:Heap),YP w h→(K w.params).In h)
  (F:∀ (w:World) (mg:Str→Option Value) (fa:Addr) (h:Heap),(K w.params).In h→h.Ns mainGlobals mg→mg d.name=some (.ref fa) →
   ∃ fd:FuncData,(∀ (s:Shared) (u:Value),BindsTo s fd ⟨[u],[]⟩ [(x,u)]) ∧
    ∀ base:Heap,(K w.params).In base→base.Ns mainGlobals mg→d8 l.prog w (K w.params) mg base (CX w) k fa fd [x] (sp w))
  (hsp:∀ (w:World) (H:Hp) (a:Addr) (ns:List Int),ns.length≤n→Jq H→dh (K w.params) H a (ns.map V.int)→sp w [.ref a] H (fun v _=>v = .bl true) fun _ _ _=>False)
  (hCX:∀ (w:World) (H:Hp) (s:Shared) (e:Value) (s':Shared),CX w [] H s (fun _ _ _=>False) e s'→False) :
  PySem.W.WalkO q loose XP YP l.row.toRowW d [] (fun f vs=>PySem.call f vs):=by
 refine Att.tQ hn hdf fun w s₀ s₁ mg mb fa o pm cd doc a vs ns G Y ho hd hcd hmg hobj hints hlen hg => ?_
 have KX:=hY w _ Y
 obtain ⟨fd,hb,hF⟩:=F w mg fa _ KX G.T.g hmg
 exact Bx KX G.T.g G.T.b G.T.builtins G.T.nolimit hg hobj hints (zcm hlen hn2) hr hF hb (fun H hO hS=>hsp w H a ns hlen hO hS) fun H e s'=>hCX w H s₁ e s'
noncomputable def inClass (s:Stmt) (j:Nat):Stmt:=match s with
 | .ClassDef _ _ _ body _ _ _ _ _ _ _=>body.getD j (.Pass ⟨0,0,0,0⟩)
 | _=>.Pass ⟨0,0,0,0⟩
noncomputable def cK (s:Stmt):Arguments:=match s with
 | .FunctionDef _ a _ _ _ _ _ _ _ _=>a
 | _=>{ posonlyargs:=[],args:=[],vararg:=none,kwonlyargs:=[],kw_defaults:=[],kwarg:=none,defaults:=[] }
noncomputable def bE (s:Stmt):List Stmt:=match s with
 | .FunctionDef _ _ b _ _ _ _ _ _ _=>b
 | _=>[]
noncomputable def ai (s:Stmt):Scope:=match s with
 | .FunctionDef _ _ _ _ _ _ sc _ _ _=>sc
 | _=>{ kind:=.function,names:=[],isGenerator:=false,isCoroutine:=false }
noncomputable abbrev kY:C8:=fun _ _ _ _ _ _=>False
noncomputable abbrev E0:XK:=fun _ _ _=>False
theorem jv {X:Cx}:Passes kY X E0:=fun _ _ _ _ _ _ _ h=>h.elim
structure Dk (K:PySem.W.Frag) (x qual:Str) (st:Stmt) (f:Addr) (fd:FuncData):Prop where
 ex:∃ (oc:Value) (od:Option Addr) (kV doc pm:Value) (an:Option Addr) (cdv ct:Value) (osl:Array (Option Value)),
  fd=zcr x qual (cK st) (bE st) (ai st) .none kV doc pm an cdv ct∧K.lookup f=some ⟨oc,od,.func fd,osl⟩∧zbZ K cdv qual=true
 kp:zbY K (.ref f)=true
section
variable {P:Program}{w:World}{K:PySem.W.Frag}{mg:Str→Option Value}{base:Heap}
theorem Dk.ok {x qual:Str}{st:Stmt}{f:Addr}{fd:FuncData}{N ps:List Str}{k:Nat}{sp:Sp} (F:Dk K x qual st f fd) (S:aG N ps (ai st)) (len:∀ vs H Q E,sp vs H Q E→vs.length=ps.length)
  (hbody:∀ (cdv:Value) (A:Around) (outer:List Env) (s:Shared) (H:Hp) (vs:List V) (Q:VK) (E:XK),bf k (A.deeper (envOfC qual (ai st) s.heap.objs.size f cdv))→sp vs H Q E →
   ∃ t,tT (jM kY P w K mg base N qual (ai st) f cdv A outer s H E).Df (bE st) t∧t { nx:=fun _ H'=>Q .bN H',rt:=Q } (start N vs) H):d8 P w K mg base kY (k+1) f fd ps sp:=by
 obtain ⟨oc,od,kV,doc,pm,an,cdv,ct,osl,rfl,lk,hcd⟩:=F.ex
 refine KC lk hcd S len fun A outer s H vs Q E hr hsp => ?_
 obtain ⟨t,h,q⟩:=hbody cdv A outer s H vs Q E hr hsp
 exact ⟨t,h.Df,q⟩
theorem Dk.binds {x qual:Str}{st:Stmt}{f:Addr}{fd:FuncData}{ps:List Str} (F:Dk K x qual st f fd)
  (h:∀ (kV doc pm:Value) (an:Option Addr) (cdv ct:Value) (us:List Value),us.length=ps.length→bindArgs (zcr x qual (cK st) (bE st) (ai st) .none kV doc pm an cdv ct) ⟨us,[]⟩=pure (ps.zip us)):Binds K fd ps []:=by
 obtain ⟨oc,od,kV,doc,pm,an,cdv,ct,osl,rfl,lk,hcd⟩:=F.ex
 exact .all (h kV doc pm an cdv ct)
theorem iZ {x qual:Str}{st:Stmt}{f:Addr}{oc:Value}{od an:Option Addr}{osl:Array (Option Value)}{kV doc pm cdv ct:Value} (l:K.lookup f=some ⟨oc,od,.func (zcr x qual (cK st) (bE st) (ai st) .none kV doc pm an cdv ct),osl⟩)
  (c:zbZ K cdv qual=true) (k:zbY K (.ref f)=true):Dk K x qual st f (zcr x qual (cK st) (bE st) (ai st) .none kV doc pm an cdv ct):=⟨⟨oc,od,kV,doc,pm,an,cdv,ct,osl,rfl,l,c⟩,k⟩
end
theorem dW {A:Around}{k:Nat} (hr:bf k A):A.units+1<cLine:=Nat.lt_of_le_of_lt (Nat.add_le_add_left (by decide:1≤64) _) hr.units
section
variable {X:Cx}
theorem pv (i:Nat) {x:Str}{pos:Pos} (hN:X.N[i]? = some x:=by rfl) (hv:K6 X.env.scope x:=by first | exact Or.inl rfl | exact Or.inr (Or.inl rfl) | exact Or.inr (Or.inr rfl)) (hd:(x==("__debug__" : Str))=false:=by decide)
  (hcd:(x==("__classdict__" : Str))=false:=by decide):PE X (.Name x pos) (l7 i):=A8 hN hv hd hcd
theorem zq:bV X (.builtin "len") (fun xs H Q=>∃ a kvs,xs=[V.ref a]∧H a=some (.dK kvs)∧Q (.int kvs.length) H):=by
 intro pins s σ H xs us Q I r h
 obtain ⟨a,kvs,rfl,ha,q⟩:=h
 obtain ⟨u,rfl,ru⟩:=vals1 r
 cases ru
 exact KL I (.inl ha) fun t s' I'=>⟨.int kvs.length,H,I',⟨t,rfl⟩,q⟩
end
theorem jC {A B:Prop} (h:B):if false=true then A else B:=by
 rw [if_neg zaZ]
 exact h
theorem vj {A B:Prop} (h:A):if true=true then A else B:=by
 rw [if_pos rfl]
 exact h
theorem oh {c A B:Prop} [Decidable c] (h1:c→A) (h2 : ¬ c→B):if c then A else B:=by
 by_cases h:c
 ·rw [if_pos h]
  exact h1 h
 ·rw [if_neg h]
  exact h2 h
noncomputable def fF (H H':Hp):Prop:=∀ b o,H b=some o→H' b=some o
theorem fF.refl (H:Hp):fF H H:=fun _ _ h=>h
theorem fF.trans {H H1 H2:Hp} (a:fF H H1) (b:fF H1 H2):fF H H2:=fun c o h=>b c o (a c o h)
theorem fF.free {H H':Hp} (e:fF H H') {l:Addr} (h:H' l=Option.none):H l=Option.none:=by
 cases q:H l with
 | none=>rfl
 | some o =>
  rw [e l o q] at h
  cases h
theorem fF.seq {K:PySem.W.Frag}{H H':Hp}{a:Addr}{xs:List V} (e:fF H H') (h:dh K H a xs):dh K H' a xs:=by
 rcases h with (h | ⟨o,h⟩) | h
 ·exact .inl (.inl (e _ _ h))
 ·exact .inl (.inr ⟨o,e _ _ h⟩)
 ·exact .inr h
end L2
set_option maxHeartbeats 4000000
namespace L2
open PySem PySem.Spec PyProof.Rows
section
variable {X:Cx}{pins:List (Addr×Obj)}{σ:List (Option V)}{H:Hp}{s:Shared}
theorem iI.z6 {P:Program}{w:World}{h:Heap}{D:Addr}{o:HO} (ok:iI P w H h) (hn:H D=none) (new:bw P w (upd H D o) h D o):iI P w (upd H D o) h:=fun b u e=>by
 by_cases hb:b=D
 ·subst hb;rw [aM] at e;cases e;exact new
 ·rw [aJ hb] at e
  refine (ok b u e).stay (fun _ _ _ q=>q) (fun c q => ?_) (fun c xs q => ?_)
  ·rw [aJ (aX q hn)];exact q
  ·rw [aJ (aX q hn)];exact q
theorem Inv.z6 {D:Addr}{o:HO} (I:Inv X pins σ H s) (hn:H D=none) (hD:X.s₀.heap.objs.size≤D) (hL:D≠X.env.locals) (hc:∀ x c,X.env.cells.lookup x=some c→c≠D) (hp:∀ p∈X.pn++pins,p.1≠D)
  (new:bw X.prog X.w (upd H D o) s.heap D o):Inv X pins σ (upd H D o) s:=by
 refine ⟨I.ok,I.os,I.bare,⟨I.base.keep,I.base.slot,fun b ob e n hx => ?_,I.base.there,fun b xs e => ?_,fun b ob u e => ?_,fun b ps e => ?_⟩,I.loc,I.cell,?_,fun x c e => ?_,fun p hp' => ?_,I.hok.z6 hn new,I.len⟩
 ·rw [aJ (zcl (zaX (zct e) hD))];exact I.base.free b ob e n hx
 ·have q:=I.base.tups b xs e;rw [aJ (aX q hn)];exact q
 ·have q:=I.base.oi b ob u e;rw [aJ (aX q hn)];exact q
 ·obtain ⟨m,q⟩:=I.base.pR b ps e;exact ⟨m,by rw [aJ (aX q hn)];exact q⟩
 ·rw [aJ (Ne.symm hL)];exact I.free
 ·rw [aJ (hc x c e)];exact I.gD x c e
 ·obtain ⟨e,n,a,b,d⟩:=I.pin p hp'
  exact ⟨e,by rw [aJ (hp p hp')];exact n,a,b,d⟩
end
noncomputable def jN (env:Env):List (Str×NameKind)→List (Str×Addr)→List (Str×Addr)
 | [],acc=>acc
 | (n,k)::r,acc=>jN env r (if k==NameKind.free then (n,(env.cells.lookup n).getD 0)::acc else acc)
theorem i6 (env:Env):∀ (l:List (Str×NameKind)) (acc:List (Str×Addr)),(∀ n,(n,NameKind.free)∈l→∃ c,env.cells.lookup n=some c) →
  (forIn l acc (fun (x:Str×NameKind) (r:List (Str×Addr))=>if (x.2==NameKind.free)=true then (do let a ← cellOf env x.1;pure (ForInStep.yield ((x.1,a)::r))) else pure (ForInStep.yield r)):Sem (List (Str×Addr)))=pure (jN env l acc)
 | [],acc,_=>rfl
 | (n,k)::r,acc,h=>by
  rw [List.forIn_cons]
  by_cases hk:(k==NameKind.free)=true
  ·have e:k = .free:=by simpa using hk
   subst e
   obtain ⟨c,hc⟩:=h n zaR
   have e1:cellOf env n=pure c:=by unfold cellOf;rw [hc]
   have e2:((NameKind.free==NameKind.free)=true)=True:=by simp
   simp only [e2,if_true,e1,pure_bind]
   rw [i6 env r _ fun m hm=>h m (zaA _ hm)]
   show _=pure (jN env r (if (NameKind.free==NameKind.free)=true then (n,(env.cells.lookup n).getD 0)::acc else acc))
   simp only [e2,if_true,hc,zbG]
  ·simp only [if_neg hk,pure_bind]
   rw [i6 env r _ fun m hm=>h m (zaA _ hm)]
   show _=pure (jN env r (if (k==NameKind.free)=true then (n,(env.cells.lookup n).getD 0)::acc else acc))
   rw [if_neg hk]
theorem iR {scope:Scope}{env:Env} (h:∀ n,(n,NameKind.free)∈scope.names→∃ c,env.cells.lookup n=some c):closureFor scope env=pure (jN env scope.names []):=by
 unfold closureFor
 have e:=i6 env scope.names [] h
 first
  | exact e
  | (simp only [bind_pure];exact e)
  | (rw [show (forIn scope.names ([]:List (Str×Addr)) _:Sem (List (Str×Addr)))=_ from e];rfl)
theorem tG (env:Env):∀ (l:List (Str×NameKind)) (acc:List (Str×Addr)) (x:Str) (c:Addr),(jN env l acc).lookup x=some c→acc.lookup x=some c∨(x,NameKind.free)∈l∧c=(env.cells.lookup x).getD 0
 | [],acc,x,c,h=>.inl h
 | (n,k)::r,acc,x,c,h=>by
  rcases tG env r _ x c h with e | ⟨e1,e2⟩
  ·by_cases hk:(k==NameKind.free)=true
   ·rw [if_pos hk] at e
    have ek:k = .free:=by simpa using hk
    subst ek
    rw [zby] at e
    by_cases hx:(x==n)=true
    ·have ex:x=n:=by simpa using hx
     subst ex
     rw [hx] at e
     exact .inr ⟨zaR,(zcB.inj e).symm⟩
    ·have hx':(x==n)=false:=by simpa using hx
     rw [hx'] at e
     exact .inl e
   ·rw [if_neg hk] at e
    exact .inl e
  ·exact .inr ⟨zaA _ e1,e2⟩
theorem nN (env:Env):∀ (l:List (Str×NameKind)) (acc:List (Str×Addr)) (x:Str),((x,NameKind.free)∈l∨∃ c,acc.lookup x=some c)→∃ c,(jN env l acc).lookup x=some c
 | [],acc,x,h=>by
  rcases h with h | h
  ·simp at h
  ·exact h
 | (n,k)::r,acc,x,h=>by
  refine nN env r _ x ?_
  rcases h with h | ⟨c,h⟩
  ·rcases zca.mp h with e | e
   ·injection e with e1 e2
    subst e1 e2
    right
    exact ⟨(env.cells.lookup x).getD 0,by rw [if_pos (by rfl),zby];simp⟩
   ·exact .inl e
  ·right
   by_cases hk:(k==NameKind.free)=true
   ·rw [if_pos hk,zby]
    by_cases hx:(x==n)=true
    ·rw [hx];exact ⟨_,rfl⟩
    ·have hx':(x==n)=false:=by simpa using hx
     rw [hx'];exact ⟨c,h⟩
   ·rw [if_neg hk];exact ⟨c,h⟩
theorem gB {scope:Scope}{env:Env}{x:Str}{k:NameKind}:∀ {names:List (Str×NameKind)},(names.map fun (n,k)=>if (k==NameKind.free&&env.scope.kind == .function&&env.kindOf n==some .cell) then (n,NameKind.cell) else (n,k)).lookup x=some k →
  names.lookup x=some k∨(k = .cell∧names.lookup x=some .free)
 | [],h=>by simp at h
 | (n,j)::r,h=>by
  have ih:=@gB scope env x k r
  rw [zcb,zby] at h
  rw [zby]
  by_cases hc:(j==NameKind.free&&env.scope.kind == .function&&env.kindOf n==some .cell)=true
  ·simp only [hc,if_true] at h
   cases hx:x==n with
   | true =>
    rw [hx] at h
    have ej:j = .free:=by
     simp only [zbE] at hc
     simpa using hc.1.1
    exact .inr ⟨(zcB.inj h).symm,by rw [ej]⟩
   | false=>rw [hx] at h;exact ih h
  ·simp only [if_neg hc] at h
   cases hx:x==n with
   | true=>rw [hx] at h;exact .inl h
   | false=>rw [hx] at h;exact ih h
theorem jh {scope:Scope}{env:Env}{x:Str}:∀ {names:List (Str×NameKind)},names.lookup x=some .free→∃ k,(k=NameKind.cell∨k = .free) ∧
  (names.map fun (n,k)=>if (k==NameKind.free&&env.scope.kind == .function&&env.kindOf n==some .cell) then (n,NameKind.cell) else (n,k)).lookup x=some k
 | [],h=>by simp at h
 | (n,j)::r,h=>by
  have ih:=@jh scope env x r
  rw [zby] at h
  rw [zcb,zby]
  by_cases hc:(j==NameKind.free&&env.scope.kind == .function&&env.kindOf n==some .cell)=true
  ·simp only [hc,if_true]
   cases hx:x==n with
   | true=>exact ⟨.cell,.inl rfl,rfl⟩
   | false=>rw [hx] at h;exact ih h
  ·simp only [if_neg hc]
   cases hx:x==n with
   | true=>rw [hx] at h;exact ⟨.free,.inr rfl,h⟩
   | false=>rw [hx] at h;exact ih h
noncomputable def om (caps:List (Option Nat)) (σ:St):St:=caps.map fun o=>o.bind fun i=>(σ[i]?).getD none
noncomputable def gG (XN:List Str) (env:Env) (scope:Scope) (N:List Str) (caps:List (Option Nat)):Bool :=
 caps.length==N.length&&(caps.zip N).all fun p=>match p.1 with
  | none=>scope.names.lookup p.2==some .local
  | some i=>XN[i]? == some p.2&&scope.names.lookup p.2==some .free&&(env.scope.names.lookup p.2==some .cell||env.scope.names.lookup p.2==some .free)
noncomputable def iz (X:Cx) (scope:Scope) (N:List Str) (s₀:Shared) (H₀:Hp) (C:Addr) (fp:List Addr):Cx where
 prog:=X.prog
 w:=X.w
 K:=X.K
 mg:=X.mg
 base:=X.base
 A:=X.A
 N:=N
 s₀:=s₀
 H₀:=H₀
 env:=compEnvC scope (jN X.env scope.names []) C X.env
 outer:=X.stack
 stack:=X.stack
 ex:=fp
 fn:=fun _=>false
 calm:=X.calm
 pn:=[]
 xe:=fun _ _=>False
structure cQ (scope:Scope) (N:List Str):Prop where
 kind:scope.kind = .function
 nd:N.Nodup
 Bm:∀ y∈scope.names,y.2 ≠ .cell
 names:∀ y∈scope.names,scope.names.lookup y.1=some y.2
section
variable {X:Cx}{pins:List (Addr×Obj)}{σ:List (Option V)}{H:Hp}{s:Shared}
theorem Cb {XN:List Str}{env:Env}{scope:Scope}{N:List Str}{caps:List (Option Nat)} (h:gG XN env scope N caps=true) :
  caps.length=N.length∧∀ (j i:Nat) (x:Str),caps[j]? = some (some i)→N[j]? = some x→XN[i]? = some x∧scope.names.lookup x=some .free∧(env.kindOf x=some .cell∨env.kindOf x=some .free):=by
 unfold gG at h
 rw [zbE] at h
 obtain ⟨h1,h2⟩:=h
 refine ⟨by simpa using h1,fun j i x e1 e2 => ?_⟩
 have hm:(some i,x)∈caps.zip N:=by
  refine zaD (i:=j) ?_
  rw [List.getElem?_zip_eq_some]
  exact ⟨e1,e2⟩
 have q:=zbz.mp h2 _ hm
 simp only [zbE,Bool.or_eq_true,beq_iff_eq] at q
 exact ⟨q.1.1,q.1.2,q.2⟩
theorem Inv.block {scope:Scope}{N:List Str}{caps:List (Option Nat)}{C:Addr}{fp:List Addr}{s1:Shared}{h1:Heap}{tk:Nat}{m:Str→Option Value} (S:cQ scope N) (hcap:gG X.N X.env scope N caps=true)
  (hfree:∀ n,(n,NameKind.free)∈scope.names→∃ c,X.env.cells.lookup n=some c)
  (I:Inv X pins σ H s) (hf:∀ b∈fp,lD X pins H b) (hfl:∀ b∈fp,b<s.heap.objs.size) (hC:s.heap.objs.size≤C) (hk:∀ b o,s.heap.get? b=some o→h1.get? b=some o) (hn:h1.Ns C m) :
  Inv (iz X scope N s H C fp) [] (om caps σ) H { s with heap:=h1,toks:=tk }:=by
 obtain ⟨hlen,hat⟩:=Cb hcap
 have pB:∀ x c,(jN X.env scope.names []).lookup x=some c→X.env.cells.lookup x=some c:=fun x c e=>by
  rcases tG X.env scope.names [] x c e with z | ⟨z1,z2⟩
  ·simp at z
  ·obtain ⟨c',hc'⟩:=hfree x z1
   rw [hc',z2,hc'];rfl
 have clt:∀ x c,X.env.cells.lookup x=some c→c<s.heap.objs.size:=fun x c e=>by
  obtain ⟨v,o,ho,_⟩:=I.cell x c e
  exact zct ho
 have LW:∀ x,((compEnvC scope (jN X.env scope.names []) C X.env).kindOf x=some .cell∨(compEnvC scope (jN X.env scope.names []) C X.env).kindOf x=some .free)→(x,NameKind.free)∈scope.names:=fun x hx=>by
  have sub:∀ k,(compEnvC scope (jN X.env scope.names []) C X.env).kindOf x=some k→scope.names.lookup x=some k∨(k = .cell∧scope.names.lookup x=some .free):=fun k e=>gB (scope:=scope) (env:=X.env) e
  rcases hx with e | e
  ·rcases sub _ e with z | ⟨_,z⟩
   ·exact absurd rfl (S.Bm _ (PySem.mem_of_lookup z))
   ·exact PySem.mem_of_lookup z
  ·rcases sub _ e with z | ⟨z,_⟩
   ·exact PySem.mem_of_lookup z
   ·cases z
 refine ⟨⟨I.ok.mod,S.kind,I.ok.glob,I.ok.blt,hC,fun x y c e1 e2=>I.ok.inj x y c (pB x c e1) (pB y c e2),fun x hx => ?_,fun x c z _=>absurd (show false=true from z) zaZ,I.ok.hd,I.ok.frames,.inl rfl,fun b hb => ?_,I.bs,zcm I.ok.EY I.sz,fun b o e hb => ?_,fun b hb hb2 => ?_,I.stack,I.wg⟩,
  rfl,I.bare,Un.kept hk,⟨m,hn,fun j x v e1 e2 e3 => ?_⟩,fun x c e => ?_,I.hok.fresh hC,fun x c e=>I.gD x c (pB x c e),fun p hp=>absurd (show p∈([]:List (Addr×Obj)) from hp) (by simp),I.hok.kept hk,?_⟩
 ·exact nN X.env scope.names [] x (.inl (LW x hx))
 ·exact ⟨zcl (zaX (hfl b hb) hC),fun x c e=>(hf b hb).2.2.2.2.1 x c (pB x c e)⟩
 ·rcases (hf b hb).2.2.2.1 with z | z
  ·exact I.ok.Bl b o e z
  ·exact absurd (zaX (zct e) (zcm I.ok.EY z)) (zce _)
 ·rcases zca.mp (I.mj b hb2) with z | z
  ·exact (hf b hb).2.1 z
  ·exact (hf b hb).2.2.1 z
 ·have e2':(om caps σ)[j]? = some (some v):=e2
  unfold om at e2'
  rw [zbf] at e2'
  cases hc:caps[j]? with
  | none=>rw [hc] at e2';cases e2'
  | some o =>
   rw [hc] at e2'
   cases o with
   | none=>cases e2'
   | some i =>
    have e4:(σ[i]?).getD none=some v:=zcB.inj e2'
    have e5:σ[i]? = some (some v):=by
     cases q:σ[i]? with
     | none=>rw [q] at e4;cases e4
     | some y=>rw [q] at e4;exact congrArg some e4
    obtain ⟨a1,a2,a3⟩:=hat j i x hc e1
    obtain ⟨mX,hnX,hl⟩:=I.loc
    obtain ⟨u,r,l⟩:=hl i x v a1 e5 (a3.elim (fun z=>.inr (.inl z)) fun z=>.inr (.inr z))
    refine ⟨u,r,.inr ?_⟩
    obtain ⟨c,hcx,cell⟩:∃ c,X.env.cells.lookup x=some c∧s.heap.IsCell c (some u):=by
     rcases l with ⟨k,_⟩ | ⟨_,z⟩
     ·rw [k] at a3;rcases a3 with z | z <;> cases z
     ·exact z
    obtain ⟨k,hk2,hk3⟩:=jh (scope:=scope) (env:=X.env) a2
    obtain ⟨c',hc'⟩:=nN X.env scope.names [] x (.inl (PySem.mem_of_lookup a2))
    have hcc:c'=c:=zcB.inj ((pB x c' hc').symm.trans hcx)
    subst hcc
    refine ⟨?_,c',hc',?_⟩
    ·rcases hk2 with z | z
     ·subst z;exact .inl hk3
     ·subst z;exact .inr hk3
    ·obtain ⟨o,ho,hd⟩:=cell
     exact ⟨o,hk _ _ ho,hd⟩
 ·obtain ⟨v,o,ho,hd⟩:=I.cell x c (pB x c e)
  exact ⟨v,o,hk _ _ ho,hd⟩
 ·show (om caps σ).length=N.length
  unfold om;rw [zbJ];exact hlen
end
theorem gF {prog:Program}{w:World}{A:Around}{R:Result→Shared→Prop}{s:Shared}{elt target iter:Expr}{ifs:List Expr}{scope:Scope}{pos:Pos}{it acc:Value}{env:Env} (I:Nat→Shared→Prop)
  (turn:∀ n s,I n s→wpAny (model prog w) A (pyNext it) (fun r s₁=>match r with
   | none=>R (.ok .next) s₁
   | some v=>wpAny (model prog w) A (letOwnedTupleGo target it v) (fun _ s₁'=>wpAny (model prog w) A (assign target env v) (fun _ s₂ =>
     wpAny (model prog w) A (forIn ifs true fun c r=>if r=true then do let ok ← isTrue c env (eval c env);pure (ForInStep.yield ok) else pure (ForInStep.yield r)) (fun ok s₃ =>
      if ok=true then wpAny (model prog w) A (eval elt env) (fun x s₄ =>
       wpAny (model prog w) A (call (.builtin "list.append") [acc,x]) (fun _ s₅=>∃ m,m<n∧I m s₅) (fun _ _=>False) s₄) (fun _ _=>False) s₃
      else ∃ m,m<n∧I m s₃) (fun _ _=>False) s₂) (fun _ _=>False) s₁') (fun _ _=>False) s₁) (fun _ _=>False) s)
  (n:Nat) (h:I n s) :
  codeAny (model prog w) A (.compLoop (.ListComp elt [⟨target,iter,ifs,0⟩] scope pos) 0 it acc env) R s:=by
 refine codeAny_loop rfl I (fun n s hI => ?_) n h
 show wpAny _ A ((compTurn (.ListComp elt [⟨target,iter,ifs,0⟩] scope pos) 0 it acc env).onRaise (fun x=>do noteFrame x env;theTreesLotGoes x)) _ _ s
 refine wpAny_noted ?_
 rw [compTurn_list]
 refine wpAny_noRaise ?_
 refine wpAny_bind (wpAny_standAt (wpAny_bind (wpAny_mono (turn n s hI) (fun r s₁ h₁ => ?_) fun _ _ h'=>h')))
 cases r with
 | none=>exact wpAny_pure h₁
 | some v =>
  refine wpAny_bind (wpAny_mono h₁ (fun _ s₁' h₁' => ?_) fun _ _ h'=>h')
  refine wpAny_bind (wpAny_mono h₁' (fun _ s₂ h₂=>wpAny_bind (wpAny_mono h₂ (fun ok s₃ h₃ => ?_) fun _ _ h'=>h')) fun _ _ h'=>h')
  cases ok with
  | false=>exact wpAny_pure ⟨rfl,h₃⟩
  | true =>
   exact wpAny_bind (wpAny_bind (wpAny_mono h₃ (fun x s₄ h₄=>wpAny_bind (wpAny_mono h₄ (fun _ s₅ h₅=>wpAny_pure (wpAny_pure ⟨rfl,h₅⟩)) fun _ _ h'=>h')) fun _ _ h'=>h'))
noncomputable def Fl (X:Cx) (ifs:List Expr) (t:TT):Prop :=
 ∀ (pins:List (Addr×Obj)) (s:Shared) (σ:St) (H:Hp) (Q:Bool→Hp→Prop),Inv X pins σ H s→t σ H Q →
  wpAny (model X.prog X.w) X.A (forIn ifs true fun c r=>if r=true then do let ok ← isTrue c X.env (eval c X.env);pure (ForInStep.yield ok) else pure (ForInStep.yield r)) (TP X pins σ Q) X.xe s
noncomputable def Dw:TT:=fun _ H Q=>Q true H
theorem cH {X:Cx}:Fl X [] Dw:=fun _ _ _ H _ I h=>wpAny_tests_nil ⟨H,I,h⟩
theorem ff {X:Cx}{c:Expr}{t:TT} (h:PT X c t):Fl X [c] t:=fun pins s σ H Q I hw=>wpAny_tests_one (h pins s σ H Q I hw)
noncomputable def Ad (J:It) (g:TG) (tt:TT) (te:TE) (τ0:St) (H:Hp) (Qd:List V→Hp→Prop):Prop :=
 ∃ W:Nat→Nat→List V→St→Hp→Prop,(∃ m,W 0 m [] τ0 H)∧∀ i m xs τ H,W i m xs τ H →
  (J.stop i H∧Qd xs H)∨(J.go i H∧∃ M:List V→St→Hp→Prop,(∀ ys τ' H',M ys τ' H'→∃ m',m'<m∧W (i+1) m' ys τ' H')∧∀ x H',J.zQ i H x H'→g x τ H' fun τ2 H2=>tt τ2 H2 fun b H3 =>
   if b=true then te τ2 H3 fun v H4=>xs.length<sizeLine∧M (xs++[v]) τ2 H4 else M xs τ2 H3)
section
variable {X:Cx}{pins:List (Addr×Obj)}{σ:List (Option V)}{s:Shared}
noncomputable abbrev lobj (its:List Value) (k:Nat):Obj:={ cls:=.type "list",data:=.seq its.toArray k }
theorem tD {elt tg iter:Expr}{ifs:List Expr}{scope:Scope}{N:List Str}{caps:List (Option Nat)}{pos:Pos}{g:TG}{tt:TT}{te:TE}{J:It}{fp:List Addr}{it:Addr}{tn:Nat→Heap→Prop}{H2:Hp}{s2:Shared}{Qd:List V→Hp→Prop}
  {E:Value→Shared→Prop}{RR:Value→Addr→Result→Shared→Prop}
  (S:cQ scope N) (hcap:gG X.N X.env scope N caps=true) (hfree:∀ n,(n,NameKind.free)∈scope.names→∃ c,X.env.cells.lookup n=some c) (hc:X.calm=true)
  (hg:∀ s₀ H₀ C fp,PG (iz X scope N s₀ H₀ C fp) tg g) (ht:∀ s₀ H₀ C fp,Fl (iz X scope N s₀ H₀ C fp) ifs tt) (he:∀ s₀ H₀ C fp,PE (iz X scope N s₀ H₀ C fp) elt te)
  (I2:Inv X pins σ H2 s2) (T:Turn X.prog X.w X.K tg J fp it tn) (st2:tn 0 s2.heap) (f2:∀ b∈fp,lD X pins H2 b) (h:Ad J g tt te (om caps σ) H2 Qd)
  (hRR:∀ (D C:Addr) m xs H3 (s4:Shared),Inv X pins σ (upd H3 D (.lst xs)) s4→H3 D=none→s4.heap.Ns C m→lD X pins (upd H3 D (.lst xs)) C→Qd xs H3→RR (.ref D) C (.ok .next) s4) :
  wpAny (model X.prog X.w) X.A (newList []) (fun acc s₃=>wpAny (model X.prog X.w) X.A (newFunctionEnv scope X.env.globals (jN X.env scope.names []) [] X.env.qual none .none (some X.env)) (fun cenv s₄ =>
   codeAny (model X.prog X.w) X.A (.compStart (.ListComp elt [⟨tg,iter,ifs,0⟩] scope pos) 0 (.ref it) acc { cenv with scope:=relabel scope X.env }) (RR acc cenv.locals) s₄) E s₃) E s2:=by
 have hfl:∀ b∈fp,b<s2.heap.objs.size:=fun b hb=>by
  obtain ⟨o,e,_⟩:=T.obj 0 s2.heap st2 b hb
  exact zct e
 refine wpAny_newObj_type (wpAny_newFunctionEnv S.Bm (by intro y hy;simp at hy) (fun h₁ hns hsb => ?_) S.kind)
 dsimp only at hns hsb ⊢
 generalize hHD:s2.heap.push { cls:=.type "list",dict:=none,data:=.seq ([]:List Value).toArray }=HD at hns hsb ⊢
 have hC:HD.objs.size=s2.heap.objs.size+1:=by rw [← hHD,Heap.size_push]
 have hDC:s2.heap.objs.size≠HD.objs.size:=by rw [hC];exact zcl (Nat.lt_succ_self _)
 have Ij:s2.heap.objs.size≤HD.objs.size:=by rw [hC];exact zcz _
 have old:∀ b o,s2.heap.get? b=some o→h₁.get? b=some o:=fun b o e =>
  hsb.extBut b o (by rw [hC];exact zcl (Nat.lt_succ_of_lt (zct e))) (zaq _ (hHD ▸ zaq _ e))
 have hacc:h₁.get? s2.heap.objs.size=some (lobj [] 0):=hsb.extBut _ _ hDC (zaq _ (hHD ▸ zaQ _ rfl))
 obtain ⟨W,⟨m0,w0⟩,turn⟩:=h
 have IY0:=Inv.block (caps:=caps) (C:=HD.objs.size) (fp:=fp) (s1:=s2) (h1:=h₁) (tk:=s2.toks+([]:List (Str×Value)).length) S hcap hfree I2 f2 hfl Ij old hns
 have freshD:H2 s2.heap.objs.size=none:=I2.hok.fresh (zcx _)
 have FN:∀ {τ:St}{H':Hp}{s':Shared}{its:List Value}{k:Nat},Inv (iz X scope N s2 H2 HD.objs.size fp) [] τ H' s'→H' s2.heap.objs.size=none→s'.heap.get? s2.heap.objs.size=some (lobj its k) →
   Inv (iz X scope N s2 H2 HD.objs.size fp) [(s2.heap.objs.size,lobj its k)] τ H' s':=fun {τ H' s' its k} I hn e=>I.jn fun p hp=>by
  have ep:p=(s2.heap.objs.size,lobj its k):=by simpa using hp
  subst ep
  exact ⟨e,hn,hDC,fun z=>by
   rcases zca.mp (I2.mj _ z) with q | q
   ·exact absurd (q ▸ I2.lt) (zce _)
   ·exact I2.Ke (zcx _) q,fun v z=>by cases z⟩
 have fY:∀ {H':Hp}{its:List Value}{k:Nat},(∀ b∈fp,H' b=none)→∀ b∈fp,lD (iz X scope N s2 H2 HD.objs.size fp) [(s2.heap.objs.size,lobj its k)] H' b:=fun {H' its k} hn b hb=>by
  have z:=f2 b hb
  refine ⟨hn b hb,zcl (zaX (hfl b hb) Ij),fun q => ?_,.inl hb,fun x c e=>IY0.ok.Ms b hb |>.2 x c e,fun p hp => ?_⟩
  ·rcases zca.mp (I2.mj b q) with q | q
   ·exact z.2.1 q
   ·exact z.2.2.1 q
  ·have ep:p=(s2.heap.objs.size,lobj its k):=by
    have:p∈[]++[(s2.heap.objs.size,lobj its k)]:=hp
    simpa using this
   subst ep
   exact Nat.ne_of_gt (hfl b hb)
 have fin:∀ {τ:St}{H3:Hp}{s4:Shared}{xs:List V}{its:List Value}{k:Nat},Inv (iz X scope N s2 H2 HD.objs.size fp) [(s2.heap.objs.size,lobj its k)] τ H3 s4→Vals xs its→xs.length≤sizeLine→Qd xs H3 →
   RR (.ref s2.heap.objs.size) HD.objs.size (.ok .next) s4:=fun {τ H3 s4 xs its k} I r hz q=>by
  have hD:=I.pin (s2.heap.objs.size,lobj its k) (by show _∈[]++[_];simp)
  have IX:Inv X pins σ H3 s4:=I2.KP (s':=s4) (ch:=fp) I.os I.base I.hok I.bare fun b hb=>⟨(f2 b hb).2.2.2.1,(f2 b hb).2.1,(f2 b hb).2.2.2.2.1,(f2 b hb).2.2.2.2.2⟩
  have fD:lD X pins H3 s2.heap.objs.size:=I2.zb (zcx _) hD.2.1
  have fC:lD X pins H3 HD.objs.size:=I2.zb Ij I.free
  have IT:Inv X pins σ (upd H3 s2.heap.objs.size (.lst xs)) s4:=IX.z6 hD.2.1 I2.sz fD.2.1 (fun x c e=>fD.2.2.2.2.1 x c e) (fun p hp=>fD.2.2.2.2.2 p hp) ⟨hz,its,k,r,hD.1⟩
  obtain ⟨m,hn,_⟩:=I.loc
  exact hRR _ _ m xs H3 s4 IT hD.2.1 hn ⟨by rw [aJ (Ne.symm hDC)];exact fC.1,fC.2⟩ q
 have loop:∀ s₃:Shared,s₃={ s2 with heap:=h₁,toks:=s2.toks+([]:List (Str×Value)).length } →
   codeAny (model X.prog X.w) X.A (.compLoop (.ListComp elt [⟨tg,iter,ifs,0⟩] scope pos) 0 (.ref it) (.ref s2.heap.objs.size) (compEnvC scope (jN X.env scope.names []) HD.objs.size X.env)) (RR (.ref s2.heap.objs.size) HD.objs.size) s₃:=by
  rintro s₃ rfl
  refine gF (fun n s'=>∃ i xs its k τ H',Inv (iz X scope N s2 H2 HD.objs.size fp) [(s2.heap.objs.size,lobj its k)] τ H' s'∧tn i s'.heap∧(∀ b∈fp,H' b=none)∧Vals xs its∧xs.length≤sizeLine∧W i n xs τ H') ?_ m0
   ⟨0,[],[],0,_,_,FN IY0 freshD hacc,T.keep 0 _ _ st2 fun b _ o e=>old b o e,fun b hb=>(f2 b hb).1,.nil,zcy _,w0⟩
  rintro n s3 ⟨i,xs,its,k,τ,H3,I3,st3,fr3,r3,z3,w3⟩
  rcases turn i n xs τ H3 w3 with ⟨stop,qn⟩ | ⟨go,M,hM,step⟩
  ·refine wpAny_mono (T.done (iz X scope N s2 H2 HD.objs.size fp) rfl rfl rfl hc i _ s3 τ H3 (fun _ _=>False) I3 (fY fr3) st3 stop) (fun r s4 ⟨hr,I4⟩ => ?_) fun _ _ z=>z
   subst hr
   exact fin I4 r3 z3 qn
  ·refine wpAny_mono (T.item (iz X scope N s2 H2 HD.objs.size fp) rfl rfl rfl hc i _ s3 τ H3 (fun _ _=>False) I3 (fY fr3) st3 go) (fun r s4 ⟨u,hr,h4⟩ => ?_) fun _ _ z=>z
   subst hr
   refine wpAny_mono h4 (fun _ s5 ⟨x,H5,I5,r5,y5,st5,fr5⟩ => ?_) fun _ _ z=>z
   have I5':=I5.pinned (fY fr5) (T.obj _ _ st5)
   have FW:∀ {τ7:St}{H7:Hp}{s7:Shared},Inv (iz X scope N s2 H2 HD.objs.size fp) ([(s2.heap.objs.size,lobj its k)]++m6 fp s5.heap) τ7 H7 s7→tn (i+1) s7.heap∧∀ b∈fp,H7 b=none:=fun {τ7 H7 s7} I7=>by
    refine ⟨T.keep _ _ _ st5 fun b hb o e=>(I7.pin (b,o) (zat _ (zat _ (fX hb e)))).1,fun b hb => ?_⟩
    obtain ⟨o,e,d⟩:=T.obj _ _ st5 b hb
    exact (I7.pin (b,o) (zat _ (zat _ (fX hb e)))).2.1
   refine wpAny_mono (hg _ _ _ _ _ s5 τ H5 x u _ I5' r5 (step x H5 y5)) (fun _ s6 ⟨τ6,H6,I6,q6⟩ => ?_) fun _ _ z=>z
   refine wpAny_mono (ht _ _ _ _ _ s6 τ6 H6 _ I6 q6) (fun ok s7 ⟨H7,I7,q7⟩ => ?_) fun _ _ z=>z
   cases ok with
   | false =>
    rw [if_neg zaZ] at q7 ⊢
    obtain ⟨m',hm,w7⟩:=hM _ _ _ q7
    obtain ⟨a1,a2⟩:=FW I7
    exact ⟨m',hm,i+1,xs,its,k,τ6,H7,I7.gk,a1,a2,r3,z3,w7⟩
   | true =>
    rw [if_pos rfl] at q7 ⊢
    refine wpAny_mono (he _ _ _ _ _ s7 τ6 H7 _ I7 q7) (fun v s8 ⟨y,H8,I8,r8,q8⟩ => ?_) fun _ _ z=>z
    obtain ⟨hz,q8⟩:=q8
    obtain ⟨m',hm,w8⟩:=hM _ _ _ q8
    obtain ⟨a1,a2⟩:=FW I8
    have hD:=I8.pin (s2.heap.objs.size,lobj its k) (zat _ (zaB _ (by simp)))
    have hlen:=r3.length
    refine wpAny_list_append_plain (items:=its.toArray) ⟨k,hD.1⟩ (fun h' hp hs => ?_) (by rw [zbd];omega)
    obtain ⟨k',hp⟩:=hp
    have I9:Inv (iz X scope N s2 H2 HD.objs.size fp) [] τ6 H8 { s8 with heap:=h' } :=
     (I8.jn (pins':=[]) (by simp)).turned (t':=s8.toks) (it:=s2.heap.objs.size) (fun b o hb e=>(hs.2 b hb).trans e) hD.2.1 hD.2.2.1 (.inr (zcx _))
      (fun x c e z=>by
       have q:=IY0.cell x c e
       obtain ⟨v,o,ho,hd⟩:=I8.cell x c e
       have e1:s8.heap.get? s2.heap.objs.size=some (lobj its k):=hD.1
       rw [z,e1] at ho
       cases ho
       cases hd) (by intro p hp;exact absurd (show p∈([]:List (Addr×Obj))++[] from hp) (by simp))
    have hp':({ s8 with heap:=h' }:Shared).heap.get? s2.heap.objs.size=some (lobj (its++[v]) k'):=by
     show h'.get? _=_
     rw [hp];simp
    have hkt:tn (i+1) h':=T.keep _ _ _ a1 fun b hb o e=>(hs.2 b (zcl (hfl b hb))).trans e
    refine ⟨m',hm,i+1,xs++[y],its++[v],k',τ6,H8,FN I9 hD.2.1 hp',hkt,a2,r3.append (.cons r8 .nil),?_,w8⟩
    rw [zaS]
    exact hz
 exact codeAny_compStart_list (loop _ rfl) (T.self X.A 0 _ _ _ (T.keep 0 _ _ st2 fun b _ o e=>old b o e) (loop _ rfl))
noncomputable def freeOk (env:Env) (scope:Scope):Bool:=scope.names.all fun p=>p.2 != .free||env.scope.names.lookup p.1==some .cell||env.scope.names.lookup p.1==some .free
theorem Inv.freeOk {H:Hp}{scope:Scope} (I:Inv X pins σ H s) (h:freeOk X.env scope=true):∀ n,(n,NameKind.free)∈scope.names→∃ c,X.env.cells.lookup n=some c:=fun n hn=>by
 have q:=zbz.mp h _ hn
 simp only [Bool.or_eq_true,beq_iff_eq,bne_iff_ne] at q
 refine I.ok.has n ?_
 rcases q with (q | q) | q
 ·exact absurd rfl q
 ·exact .inl q
 ·exact .inr q
noncomputable def rJ (caps:List (Option Nat)) (wi:TI) (g:TG) (tt:TT) (te:TE):TE:=fun σ H Q=>wi σ H fun J H1=>Ad J g tt te (om caps σ) H1 fun xs H3=>∀ p,H3 p=none→Q (.ref p) (upd H3 p (.lst xs))
theorem cT {elt tg iter:Expr}{ifs:List Expr}{scope:Scope}{N:List Str}{caps:List (Option Nat)}{pos:Pos}{wi:TI}{g:TG}{tt:TT}{te:TE}
  (S:cQ scope N) (hcap:gG X.N X.env scope N caps=true) (hfr:L2.freeOk X.env scope=true) (hc:X.calm=true) (hi:PI X tg iter wi)
  (hg:∀ s₀ H₀ C fp,PG (iz X scope N s₀ H₀ C fp) tg g) (ht:∀ s₀ H₀ C fp,Fl (iz X scope N s₀ H₀ C fp) ifs tt) (he:∀ s₀ H₀ C fp,PE (iz X scope N s₀ H₀ C fp) elt te)
  (hs:∀ x,foldedSetIterable iter X.env x=pure x:=by intro _;rfl):PE X (.ListComp elt [⟨tg,iter,ifs,0⟩] scope pos) (rJ caps wi g tt te):=by
 intro pins s σ H Q I h
 rw [eval_ListComp]
 refine wpAny_comprehension_free (use:=none) rfl hs (iR (I.freeOk hfr)) S.kind (fun x hx hl=>hl ▸ S.names x hx) ?_
 refine cF (hi pins s σ H _ I h) fun v s1 h1=>cF h1 fun itv s2 h2 => ?_
 obtain ⟨it,fp,tn,J,H2,rfl,I2,T,st2,f2,hl⟩:=h2
 refine tD (RR:=fun acc C=>compPost (model X.prog X.w) X.A X.xe none (EP X pins σ Q) acc C) S hcap (I.freeOk hfr) hc hg ht he I2 T st2 f2 hl ?_
 intro D C m xs H3 s4 IT hD hn fC q
 refine ⟨m,hn,fun h' sb=>⟨.ref D,_,?_,rfl,q D hD⟩⟩
 exact IT.turned (t':=s4.toks) (it:=C) (fun b o hb e=>(sb.2 b hb).trans e) fC.1 fC.2.1 fC.2.2.2.1 fC.2.2.2.2.1 fC.2.2.2.2.2
theorem bL {elt tg iter:Expr}{ifs:List Expr}{scope:Scope}{N:List Str}{caps:List (Option Nat)}{pos pos' spos:Pos}{wi:TI}{g:TG}{tt:TT}{te:TE}{i:Nat}{x:Str}
  (hN:X.N.Nodup) (hix:X.N[i]? = some x) (hx:X.env.scope.names.lookup x=some .local)
  (S:cQ scope N) (hcap:gG X.N X.env scope N caps=true) (hfr:L2.freeOk X.env scope=true) (hc:X.calm=true) (hi:PI X tg iter wi)
  (hg:∀ s₀ H₀ C fp,PG (iz X scope N s₀ H₀ C fp) tg g) (ht:∀ s₀ H₀ C fp,Fl (iz X scope N s₀ H₀ C fp) ifs tt) (he:∀ s₀ H₀ C fp,PE (iz X scope N s₀ H₀ C fp) elt te)
  (hsw:swapsWith (.ListComp elt [⟨tg,iter,ifs,0⟩] scope pos) (some (.Name x pos')) spos.line X.env=pure true:=by rfl)
  (hs:∀ x,foldedSetIterable iter X.env x=pure x:=by intro _;rfl):PS X (.Assign [.Name x pos'] (.ListComp elt [⟨tg,iter,ifs,0⟩] scope pos) spos) (uv (rJ caps wi g tt te) (kP i)):=by
 intro pins s σ H D I h
 rw [exec_Assign_Name_used _ _ _ _ hsw]
 refine wpAny_bind (wpAny_standAt (wpAny_bind ?_))
 show wpAny _ X.A (do let _ ← comprehension (.ListComp elt [⟨tg,iter,ifs,0⟩] scope pos) scope X.env _ (newList []) false (eval iter X.env) (some (assign (.Name x pos') X.env))) _ _ s
 refine wpAny_bind (wpAny_mono (wpAny_comprehension_free (use:=some (assign (.Name x pos') X.env)) (Q:=fun _ s'=>SP X pins D .next s') rfl hs (iR (I.freeOk hfr)) S.kind (fun x hx hl=>hl ▸ S.names x hx)
  (cF (hi pins s σ H _ I h) fun v s1 h1=>cF h1 fun itv s2 h2 => ?_)) (fun _ s' hq=>wpAny_pure (wpAny_pure hq)) fun _ _ e=>e)
 obtain ⟨it,fp,tn,J,H2,rfl,I2,T,st2,f2,hl⟩:=h2
 refine tD (RR:=fun acc C=>compPost (model X.prog X.w) X.A X.xe (some (assign (.Name x pos') X.env)) (fun _ s'=>SP X pins D .next s') acc C) S hcap (I.freeOk hfr) hc hg ht he I2 T st2 f2 hl ?_
 intro Dl C m xs H3 s4 IT hD hn fC q
 show wpAny _ X.A (assign (.Name x pos') X.env (.ref Dl)) _ _ _
 obtain ⟨oC,es,ep,hoC,hdC,rC⟩:=id hn
 have IP:Inv X (pins++[(C,oC)]) σ (upd H3 Dl (.lst xs)) s4:=IT.jn fun p hp=>(zbI.mp hp).elim (fun z=>IT.pin p (zat _ z)) fun z=>by
  have e:p=(C,oC):=by simpa using z
  subst e
  exact ⟨hoC,fC.1,fC.2.1,fC.2.2.1,fun v z=>by rw [hdC] at z;cases z⟩
 refine wpAny_assign_Name (mh (v:=.ref Dl) IP hN hix (.inl hx) rfl (fun s5 I5 => ?_) (.inr hx))
 have hC5:=I5.pin (C,oC) (zat _ (zat _ (by simp)))
 refine ⟨m,⟨oC,es,ep,hC5.1,hdC,rC⟩,fun h' sb=>⟨_,_,?_,q Dl hD⟩⟩
 exact I5.gk.turned (t':=s5.toks) (it:=C) (fun b o hb e=>(sb.2 b hb).trans e) fC.1 fC.2.1 fC.2.2.2.1 fC.2.2.2.2.1 fC.2.2.2.2.2
end
theorem nk {lo:Int}{n:Nat}{g:TG}{tt:TT}{te:TE}{τ0:St}{H:Hp}{Qd:List V→Hp→Prop} (Pv:Nat→List V→St→Hp→Prop) (h0:Pv 0 [] τ0 H)
  (hs:∀ i xs τ H,i<n→Pv i xs τ H→g (.int (lo+i)) τ H fun τ2 H2=>tt τ2 H2 fun b H3=>if b=true then te τ2 H3 fun v H4=>xs.length<sizeLine∧Pv (i+1) (xs++[v]) τ2 H4 else Pv (i+1) xs τ2 H3)
  (hd:∀ xs τ H,Pv n xs τ H→Qd xs H):Ad (Js lo n) g tt te τ0 H Qd:=by
 refine ⟨fun i m xs τ H=>m=n - i∧i≤n∧Pv i xs τ H,⟨n,by simp,zcy _,h0⟩,?_⟩
 rintro i m xs τ H ⟨rfl,hi,p⟩
 by_cases hlt:i<n
 ·refine .inr ⟨hlt,Pv (i+1),fun ys τ' H' p'=>⟨n - (i+1),by omega,rfl,hlt,p'⟩,fun x H' y => ?_⟩
  obtain ⟨e,y⟩:=y
  subst e y
  exact hs i xs τ _ hlt p
 ·have e:i=n:=by omega
  subst e
  exact .inl ⟨zcx _,hd xs τ H p⟩
noncomputable def LD (x:Str):It:=⟨fun i _=>i<x.cps.size,fun i H v H'=>H'=H∧∃ c,x.cps[i]? = some c∧v = .str ⟨#[c]⟩,fun i _=>i=x.cps.size⟩
theorem oz {prog:Program}{w:World}{A:Around} (hh:A.handled=none) (I:Addr) (x:Str) (t:Tok):Walks prog w A I [I] [I] x.cps.size (SignAt x) (fun i h=>h.IsStrIter I (strIterType x) x t i):=by
 unfold strIterType
 split
 ·exact Walks.strAscii hh I x t
 ·exact Walks.strWide hh I x t
theorem zX {P:Program}{w:World}{K:PySem.W.Frag}{tg:Expr} (it:Addr) (x:Str) (t:Tok):Turn P w K tg (LD x) [it] it (fun i h=>h.IsStrIter it (strIterType x) x t i) where
 mem:=by simp
 obj:=fun i h st b hb=>by
  have e:b=it:=by simpa using hb
  subst e
  obtain ⟨o,e,c,d⟩:=st
  exact ⟨o,e,fun v z=>by rw [d] at z;cases z⟩
 keep:=fun i h h' st k=>let ⟨o,ho,r⟩:=st;⟨o,k it (by simp) o ho,r⟩
 item:=by
  intro X hP hw hK hc i pins s σ H E I hf st hg
  subst hP hw hK
  obtain ⟨f0,f1,f2,f3,f4,f5⟩:=hf it (by simp)
  have W:=oz (prog:=X.prog) (w:=X.w) (I.ok.hd hc) it x t
  refine W.item i s _ _ hg st fun v h' tk hv st' kk => ?_
  obtain ⟨c,u,hcx,rfl⟩:=hv
  have I1:Inv X pins σ H { s with heap:=h',toks:=tk }:=I.turned (fun b o hb e=>kk b o (by simpa using hb) e) f0 f1 f3 f4 f5
  obtain ⟨o,ho,hcl,hda⟩:=id st'
  refine ⟨_,rfl,xP (s:={ s with heap:=h',toks:=tk }) ho hcl hda (by unfold strIterType;split <;> decide) ⟨.str ⟨#[c]⟩,H,I1,⟨u,rfl⟩,⟨rfl,c,hcx,rfl⟩,st',fun b hb=>(hf b hb).1⟩⟩
 done:=by
  intro X hP hw hK hc i pins s σ H E I hf st hg
  subst hP hw hK
  obtain ⟨f0,f1,f2,f3,f4,f5⟩:=hf it (by simp)
  have W:=oz (prog:=X.prog) (w:=X.w) (I.ok.hd hc) it x t
  have e:i=x.cps.size:=hg
  subst e
  exact W.done s _ _ st fun h' tk kk=>⟨rfl,I.turned (t':=tk) (fun b o hb e=>kk b o (by simpa using hb) e) f0 f1 f3 f4 f5⟩
 self:=fun A i s Q E st h=>by
  have st:s.heap.IsStrIter it (strIterType x) x t i:=st
  unfold strIterType at st
  split at st
  ·exact wpAny_pyIter_striter_ascii st h
  ·exact wpAny_pyIter_striter_wide st h
mutual
noncomputable def bC (K:PySem.W.Frag) (H:Hp):PyData→V→Prop
 | .none,v=>v = .bN
 | .bool b,v=>v = .bl b
 | .int i,v=>v = .int i
 | .str x,v=>v = .str x
 | .list ds,v=>∃ a xs,v = .ref a∧dh K H a xs∧dw K H ds xs
 | .tuple ds,v=>∃ a xs,v = .ref a∧eX K H a xs∧dw K H ds xs
 | .dict _,_=>False
noncomputable def dw (K:PySem.W.Frag) (H:Hp):List PyData→List V→Prop
 | [],xs=>xs=[]
 | d::ds,xs=>∃ x r,xs=x::r∧bC K H d x∧dw K H ds r
end
theorem eX.same {K:PySem.W.Frag}{H H':Hp}{a:Addr}{xs:List V} (e:∀ b o,H b=some o→H' b=some o) (h:eX K H a xs):eX K H' a xs:=by
 rcases h with (h | ⟨o,h⟩) | h
 ·exact .inl (.inl (e _ _ h))
 ·exact .inl (.inr ⟨o,e _ _ h⟩)
 ·exact .inr h
mutual
theorem bC.noDict {K:PySem.W.Frag}{H:Hp}:∀ (d:PyData) (v:V),bC K H d v→d.hasDict=false
 | .none,_,_=>rfl
 | .bool _,_,_=>rfl
 | .int _,_,_=>rfl
 | .str _,_,_=>rfl
 | .list ds,v,h=>by
  simp only [bC] at h
  obtain ⟨a,xs,_,_,h3⟩:=h
  simp only [PyData.hasDict]
  exact dw.noDict ds xs h3
 | .tuple ds,v,h=>by
  simp only [bC] at h
  obtain ⟨a,xs,_,_,h3⟩:=h
  simp only [PyData.hasDict]
  exact dw.noDict ds xs h3
 | .dict _,_,h=>by simp only [bC] at h
theorem dw.noDict {K:PySem.W.Frag}{H:Hp}:∀ (ds:List PyData) (xs:List V),dw K H ds xs→PyData.hasDictAll ds=false
 | [],_,_=>rfl
 | d::ds,xs,h=>by
  simp only [dw] at h
  obtain ⟨x,r,_,h2,h3⟩:=h
  simp only [PyData.hasDictAll,bC.noDict d x h2,dw.noDict ds r h3,Bool.or_false]
end
section
variable {X:Cx}{pins:List (Addr×Obj)}{σ:St}{H:Hp}{s:Shared}
mutual
theorem Inv.reads (I:Inv X pins σ H s):∀ (d:PyData) (v:V) (u:Value),bC X.K H d v→RelV v u→∃ as,Reads s.heap u d as
 | .none,v,u,h,r=>by
  simp only [bC] at h
  subst h
  cases r
  exact ⟨_,.none⟩
 | .bool b,v,u,h,r=>by
  simp only [bC] at h
  subst h
  cases r
  exact ⟨_,.bool b⟩
 | .int i,v,u,h,r=>by
  simp only [bC] at h
  subst h
  obtain ⟨t,rfl⟩:=r
  exact ⟨_,.int i t⟩
 | .str x,v,u,h,r=>by
  simp only [bC] at h
  subst h
  obtain ⟨t,rfl⟩:=r
  exact ⟨_,.str x t⟩
 | .list ds,v,u,h,r=>by
  simp only [bC] at h
  obtain ⟨a,xs,rfl,h2,h3⟩:=h
  cases r
  obtain ⟨its,rv,⟨o,n,e,hc,_,hd⟩,_⟩:=I.list h2
  obtain ⟨as,q⟩:=Inv.readsAll I ds xs its h3 rv
  exact ⟨_,.list e hc hd (by simpa using q)⟩
 | .tuple ds,v,u,h,r=>by
  simp only [bC] at h
  obtain ⟨a,xs,rfl,h2,h3⟩:=h
  cases r
  obtain ⟨its,rv,⟨o,e,hc,n,hd⟩,_⟩:=I.tuple h2
  obtain ⟨as,q⟩:=Inv.readsAll I ds xs its h3 rv
  exact ⟨_,.tuple e hc hd (by simpa using q)⟩
 | .dict _,_,_,h,_=>by simp only [bC] at h
theorem Inv.readsAll (I:Inv X pins σ H s):∀ (ds:List PyData) (xs:List V) (us:List Value),dw X.K H ds xs→Vals xs us→∃ as,ReadsAll s.heap us ds as
 | [],xs,us,h,r=>by
  simp only [dw] at h
  subst h
  cases r
  exact ⟨_,.nil⟩
 | d::ds,xs,us,h,r=>by
  simp only [dw] at h
  obtain ⟨x,rr,rfl,h2,h3⟩:=h
  cases r with
  | cons r1 r2 =>
   obtain ⟨as,q1⟩:=Inv.reads I d x _ h2 r1
   obtain ⟨bs,q2⟩:=Inv.readsAll I ds rr _ h3 r2
   exact ⟨_,.cons q1 q2⟩
end
noncomputable def JY (K:PySem.W.Frag):List V→Hp→VK→Prop:=fun xs H Q=>∃ x d,xs=[x]∧bC K H d x∧d.showable=true∧d.depth≤100∧d.shown.length≤sizeLine∧Q (.str d.shown) H
theorem zj {k:Nat} (hr:bf k X.A):bV X (.builtin "repr") (JY X.K):=by
 intro pins s σ H xs us Q I r h
 obtain ⟨x,d,rfl,hd,hs,hdp,hz,q⟩:=h
 obtain ⟨u,rfl,rx⟩:=vals1 r
 have big:∀ a,u = .ref a→wpAny (model X.prog X.w) X.A (call (.builtin "repr") [u]) (EP X pins σ Q) X.xe s:=fun a e=>by
  subst e
  obtain ⟨as,rd⟩:=I.reads d x _ hd rx
  refine repr_of_reads' rd hs (fun z => ?_) hr.gd (by have:=hr.un;omega) (fun b o e=>e) (fun h' u tk hk => ?_) hz
  ·rw [bC.noDict d x hd] at z;cases z
  ·exact ⟨.str d.shown,H,I.kept (t':=tk) hk,⟨_,rfl⟩,q⟩
 cases d with
 | none=>simp only [bC] at hd;subst hd;cases rx;exact PySem.P.repr_of_none ⟨.str _,H,I.tok _,⟨_,rfl⟩,q⟩
 | bool b=>simp only [bC] at hd;subst hd;cases rx;exact PySem.P.repr_of_bool ⟨.str _,H,I.tok _,⟨_,rfl⟩,by simpa only [PyData.shown] using q⟩
 | int i =>
  simp only [bC] at hd
  subst hd
  obtain ⟨t,rfl⟩:=rx
  exact PySem.P.repr_of_int (by simpa [PyData.showable] using hs) ⟨.str _,H,I.tok _,⟨_,rfl⟩,by simpa only [PyData.shown] using q⟩
 | str y =>
  simp only [bC] at hd
  subst hd
  obtain ⟨t,rfl⟩:=rx
  exact PySem.P.repr_of_str ⟨.str _,H,I.tok _,⟨_,rfl⟩,by simpa only [PyData.shown] using q⟩ (by simpa only [PyData.shown] using hz)
 | list ds =>
  simp only [bC] at hd
  obtain ⟨a,xs,rfl,_⟩:=hd
  exact big a rx
 | tuple ds =>
  simp only [bC] at hd
  obtain ⟨a,xs,rfl,_⟩:=hd
  exact big a rx
 | dict _=>simp only [bC] at hd
theorem uS:gh X (binaryOp .Mult) (fun x y H Q=>∃ i n,x = .str i∧y = .int n∧MulOk i n∧Q (.str (Txt.mul i n)) H):=by
 intro pins s σ H x y v u Q I rx ry h
 obtain ⟨i,n,rfl,rfl,hk,q⟩:=h
 obtain ⟨t,rfl⟩:=rx
 obtain ⟨t',rfl⟩:=ry
 exact SB.mul hk fun t' k=>⟨.str _,H,I.tok _,⟨_,rfl⟩,q⟩
theorem pY:zU X (fun x lo hi H Q=>∃ y,x = .str y∧y.length≤sizeLine∧Q (.str (Txt.slice y lo hi)) H):=by
 intro pins s σ H x v vl vu lo hi sl Q I rx hs pl pu h
 obtain ⟨y,rfl,hz,q⟩:=h
 obtain ⟨t,rfl⟩:=rx
 have fin:∀ (l u:Option (Int×Tok)),vl=partValue l→vu=partValue u→lo=l.map (·.1)→hi=u.map (·.1)→wpAny (model X.prog X.w) X.A (getItem (.str y t) (.ref sl)) (EP X pins σ Q) X.xe s:=fun l u e1 e2 e3 e4=>by
  obtain ⟨o,ho,hc,hd⟩:=hs
  refine wpAny_getItem_str_slice (l:=l) (u:=u) (st:=none) ⟨o,ho,hc,by rw [hd,e1,e2];rfl⟩ rfl ?_
  subst e3 e4
  exact post_val_or_str ⟨zcm (Txt.slice_le y _ _) hz,fun t' k=>⟨.str _,H,I.tok _,⟨_,rfl⟩,q⟩⟩
 refine ⟨"str",_,PySem.F.slot_str_getitem.lookup,typeIs_str _ _ _,?_⟩
 cases pl with
 | none =>
  cases pu with
  | none=>exact fin none none rfl rfl rfl rfl
  | int j tj=>exact fin none (some (j,tj)) rfl rfl rfl rfl
 | int i ti =>
  cases pu with
  | none=>exact fin (some (i,ti)) none rfl rfl rfl rfl
  | int j tj=>exact fin (some (i,ti)) (some (j,tj)) rfl rfl rfl rfl
theorem lF:∀ {ys:List Str}{its:List Value},Vals (ys.map V.str) its→StrsAre its ys
 | [],_,.nil=>.nil
 | y::ys,_,.cons r t=>by
  obtain ⟨tk,e⟩:=(show ∃ t,_=Value.str y t from r)
  subst e
  exact .cons y tk (lF t)
theorem Eg:Fv X "str.join" (fun x vs H Q=>∃ (y:Str) (a:Addr) (ys:List Str),x = .str y∧vs=[.ref a]∧dh X.K H a (ys.map V.str)∧(ys.map (·.length)).sum+ys.length*y.length≤16777216∧Q (.str (Txt.join y ys)) H):=by
 intro pins s σ H x vs v us Q I rx rv h
 obtain ⟨y,a,ys,rfl,rfl,ha,hz,q⟩:=h
 obtain ⟨t,rfl⟩:=rx
 obtain ⟨u,rfl,ru⟩:=vals1 rv
 cases ru
 obtain ⟨its,r,pl,_⟩:=I.list ha
 exact join_list pl.isList (by simpa using lF r) hz fun t' k=>⟨.str _,H,I.tok _,⟨_,rfl⟩,q⟩
end
noncomputable def notStar:Expr→Bool
 | .Starred _ _=>false
 | _=>true
theorem dG {e:Expr} (es:List Expr) (env:Env) (h:notStar e=true):starEach (e::es) env=(false,eval e env)::starEach es env:=by
 cases e <;> first | rfl | cases h
theorem fG {pos:Pos}{env:Env}:∀ (es:List Expr),es.all notStar=true→(backTo pos (starEach es env)).any (·.1)=false
 | [],_=>rfl
 | e::es,h=>by
  rw [zcd,zbE] at h
  rw [dG es env h.1]
  show (false||(backTo pos (starEach es env)).any (·.1))=false
  rw [fG es h.2];rfl
theorem rM {pos:Pos}{env:Env}:∀ (es:List Expr),es.all notStar=true→(backTo pos (starEach es env)).all (fun x => !x.1)=true
 | [],_=>rfl
 | e::es,h=>by
  rw [zcd,zbE] at h
  rw [dG es env h.1]
  show (true&&(backTo pos (starEach es env)).all (fun x => !x.1))=true
  rw [rM es h.2];rfl
section
variable {X:Cx}{e:Expr}{es:List Expr}{te:TE}{t:TA}{x:Str}{p pos:Pos}{id T:String}{r:List V→Hp→VK→Prop}
theorem ao (ha:PE X e te) (hr:PA X es t) (hs:notStar e=true:=by rfl):PA X (e::es) (vY te t):=D8 ha hr (dG es X.env hs)
theorem fW (hc:bV X (.builtin id) r) (hg:Gl X x) (hm:X.mg x=none) (hv:bootBuiltins x=some (.builtin id)) (ha:PA X (e::es) t) (hn:x ≠ "__name__" := by decide +kernel) (hdb:(x==("__debug__" : Str))=false:=by decide +kernel)
  (hs:(e::es).all notStar=true:=by rfl):PE X (.Call (.Name x p) (e::es) [] pos) (Jw r t):=by
 have h2:=hs
 rw [zcd,zbE] at h2
 exact Ba hc hg hm hv ha hn hdb (dG es X.env h2.1) (fG es h2.2)
theorem Bb (hc:bV X (.type T) r) (hg:Gl X x) (hm:X.mg x=none) (hv:bootBuiltins x=some (.type T)) (ha:PA X (e::es) t) (hn:x ≠ "__name__" := by decide +kernel) (hdb:(x==("__debug__" : Str))=false:=by decide +kernel)
  (hs:(e::es).all notStar=true:=by rfl):PE X (.Call (.Name x p) (e::es) [] pos) (Jw r t):=by
 have h2:=hs
 rw [zcd,zbE] at h2
 exact yF hc hg hm hv ha hn hdb (dG es X.env h2.1) (fG es h2.2)
end
structure Src (K:PySem.W.Frag) (mg:Str→Option Value) (x:Str) (ps:List Str) (st:Stmt):Prop where
 ex:∃ f fd,Dk K x x st f fd∧mg x=some (.ref f)∧Binds K fd ps []
structure Def (P:Program) (w:World) (K:PySem.W.Frag) (mg:Str→Option Value) (base:Heap) (k:Nat) (x:Str) (ps:List Str) (sp:Sp):Prop where
 ex:∃ f fd,d8 P w K mg base kY k f fd ps sp∧mg x=some (.ref f)∧zbY K (.ref f)=true∧Binds K fd ps []
section
variable {P:Program}{w:World}{K:PySem.W.Frag}{mg:Str→Option Value}{base:Heap}
theorem Src.def {x:Str}{st:Stmt}{N ps:List Str}{k:Nat}{sp:Sp} (F:Src K mg x ps st) (S:aG N ps (ai st)) (len:∀ vs H Q E,sp vs H Q E→vs.length=ps.length)
  (hbody:∀ (f:Addr) (cdv:Value) (A:Around) (outer:List Env) (s:Shared) (H:Hp) (vs:List V) (Q:VK) (E:XK),bf k (A.deeper (envOfC x (ai st) s.heap.objs.size f cdv))→sp vs H Q E →
   ∃ t,tT (jM kY P w K mg base N x (ai st) f cdv A outer s H E).Df (bE st) t∧t { nx:=fun _ H'=>Q .bN H',rt:=Q } (start N vs) H):Def P w K mg base (k+1) x ps sp:=by
 obtain ⟨f,fd,F,hm,hb⟩:=F.ex
 exact ⟨f,fd,F.ok S len (hbody f),hm,F.kp,hb⟩
end
theorem Def.imp {P:Program}{w:World}{K:PySem.W.Frag}{mg:Str→Option Value}{base:Heap}{k:Nat}{x:Str}{ps:List Str}{sp sp':Sp} (D:Def P w K mg base k x ps sp) (h:∀ vs H Q E,sp' vs H Q E→sp vs H Q E):Def P w K mg base k x ps sp':=by
 obtain ⟨f,fd,F,hm,hk,hb⟩:=D.ex
 exact ⟨f,fd,F.imp h,hm,hk,hb⟩
section
variable {X:Cx}{e:Expr}{es:List Expr}{t:TA}{x:Str}{p pos:Pos}{k:Nat}{ps:List Str}{sp:Sp}
theorem aH (D:Def X.prog X.w X.K X.mg X.base k x ps sp) (hr:bf k X.A) (hg:Gl X x) (hx:Passes kY X E0) (ha:PA X (e::es) t) (hdb:(x==("__debug__" : Str))=false:=by decide +kernel) (hs:(e::es).all notStar=true:=by rfl) :
  PE X (.Call (.Name x p) (e::es) [] pos) (vZ sp [] E0 t):=by
 obtain ⟨f,fd,F,hm,hk,hb⟩:=D.ex
 have h2:=hs
 rw [zcd,zbE] at h2
 exact D7 F hr hg hm hk hb .nil hx ha hdb (dG es X.env h2.1) (fG es h2.2)
end
noncomputable def KU (scope:Scope) (N:List Str):Bool :=
 (match scope.kind with | .function=>true | _=>false)&&decide N.Nodup&&scope.names.all fun y=>y.2 != .cell&&scope.names.lookup y.1==some y.2
theorem eK {scope:Scope}{N:List Str} (h:KU scope N=true):cQ scope N:=by
 unfold KU at h
 rw [zbE,zbE] at h
 obtain ⟨⟨h1,h2⟩,h3⟩:=h
 have h3:=zbz.mp h3
 refine ⟨?_,of_decide_eq_true h2,fun y hy => ?_,fun y hy => ?_⟩
 ·cases e:scope.kind <;> rw [e] at h1 <;> first | rfl | cases h1
 ·have:=h3 y hy
  rw [zbE] at this
  simpa using this.1
 ·have:=h3 y hy
  rw [zbE] at this
  simpa using this.2
section
variable {X:Cx}{K:PySem.W.Frag}
noncomputable def L4 (K:PySem.W.Frag):List V→Hp→VK→Prop:=fun xs H Q=>∃ x n,xs=[x]∧Jr K x H n∧Q (.int n) H
theorem Cc (hK:X.K=K:=by rfl):bV X (.builtin "len") (L4 K):=by subst hK;exact tP
theorem LP (hK:X.K=K:=by rfl):zU X (AY K):=by subst hK;exact wH
theorem MT (hK:X.K=K:=by rfl):zV X (Ho K):=by subst hK;exact xJ
noncomputable def rJoin (K:PySem.W.Frag):V→List V→Hp→VK→Prop:=fun x vs H Q=>∃ (y:Str) (a:Addr) (ys:List Str),x = .str y∧vs=[.ref a]∧dh K H a (ys.map V.str)∧(ys.map (·.length)).sum+ys.length*y.length≤16777216∧Q (.str (Txt.join y ys)) H
theorem HV (hK:X.K=K:=by rfl):Fv X "str.join" (rJoin K):=by subst hK;exact Eg
variable {o e:Expr}{es:List Expr}{to:TE}{t:TA}{name:Str}{apos cpos:Pos}{T id:String}{r:V→List V→Hp→VK→Prop}
theorem m8 (pa:PlainAttrs T) (slot:Slot T name id) (hty:typeOf (.builtin id)=pure (.type "method_descriptor")) (hm:Fv X id r) (ho:PE X o to) (ha:PA X (e::es) t)
  (hbase:attributeBase o name X.env (eval o X.env)=eval o X.env:=by rfl) (hs:(e::es).all notStar=true:=by rfl) (hfew:decide ((e::es).length+0+0<30)=true:=by rfl)
  (hline:(apos.endLine==cpos.line)=true:=by rfl) (hK:X.K=K:=by rfl):PE X (.Call (.Attribute o name apos) (e::es) [] cpos) (Ll K T r to t):=by
 subst hK
 have h2:=hs
 rw [zcd,zbE] at h2
 refine kK pa slot hty hm ho ha hbase ?_ hline (dG es X.env h2.1) (fG es h2.2)
 rw [rM _ hs]
 show (true&&true&&decide ((e::es).length+0+0<30))=true
 rw [hfew];rfl
end
noncomputable def Ge (x:Str):Prop:=∀ c∈x.cps.toList,c<128
mutual
noncomputable def wt:PyData→Nat
 | .none | .bool _ | .dict _=>5
 | .int i=>(PyData.shown (.int i)).length
 | .str x=>10*x.length+2
 | .list ds | .tuple ds=>gi ds+3
noncomputable def gi:List PyData→Nat
 | []=>0
 | d::ds=>wt d+2+gi ds
end
mutual
noncomputable def oj:PyData→Prop
 | .none | .bool _=>True
 | .int i=>i.natAbs.log2<1920
 | .str x=>∀ c∈x.cps.toList,c<16 ^ 8
 | .list ds | .tuple ds=>cN ds
 | .dict _=>False
noncomputable def cN:List PyData→Prop
 | []=>True
 | d::ds=>oj d∧cN ds
end
theorem sH (ts:List Str):(listText ts).length≤piled ts+3:=by
 cases ts with
 | nil=>decide +kernel
 | cons t r =>
  have h:=textFrom_length_pos r 1 (("[" : Str)++(if (0:Nat) > 0 then ", " else "" : String)++t) (Nat.succ_pos 0)
  have e:((("[" : Str)++(if (0:Nat) > 0 then ", " else "" : String)++t)).length=1+t.length:=by
   rw [strLen_append,strLen_append];rfl
  have hX:(listText (t::r)).length=(textFrom 0 "[" (t::r)).length+1:=by
   show (textFrom 0 "[" (t::r) ++ "]").length=_
   rw [strLen_append];rfl
  have hY:(textFrom 0 "[" (t::r)).length=(textFrom 1 (("[" : Str)++(if (0:Nat) > 0 then ", " else "" : String)++t) r).length:=rfl
  rw [hX,hY,h,e,piled_cons];omega
theorem pN (ts:List Str):(tupleText ts).length≤piled ts+3:=by
 unfold tupleText
 rw [strLen_append,strLen_append]
 have h1:("(" : Str).length=1:=rfl
 have h2:((if (ts.length==1)=true then ",)" else ")" : String):Str).length≤2:=by split <;> decide +kernel
 by_cases hn:ts=[]
 ·subst hn
  have h3:(Str.join ", " []).length=0:=rfl
  omega
 ·have:=join_length_add ts hn
  omega
mutual
theorem shown_le:∀ d:PyData,oj d→d.shown.length≤wt d
 | .none,_=>by simp only [PyData.shown,wt];decide +kernel
 | .bool b,_=>by cases b <;> (simp only [PyData.shown,wt];decide +kernel)
 | .int i,_=>by simp only [wt];exact zcx _
 | .str x,h=>by
  simp only [oj] at h
  simp only [PyData.shown,wt]
  exact StrLaws.reprText_len x h
 | .list ds,h=>by
  simp only [oj] at h
  simp only [PyData.shown,wt]
  have h1:=shownAll_le ds h
  have h2:=sH (PyData.shownAll ds)
  omega
 | .tuple ds,h=>by
  simp only [oj] at h
  simp only [PyData.shown,wt]
  have h1:=shownAll_le ds h
  have h2:=pN (PyData.shownAll ds)
  omega
 | .dict _,h=>by simp only [oj] at h
theorem shownAll_le:∀ ds:List PyData,cN ds→piled (PyData.shownAll ds)≤gi ds
 | [],_=>by simp only [PyData.shownAll,gi];exact zcx _
 | d::ds,h=>by
  simp only [cN] at h
  simp only [PyData.shownAll,gi]
  rw [piled_cons]
  have h1:=shown_le d h.1
  have h2:=shownAll_le ds h.2
  omega
end
mutual
theorem oj.show:∀ d:PyData,oj d→d.showable=true
 | .none,_=>rfl
 | .bool b,_=>rfl
 | .int i,h=>by simp only [oj] at h;simp only [PyData.showable];exact decide_eq_true h
 | .str x,h=>rfl
 | .list ds,h=>by simp only [oj] at h;simp only [PyData.showable];exact cN.show ds h
 | .tuple ds,h=>by simp only [oj] at h;simp only [PyData.showable];exact cN.show ds h
 | .dict _,h=>by simp only [oj] at h
theorem cN.show:∀ ds:List PyData,cN ds→PyData.showableAll ds=true
 | [],_=>rfl
 | d::ds,h=>by
  simp only [cN] at h
  simp only [PyData.showableAll,oj.show d h.1,cN.show ds h.2,Bool.and_self]
end
theorem Kv {i:Nat}{v:V}{τ:St}{H:Hp}{A B:St→Hp→Prop} (h:A (τ.set i (some v)) H):kP i v τ H fun τ2 H2=>Dw τ2 H2 fun b H3=>if b=true then A τ2 H3 else B τ2 H3:=by
 show if true=true then A (τ.set i (some v)) H else B (τ.set i (some v)) H
 rw [if_pos rfl];exact h
theorem Ge.ok {x:Str} (h:Ge x):∀ c∈x.cps.toList,c<16 ^ 8:=fun c hc=>Nat.lt_trans (h c hc) (by decide)
noncomputable def Mx (x:Str):Bool:=x.cps.toList.all fun c=>decide (c<128)
theorem Ci {x:Str} (h:Mx x=true):Ge x:=fun c hc=>of_decide_eq_true (zbz.mp h c hc)
end L2
set_option maxHeartbeats 400000
namespace PySem.W
open PySem PySem.Calls PyProof.Rows Builtin Builtin.ObjectAttr
noncomputable abbrev KD (C:Addr) (od:Option Addr) (vs:Array Value):Obj:={ cls:=.ref C,dict:=od,data:=.fields vs }
end PySem.W
set_option maxHeartbeats 1000000
namespace L2
open PySem PySem.Spec PyProof.Rows
theorem DG {t u:TS}{D:Ends}{σ:St}{H:Hp} (h:∀ N:St→Hp→Prop,(∀ σ' H',u D σ' H'→N σ' H')→t { D with nx:=N } σ H):Dy t u D σ H:=h (u D) fun _ _ z=>z
end L2
set_option maxHeartbeats 4000000
namespace J
open PySem PySem.Spec PyProof.Rows L2
structure QE (X:Cx) (e:Expr) (t:TE):Prop where
 p:PE X e t
structure QT (X:Cx) (e:Expr) (t:TT):Prop where
 p:PT X e t
structure QA (X:Cx) (e:List Expr) (t:TA):Prop where
 p:PA X e t
structure QS (X:Cx) (e:Stmt) (t:TS):Prop where
 p:PS X e t
structure Gb (X:Cx) (e:List Stmt) (t:TS):Prop where
 p:tT X e t
structure QG (X:Cx) (e:Expr) (t:TG):Prop where
 p:PG X e t
structure QI (X:Cx) (g e:Expr) (t:TI):Prop where
 p:PI X g e t
structure MG (X:Cx) (e:List Expr) (t:TT):Prop where
 p:Fl X e t
structure QO (X:Cx) (e:Option Expr) (t:TO):Prop where
 p:PO X e t
structure LB (X:Cx) (pos:Pos) (keys:List (Option Expr)) (values:List Expr) (pO:List (TE×TE)):Prop where
 p:K9 X pos keys values pO
theorem aQ {X:Cx}:Gb X [] Ab:=⟨L2.aQ ⟩
theorem af {X:Cx}{st:Stmt}{rest:List Stmt}{t:TS}{u:TS} (h1:QS X st t) (h2:Gb X rest u):Gb X (st::rest) (Dy t u):=⟨L2.af h1.p h2.p⟩
theorem aj {X:Cx}{st:Stmt}{t:TS} (h1:QS X st t):Gb X [st] t:=⟨L2.aj h1.p⟩
theorem aV {X:Cx}{e:Expr}{te:TE}{pos:Pos} (he:QE X e te):QS X (.Return (some e) pos) (z9 te):=⟨L2.aV he.p⟩
theorem aE {X:Cx}{e:Expr}{te:TE}{pos:Pos} (he:QE X e te) (hs:swapsWith e none pos.line X.env=pure false:=by rfl):QS X (.Expr e pos) (Ae te):=⟨L2.aE he.p hs⟩
theorem bG {X:Cx}{t:TS}{u:TS}{pos:Pos}{c:Expr}{a b:List Stmt}{tc:TT} (hc:QT X c tc) (ha:Gb X a t) (hb:Gb X b u):QS X (.If c a b pos) (Gp tc t u):=⟨L2.bG hc.p ha.p hb.p⟩
theorem bL {X:Cx}{elt tg iter:Expr}{ifs:List Expr}{scope:Scope}{N:List Str}{caps:List (Option Nat)}{pos pos' spos:Pos}{wi:TI}{g:TG}{tt:TT}{te:TE}{i:Nat}{x:Str}
  (hN:X.N.Nodup) (hix:X.N[i]? = some x) (hx:X.env.scope.names.lookup x=some .local)
  (S:cQ scope N) (hcap:gG X.N X.env scope N caps=true) (hfr:L2.freeOk X.env scope=true) (hc:X.calm=true) (hi:QI X tg iter wi)
  (hg:∀ s₀ H₀ C fp,QG (iz X scope N s₀ H₀ C fp) tg g) (ht:∀ s₀ H₀ C fp,MG (iz X scope N s₀ H₀ C fp) ifs tt) (he:∀ s₀ H₀ C fp,QE (iz X scope N s₀ H₀ C fp) elt te)
  (hsw:swapsWith (.ListComp elt [⟨tg,iter,ifs,0⟩] scope pos) (some (.Name x pos')) spos.line X.env=pure true:=by rfl)
  (hs:∀ x,foldedSetIterable iter X.env x=pure x:=by intro _;rfl):QS X (.Assign [.Name x pos'] (.ListComp elt [⟨tg,iter,ifs,0⟩] scope pos) spos) (uv (rJ caps wi g tt te) (kP i)):=⟨L2.bL hN hix hx S hcap hfr hc hi.p (fun s₀ H₀ C fp=>(hg s₀ H₀ C fp).p) (fun s₀ H₀ C fp=>(ht s₀ H₀ C fp).p) (fun s₀ H₀ C fp=>(he s₀ H₀ C fp).p) hsw hs⟩
theorem aD {X:Cx}{pos:Pos}{i:Nat}{x:Str}{e:Expr}{te:TE}{pos':Pos} (hN:X.N.Nodup) (hi:X.N[i]? = some x) (hx:Loc X.env.scope x) (he:QE X e te) (hs:swapsWith e (some (.Name x pos')) pos.line X.env=pure false:=by rfl) (hf:X.fn x=true∨X.env.scope.names.lookup x=some .local:=by first | exact .inl rfl | exact .inr rfl | assumption) :
  QS X (.Assign [.Name x pos'] e pos) (uv te (kP i)):=⟨L2.aD hN hi hx he.p hs hf⟩
theorem jm {X:Cx}{o:Expr}{i:Expr}{value:Expr}{pos:Pos}{pos':Pos}{td:TE}{ty:TE}{tv:TE} (hu:X.A.units+1<cLine) (ho:QE X o td) (hi:QE X i ty) (hv:QE X value tv) (hs:swapsWith value (some (.Subscript o i pos')) pos.line X.env=pure false) :
  QS X (.Assign [.Subscript o i pos'] value pos) (AJ td ty tv):=⟨L2.jm hu ho.p hi.p hv.p hs⟩
theorem cV {X:Cx}{tg:Expr}{iter:Expr}{body:List Stmt}{wi:TI}{g:TG}{tb:TS}{pos:Pos} (hp:PassesOwn (model X.prog X.w) X.A X.env X.xe) (hc:X.calm=true) (hi:QI X tg iter wi) (hg:QG X tg g) (hb:Gb X body tb)
  (hs:∀ x,foldedSetIterable iter X.env x=pure x:=by intro _;rfl):QS X (.For tg iter body [] pos) (Gq wi g tb):=⟨L2.cV hp hc hi.p hg.p hb.p hs⟩
theorem aq {X:Cx}{pos:Pos}{i:Nat}{x:Str} (hN:X.N.Nodup) (hi:X.N[i]? = some x) (hx:Loc X.env.scope x) (hf:X.fn x=true∨X.env.scope.names.lookup x=some .local:=by first | exact .inl rfl | exact .inr rfl | assumption):QG X (.Name x pos) (kP i):=⟨L2.aq hN hi hx hf⟩
theorem bK {X:Cx}{tg:Expr}{a:Expr}{ta:TA}{p pos:Pos} (hg:Gl X "range") (hm:X.mg "range" = none) (ha:QA X [a] ta) (hs:starEach [a] X.env=[(false,eval a X.env)]:=by rfl):QI X tg (.Call (.Name "range" p) [a] [] pos) (BE ta):=⟨L2.bK hg hm ha.p hs⟩
theorem aa {X:Cx}:QA X [] Aa:=⟨L2.aa ⟩
theorem ao {X:Cx}{e:Expr}{es:List Expr}{te:TE}{t:TA} (ha:QE X e te) (hr:QA X es t) (hs:notStar e=true:=by rfl):QA X (e::es) (vY te t):=⟨L2.ao ha.p hr.p hs⟩
theorem ah {X:Cx}{i j pos}:QE X (.Constant (.int i) j pos) (tC (.int i)):=⟨L2.ah ⟩
theorem aL {X:Cx}{x j pos}:QE X (.Constant (.str x) j pos) (tC (.str x)):=⟨L2.aL ⟩
theorem pv {X:Cx} (i:Nat) {x:Str}{pos:Pos} (hN:X.N[i]? = some x:=by rfl) (hv:K6 X.env.scope x:=by first | exact Or.inl rfl | exact Or.inr (Or.inl rfl) | exact Or.inr (Or.inr rfl)) (hd:(x==("__debug__" : Str))=false:=by decide)
  (hcd:(x==("__classdict__" : Str))=false:=by decide):QE X (.Name x pos) (l7 i):=⟨L2.pv i hN hv hd hcd⟩
theorem aO {X:Cx}{a:Expr}{b:Expr}{ta:TE}{tb:TE}{pos:Pos}{op:Operator}{r:R2} (ho:gh X (binaryOp op) r) (ha:QE X a ta) (hb:QE X b tb):QE X (.BinOp a op b pos) (vX r ta tb):=⟨L2.aO ho ha.p hb.p⟩
theorem cy {X:Cx}{es:List Expr}{t:TA}{pos:Pos} (h:QA X es t):QE X (.List es pos) (Gn t):=⟨L2.cy h.p⟩
theorem qv  {X:Cx}{pos:Pos}{keys:List (Option Expr)}{values:List Expr}{pO:List (TE×TE)} (h:LB X pos keys values pO) (hall:keys.all (·.isSome)=true) (hl:keys.length=values.length) (h0:keys≠[])
  (h15:keys.length≤15):QE X (.Dict keys values pos) (FA pO):=⟨L2.qv h.p hall hl h0 h15⟩
theorem qq  {X:Cx}{pos:Pos}:LB X pos [] [] []:=⟨L2.qq ⟩
theorem gx  {X:Cx}{pos:Pos}{k v:Expr}{ks:List (Option Expr)}{vs:List Expr}{tk tv:TE}{pO:List (TE×TE)} (hk:QE X k tk) (hv:QE X v tv) (hr:LB X pos ks vs pO) :
  LB X pos (some k::ks) (v::vs) ((tk,tv)::pO):=⟨L2.gx hk.p hv.p hr.p⟩
theorem b7 {X:Cx}{e:Expr}{te:TE}{lo:Option Expr}{hi:Option Expr}{tl:TO}{th:TO}{pos:Pos}{p2:Pos}{r:V→Option Int→Option Int→Hp→VK→Prop} (hr:zU X r) (he:QE X e te) (hl:QO X lo tl) (hu:QO X hi th):QE X (.Subscript e (.Slice lo hi none p2) pos) (Jv r te tl th):=⟨L2.b7 hr he.p hl.p hu.p⟩
theorem c5 {X:Cx}:QO X none gW:=⟨L2.c5 ⟩
theorem cI {X:Cx}{e:Expr}{te:TE} (h:QE X e te):QO X (some e) (oA te):=⟨L2.cI h.p⟩
theorem c6 {X:Cx}{o:Expr}{i:Expr}{pos:Pos}{td:TE}{ty:TE} (hu:X.A.units+1<cLine) (ho:QE X o td) (hi:QE X i ty) (hs:Ft i):QE X (.Subscript o i pos) (Ai td ty):=⟨L2.c6 hu ho.p hi.p hs⟩
theorem az {X:Cx}{a:Expr}{b:Expr}{ta:TE}{tb:TE}{pos:Pos}{r:R2} (hr:zV X r) (ha:QE X a ta) (hb:QE X b tb) (hs:rj b):QE X (.Subscript a b pos) (vX r ta tb):=⟨L2.az hr ha.p hb.p hs⟩
theorem cT {X:Cx}{elt tg iter:Expr}{ifs:List Expr}{scope:Scope}{N:List Str}{caps:List (Option Nat)}{pos:Pos}{wi:TI}{g:TG}{tt:TT}{te:TE}
  (S:cQ scope N) (hcap:gG X.N X.env scope N caps=true) (hfr:L2.freeOk X.env scope=true) (hc:X.calm=true) (hi:QI X tg iter wi)
  (hg:∀ s₀ H₀ C fp,QG (iz X scope N s₀ H₀ C fp) tg g) (ht:∀ s₀ H₀ C fp,MG (iz X scope N s₀ H₀ C fp) ifs tt) (he:∀ s₀ H₀ C fp,QE (iz X scope N s₀ H₀ C fp) elt te)
  (hs:∀ x,foldedSetIterable iter X.env x=pure x:=by intro _;rfl):QE X (.ListComp elt [⟨tg,iter,ifs,0⟩] scope pos) (rJ caps wi g tt te):=⟨L2.cT S hcap hfr hc hi.p (fun s₀ H₀ C fp=>(hg s₀ H₀ C fp).p) (fun s₀ H₀ C fp=>(ht s₀ H₀ C fp).p) (fun s₀ H₀ C fp=>(he s₀ H₀ C fp).p) hs⟩
theorem fW {X:Cx}{e:Expr}{es:List Expr}{t:TA}{x:Str}{p:Pos}{pos:Pos}{id:String}{r:List V→Hp→VK→Prop} (hc:bV X (.builtin id) r) (hg:Gl X x) (hm:X.mg x=none) (hv:bootBuiltins x=some (.builtin id)) (ha:QA X (e::es) t) (hn:x ≠ "__name__" := by decide +kernel) (hdb:(x==("__debug__" : Str))=false:=by decide +kernel)
  (hs:(e::es).all notStar=true:=by rfl):QE X (.Call (.Name x p) (e::es) [] pos) (Jw r t):=⟨L2.fW hc hg hm hv ha.p hn hdb hs⟩
theorem aH {X:Cx}{e:Expr}{es:List Expr}{t:TA}{x:Str}{p:Pos}{pos:Pos}{k:Nat}{ps:List Str}{sp:Sp} (D:Def X.prog X.w X.K X.mg X.base k x ps sp) (hr:bf k X.A) (hg:Gl X x) (hx:Passes kY X E0) (ha:QA X (e::es) t) (hdb:(x==("__debug__" : Str))=false:=by decide +kernel) (hs:(e::es).all notStar=true:=by rfl) :
  QE X (.Call (.Name x p) (e::es) [] pos) (vZ sp [] E0 t):=⟨L2.aH D hr hg hx ha.p hdb hs⟩
theorem m8 {X:Cx}{K:PySem.W.Frag}{o:Expr}{e:Expr}{es:List Expr}{to:TE}{t:TA}{name:Str}{apos:Pos}{cpos:Pos}{T:String}{id:String}{r:V→List V→Hp→VK→Prop} (pa:PlainAttrs T) (slot:Slot T name id) (hty:typeOf (.builtin id)=pure (.type "method_descriptor")) (hm:Fv X id r) (ho:QE X o to) (ha:QA X (e::es) t)
  (hbase:attributeBase o name X.env (eval o X.env)=eval o X.env:=by rfl) (hs:(e::es).all notStar=true:=by rfl) (hfew:decide ((e::es).length+0+0<30)=true:=by rfl)
  (hline:(apos.endLine==cpos.line)=true:=by rfl) (hK:X.K=K:=by rfl):QE X (.Call (.Attribute o name apos) (e::es) [] cpos) (Ll K T r to t):=⟨L2.m8 pa slot hty hm ho.p ha.p hbase hs hfew hline hK⟩
theorem cH  {X:Cx}:MG X [] Dw:=⟨L2.cH ⟩
theorem aA {X:Cx}{a:Expr}{b:Expr}{ta:TE}{tb:TE}{pos:Pos}{op:CmpOp}{r:R2} (ho:gh X (compareOp op) r) (ha:QE X a ta) (hb:QE X b tb) (hm:behindInMarks op b=false):QT X (.Compare a [op] [b] pos) (Fy (vX r ta tb)):=⟨L2.aA ho ha.p hb.p hm⟩
section
variable {P:Program}{w:World}{K:PySem.W.Frag}{mg:Str→Option Value}{base:Heap}
theorem EF {x:Str}{st:Stmt}{N ps:List Str}{k:Nat}{sp:Sp} (F:Src K mg x ps st) (S:aG N ps (ai st)) (len:∀ vs H Q E,sp vs H Q E→vs.length=ps.length)
  (hbody:∀ (f:Addr) (cdv:Value) (A:Around) (outer:List Env) (s:Shared) (H:Hp) (vs:List V) (Q:VK) (E:XK),bf k (A.deeper (envOfC x (ai st) s.heap.objs.size f cdv))→sp vs H Q E →
   ∃ t,Gb (jM kY P w K mg base N x (ai st) f cdv A outer s H E).Df (bE st) t∧t { nx:=fun _ H'=>Q .bN H',rt:=Q } (start N vs) H):Def P w K mg base (k+1) x ps sp :=
 F.def S len fun f cdv A outer s H vs Q E hr h=>by
  obtain ⟨t,a,b⟩:=hbody f cdv A outer s H vs Q E hr h
  exact ⟨t,a.p,b⟩
theorem Cd {p:List Value→Prop} (h:∀ a,p [a]) (us:List Value) (e:us.length=1):p us:=by
 cases us with
 | nil=>cases e
 | cons a r =>
  have e:r=[]:=zaa (Nat.succ.inj e)
  subst e;exact h a
theorem Dj {p:List Value→Prop} (h:∀ a b,p [a,b]) (us:List Value) (e:us.length=2):p us:=by
 cases us with
 | nil=>cases e
 | cons a r=>exact Cd (p:=fun r=>p (a::r)) (h a) r (Nat.succ.inj e)
theorem Jx {p:List Value→Prop} (h:∀ a b c,p [a,b,c]) (us:List Value) (e:us.length=3):p us:=by
 cases us with
 | nil=>cases e
 | cons a r=>exact Dj (p:=fun r=>p (a::r)) (h a) r (Nat.succ.inj e)
theorem by4 {p:List Value→Prop} (h:∀ a b c d,p [a,b,c,d]) (us:List Value) (e:us.length=4):p us:=by
 cases us with
 | nil=>cases e
 | cons a r=>exact Jx (p:=fun r=>p (a::r)) (h a) r (Nat.succ.inj e)
theorem Gv {x:Str}{st:Stmt}{f:Addr}{oc:Value}{od an:Option Addr}{osl:Array (Option Value)}{kV doc pm cdv ct:Value}{h:Heap}{ps:List Str} (X:K.In h) (G:h.Ns mainGlobals mg)
  (a:zcs K mainGlobals x=some (some (.ref f))) (l:K.lookup f=some ⟨oc,od,.func (zcr x x (cK st) (bE st) (ai st) .none kV doc pm an cdv ct),osl⟩)
  (c:zbZ K cdv x=true) (k:zbY K (.ref f)=true)
  (b:∀ (kV doc pm:Value) (an:Option Addr) (cdv ct:Value) (us:List Value),us.length=ps.length→bindArgs (zcr x x (cK st) (bE st) (ai st) .none kV doc pm an cdv ct) ⟨us,[]⟩=pure (ps.zip us)):Src K mg x ps st :=
 ⟨f,_,iZ (st:=st) l c k,zcf X G a,(iZ (st:=st) l c k).binds b⟩
end
end J
namespace M
open PySem L2
inductive D where
 | bN | bl (b:Bool) | int (i:Int) | str (x:Str) | tup (ds:List D) | lst (ds:List D) | dct (ks:List Key) (ds:List D) | loc (n:Nat) | ty (n:String) | k6 (ns:List Int) | Dd (xs:List Str) | fd | fn (a:Addr)
inductive MO where
 | lst (ds:List D) | dct (ks:List Key) (ds:List D) | feed (n:Nat) | ins (C:Addr) (ks:List Str) (ds:List D) | Di (F:Addr→List Addr→Heap→Prop) (ks:List D)
noncomputable def vq (l s d:Int):List (Key×V):=[(.inr "left",.int l),(.inr "seed",.int s),(.inr "drawn",.int d)]
noncomputable abbrev au:=List (Option MO)
noncomputable def MO.d:MO→D
 | .lst ds=>.lst ds
 | .dct ks ds=>.dct ks ds
 | .feed _=>.fd
 | .ins _ _ _=>.fd
 | .Di _ _=>.fd
inductive R where
 | dat (d:D) | new (o:MO)
noncomputable def R.d:R→D
 | .dat d=>d
 | .new o=>o.d
theorem al {H:Hp}{p:Addr}{o:HO} (hp:H p=none):fF H (upd H p o):=fun b o' e=>by rw [aJ (aX e hp)];exact e
structure Wd where
 B:Hp
 r:Nat→Option Addr
structure Wd.le (w w':Wd):Prop where
 b:fF w.B w'.B
 r:∀ n a,w.r n=some a→w'.r n=some a
theorem Wd.le.refl {w:Wd}:w.le w:=⟨fF.refl _,fun _ _ h=>h⟩
theorem Wd.le.trans {w w1 w2:Wd} (h:w.le w1) (g:w1.le w2):w.le w2:=⟨h.b.trans g.b,fun n a e=>g.r n a (h.r n a e)⟩
mutual
noncomputable def Rep (K:PySem.W.Frag) (w:Wd):D→V→Prop
 | .bN,v=>v = .bN
 | .bl b,v=>v = .bl b
 | .int i,v=>v = .int i
 | .str x,v=>v = .str x
 | .ty n,v=>v = .ty n
 | .fd,v=>∃ a,v = .ref a
 | .fn a,v=>v = .ref a
 | .loc n,v=>∃ a,w.r n=some a∧v = .ref a
 | .tup ds,v=>∃ a xs,v = .ref a∧w.B a=some (.tup xs)∧ak K w ds xs
 | .Dd ss,v=>∃ a,v = .ref a∧eX K w.B a (ss.map V.str)
 | .lst ds,v=>∃ a xs,v = .ref a∧w.B a=some (.lst xs)∧ak K w ds xs
 | .k6 ns,v=>∃ a,v = .ref a∧dh K w.B a (ns.map V.int)
 | .dct ks ds,v=>∃ a kvs,v = .ref a∧w.B a=some (.dK kvs)∧kvs.map (·.1)=ks∧ak K w ds (kvs.map (·.2))
noncomputable def ak (K:PySem.W.Frag) (w:Wd):List D→List V→Prop
 | [],xs=>xs=[]
 | d::ds,xs=>∃ x r,xs=x::r∧Rep K w d x∧ak K w ds r
end
mutual
theorem Rep.le {K:PySem.W.Frag}{w w':Wd} (e:w.le w'):∀ (d:D) (v:V),Rep K w d v→Rep K w' d v
 | .bN,_,h=>by simpa [Rep] using h
 | .bl b,_,h=>by simpa [Rep] using h
 | .int i,_,h=>by simpa [Rep] using h
 | .str x,_,h=>by simpa [Rep] using h
 | .ty x,_,h=>by simpa [Rep] using h
 | .fd,_,h=>by simpa [Rep] using h
 | .fn _,_,h=>by simpa [Rep] using h
 | .loc n,v,h=>by
  simp only [Rep] at h ⊢
  obtain ⟨a,h1,h2⟩:=h
  exact ⟨a,e.r _ _ h1,h2⟩
 | .lst ds,v,h=>by
  simp only [Rep] at h ⊢
  obtain ⟨a,xs,h1,h2,h3⟩:=h
  exact ⟨a,xs,h1,e.b _ _ h2,ak.le e ds xs h3⟩
 | .k6 ns,v,h=>by
  simp only [Rep] at h ⊢
  obtain ⟨a,h1,h2⟩:=h
  exact ⟨a,h1,e.b.seq h2⟩
 | .tup ds,v,h=>by
  simp only [Rep] at h ⊢
  obtain ⟨a,xs,h1,h2,h3⟩:=h
  exact ⟨a,xs,h1,e.b _ _ h2,ak.le e ds xs h3⟩
 | .Dd ns,v,h=>by
  simp only [Rep] at h ⊢
  obtain ⟨a,h1,h2⟩:=h
  exact ⟨a,h1,eX.same e.b h2⟩
 | .dct ks ds,v,h=>by
  simp only [Rep] at h ⊢
  obtain ⟨a,xs,h1,h2,h3,h4⟩:=h
  exact ⟨a,xs,h1,e.b _ _ h2,h3,ak.le e ds _ h4⟩
theorem ak.le {K:PySem.W.Frag}{w w':Wd} (e:w.le w'):∀ (ds:List D) (xs:List V),ak K w ds xs→ak K w' ds xs
 | [],_,h=>by simpa [ak] using h
 | d::ds,xs,h=>by
  simp only [ak] at h ⊢
  obtain ⟨x,r,h1,h2,h3⟩:=h
  exact ⟨x,r,h1,Rep.le e d x h2,ak.le e ds r h3⟩
end
section
variable {K:PySem.W.Frag}{w w':Wd}
theorem ak.nil:ak K w [] []:=by simp [ak]
theorem ak.cons {d:D}{v:V}{ds:List D}{vs:List V} (h:Rep K w d v) (t:ak K w ds vs):ak K w (d::ds) (v::vs):=by
 simp only [ak];exact ⟨v,vs,rfl,h,t⟩
theorem ak.length:∀ {ds:List D}{vs:List V},ak K w ds vs→vs.length=ds.length
 | [],_,h=>by simp only [ak] at h;subst h;rfl
 | d::ds,vs,h=>by
  simp only [ak] at h
  obtain ⟨x,r,rfl,_,h⟩:=h
  simp [ak.length h]
theorem ak.get:∀ {ds:List D}{vs:List V}{i:Nat}{d:D},ak K w ds vs→ds[i]? = some d→∃ v,vs[i]? = some v∧Rep K w d v
 | [],_,_,_,_,e=>by simp at e
 | d::ds,vs,0,d',h,e=>by
  simp only [ak] at h
  obtain ⟨x,r,rfl,h1,h⟩:=h
  simp at e;subst e
  exact ⟨x,rfl,h1⟩
 | d::ds,vs,i+1,d',h,e=>by
  simp only [ak] at h
  obtain ⟨x,r,rfl,h1,h⟩:=h
  obtain ⟨v,e1,e2⟩:=ak.get (i:=i) h (by simpa using e)
  exact ⟨v,by simpa using e1,e2⟩
theorem ak.append:∀ {ds es:List D}{vs us:List V},ak K w ds vs→ak K w es us→ak K w (ds++es) (vs++us)
 | [],_,_,_,h,g=>by simp only [ak] at h;subst h;exact g
 | d::ds,es,vs,us,h,g=>by
  simp only [ak] at h
  obtain ⟨x,r,rfl,h1,h⟩:=h
  exact ak.cons h1 (ak.append h g)
theorem ak.snoc {ds:List D}{vs:List V}{d:D}{v:V} (h:ak K w ds vs) (g:Rep K w d v):ak K w (ds++[d]) (vs++[v]):=h.append (.cons g .nil)
theorem ak.take:∀ (n:Nat) {ds:List D}{vs:List V},ak K w ds vs→ak K w (ds.take n) (vs.take n)
 | 0,_,_,_=>by simp [ak]
 | n+1,[],_,h=>by simp only [ak] at h;subst h;simp [ak]
 | n+1,d::ds,vs,h=>by
  simp only [ak] at h
  obtain ⟨x,r,rfl,h1,h⟩:=h
  exact ak.cons h1 (ak.take n h)
theorem ak.drop:∀ (n:Nat) {ds:List D}{vs:List V},ak K w ds vs→ak K w (ds.drop n) (vs.drop n)
 | 0,_,_,h=>h
 | n+1,[],_,h=>by simp only [ak] at h;subst h;simp [ak]
 | n+1,d::ds,vs,h=>by
  simp only [ak] at h
  obtain ⟨x,r,rfl,h1,h⟩:=h
  exact ak.drop n h
theorem ak.set {d:D}{v:V} (g:Rep K w d v):∀ (n:Nat) {ds:List D}{vs:List V},ak K w ds vs→ak K w (ds.set n d) (vs.set n v)
 | _,[],_,h=>by simp only [ak] at h;subst h;simp [ak]
 | 0,e::ds,vs,h=>by
  simp only [ak] at h
  obtain ⟨x,r,rfl,h1,h⟩:=h
  exact ak.cons g h
 | n+1,e::ds,vs,h=>by
  simp only [ak] at h
  obtain ⟨x,r,rfl,h1,h⟩:=h
  exact ak.cons h1 (ak.set g n h)
end
noncomputable def jQ (K:PySem.W.Frag) (w:Wd):MO→HO→Prop
 | .lst ds,u=>∃ xs,u = .lst xs∧ak K w ds xs
 | .dct ks ds,u=>∃ kvs,u = .dK kvs∧kvs.map (·.1)=ks∧ak K w ds (kvs.map (·.2))
 | .feed n,u=>∃ l s:Int,u = .dK (vq l s n)∧0≤l∧0≤s∧s<1000003
 | .ins C ks ds,u=>∃ dx fs,u = .ins C dx fs∧fs.map (·.1)=ks∧ak K w ds (fs.map (·.2))
 | .Di F ks,u=>∃ (a:Addr) (bs:List Addr),u = .ext (F a bs)∧ak K w ks (bs.map V.ref)
theorem jQ.le {K:PySem.W.Frag}{w w':Wd} (e:w.le w'):∀ {o:MO}{u:HO},jQ K w o u→jQ K w' o u
 | .lst ds,u,⟨xs,h1,h2⟩=>⟨xs,h1,h2.le e⟩
 | .dct ks ds,u,⟨xs,h1,h2,h3⟩=>⟨xs,h1,h2,h3.le e⟩
 | .feed n,u,h=>h
 | .ins C ks ds,u,⟨dx,fs,h1,h2,h3⟩=>⟨dx,fs,h1,h2,h3.le e⟩
 | .Di F ks,u,⟨a,bs,h1,h2⟩=>⟨a,bs,h1,h2.le e⟩
structure Ok (K:PySem.W.Frag) (w:Wd) (H:Hp) (S:au):Prop where
 base:fF w.B H
 live:∀ n o,S[n]? = some (some o)→∃ a u,w.r n=some a∧w.B a=none∧H a=some u∧jQ K w o u
 inj:∀ n m o o',S[n]? = some (some o)→S[m]? = some (some o')→w.r n=w.r m→n=m
 top:∀ n,S.length≤n→w.r n=none
noncomputable def vL (K:PySem.W.Frag) (w:Wd) (H:Hp) (S:au):R→V→Prop
 | .dat d,v=>Rep K w d v
 | .new o,v=>∃ a u,v = .ref a∧w.B a=none∧H a=some u∧jQ K w o u∧∀ n o',S[n]? = some (some o')→w.r n≠some a
noncomputable def eY (K:PySem.W.Frag) (w:Wd) (δ:List (Option D)) (σ:St):Prop:=δ.length=σ.length∧∀ (i:Nat) (d:D),δ[i]? = some (some d)→∃ v,σ[i]? = some (some v)∧Rep K w d v
theorem eY.le {K:PySem.W.Frag}{w w':Wd}{δ:List (Option D)}{σ:St} (h:eY K w δ σ) (e:w.le w'):eY K w' δ σ:=⟨h.1,fun i d q=>by
 obtain ⟨v,h1,h2⟩:=h.2 i d q
 exact ⟨v,h1,h2.le e⟩⟩
theorem eY.set {K:PySem.W.Frag}{w:Wd}{δ:List (Option D)}{σ:St}{d:D}{v:V} (h:eY K w δ σ) (g:Rep K w d v) (i:Nat):eY K w (δ.set i (some d)) (σ.set i (some v)):=by
 refine ⟨by simp [h.1],fun j e q => ?_⟩
 by_cases hij:i=j
 ·subst hij
  rw [zbj] at q ⊢
  rw [if_pos rfl] at q ⊢
  by_cases hl:i<δ.length
  ·rw [if_pos hl] at q
   rw [if_pos (by rw [← h.1];exact hl)]
   have:d=e:=by simpa using q
   subst this
   exact ⟨v,rfl,g⟩
  ·rw [if_neg hl] at q;cases q
 ·rw [zaC hij] at q ⊢
  exact h.2 j e q
section
variable {K:PySem.W.Frag}{w w':Wd}{H H':Hp}{S S':au}
theorem freeze {r:R}{v:V} (k:Ok K w H S) (h:vL K w H S r v):∃ w',w.le w'∧Ok K w' H S∧Rep K w' r.d v:=by
 cases r with
 | dat d=>exact ⟨w,.refl,k,h⟩
 | new o =>
  obtain ⟨a,u,rfl,hb,ha,ho,hn⟩:=h
  have le:w.le ⟨upd w.B a u,w.r⟩:=⟨al hb,fun _ _ e=>e⟩
  refine ⟨⟨upd w.B a u,w.r⟩,le,⟨fun b o' e => ?_,fun n o' e => ?_,k.inj,k.top⟩,?_⟩
  ·by_cases hba:b=a
   ·subst hba
    have e:upd w.B b u b=some o':=e
    rw [aM] at e;rw [ha];exact e
   ·have e:upd w.B a u b=some o':=e
    rw [aJ hba] at e;exact k.base b o' e
  ·obtain ⟨a',u',h1,h2,h3,h4⟩:=k.live n o' e
   have:a'≠a:=by intro z;subst z;exact hn n o' e h1
   exact ⟨a',u',h1,by show upd w.B a u a'=none;rw [aJ this];exact h2,h3,h4.le le⟩
  ·cases o with
   | lst ds =>
    obtain ⟨xs,rfl,h⟩:=ho
    show Rep K _ (.lst ds) _
    simp only [Rep]
    exact ⟨a,xs,rfl,aM,h.le le⟩
   | dct ks ds =>
    obtain ⟨kvs,rfl,h1,h⟩:=ho
    show Rep K _ (.dct ks ds) _
    simp only [Rep]
    exact ⟨a,kvs,rfl,aM,h1,h.le le⟩
   | feed n =>
    show Rep K _ .fd _
    simp only [Rep]
    exact ⟨a,rfl⟩
   | ins C ks ds =>
    show Rep K _ .fd _
    simp only [Rep]
    exact ⟨a,rfl⟩
   | Di F ks =>
    show Rep K _ .fd _
    simp only [Rep]
    exact ⟨a,rfl⟩
theorem store {o:MO}{v:V} (k:Ok K w H S) (h:vL K w H S (.new o) v):∃ w',w.le w'∧Ok K w' H (S++[some o])∧Rep K w' (.loc S.length) v:=by
 obtain ⟨a,u,rfl,hb,ha,ho,hn⟩:=h
 let r':Nat→Option Addr:=fun n=>if n=S.length then some a else w.r n
 have le:w.le ⟨w.B,r'⟩:=⟨fF.refl _,fun n b e=>by
  have:n≠S.length:=by
   intro z;subst z
   rw [k.top _ (zcx _)] at e;cases e
  show (if n=S.length then some a else w.r n)=some b
  rw [if_neg this];exact e⟩
 have at_:∀ n o',(S++[some o])[n]? = some (some o')→(n=S.length∧o'=o)∨(n<S.length∧S[n]? = some (some o')):=fun n o' e=>by
  by_cases hl:n<S.length
  ·rw [zaf hl] at e
   exact .inr ⟨hl,e⟩
  ·rw [zab (by omega)] at e
   have:n - S.length=0:=by
    cases q:n - S.length with
    | zero=>rfl
    | succ j=>rw [q] at e;simp at e
   rw [this] at e
   have e:o=o':=by simpa using e
   exact .inl ⟨by omega,e.symm⟩
 refine ⟨⟨w.B,r'⟩,le,⟨k.base,fun n o' e => ?_,fun n m o1 o2 e1 e2 e => ?_,fun n hn => ?_⟩,?_⟩
 ·rcases at_ n o' e with ⟨rfl,rfl⟩ | ⟨hl,e⟩
  ·exact ⟨a,u,by show (if _ then _ else _)=_;rw [if_pos rfl],hb,ha,ho.le le⟩
  ·obtain ⟨a',u',h1,h2,h3,h4⟩:=k.live n o' e
   exact ⟨a',u',le.r _ _ h1,h2,h3,h4.le le⟩
 ·rcases at_ n o1 e1 with ⟨rfl,rfl⟩ | ⟨hl,q1⟩
  ·rcases at_ m o2 e2 with ⟨rfl,rfl⟩ | ⟨hl2,q2⟩
   ·rfl
   ·exfalso
    have e:(if S.length=S.length then some a else w.r S.length)=(if m=S.length then some a else w.r m):=e
    rw [if_pos rfl,if_neg (by omega)] at e
    exact hn m o2 q2 e.symm
  ·rcases at_ m o2 e2 with ⟨rfl,rfl⟩ | ⟨hl2,q2⟩
   ·exfalso
    have e:(if n=S.length then some a else w.r n)=(if S.length=S.length then some a else w.r S.length):=e
    rw [if_pos rfl,if_neg (by omega)] at e
    exact hn n o1 q1 e
   ·have e:(if n=S.length then some a else w.r n)=(if m=S.length then some a else w.r m):=e
    rw [if_neg (by omega),if_neg (by omega)] at e
    exact k.inj n m o1 o2 q1 q2 e
 ·rw [zaS] at hn
  have:n≠S.length:=by simp at hn;omega
  show (if n=S.length then some a else w.r n)=none
  rw [if_neg this]
  exact k.top n (by simp at hn;omega)
 ·simp only [Rep]
  exact ⟨a,by show (if _ then _ else _)=_;rw [if_pos rfl],rfl⟩
theorem Ok.alloc {p:Addr}{o:HO} (k:Ok K w H S) (hp:H p=none):Ok K w (upd H p o) S :=
 ⟨k.base.trans (al hp),fun n o' e=>by
  obtain ⟨a,u,h1,h2,h3,h4⟩:=k.live n o' e
  exact ⟨a,u,h1,h2,al hp _ _ h3,h4⟩,k.inj,k.top⟩
theorem Ok.free {p:Addr} (k:Ok K w H S) (hp:H p=none):w.B p=none:=k.base.free hp
theorem Ok.fresh {p:Addr}{o:HO}{m:MO} (k:Ok K w H S) (hp:H p=none) (h:jQ K w m o):vL K w (upd H p o) S (.new m) (.ref p) :=
 ⟨p,o,rfl,k.free hp,aM,h,fun n o' e z=>by
  obtain ⟨a,u,h1,h2,h3,h4⟩:=k.live n o' e
  rw [z] at h1;cases h1
  rw [hp] at h3;cases h3⟩
theorem Ok.qF {p:Addr}{ds:List D}{xs:List V} (k:Ok K w H S) (hp:H p=none) (h:ak K w ds xs):∃ w',w.le w'∧Ok K w' (upd H p (.tup xs)) S∧Rep K w' (.tup ds) (.ref p):=by
 have hb:=k.free hp
 have le:w.le ⟨upd w.B p (.tup xs),w.r⟩:=⟨al hb,fun _ _ e=>e⟩
 refine ⟨⟨upd w.B p (.tup xs),w.r⟩,le,⟨fun b o e => ?_,fun n o e => ?_,k.inj,k.top⟩,?_⟩
 ·by_cases hbp:b=p
  ·subst hbp
   have e:upd w.B b (.tup xs) b=some o:=e
   rw [aM] at e ⊢;exact e
  ·have e:upd w.B p (.tup xs) b=some o:=e
   rw [aJ hbp] at e ⊢;exact k.base b o e
 ·obtain ⟨a,u,h1,h2,h3,h4⟩:=k.live n o e
  have hne:a≠p:=aX h3 hp
  exact ⟨a,u,h1,by show upd w.B p _ a=none;rw [aJ hne];exact h2,by rw [aJ hne];exact h3,h4.le le⟩
 ·simp only [Rep]
  exact ⟨p,xs,rfl,aM,h.le le⟩
theorem Ok.put {n:Nat}{a:Addr}{o o':MO}{u':HO} (k:Ok K w H S) (e:S[n]? = some (some o)) (ha:w.r n=some a) (h:jQ K w o' u'):Ok K w (upd H a u') (S.set n (some o')):=by
 have hn:n<S.length:=by
  rcases zcn n S.length with h | h
  ·exact h
  ·rw [zav h] at e;cases e
 have at_:∀ m q,(S.set n (some o'))[m]? = some (some q)→(m=n∧q=o')∨(m≠n∧S[m]? = some (some q)):=fun m q z=>by
  by_cases hm:n=m
  ·subst hm
   rw [zbj,if_pos rfl,if_pos hn] at z
   have z:o'=q:=by simpa using z
   exact .inl ⟨rfl,z.symm⟩
  ·rw [zaC hm] at z
   exact .inr ⟨fun y=>hm y.symm,z⟩
 obtain ⟨a0,u0,h1,h2,h3,_⟩:=k.live n o e
 rw [ha] at h1;cases h1
 refine ⟨fun b q z => ?_,fun m q z => ?_,fun m l q q' z z' y => ?_,fun m hm=>k.top m (by simpa using hm)⟩
 ·rw [aJ (by intro y;subst y;rw [h2] at z;cases z)]
  exact k.base b q z
 ·rcases at_ m q z with ⟨rfl,rfl⟩ | ⟨hm,z⟩
  ·exact ⟨a,u',ha,h2,aM,h⟩
  ·obtain ⟨b,u,g1,g2,g3,g4⟩:=k.live m q z
   have:b≠a:=by
    intro y;subst y
    exact hm (k.inj m n q o z e (g1.trans ha.symm))
   exact ⟨b,u,g1,g2,by rw [aJ this];exact g3,g4⟩
 ·have old:∀ m q,(S.set n (some o'))[m]? = some (some q)→∃ q0,S[m]? = some (some q0):=fun m q z=>by
   rcases at_ m q z with ⟨rfl,rfl⟩ | ⟨hm,z⟩
   ·exact ⟨o,e⟩
   ·exact ⟨q,z⟩
  obtain ⟨q0,z0⟩:=old m q z
  obtain ⟨q1,z1⟩:=old l q' z'
  exact k.inj m l q0 q1 z0 z1 y
end
noncomputable def bD (S:au):D→D
 | .loc n=>match S[n]? with
  | some (some o)=>o.d
  | _=>.loc n
 | d=>d
section
variable {K:PySem.W.Frag}{w:Wd}{H:Hp}{S:au}{v:V}
theorem bX {d:D}{ds:List D} (k:Ok K w H S) (h:Rep K w d v) (e:bD S d = .lst ds):∃ a xs,v = .ref a∧H a=some (.lst xs)∧ak K w ds xs:=by
 cases d with
 | loc n =>
  simp only [Rep] at h
  obtain ⟨a,h1,rfl⟩:=h
  simp only [bD] at e
  split at e
  next o q =>
   obtain ⟨a',u,g1,g2,g3,g4⟩:=k.live n o q
   rw [h1] at g1;cases g1
   cases o with
   | lst es =>
    have:es=ds:=by simpa [MO.d] using e
    subst this
    obtain ⟨xs,rfl,g⟩:=g4
    exact ⟨a,xs,rfl,g3,g⟩
   | dct ks es=>simp [MO.d] at e
   | feed n=>simp [MO.d] at e
   | ins C ks ds=>simp [MO.d] at e
   | Di F ks=>simp [MO.d] at e
  next=>cases e
 | lst es =>
  have:es=ds:=by simpa [bD] using e
  subst this
  simp only [Rep] at h
  obtain ⟨a,xs,h1,h2,h3⟩:=h
  exact ⟨a,xs,h1,k.base _ _ h2,h3⟩
 | _=>simp [bD] at e
theorem fc {d:D}{ds:List D} (k:Ok K w H S) (h:Rep K w d v) (e:bD S d = .tup ds):∃ a xs,v = .ref a∧H a=some (.tup xs)∧ak K w ds xs:=by
 cases d with
 | loc n =>
  simp only [bD] at e
  split at e
  next o q=>cases o <;> simp [MO.d] at e
  next=>cases e
 | tup es =>
  have:es=ds:=by simpa [bD] using e
  subst this
  simp only [Rep] at h
  obtain ⟨a,xs,h1,h2,h3⟩:=h
  exact ⟨a,xs,h1,k.base _ _ h2,h3⟩
 | _=>simp [bD] at e
theorem gZ {d:D}{ks:List Key}{ds:List D} (k:Ok K w H S) (h:Rep K w d v) (e:bD S d = .dct ks ds):∃ a kvs,v = .ref a∧H a=some (.dK kvs)∧kvs.map (·.1)=ks∧ak K w ds (kvs.map (·.2)):=by
 cases d with
 | loc n =>
  simp only [Rep] at h
  obtain ⟨a,h1,rfl⟩:=h
  simp only [bD] at e
  split at e
  next o q =>
   obtain ⟨a',u,g1,g2,g3,g4⟩:=k.live n o q
   rw [h1] at g1;cases g1
   cases o with
   | lst es=>simp [MO.d] at e
   | feed n=>simp [MO.d] at e
   | ins C ks ds=>simp [MO.d] at e
   | Di F ks=>simp [MO.d] at e
   | dct ks' es =>
    have:ks'=ks∧es=ds:=by simpa [MO.d] using e
    obtain ⟨rfl,rfl⟩:=this
    obtain ⟨kvs,rfl,g⟩:=g4
    exact ⟨a,kvs,rfl,g3,g⟩
  next=>cases e
 | dct ks' es =>
  have:ks'=ks∧es=ds:=by simpa [bD] using e
  obtain ⟨rfl,rfl⟩:=this
  simp only [Rep] at h
  obtain ⟨a,xs,h1,h2,h3⟩:=h
  exact ⟨a,xs,h1,k.base _ _ h2,h3⟩
 | _=>simp [bD] at e
end
noncomputable abbrev bH:=List (Option D)
noncomputable abbrev AK:=R→au→Prop
noncomputable abbrev AE:=bH→au→AK→Prop
noncomputable abbrev AT:=bH→au→(Bool→au→Prop)→Prop
noncomputable abbrev AA:=bH→au→(List D→au→Prop)→Prop
noncomputable abbrev AO:=bH→au→(Option Int→au→Prop)→Prop
structure fR where
 nx:bH→au→Prop
 rt:AK
 bk:bH→au→Prop:=fun _ _=>False
 ct:bH→au→Prop:=fun _ _=>False
noncomputable abbrev AS:=fR→bH→au→Prop
noncomputable abbrev AG:=D→bH→au→(bH→au→Prop)→Prop
noncomputable abbrev Dm:=List D→bH→au→(bH→au→Prop)→Prop
noncomputable abbrev AI:=bH→au→(List D→(au→Prop)→au→Prop)→Prop
noncomputable abbrev A2:=D→D→au→AK→Prop
noncomputable abbrev A1:=D→au→AK→Prop
noncomputable abbrev AN:=List D→au→AK→Prop
section
variable (K:PySem.W.Frag) (w:Wd)
noncomputable def eU (Qa:AK) (Q:VK):Prop:=∀ r S' v w' H',w.le w'→Ok K w' H' S'→vL K w' H' S' r v→Qa r S'→Q v H'
noncomputable def yu (Qa:Bool→au→Prop) (Q:Bool→Hp→Prop):Prop:=∀ b S' w' H',w.le w'→Ok K w' H' S'→Qa b S'→Q b H'
noncomputable def Lh (Qa:List D→au→Prop) (Q:List V→Hp→Prop):Prop:=∀ ds S' vs w' H',w.le w'→Ok K w' H' S'→ak K w' ds vs→Qa ds S'→Q vs H'
noncomputable def Lg (Qa:Option Int→au→Prop) (Q:Option Int→Hp→Prop):Prop:=∀ i S' w' H',w.le w'→Ok K w' H' S'→Qa i S'→Q i H'
noncomputable def kZ (Qa:bH→au→Prop) (Q:St→Hp→Prop):Prop:=∀ δ S' σ w' H',w.le w'→Ok K w' H' S'→eY K w' δ σ→Qa δ S'→Q σ H'
structure yt (Da:fR) (D:Ends):Prop where
 nx:kZ K w Da.nx D.nx
 rt:eU K w Da.rt D.rt
 bk:kZ K w Da.bk D.bk
 ct:kZ K w Da.ct D.ct
structure Ld (J:It) (ds:List D) (P:au→Prop):Prop where
 go:∀ i H S w' d,w.le w'→Ok K w' H S→P S→ds[i]? = some d→J.go i H
 zQ:∀ i H S w' d x H',w.le w'→Ok K w' H S→P S→ds[i]? = some d→J.zQ i H x H'→∃ w3,w'.le w3∧Ok K w3 H' S∧Rep K w3 d x
 stop:∀ i H S w',w.le w'→Ok K w' H S→P S→i=ds.length→J.stop i H
noncomputable def Li (Qa:List D→(au→Prop)→au→Prop) (R:It→Hp→Prop):Prop:=∀ ds P S' J w' H',w.le w'→Ok K w' H' S'→Ld K w' J ds P→Qa ds P S'→R J H'
end
section
variable {K:PySem.W.Frag}{w w':Wd}
theorem eU.le {Qa:AK}{Q:VK} (h:eU K w Qa Q) (e:w.le w'):eU K w' Qa Q:=fun r S v w2 H l=>h r S v w2 H (e.trans l)
theorem yu.le {Qa}{Q} (h:yu K w Qa Q) (e:w.le w'):yu K w' Qa Q:=fun r S w2 H l=>h r S w2 H (e.trans l)
theorem kZ.le {Qa}{Q} (h:kZ K w Qa Q) (e:w.le w'):kZ K w' Qa Q:=fun r S v w2 H l=>h r S v w2 H (e.trans l)
theorem yt.le {Da:fR}{D:Ends} (h:yt K w Da D) (e:w.le w'):yt K w' Da D:=⟨h.nx.le e,h.rt.le e,h.bk.le e,h.ct.le e⟩
end
section
variable (K:PySem.W.Frag)
noncomputable def bB (a:AE):TE:=fun σ H Q=>∃ w δ S Qa,Ok K w H S∧eY K w δ σ∧a δ S Qa∧eU K w Qa Q
noncomputable def kF (a:AT):TT:=fun σ H Q=>∃ w δ S Qa,Ok K w H S∧eY K w δ σ∧a δ S Qa∧yu K w Qa Q
noncomputable def nL (a:AA):TA:=fun σ H Q=>∃ w δ S Qa,Ok K w H S∧eY K w δ σ∧a δ S Qa∧Lh K w Qa Q
noncomputable def B5 (a:AO):TO:=fun σ H Q=>∃ w δ S Qa,Ok K w H S∧eY K w δ σ∧a δ S Qa∧Lg K w Qa Q
noncomputable def f7 (a:AS):TS:=fun D σ H=>∃ w δ S Da,Ok K w H S∧eY K w δ σ∧a Da δ S∧yt K w Da D
noncomputable def vB (a:AG):TG:=fun x σ H Q=>∃ w d δ S Qa,Ok K w H S∧eY K w δ σ∧Rep K w d x∧a d δ S Qa∧kZ K w Qa Q
noncomputable def tu (a:Dm):Fg:=fun xs σ H Q=>∃ w ds δ S Qa,Ok K w H S∧eY K w δ σ∧ak K w ds xs∧a ds δ S Qa∧kZ K w Qa Q
noncomputable def B6 (a:AI):TI:=fun σ H R=>∃ w δ S Qa,Ok K w H S∧eY K w δ σ∧a δ S Qa∧Li K w Qa R
noncomputable def zh (a:A2):R2:=fun x y H Q=>∃ w d e S Qa,Ok K w H S∧Rep K w d x∧Rep K w e y∧a d e S Qa∧eU K w Qa Q
noncomputable def IQ (a:AN):List V→Hp→VK→Prop:=fun xs H Q=>∃ w ds S Qa,Ok K w H S∧ak K w ds xs∧a ds S Qa∧eU K w Qa Q
noncomputable def KO (a:D→List D→au→AK→Prop):V→List V→Hp→VK→Prop:=fun x xs H Q=>∃ w d ds S Qa,Ok K w H S∧Rep K w d x∧ak K w ds xs∧a d ds S Qa∧eU K w Qa Q
noncomputable def aW (a:AN):Sp:=fun vs H Q _=>IQ K a vs H Q
end
structure GE (X:Cx) (e:Expr) (a:AE):Prop where
 p:PE X e (bB X.K a)
structure GT (X:Cx) (e:Expr) (a:AT):Prop where
 p:PT X e (kF X.K a)
structure GW (X:Cx) (e:Expr) (a:AT):Prop where
 p:PW X e (kF X.K a)
structure GA (X:Cx) (e:List Expr) (a:AA):Prop where
 p:PA X e (nL X.K a)
structure GO (X:Cx) (e:Option Expr) (a:AO):Prop where
 p:PO X e (B5 X.K a)
structure GS (X:Cx) (s:Stmt) (a:AS):Prop where
 p:PS X s (f7 X.K a)
structure zN (X:Cx) (s:List Stmt) (a:AS):Prop where
 p:tT X s (f7 X.K a)
structure GG (X:Cx) (e:Expr) (a:AG):Prop where
 p:PG X e (vB X.K a)
structure LF (X:Cx) (e:List Expr) (a:Dm):Prop where
 p:Jp X e (tu X.K a)
structure GI (X:Cx) (tg e:Expr) (a:AI):Prop where
 p:PI X tg e (B6 X.K a)
structure Le (X:Cx) (e:List Expr) (a:AT):Prop where
 p:Fl X e (kF X.K a)
structure vM (X:Cx) (f:Value→Value→Sem Value) (a:A2):Prop where
 p:gh X f (zh X.K a)
structure zL (X:Cx) (f:Value) (a:AN):Prop where
 p:bV X f (IQ X.K a)
structure Na (X:Cx) (a:A2):Prop where
 p:zV X (zh X.K a)
section
variable {X:Cx}
theorem mE {e:Expr}{t u:TE} (h:PE X e t) (m:∀ σ H Q,u σ H Q→t σ H Q):PE X e u:=fun pins s σ H Q I q=>h pins s σ H Q I (m σ H Q q)
theorem mT {e:Expr}{t u:TT} (h:PT X e t) (m:∀ σ H Q,u σ H Q→t σ H Q):PT X e u:=fun pins s σ H Q I q=>h pins s σ H Q I (m σ H Q q)
theorem mW {e:Expr}{t u:TT} (h:PW X e t) (m:∀ σ H Q,u σ H Q→t σ H Q):PW X e u:=fun wh pins s σ H Q I q=>h wh pins s σ H Q I (m σ H Q q)
theorem mA {e:List Expr}{t u:TA} (h:PA X e t) (m:∀ σ H Q,u σ H Q→t σ H Q):PA X e u:=fun pos pins s σ H Q I q=>h pos pins s σ H Q I (m σ H Q q)
theorem mO {e:Option Expr}{t u:TO} (h:PO X e t) (m:∀ σ H Q,u σ H Q→t σ H Q):PO X e u:=fun pins s σ H Q I q=>h pins s σ H Q I (m σ H Q q)
theorem mS {e:Stmt}{t u:TS} (h:PS X e t) (m:∀ D σ H,u D σ H→t D σ H):PS X e u:=fun pins s σ H D I q=>h pins s σ H D I (m D σ H q)
theorem Me {e:List Stmt}{t u:TS} (h:tT X e t) (m:∀ D σ H,u D σ H→t D σ H):tT X e u:=fun pins s σ H D I q=>h pins s σ H D I (m D σ H q)
theorem mG {e:Expr}{t u:TG} (h:PG X e t) (m:∀ x σ H Q,u x σ H Q→t x σ H Q):PG X e u:=fun pins s σ H x v Q I r q=>h pins s σ H x v Q I r (m x σ H Q q)
theorem MR {e:List Expr}{t u:Fg} (h:Jp X e t) (m:∀ x σ H Q,u x σ H Q→t x σ H Q):Jp X e u:=fun pins s σ H x v Q I r q=>h pins s σ H x v Q I r (m x σ H Q q)
theorem mI {g e:Expr}{t u:TI} (h:PI X g e t) (m:∀ σ H R,u σ H R→t σ H R):PI X g e u:=fun pins s σ H R I q=>h pins s σ H R I (m σ H R q)
theorem mTs {e:List Expr}{t u:TT} (h:Fl X e t) (m:∀ σ H Q,u σ H Q→t σ H Q):Fl X e u:=fun pins s σ H Q I q=>h pins s σ H Q I (m σ H Q q)
theorem m2 {f:Value→Value→Sem Value}{t u:R2} (h:gh X f t) (m:∀ x y H Q,u x y H Q→t x y H Q):gh X f u:=fun pins s σ H x y v u Q I r r' q=>h pins s σ H x y v u Q I r r' (m x y H Q q)
theorem mC {f:Value}{t u:List V→Hp→VK→Prop} (h:bV X f t) (m:∀ x H Q,u x H Q→t x H Q):bV X f u:=fun pins s σ H x v Q I r q=>h pins s σ H x v Q I r (m x H Q q)
end
noncomputable def nS (i:Nat):AE:=fun δ S Q=>∃ d,δ[i]? = some (some d)∧Q (.dat d) S
noncomputable def aC (d:D):AE:=fun _ S Q=>Q (.dat d) S
noncomputable def Jc (r:A2) (a b:AE):AE:=fun δ S Q=>a δ S fun x S1=>b δ S1 fun y S2=>r x.d y.d S2 Q
noncomputable def aUn (r:A1) (a:AE):AE:=fun δ S Q=>a δ S fun x S1=>r x.d S1 Q
noncomputable def vH:AA:=fun _ S Q=>Q [] S
noncomputable def pJ (a:AE) (b:AA):AA:=fun δ S Q=>a δ S fun x S1=>b δ S1 fun xs S2=>Q (x.d::xs) S2
noncomputable def Cq (a:AA):AE:=fun δ S Q=>a δ S fun ds S1=>ds.length≤sizeLine∧Q (.dat (.tup ds)) S1
noncomputable def Jf (a:AA):AE:=fun δ S Q=>a δ S fun ds S1=>ds.length≤sizeLine∧Q (.new (.lst ds)) S1
noncomputable def fE (a:AE):AE:=fun δ S Q=>a δ S fun r S1=>match r with
 | .new o=>Q (.dat (.loc S1.length)) (S1++[some o])
 | .dat d=>Q (.dat d) S1
noncomputable def aCall (sp:AN) (a:AA):AE:=fun δ S Q=>a δ S fun ds S1=>sp ds S1 Q
noncomputable def aB (a:AE):AT:=fun δ S Q=>a δ S fun r S1=>∃ b,r.d = .bl b∧Q b S1
noncomputable def fj:D→Option Bool
 | .bN=>some false
 | .bl b=>some b
 | .int i=>some (i != 0)
 | .str y=>if y.length≤sizeLine then some ((y.length:Int) != 0) else none
 | .tup ds=>some (!ds.isEmpty)
 | .lst ds=>some (!ds.isEmpty)
 | .dct ks _=>some (!ks.isEmpty)
 | _=>none
noncomputable def Ja (a:AE):AT:=fun δ S Q=>a δ S fun r S1=>∃ b,fj (bD S1 r.d)=some b∧Q b S1
noncomputable def K5 (a b:AE):AE:=fun δ S Q=>a δ S fun x S1=>∃ c,x.d = .bl c∧if c=true then b δ S1 Q else Q (.dat (.bl false)) S1
noncomputable def MC (a b:AE):AE:=fun δ S Q=>a δ S fun x S1=>∃ c,x.d = .bl c∧if c=true then Q (.dat (.bl true)) S1 else b δ S1 Q
noncomputable def K0 (a:AE):AE:=fun δ S Q=>a δ S fun x S1=>∃ c,x.d = .bl c∧Q (.dat (.bl (!c))) S1
noncomputable def Jl (a b:AT):AT:=fun δ S Q=>a δ S fun c S1=>if c=true then b δ S1 Q else Q false S1
noncomputable def aOr (a b:AT):AT:=fun δ S Q=>a δ S fun c S1=>if c=true then Q true S1 else b δ S1 Q
noncomputable def Jd (a:AT):AT:=fun δ S Q=>a δ S fun c S1=>Q (!c) S1
noncomputable def aIf (t:AT) (a b:AE):AE:=fun δ S Q=>t δ S fun c S1=>if c=true then a δ S1 Q else b δ S1 Q
noncomputable def Jj (r r':A2) (a b c:AE):AE:=fun δ S Q=>a δ S fun x S1=>b δ S1 fun y S2=>r x.d y.d S2 fun z S3=>∃ k,z.d = .bl k∧if k=true then c δ S3 fun z' S4=>r' y.d z'.d S4 Q else Q (.dat (.bl false)) S3
noncomputable def rf:AO:=fun _ S Q=>Q none S
noncomputable def Cr (a:AE):AO:=fun δ S Q=>a δ S fun r S1=>∃ i,r.d = .int i∧Q (some i) S1
noncomputable def MA (r:D→Option Int→Option Int→au→AK→Prop) (a:AE) (l u:AO):AE:=fun δ S Q=>a δ S fun x S1=>l δ S1 fun i S2=>u δ S2 fun j S3=>r x.d i j S3 Q
noncomputable def Cs:AS:=fun D δ S=>D.nx δ S
noncomputable def lC (a b:AS):AS:=fun D δ S=>a { D with nx:=b D } δ S
noncomputable def Jb (a:AE):AS:=fun D δ S=>a δ S D.rt
noncomputable def KZ:AS:=fun D _ S=>D.rt (.dat .bN) S
noncomputable def Cy (a:AE):AS:=fun D δ S=>a δ S fun _ S1=>D.nx δ S1
noncomputable def Jg (c:AT) (a b:AS):AS:=fun D δ S=>c δ S fun k S1=>if k=true then a D δ S1 else b D δ S1
noncomputable def bI (i:Nat):AG:=fun d δ S Q=>Q (δ.set i (some d)) S
noncomputable def Cm:Dm:=fun ds δ S Q=>ds=[]∧Q δ S
noncomputable def q9 (a:AG) (b:Dm):Dm:=fun ds δ S Q=>∃ d r,ds=d::r∧a d δ S fun δ1 S1=>b r δ1 S1 Q
noncomputable def Ck (n:Nat) (a:Dm):AG:=fun d δ S Q=>∃ ds,d = .tup ds∧ds.length=n∧a ds δ S Q
noncomputable def zA (a:AE) (g:AG):AS:=fun D δ S=>a δ S fun r S1=>g r.d δ S1 D.nx
noncomputable def fM (P:au→Prop) (g:AG) (b:AS):List D→fR→bH→au→Prop
 | [],D,δ,S=>P S∧D.nx δ S
 | x::xs,D,δ,S=>P S∧g x δ S fun δ2 S2=>b { D with nx:=fM P g b xs D,ct:=fM P g b xs D,bk:=D.nx } δ2 S2
noncomputable def nT (i:AI) (g:AG) (b:AS):AS:=fun D δ S=>i δ S fun ds P S1=>fM P g b ds D δ S1
noncomputable def ow:AT:=fun _ S Q=>Q true S
noncomputable def cM (P:au→Prop) (g:AG) (t:AT) (e:AE):List D→List D→bH→au→(List D→au→Prop)→Prop
 | [],acc,_,S,Q=>P S∧Q acc S
 | x::xs,acc,δ,S,Q=>P S∧g x δ S fun δ2 S2=>t δ2 S2 fun b S3=>if b=true then e δ2 S3 fun r S4=>acc.length<sizeLine∧cM P g t e xs (acc++[r.d]) δ2 S4 Q else cM P g t e xs acc δ2 S3 Q
noncomputable def nR (caps:List (Option Nat)) (δ:bH):bH:=caps.map fun o=>o.bind fun i=>(δ[i]?).getD none
noncomputable def jP (caps:List (Option Nat)) (i:AI) (g:AG) (t:AT) (e:AE):AE:=fun δ S Q=>i δ S fun ds P S1=>cM P g t e ds [] (nR caps δ) S1 fun ds' S2=>Q (.new (.lst ds')) S2
noncomputable def c9 (lo:Int) (n:Nat):List D:=(zcC n).map fun k:Nat=>.int (lo+(k:Int))
noncomputable def sN (a:AA):AI:=fun δ S Q=>a δ S fun ds S1=>∃ j:Int,ds=[.int j]∧(-(2 ^ 62)≤j∧j<2 ^ 62)∧Q (c9 0 j.toNat) (fun _=>True) S1
noncomputable def signs (x:Str):List D:=x.cps.toList.map fun c=>.str ⟨#[c]⟩
section
variable {K:PySem.W.Frag}
theorem eU.go {w:Wd}{Qa:AK}{Q:VK} (h:∀ r S' v w' H',w.le w'→Ok K w' H' S'→Rep K w' r.d v→Qa r S'→Q v H'):eU K w Qa Q:=fun r S' v w' H' le ok rep q=>by
 obtain ⟨w2,le2,ok2,rep2⟩:=freeze ok rep
 exact h r S' v w2 H' (le.trans le2) ok2 rep2 q
theorem eU.dat {w w':Wd}{Qa:AK}{Q:VK}{d:D}{v:V}{S:au}{H:Hp} (h:eU K w Qa Q) (le:w.le w') (ok:Ok K w' H S) (rep:Rep K w' d v) (q:Qa (.dat d) S):Q v H:=h (.dat d) S v w' H le ok rep q
theorem JJ {i:Nat}:∀ σ H Q,bB K (nS i) σ H Q→l7 i σ H Q:=by
 rintro σ H Q ⟨w,δ,S,Qa,ok,env,⟨d,e,q⟩,bk⟩
 obtain ⟨v,e1,e2⟩:=env.2 i d e
 exact ⟨v,e1,bk.dat .refl ok e2 q⟩
theorem JV {d:D}{v:V} (h:∀ w,Rep K w d v):∀ σ H Q,bB K (aC d) σ H Q→tC v σ H Q:=by
 rintro σ H Q ⟨w,δ,S,Qa,ok,env,q,bk⟩
 exact bk.dat .refl ok (h w) q
theorem DQ {r:A2}{a b:AE}:∀ σ H Q,bB K (Jc r a b) σ H Q→vX (zh K r) (bB K a) (bB K b) σ H Q:=by
 rintro σ H Q ⟨w,δ,S,Qa,ok,env,q,bk⟩
 refine ⟨w,δ,S,_,ok,env,q,.go fun r1 S1 v1 w1 H1 le1 ok1 rep1 q1 => ?_⟩
 refine ⟨w1,δ,S1,_,ok1,env.le le1,q1,.go fun r2 S2 v2 w2 H2 le2 ok2 rep2 q2 => ?_⟩
 exact ⟨w2,r1.d,r2.d,S2,Qa,ok2,rep1.le le2,rep2,q2,bk.le (le1.trans le2)⟩
theorem JP:∀ σ H Q,nL K vH σ H Q→Aa σ H Q:=by
 rintro σ H Q ⟨w,δ,S,Qa,ok,env,q,bk⟩
 exact bk [] S [] w H .refl ok .nil q
theorem G7 {a:AE}{b:AA}:∀ σ H Q,nL K (pJ a b) σ H Q→vY (bB K a) (nL K b) σ H Q:=by
 rintro σ H Q ⟨w,δ,S,Qa,ok,env,q,bk⟩
 refine ⟨w,δ,S,_,ok,env,q,.go fun r1 S1 v1 w1 H1 le1 ok1 rep1 q1 => ?_⟩
 refine ⟨w1,δ,S1,_,ok1,env.le le1,q1,fun ds S2 vs w2 H2 le2 ok2 rep2 q2 => ?_⟩
 exact bk _ S2 _ w2 H2 (le1.trans le2) ok2 (.cons (rep1.le le2) rep2) q2
theorem JK {a:AA}:∀ σ H Q,bB K (Cq a) σ H Q→JB (nL K a) σ H Q:=by
 rintro σ H Q ⟨w,δ,S,Qa,ok,env,q,bk⟩
 refine ⟨w,δ,S,_,ok,env,q,fun ds S1 vs w1 H1 le1 ok1 rep1 ⟨hl,q1⟩=>⟨by rw [rep1.length];exact hl,fun p hp => ?_⟩⟩
 obtain ⟨w2,le2,ok2,rep2⟩:=ok1.qF hp rep1
 exact bk.dat (le1.trans le2) ok2 rep2 q1
theorem JQ {a:AA}:∀ σ H Q,bB K (Jf a) σ H Q→Gn (nL K a) σ H Q:=by
 rintro σ H Q ⟨w,δ,S,Qa,ok,env,q,bk⟩
 refine ⟨w,δ,S,_,ok,env,q,fun ds S1 vs w1 H1 le1 ok1 rep1 ⟨hl,q1⟩=>⟨by rw [rep1.length];exact hl,fun p hp => ?_⟩⟩
 exact bk (.new (.lst ds)) S1 _ w1 _ le1 (ok1.alloc hp) (ok1.fresh hp ⟨vs,rfl,rep1⟩) q1
theorem s_alloc {a:AE}:∀ σ H Q,bB K (fE a) σ H Q→bB K a σ H Q:=by
 rintro σ H Q ⟨w,δ,S,Qa,ok,env,q,bk⟩
 refine ⟨w,δ,S,_,ok,env,q,fun r S1 v w1 H1 le1 ok1 rep1 q1 => ?_⟩
 cases r with
 | dat d=>exact bk.dat le1 ok1 rep1 q1
 | new o =>
  obtain ⟨w2,le2,ok2,rep2⟩:=store ok1 rep1
  exact bk.dat (le1.trans le2) ok2 rep2 q1
theorem s_call {sp:AN}{a:AA}{E:XK}:∀ σ H Q,bB K (aCall sp a) σ H Q→vZ (aW K sp) [] E (nL K a) σ H Q:=by
 rintro σ H Q ⟨w,δ,S,Qa,ok,env,q,bk⟩
 refine ⟨w,δ,S,_,ok,env,q,fun ds S1 vs w1 H1 le1 ok1 rep1 q1 => ?_⟩
 exact ⟨w1,ds,S1,Qa,ok1,by rw [zbK];exact rep1,q1,bk.le le1⟩
theorem JU {r:AN}{a:AA}:∀ σ H Q,bB K (aCall r a) σ H Q→Jw (IQ K r) (nL K a) σ H Q:=by
 rintro σ H Q ⟨w,δ,S,Qa,ok,env,q,bk⟩
 refine ⟨w,δ,S,_,ok,env,q,fun ds S1 vs w1 H1 le1 ok1 rep1 q1 => ?_⟩
 exact ⟨w1,ds,S1,Qa,ok1,rep1,q1,bk.le le1⟩
theorem uM {w:Wd}{b:Bool}{v:V}{d:D} (h:Rep K w d v) (e:d = .bl b):v = .bl b:=by subst e;simpa [Rep] using h
theorem bM {w:Wd}{b:Int}{v:V}{d:D} (h:Rep K w d v) (e:d = .int b):v = .int b:=by subst e;simpa [Rep] using h
theorem xq {w:Wd}{b:Str}{v:V}{d:D} (h:Rep K w d v) (e:d = .str b):v = .str b:=by subst e;simpa [Rep] using h
theorem DZ {w:Wd}{v:V}{d:D} (h:Rep K w d v) (e:d = .bN):v = .bN:=by subst e;simpa [Rep] using h
theorem Rep.bl {w:Wd}{b:Bool}:Rep K w (.bl b) (.bl b):=by simp [Rep]
theorem Rep.int {w:Wd}{b:Int}:Rep K w (.int b) (.int b):=by simp [Rep]
theorem Rep.str {w:Wd}{b:Str}:Rep K w (.str b) (.str b):=by simp [Rep]
theorem Rep.bN {w:Wd}:Rep K w .bN .bN:=by simp [Rep]
theorem s_b {a:AE}:∀ σ H Q,kF K (aB a) σ H Q→tB (bB K a) σ H Q:=by
 rintro σ H Q ⟨w,δ,S,Qa,ok,env,q,bk⟩
 refine ⟨w,δ,S,_,ok,env,q,.go fun r1 S1 v1 w1 H1 le1 ok1 rep1 ⟨b,e,q1⟩=>⟨b,uM rep1 e,bk b S1 w1 H1 le1 ok1 q1⟩⟩
theorem Ds {w:Wd}{H:Hp}{S:au}{d:D}{v:V}{b:Bool} (ok:Ok K w H S) (h:Rep K w d v) (e:fj (bD S d)=some b):CD K v H b:=by
 cases q:bD S d with
 | lst ds =>
  rw [q] at e
  obtain ⟨a,xs,rfl,h1,h2⟩:=bX ok h q
  refine Or.inl ⟨xs,dh.of h1,?_⟩
  have:b = !ds.isEmpty:=by simpa [fj] using e.symm
  rw [this]
  have:=h2.length
  cases ds <;> cases xs <;> simp at this ⊢
 | tup ds =>
  rw [q] at e
  obtain ⟨a,xs,rfl,h1,h2⟩:=fc ok h q
  refine Or.inr (Or.inl ⟨xs,eX.of h1,?_⟩)
  have:b = !ds.isEmpty:=by simpa [fj] using e.symm
  rw [this]
  have:=h2.length
  cases ds <;> cases xs <;> simp at this ⊢
 | dct ks ds =>
  rw [q] at e
  obtain ⟨a,kvs,rfl,h1,h2,h3⟩:=gZ ok h q
  refine Or.inr (Or.inr ⟨kvs,h1,?_⟩)
  have:b = !ks.isEmpty:=by simpa [fj] using e.symm
  rw [this,← h2]
  cases kvs <;> simp
 | _ =>
  rw [q] at e
  cases d <;> simp [bD] at q <;> first
   | (subst q;simp only [Rep] at h;subst h;simp [fj] at e;simp [CD,e];done)
   | (simp [fj] at e;done)
   | skip
  all_goals first
   | (simp only [Rep] at h;subst h;subst q;simp only [fj,zcB.injEq] at e;subst e;rfl)
   | (simp only [Rep] at h;subst h;simp only [fj,zcB.injEq] at e;subst e;rfl)
   | (split at q <;> first | (rename_i o _;cases o <;> simp [MO.d] at q) | (cases q;simp [fj] at e) | cases q)
   | (simp only [Rep] at h;subst h;subst q;simp only [fj] at e;split at e;next hl=>exact ⟨hl,by simpa using e.symm⟩;next=>cases e)
   | skip
theorem JL {a:AE}:∀ σ H Q,kF K (Ja a) σ H Q→(bB K a) σ H (fun x H'=>∃ k,CD K x H' k∧Q k H'):=by
 rintro σ H Q ⟨w,δ,S,Qa,ok,env,q,bk⟩
 exact ⟨w,δ,S,_,ok,env,q,.go fun r1 S1 v1 w1 H1 le1 ok1 rep1 ⟨b,e,q1⟩=>⟨b,Ds ok1 rep1 e,bk b S1 w1 H1 le1 ok1 q1⟩⟩
theorem JW {a b:AT}:∀ σ H Q,kF K (Jl a b) σ H Q→JE (kF K a) (kF K b) σ H Q:=by
 rintro σ H Q ⟨w,δ,S,Qa,ok,env,q,bk⟩
 refine ⟨w,δ,S,_,ok,env,q,fun c S1 w1 H1 le1 ok1 q1 => ?_⟩
 cases c with
 | true=>exact vj ⟨w1,δ,S1,Qa,ok1,env.le le1,by simpa using q1,bk.le le1⟩
 | false=>exact jC (bk _ S1 w1 H1 le1 ok1 (by simpa using q1))
theorem JO {a:AT}:∀ σ H Q,kF K (Jd a) σ H Q→JC (kF K a) σ H Q:=by
 rintro σ H Q ⟨w,δ,S,Qa,ok,env,q,bk⟩
 exact ⟨w,δ,S,_,ok,env,q,fun c S1 w1 H1 le1 ok1 q1=>bk _ S1 w1 H1 le1 ok1 q1⟩
theorem AH:∀ σ H Q,B5 K rf σ H Q→gW σ H Q:=by
 rintro σ H Q ⟨w,δ,S,Qa,ok,env,q,bk⟩
 exact bk none S w H .refl ok q
theorem GR {a:AE}:∀ σ H Q,B5 K (Cr a) σ H Q→oA (bB K a) σ H Q:=by
 rintro σ H Q ⟨w,δ,S,Qa,ok,env,q,bk⟩
 exact ⟨w,δ,S,_,ok,env,q,.go fun r1 S1 v1 w1 H1 le1 ok1 rep1 ⟨i,e,q1⟩=>⟨i,bM rep1 e,bk _ S1 w1 H1 le1 ok1 q1⟩⟩
noncomputable def F6 (K:PySem.W.Frag) (a:D→Option Int→Option Int→au→AK→Prop):V→Option Int→Option Int→Hp→VK→Prop:=fun x i j H Q=>∃ w d S Qa,Ok K w H S∧Rep K w d x∧a d i j S Qa∧eU K w Qa Q
theorem LQ {r:D→Option Int→Option Int→au→AK→Prop}{a:AE}{l u:AO}:∀ σ H Q,bB K (MA r a l u) σ H Q→Jv (F6 K r) (bB K a) (B5 K l) (B5 K u) σ H Q:=by
 rintro σ H Q ⟨w,δ,S,Qa,ok,env,q,bk⟩
 refine ⟨w,δ,S,_,ok,env,q,.go fun r1 S1 v1 w1 H1 le1 ok1 rep1 q1 => ?_⟩
 refine ⟨w1,δ,S1,_,ok1,env.le le1,q1,fun i S2 w2 H2 le2 ok2 q2 => ?_⟩
 refine ⟨w2,δ,S2,_,ok2,env.le (le1.trans le2),q2,fun j S3 w3 H3 le3 jw q3 => ?_⟩
 exact ⟨w3,r1.d,S3,Qa,jw,rep1.le (le2.trans le3),q3,bk.le (le1.trans (le2.trans le3))⟩
theorem GX:∀ D σ H,f7 K Cs D σ H→Ab D σ H:=by
 rintro D σ H ⟨w,δ,S,Da,ok,env,q,bk⟩
 exact bk.nx δ S σ w H .refl ok env q
theorem JM {a b:AS}:∀ D σ H,f7 K (lC a b) D σ H→Dy (f7 K a) (f7 K b) D σ H:=by
 rintro D σ H ⟨w,δ,S,Da,ok,env,q,bk⟩
 refine ⟨w,δ,S,_,ok,env,q,⟨fun δ1 S1 σ1 w1 H1 le1 ok1 env1 q1 => ?_,bk.rt,bk.bk,bk.ct⟩⟩
 exact ⟨w1,δ1,S1,Da,ok1,env1,q1,bk.le le1⟩
theorem JN {a:AE}:∀ D σ H,f7 K (Jb a) D σ H→z9 (bB K a) D σ H:=by
 rintro D σ H ⟨w,δ,S,Da,ok,env,q,bk⟩
 exact ⟨w,δ,S,_,ok,env,q,bk.rt⟩
theorem G5 {a:AE}:∀ D σ H,f7 K (Cy a) D σ H→Ae (bB K a) D σ H:=by
 rintro D σ H ⟨w,δ,S,Da,ok,env,q,bk⟩
 exact ⟨w,δ,S,_,ok,env,q,.go fun r1 S1 v1 w1 H1 le1 ok1 rep1 q1=>bk.nx δ S1 σ w1 H1 le1 ok1 (env.le le1) q1⟩
theorem JR {c:AT}{a b:AS}:∀ D σ H,f7 K (Jg c a b) D σ H→Gp (kF K c) (f7 K a) (f7 K b) D σ H:=by
 rintro D σ H ⟨w,δ,S,Da,ok,env,q,bk⟩
 refine ⟨w,δ,S,_,ok,env,q,fun k S1 w1 H1 le1 ok1 q1 => ?_⟩
 cases k with
 | true=>exact vj ⟨w1,δ,S1,Da,ok1,env.le le1,by simpa using q1,bk.le le1⟩
 | false=>exact jC ⟨w1,δ,S1,Da,ok1,env.le le1,by simpa using q1,bk.le le1⟩
theorem lO {i:Nat}:∀ x σ H Q,vB K (bI i) x σ H Q→kP i x σ H Q:=by
 rintro x σ H Q ⟨w,d,δ,S,Qa,ok,env,rep,q,bk⟩
 exact bk _ S _ w H .refl ok (env.set rep i) q
theorem G3:∀ x σ H Q,tu K Cm x σ H Q→Kz x σ H Q:=by
 rintro x σ H Q ⟨w,ds,δ,S,Qa,ok,env,rep,⟨rfl,q⟩,bk⟩
 exact ⟨by simpa [ak] using rep,bk _ S _ w H .refl ok env q⟩
theorem DR {a:AG}{b:Dm}:∀ x σ H Q,tu K (q9 a b) x σ H Q→F0 (vB K a) (tu K b) x σ H Q:=by
 rintro x σ H Q ⟨w,ds,δ,S,Qa,ok,env,rep,⟨d,r,rfl,q⟩,bk⟩
 simp only [ak] at rep
 obtain ⟨v,vs,rfl,h1,h2⟩:=rep
 refine ⟨v,vs,rfl,w,d,δ,S,_,ok,env,h1,q,fun δ1 S1 σ1 w1 H1 le1 ok1 env1 q1 => ?_⟩
 exact ⟨w1,r,δ1,S1,Qa,ok1,env1,h2.le le1,q1,bk.le le1⟩
theorem G2 {n:Nat}{a:Dm}:∀ x σ H Q,vB K (Ck n a) x σ H Q→Kw K n (tu K a) x σ H Q:=by
 rintro x σ H Q ⟨w,d,δ,S,Qa,ok,env,rep,⟨ds,rfl,hl,q⟩,bk⟩
 simp only [Rep] at rep
 obtain ⟨p,xs,rfl,h1,h2⟩:=rep
 exact ⟨p,xs,rfl,eX.of (ok.base _ _ h1),by rw [h2.length];exact hl,w,ds,δ,S,Qa,ok,env,h2,q,bk⟩
theorem wK {a:AE}{g:AG}:∀ D σ H,f7 K (zA a g) D σ H→uv (bB K a) (vB K g) D σ H:=by
 rintro D σ H ⟨w,δ,S,Da,ok,env,q,bk⟩
 refine ⟨w,δ,S,_,ok,env,q,.go fun r1 S1 v1 w1 H1 le1 ok1 rep1 q1 => ?_⟩
 exact ⟨w1,r1.d,δ,S1,_,ok1,env.le le1,rep1,q1,bk.nx.le le1⟩
theorem JT {i:AI}{g:AG}{b:AS}:∀ D σ H,f7 K (nT i g b) D σ H→Gq (B6 K i) (vB K g) (f7 K b) D σ H:=by
 rintro D σ H ⟨w,δ,S,Da,ok,env,q,bk⟩
 refine ⟨w,δ,S,_,ok,env,q,fun ds P S1 J w1 H1 le1 ok1 it q1 => ?_⟩
 refine ⟨fun i m σ H=>m=ds.length - i∧i≤ds.length∧∃ w2 δ2 S2,w1.le w2∧Ok K w2 H S2∧eY K w2 δ2 σ∧fM P g b (ds.drop i) Da δ2 S2,⟨ds.length,by simp,zcy _,w1,δ,S1,.refl,ok1,env.le le1,by simpa using q1⟩,?_⟩
 rintro i m σ2 H2 ⟨rfl,hi,w2,δ2,S2,le2,ok2,env2,lp⟩
 by_cases hlt:i<ds.length
 ·rw [zag hlt] at lp
  obtain ⟨hP,lp⟩:=lp
  have hd:ds[i]? = some ds[i]:=zak hlt
  refine .inr ⟨it.go i H2 S2 w2 _ le2 ok2 hP hd,fun σ' H'=>∃ w3 δ3 S3,w1.le w3∧Ok K w3 H' S3∧eY K w3 δ3 σ'∧fM P g b (ds.drop (i+1)) Da δ3 S3,fun σ' H' h=>⟨_,by omega,rfl,hlt,h⟩,fun x H' y => ?_⟩
  obtain ⟨w2',le2',ok2,rx⟩:=it.zQ i H2 S2 w2 _ x H' le2 ok2 hP hd y
  replace env2:=env2.le le2'
  replace le2:=le2.trans le2'
  refine ⟨w2',ds[i],δ2,S2,_,ok2,env2,rx,lp,fun δ3 S3 σ3 w3 H3 le3 jw env3 q3 => ?_⟩
  have lew:=le1.trans (le2.trans le3)
  refine ⟨w3,δ3,S3,_,jw,env3,q3,⟨?_,bk.rt.le lew,bk.nx.le lew,?_⟩⟩
  ·exact fun δ4 S4 σ4 w4 H4 le4 ok4 env4 q4=>⟨w4,δ4,S4,le2.trans (le3.trans le4),ok4,env4,q4⟩
  ·exact fun δ4 S4 σ4 w4 H4 le4 ok4 env4 q4=>⟨w4,δ4,S4,le2.trans (le3.trans le4),ok4,env4,q4⟩
 ·have e:i=ds.length:=by omega
  subst e
  rw [List.drop_length] at lp
  exact .inl ⟨it.stop _ H2 S2 w2 le2 ok2 lp.1 rfl,bk.nx δ2 S2 σ2 w2 H2 (le1.trans le2) ok2 env2 lp.2⟩
theorem JI:∀ σ H Q,kF K ow σ H Q→Dw σ H Q:=by
 rintro σ H Q ⟨w,δ,S,Qa,ok,env,q,bk⟩
 exact bk true S w H .refl ok q
theorem BV {w:Wd}{δ:bH}{σ:St} (h:eY K w δ σ) (caps:List (Option Nat)):eY K w (nR caps δ) (om caps σ):=by
 refine ⟨by simp [nR,om],fun i d e => ?_⟩
 simp only [nR,zbf] at e
 cases q:caps[i]? with
 | none=>rw [q] at e;cases e
 | some o =>
  rw [q] at e
  cases o with
  | none=>simp at e
  | some j =>
   cases z:δ[j]? with
   | none=>rw [Option.map_some] at e;simp [z] at e
   | some d' =>
    simp [z] at e
    subst e
    obtain ⟨v,h1,h2⟩:=h.2 j d z
    exact ⟨v,by simp [om,zbf,q,h1],h2⟩
theorem uH {caps:List (Option Nat)}{i:AI}{g:AG}{t:AT}{e:AE}:∀ σ H Q,bB K (jP caps i g t e) σ H Q→rJ caps (B6 K i) (vB K g) (kF K t) (bB K e) σ H Q:=by
 rintro σ H Q ⟨w,δ,S,Qa,ok,env,q,bk⟩
 refine ⟨w,δ,S,_,ok,env,q,fun ds P S1 J w1 H1 le1 ok1 it q1 => ?_⟩
 refine ⟨fun i m xs τ H=>m=ds.length - i∧i≤ds.length∧∃ w2 δ2 S2 acc,w1.le w2∧Ok K w2 H S2∧eY K w2 δ2 τ∧ak K w2 acc xs∧cM P g t e (ds.drop i) acc δ2 S2 (fun ds' S2=>Qa (.new (.lst ds')) S2),
  ⟨ds.length,by simp,zcy _,w1,nR caps δ,S1,[],.refl,ok1,BV (env.le le1) caps,.nil,by simpa using q1⟩,?_⟩
 rintro i m xs τ2 H2 ⟨rfl,hi,w2,δ2,S2,acc,le2,ok2,env2,reps,lp⟩
 by_cases hlt:i<ds.length
 ·rw [zag hlt] at lp
  obtain ⟨hP,lp⟩:=lp
  have hd:ds[i]? = some ds[i]:=zak hlt
  refine .inr ⟨it.go i H2 S2 w2 _ le2 ok2 hP hd,fun ys τ' H'=>∃ w3 δ3 S3 acc,w1.le w3∧Ok K w3 H' S3∧eY K w3 δ3 τ'∧ak K w3 acc ys∧cM P g t e (ds.drop (i+1)) acc δ3 S3 (fun ds' S2=>Qa (.new (.lst ds')) S2),fun ys σ' H' h=>⟨_,by omega,rfl,hlt,h⟩,fun x H' y => ?_⟩
  obtain ⟨w2',le2',ok2,rx⟩:=it.zQ i H2 S2 w2 _ x H' le2 ok2 hP hd y
  replace env2:=env2.le le2'
  replace le2:=le2.trans le2'
  replace reps:=reps.le le2'
  refine ⟨w2',ds[i],δ2,S2,_,ok2,env2,rx,lp,fun δ3 S3 σ3 w3 H3 le3 jw env3 q3 => ?_⟩
  refine ⟨w3,δ3,S3,_,jw,env3,q3,fun k S4 w4 H4 le4 ok4 q4 => ?_⟩
  cases k with
  | false =>
   exact jC ⟨w4,δ3,S4,acc,le2.trans (le3.trans le4),ok4,env3.le le4,reps.le (le3.trans le4),by simpa using q4⟩
  | true =>
   rw [if_pos rfl] at q4
   refine vj ⟨w4,δ3,S4,_,ok4,env3.le le4,q4,.go fun r5 S5 v5 w5 H5 le5 ok5 rep5 ⟨hz,q5⟩ => ?_⟩
   exact ⟨by rw [reps.length];exact hz,w5,δ3,S5,acc++[r5.d],le2.trans (le3.trans (le4.trans le5)),ok5,env3.le (le4.trans le5),(reps.le (le3.trans (le4.trans le5))).snoc rep5,q5⟩
 ·have e:i=ds.length:=by omega
  subst e
  rw [List.drop_length] at lp
  refine .inl ⟨it.stop _ H2 S2 w2 le2 ok2 lp.1 rfl,fun p hp => ?_⟩
  exact bk (.new (.lst acc)) S2 _ w2 _ (le1.trans le2) (ok2.alloc hp) (ok2.fresh hp ⟨xs,rfl,reps⟩) lp.2
theorem Eu {w:Wd}{p:Addr}{xs:List V}{ds:List D} (h1:w.B p=some (.lst xs)) (h:ak K w ds xs):Ld K w (Lc K p) ds (fun _=>True) where
 go:=fun i H S w' d le ok hP e=>by
  obtain ⟨v,e1,_⟩:=h.get e
  exact ⟨xs,v,dh.of ((le.b.trans ok.base) _ _ h1),e1⟩
 zQ:=fun i H S w' d x H' le ok hP e y=>by
  obtain ⟨v,e1,e2⟩:=h.get e
  obtain ⟨y1,y2⟩:=y
  have:=y2 xs (dh.of ((le.b.trans ok.base) _ _ h1))
  rw [e1] at this;cases this
  subst y1
  exact ⟨w',.refl,ok,e2.le le⟩
 stop:=fun i H S w' le ok hP e=>⟨xs,dh.of ((le.b.trans ok.base) _ _ h1),by rw [h.length];omega⟩
theorem Ew {w:Wd}{p:Addr}{n:Nat}{ds:List D} (hp:w.r n=some p):Ld K w (Lc K p) ds (fun S=>S[n]? = some (some (.lst ds))) where
 go:=fun i H S w' d le ok hP e=>by
  obtain ⟨b,u,k1,k2,k3,ys,rfl,k5⟩:=ok.live n _ hP
  rw [le.r n p hp] at k1;cases k1
  obtain ⟨v,e1,_⟩:=k5.get e
  exact ⟨ys,v,dh.of k3,e1⟩
 zQ:=fun i H S w' d x H' le ok hP e y=>by
  obtain ⟨b,u,k1,k2,k3,ys,rfl,k5⟩:=ok.live n _ hP
  rw [le.r n p hp] at k1;cases k1
  obtain ⟨v,e1,e2⟩:=k5.get e
  obtain ⟨y1,y2⟩:=y
  have:=y2 ys (dh.of k3)
  rw [e1] at this;cases this
  subst y1
  exact ⟨w',.refl,ok,e2⟩
 stop:=fun i H S w' le ok hP e=>by
  obtain ⟨b,u,k1,k2,k3,ys,rfl,k5⟩:=ok.live n _ hP
  rw [le.r n p hp] at k1;cases k1
  exact ⟨ys,dh.of k3,by rw [k5.length];omega⟩
theorem Es {w:Wd}{p:Addr}{xs:List V}{ds:List D} (h1:w.B p=some (.tup xs)) (h2:ak K w ds xs):Ld K w (LC K p) ds (fun _=>True) where
 go:=fun i H S w' d le ok hP e=>by
  obtain ⟨v,e1,_⟩:=h2.get e
  exact ⟨xs,v,eX.of ((le.b.trans ok.base) _ _ h1),e1⟩
 zQ:=fun i H S w' d x H' le ok hP e y=>by
  obtain ⟨v,e1,e2⟩:=h2.get e
  obtain ⟨y1,y2⟩:=y
  have:=y2 xs (eX.of ((le.b.trans ok.base) _ _ h1))
  rw [e1] at this;cases this
  subst y1
  exact ⟨w',.refl,ok,e2.le le⟩
 stop:=fun i H S w' le ok hP e=>⟨xs,eX.of ((le.b.trans ok.base) _ _ h1),by rw [h2.length];omega⟩
theorem Et {w:Wd}{x:Str}:Ld K w (LD x) (signs x) (fun _=>True) where
 go:=fun i H S w' d le ok hP e=>by
  have:i<(signs x).length:=by
   rcases zcn i (signs x).length with h | h
   ·exact h
   ·rw [zav h] at e;cases e
  show i<x.cps.size
  simpa [signs] using this
 zQ:=fun i H S w' d y H' le ok hP e z=>by
  obtain ⟨z1,c,z2,rfl⟩:=z
  subst z1
  refine ⟨w',.refl,ok,?_⟩
  rw [signs,zbf] at e
  have z2':x.cps.toList[i]? = some c:=by simpa using z2
  rw [z2'] at e
  have:D.str ⟨#[c]⟩=d:=by simpa using e
  subst this
  exact .str
 stop:=fun i H S w' le ok hP e=>by
  show _=_
  rw [e];simp [signs]
noncomputable def BF (S1:au) (Q:List D→(au→Prop)→au→Prop):D→Prop
 | .lst ds=>Q ds (fun _=>True) S1
 | .tup ds=>Q ds (fun _=>True) S1
 | .str x=>Q (signs x) (fun _=>True) S1
 | .loc n=>∃ ds,S1[n]? = some (some (.lst ds))∧Q ds (fun S=>S[n]? = some (some (.lst ds))) S1
 | _=>False
noncomputable def BG (t:AE):AI:=fun δ S Q=>t δ S fun r S1=>BF S1 Q r.d
theorem G1 {t:AE}:∀ σ H R,B6 K (BG t) σ H R→(bB K t) σ H fun x H1=>(∃ a,x = .ref a∧(∃ xs,dh K H1 a xs)∧R (Lc K a) H1)∨(∃ a,x = .ref a∧(∃ xs,eX K H1 a xs)∧R (LC K a) H1)∨∃ y,x = .str y∧R (LD y) H1:=by
 rintro σ H R ⟨w,δ,S,Qa,ok,env,q,bk⟩
 refine ⟨w,δ,S,_,ok,env,q,.go fun r1 S1 v1 w1 H1 le1 ok1 rep1 q1 => ?_⟩
 generalize r1.d=d at rep1 q1
 cases d with
 | lst ds =>
  simp only [Rep] at rep1
  obtain ⟨p,xs,rfl,h1,h2⟩:=rep1
  exact .inl ⟨p,rfl,⟨xs,dh.of (ok1.base _ _ h1)⟩,bk ds _ S1 _ w1 H1 le1 ok1 (Eu h1 h2) q1⟩
 | tup ds =>
  simp only [Rep] at rep1
  obtain ⟨p,xs,rfl,h1,h2⟩:=rep1
  exact .inr (.inl ⟨p,rfl,⟨xs,eX.of (ok1.base _ _ h1)⟩,bk ds _ S1 _ w1 H1 le1 ok1 (Es h1 h2) q1⟩)
 | str x=>exact .inr (.inr ⟨x,xq rep1 rfl,bk _ _ S1 _ w1 H1 le1 ok1 Et q1⟩)
 | loc n =>
  simp only [Rep] at rep1
  obtain ⟨p,hp,rfl⟩:=rep1
  obtain ⟨ds,e,q1⟩:=q1
  obtain ⟨p',u,g1,g2,g3,xs,rfl,g5⟩:=ok1.live n _ e
  rw [hp] at g1;cases g1
  exact .inl ⟨p,rfl,⟨xs,dh.of g3⟩,bk ds _ S1 _ w1 H1 le1 ok1 (Ew hp) q1⟩
 | _=>exact q1.elim
theorem AQ {lo:Int}{n i:Nat}{d:D} (e:(c9 lo n)[i]? = some d):i<n∧d = .int (lo+(i:Int)):=by
 unfold c9 at e
 rw [zbf] at e
 by_cases h:i<n
 ·rw [List.getElem?_range h] at e
  exact ⟨h,by simpa using e.symm⟩
 ·rw [zav (by simpa using h)] at e;cases e
theorem G0 {a:AA}:∀ σ H R,B6 K (sN a) σ H R→BE (nL K a) σ H R:=by
 rintro σ H R ⟨w,δ,S,Qa,ok,env,q,bk⟩
 refine ⟨w,δ,S,_,ok,env,q,fun ds S1 vs w1 H1 le1 ok1 rep1 ⟨j,hd,⟨h1,h2⟩,q1⟩=>⟨j,?_,h1,h2,?_⟩⟩
 ·subst hd
  simp only [ak,Rep] at rep1
  obtain ⟨x,r,rfl,rfl,rfl⟩:=rep1
  rfl
 ·refine bk _ _ S1 _ w1 H1 le1 ok1 ⟨fun i H S w' d le ok hP e => ?_,fun i H S w' d x H' le ok hP e y => ?_,fun i H S w' le ok hP e => ?_⟩ q1
  ·exact (AQ e).1
  ·obtain ⟨y1,y2⟩:=y
   obtain ⟨e1,rfl⟩:=AQ e
   subst y2 y1
   exact ⟨w',.refl,ok,.int⟩
  ·show _≤_
   rw [e];simp [c9]
end
end M
namespace M
open PySem PySem.Spec PyProof.Rows L2
section
variable {X:Cx}{pos:Pos}{e a b c:Expr}{es:List Expr}
theorem pv (i:Nat) {x:Str} (hN:X.N[i]? = some x:=by rfl) (hv:K6 X.env.scope x:=by first | exact Or.inl rfl | exact Or.inr (Or.inl rfl) | exact Or.inr (Or.inr rfl)) (hd:(x==("__debug__" : Str))=false:=by decide)
  (hcd:(x==("__classdict__" : Str))=false:=by decide):GE X (.Name x pos) (nS i):=⟨mE (L2.A8 hN hv hd hcd) JJ⟩
theorem ah {i j}:GE X (.Constant (.int i) j pos) (aC (.int i)):=⟨mE L2.ah (JV fun _=>.int)⟩
theorem d9 {i j}:GE X (.Constant (.bool i) j pos) (aC (.bl i)):=⟨mE L2.d9 (JV fun _=>.bl)⟩
theorem aL {i j}:GE X (.Constant (.str i) j pos) (aC (.str i)):=⟨mE L2.aL (JV fun _=>.str)⟩
theorem m7 {j}:GE X (.Constant .none j pos) (aC .bN):=⟨mE L2.m7 (JV fun _=>.bN)⟩
theorem qt {x:Str}{d:D}{v:V}{u:Value} (hg:Gl X x) (hm:X.mg x=some u) (r:RelV v u) (h:∀ w,Rep X.K w d v) (hd:(x==("__debug__" : Str))=false:=by decide):GE X (.Name x pos) (aC d) :=
 ⟨mE (L2.qt hg hm r hd) (JV h)⟩
theorem aO {op:Operator}{r:A2}{ta tb:AE} (ho:vM X (binaryOp op) r) (ha:GE X a ta) (hb:GE X b tb):GE X (.BinOp a op b pos) (Jc r ta tb):=⟨mE (L2.aO ho.p ha.p hb.p) DQ⟩
theorem ju {op:CmpOp}{r:A2}{ta tb:AE} (ho:vM X (compareOp op) r) (ha:GE X a ta) (hb:GE X b tb) (hm:behindInMarks op b=false):GE X (.Compare a [op] [b] pos) (Jc r ta tb):=⟨mE (L2.ju ho.p ha.p hb.p hm) DQ⟩
theorem az {r:A2}{ta tb:AE} (ho:Na X r) (ha:GE X a ta) (hb:GE X b tb) (hs:rj b):GE X (.Subscript a b pos) (Jc r ta tb):=⟨mE (L2.az ho.p ha.p hb.p hs) DQ⟩
theorem aa:GA X [] vH:=⟨mA L2.aa JP⟩
theorem ao {ta:AE}{t:AA} (ha:GE X e ta) (hr:GA X es t) (hs:notStar e=true:=by rfl):GA X (e::es) (pJ ta t):=⟨mA (L2.ao ha.p hr.p hs) G7⟩
theorem aR {k:Nat}{t:AA} (h:GA X es t):GE X (.Tuple es k pos) (Cq t):=⟨mE (L2.aR h.p) JK⟩
theorem cy {t:AA} (h:GA X es t):GE X (.List es pos) (Jf t):=⟨mE (L2.cy h.p) JQ⟩
theorem zT {t:AE} (h:GE X e t):GE X e (fE t):=⟨mE h.p s_alloc⟩
theorem c5:GO X none rf:=⟨mO L2.c5 AH⟩
theorem cI {t:AE} (h:GE X e t):GO X (some e) (Cr t):=⟨mO (L2.cI h.p) GR⟩
structure M7 (X:Cx) (r:D→Option Int→Option Int→au→AK→Prop):Prop where
 p:zU X (F6 X.K r)
theorem b7 {lo hi:Option Expr}{p2:Pos}{r:D→Option Int→Option Int→au→AK→Prop}{te:AE}{tl th:AO} (hr:M7 X r) (he:GE X e te) (hl:GO X lo tl) (hu:GO X hi th):GE X (.Subscript e (.Slice lo hi none p2) pos) (MA r te tl th) :=
 ⟨mE (L2.b7 hr.p he.p hl.p hu.p) LQ⟩
theorem fW {id:String}{r:AN}{t:AA}{x:Str}{p:Pos} (hc:zL X (.builtin id) r) (hg:Gl X x) (hm:X.mg x=none) (hv:bootBuiltins x=some (.builtin id)) (ha:GA X (e::es) t) (hn:x ≠ "__name__" := by decide +kernel) (hdb:(x==("__debug__" : Str))=false:=by decide +kernel)
  (hs:(e::es).all notStar=true:=by rfl):GE X (.Call (.Name x p) (e::es) [] pos) (aCall r t):=⟨mE (L2.fW hc.p hg hm hv ha.p hn hdb hs) JU⟩
theorem Bb {T:String}{r:AN}{t:AA}{x:Str}{p:Pos} (hc:zL X (.type T) r) (hg:Gl X x) (hm:X.mg x=none) (hv:bootBuiltins x=some (.type T)) (ha:GA X (e::es) t) (hn:x ≠ "__name__" := by decide +kernel) (hdb:(x==("__debug__" : Str))=false:=by decide +kernel)
  (hs:(e::es).all notStar=true:=by rfl):GE X (.Call (.Name x p) (e::es) [] pos) (aCall r t):=⟨mE (L2.Bb hc.p hg hm hv ha.p hn hdb hs) JU⟩
theorem aH {k:Nat}{ps:List Str}{sp:AN}{t:AA}{x:Str}{p:Pos} (D:Def X.prog X.w X.K X.mg X.base k x ps (aW X.K sp)) (hr:bf k X.A) (hg:Gl X x) (ha:GA X (e::es) t) (hdb:(x==("__debug__" : Str))=false:=by decide +kernel) (hs:(e::es).all notStar=true:=by rfl) :
  GE X (.Call (.Name x p) (e::es) [] pos) (aCall sp t):=⟨mE (L2.aH D hr hg jv ha.p hdb hs) s_call⟩
theorem uQ {t:AE} (h:GE X e t) (he:∀ whole,isTrue e X.env whole=(do let v ← whole;standAt e.pos;holding [v] (truthy v)):=by intro _;rfl):GT X e (Ja t):=⟨mT (L2.A4 h.p he) JL⟩
theorem aA {op:CmpOp}{r:A2}{ta tb:AE} (ho:vM X (compareOp op) r) (ha:GE X a ta) (hb:GE X b tb) (hm:behindInMarks op b=false):GT X (.Compare a [op] [b] pos) (aB (Jc r ta tb)) :=
 ⟨mT (L2.aA ho.p ha.p hb.p hm) fun σ H Q h=>by
  obtain ⟨w,δ,S,Qa,ok,env,q,bk⟩:=s_b σ H Q h
  exact DQ σ H _ ⟨w,δ,S,Qa,ok,env,q,bk⟩⟩
theorem pw_pt {t:AT} (h:GW X e t):GT X e t:=⟨h.p.pt⟩
theorem pw_and1 {t:AT} (h:GT X a t):GW X (.BoolOp .And [a] pos) t:=⟨L2.pw_and1 h.p⟩
theorem pw_and {rest:List Expr}{t u:AT} (ha:GT X a t) (hb:GW X (.BoolOp .And (b::rest) pos) u):GW X (.BoolOp .And (a::b::rest) pos) (Jl t u):=⟨mW (L2.pw_and ha.p hb.p) JW⟩
theorem qo {t:AT} (h:GT X a t):GT X (.UnaryOp .Not a pos) (Jd t):=⟨mT (L2.qo h.p) JO⟩
theorem cH:Le X [] ow:=⟨mTs L2.cH JI⟩
theorem ff {t:AT} (h:GT X c t):Le X [c] t:=⟨L2.ff h.p⟩
theorem bK {tg:Expr}{t:AA}{p:Pos} (hg:Gl X "range") (hm:X.mg "range" = none) (ha:GA X [a] t) (hs:starEach [a] X.env=[(false,eval a X.env)]:=by rfl):GI X tg (.Call (.Name "range" p) [a] [] pos) (sN t):=⟨mI (L2.bK hg hm ha.p hs) G0⟩
theorem D6 {tg l:Expr}{tl:TE} (hl:PE X l tl):PI X tg l (fun σ H R=>tl σ H fun x H1=>(∃ a,x = .ref a∧(∃ xs,dh X.K H1 a xs)∧R (Lc X.K a) H1)∨(∃ a,x = .ref a∧(∃ xs,eX X.K H1 a xs)∧R (LC X.K a) H1)∨∃ y,x = .str y∧R (LD y) H1):=by
 intro pins s σ H R I h
 refine cF (hl pins s σ H _ I h) fun v s1 ⟨x,H1,I1,r1,q1⟩ => ?_
 rcases q1 with ⟨a,rfl,⟨xs,hq⟩,q⟩ | ⟨a,rfl,⟨xs,hq⟩,q⟩ | ⟨y,rfl,q⟩
 ·cases r1
  obtain ⟨its,rv,p,hz⟩:=I1.list hq
  refine wpAny_pyIter_list p.isList ?_
  refine ⟨s1.heap.objs.size,[s1.heap.objs.size],_,_,H1,rfl,I1.kept (t':=s1.toks) fun b o e=>zaq _ e,yv a _,⟨_,zaQ _ rfl,rfl,rfl⟩,fun b hb => ?_,q⟩
  have e:b=s1.heap.objs.size:=by simpa using hb
  subst e
  exact I1.zb (zcx _) (I1.hok.fresh (zcx _))
 ·cases r1
  obtain ⟨its,rv,p,hz⟩:=I1.tuple hq
  refine wpAny_pyIter_tuple (show s1.heap.IsTuple a its.toArray from p) ?_
  refine ⟨s1.heap.objs.size,[s1.heap.objs.size],_,_,H1,rfl,I1.kept (t':=s1.toks) fun b o e=>zaq _ e,uq a _,⟨_,zaQ _ rfl,rfl,rfl⟩,fun b hb => ?_,q⟩
  have e:b=s1.heap.objs.size:=by simpa using hb
  subst e
  exact I1.zb (zcx _) (I1.hok.fresh (zcx _))
 ·obtain ⟨t,rfl⟩:=r1
  refine wpAny_pyIter_strU ?_
  refine ⟨s1.heap.objs.size,[s1.heap.objs.size],_,_,H1,rfl,I1.kept (t':=s1.toks) fun b o e=>zaq _ e,zX _ y t,⟨_,zaQ _ rfl,rfl,rfl⟩,fun b hb => ?_,q⟩
  have e:b=s1.heap.objs.size:=by simpa using hb
  subst e
  exact I1.zb (zcx _) (I1.hok.fresh (zcx _))
theorem ck {tg l:Expr}{tl:AE} (hl:GE X l tl):GI X tg l (BG tl):=⟨mI (D6 hl.p) G1⟩
theorem cT {elt tg iter:Expr}{ifs:List Expr}{scope:Scope}{N:List Str}{caps:List (Option Nat)}{wi:AI}{g:AG}{tt:AT}{te:AE}
  (S:cQ scope N) (hcap:gG X.N X.env scope N caps=true) (hfr:L2.freeOk X.env scope=true) (hc:X.calm=true) (hi:GI X tg iter wi)
  (hg:∀ s₀ H₀ C fp,GG (iz X scope N s₀ H₀ C fp) tg g) (ht:∀ s₀ H₀ C fp,Le (iz X scope N s₀ H₀ C fp) ifs tt) (he:∀ s₀ H₀ C fp,GE (iz X scope N s₀ H₀ C fp) elt te)
  (hs:∀ x,foldedSetIterable iter X.env x=pure x:=by intro _;rfl):GE X (.ListComp elt [⟨tg,iter,ifs,0⟩] scope pos) (jP caps wi g tt te) :=
 ⟨mE (L2.cT S hcap hfr hc hi.p (fun s₀ H₀ C fp=>(hg s₀ H₀ C fp).p) (fun s₀ H₀ C fp=>(ht s₀ H₀ C fp).p) (fun s₀ H₀ C fp=>(he s₀ H₀ C fp).p) hs) uH⟩
theorem aQ:zN X [] Cs:=⟨Me L2.aQ GX⟩
theorem aj {st:Stmt}{t:AS} (h:GS X st t):zN X [st] t:=⟨L2.aj h.p⟩
theorem af {st:Stmt}{rest:List Stmt}{t u:AS} (h:GS X st t) (g:zN X rest u):zN X (st::rest) (lC t u):=⟨Me (L2.af h.p g.p) JM⟩
theorem aE {t:AE} (h:GE X e t) (hs:swapsWith e none pos.line X.env=pure false:=by rfl):GS X (.Expr e pos) (Cy t):=⟨mS (L2.aE h.p hs) G5⟩
theorem aV {t:AE} (h:GE X e t):GS X (.Return (some e) pos) (Jb t):=⟨mS (L2.aV h.p) JN⟩
theorem bG {p q:List Stmt}{tc:AT}{t u:AS} (hc:GT X c tc) (ha:zN X p t) (hb:zN X q u):GS X (.If c p q pos) (Jg tc t u):=⟨mS (L2.bG hc.p ha.p hb.p) JR⟩
theorem aq {i:Nat}{x:Str} (hN:X.N.Nodup) (hi:X.N[i]? = some x) (hx:Loc X.env.scope x) (hf:X.fn x=true∨X.env.scope.names.lookup x=some .local:=by first | exact .inl rfl | exact .inr rfl | assumption):GG X (.Name x pos) (bI i):=⟨mG (L2.aq hN hi hx hf) lO⟩
theorem dQ:LF X [] Cm:=⟨MR L2.dQ G3⟩
theorem aY {t:AG}{u:Dm} (h1:GG X e t) (h2:LF X es u) (hs:(assignEach (e::es) X.env).map (·.2)=assign e X.env::(assignEach es X.env).map (·.2):=by rfl):LF X (e::es) (q9 t u):=⟨MR (L2.aY h1.p h2.p hs) DR⟩
theorem fu {k:Nat}{t:Dm}{n:Nat} (hc:X.calm=true) (h:LF X es t) (hn:(assignEach es X.env).length=n:=by rfl) (hst:(assignEach es X.env).findIdx? (·.1)=none:=by rfl):GG X (.Tuple es k pos) (Ck n t):=⟨mG (L2.fu hc h.p hn hst) G2⟩
theorem qp {tg:Expr}{t:AE}{g:AG} (he:GE X e t) (hg:GG X tg g) (hs:swapsWithSole [tg] e pos.line X.env=pure false:=by rfl) (hw:swappedStores [tg] e X.env=pure none:=by rfl)
  (h1:(assignEach [tg] X.env).map (·.2)=[assign tg X.env]:=by rfl):GS X (.Assign [tg] e pos) (zA t g):=⟨mS (L2.qp he.p hg.p hs hw h1) wK⟩
theorem aD {i:Nat}{x:Str}{t:AE}{pos':Pos} (hN:X.N.Nodup) (hi:X.N[i]? = some x) (hx:Loc X.env.scope x) (he:GE X e t) (hs:swapsWith e (some (.Name x pos')) pos.line X.env=pure false:=by rfl) (hf:X.fn x=true∨X.env.scope.names.lookup x=some .local:=by first | exact .inl rfl | exact .inr rfl | assumption) :
  GS X (.Assign [.Name x pos'] e pos) (zA t (bI i)):=⟨mS (L2.aD hN hi hx he.p hs hf) fun D σ H h=>by
  obtain ⟨w,δ,S,Qa,ok,env,q,bk⟩:=wK D σ H h
  exact ⟨w,δ,S,Qa,ok,env,q,fun r S' v w' H' le ok' rep q'=>lO _ _ _ _ (bk r S' v w' H' le ok' rep q')⟩⟩
theorem bL {elt tg iter:Expr}{ifs:List Expr}{scope:Scope}{N:List Str}{caps:List (Option Nat)}{pos' spos:Pos}{wi:AI}{g:AG}{tt:AT}{te:AE}{i:Nat}{x:Str}
  (hN:X.N.Nodup) (hix:X.N[i]? = some x) (hx:X.env.scope.names.lookup x=some .local)
  (S:cQ scope N) (hcap:gG X.N X.env scope N caps=true) (hfr:L2.freeOk X.env scope=true) (hc:X.calm=true) (hi:GI X tg iter wi)
  (hg:∀ s₀ H₀ C fp,GG (iz X scope N s₀ H₀ C fp) tg g) (ht:∀ s₀ H₀ C fp,Le (iz X scope N s₀ H₀ C fp) ifs tt) (he:∀ s₀ H₀ C fp,GE (iz X scope N s₀ H₀ C fp) elt te)
  (hsw:swapsWith (.ListComp elt [⟨tg,iter,ifs,0⟩] scope pos) (some (.Name x pos')) spos.line X.env=pure true:=by rfl)
  (hs:∀ x,foldedSetIterable iter X.env x=pure x:=by intro _;rfl):GS X (.Assign [.Name x pos'] (.ListComp elt [⟨tg,iter,ifs,0⟩] scope pos) spos) (zA (jP caps wi g tt te) (bI i)) :=
 ⟨mS (L2.bL hN hix hx S hcap hfr hc hi.p (fun s₀ H₀ C fp=>(hg s₀ H₀ C fp).p) (fun s₀ H₀ C fp=>(ht s₀ H₀ C fp).p) (fun s₀ H₀ C fp=>(he s₀ H₀ C fp).p) hsw hs) fun D σ H h=>by
  obtain ⟨w,δ,S,Qa,ok,env,q,bk⟩:=wK D σ H h
  exact uH _ _ _ ⟨w,δ,S,Qa,ok,env,q,fun r S' v w' H' le ok' rep q'=>lO _ _ _ _ (bk r S' v w' H' le ok' rep q')⟩⟩
theorem se {elt tg iter:Expr}{ifs:List Expr}{scope:Scope}{N:List Str}{caps:List (Option Nat)}{pos' spos:Pos}{wi:AI}{g:AG}{tt:AT}{te:AE}{i:Nat}{x:Str}
  (hN:X.N.Nodup) (hix:X.N[i]? = some x) (hx:X.env.scope.names.lookup x=some .local)
  (S:cQ scope N) (hcap:gG X.N X.env scope N caps=true) (hfr:L2.freeOk X.env scope=true) (hc:X.calm=true) (hi:GI X tg iter wi)
  (hg:∀ s₀ H₀ C fp,GG (iz X scope N s₀ H₀ C fp) tg g) (ht:∀ s₀ H₀ C fp,Le (iz X scope N s₀ H₀ C fp) ifs tt) (he:∀ s₀ H₀ C fp,GE (iz X scope N s₀ H₀ C fp) elt te)
  (hsw:swapsWith (.ListComp elt [⟨tg,iter,ifs,0⟩] scope pos) (some (.Name x pos')) spos.line X.env=pure true:=by rfl)
  (hs:∀ x,foldedSetIterable iter X.env x=pure x:=by intro _;rfl):GS X (.Assign [.Name x pos'] (.ListComp elt [⟨tg,iter,ifs,0⟩] scope pos) spos) (zA (fE (jP caps wi g tt te)) (bI i)) :=
 ⟨mS (L2.bL hN hix hx S hcap hfr hc hi.p (fun s₀ H₀ C fp=>(hg s₀ H₀ C fp).p) (fun s₀ H₀ C fp=>(ht s₀ H₀ C fp).p) (fun s₀ H₀ C fp=>(he s₀ H₀ C fp).p) hsw hs) fun D σ H h=>by
  obtain ⟨w,δ,S,Qa,ok,env,q,bk⟩:=s_alloc σ H _ (wK D σ H h)
  exact uH _ _ _ ⟨w,δ,S,Qa,ok,env,q,fun r S' v w' H' le ok' rep q'=>lO _ _ _ _ (bk r S' v w' H' le ok' rep q')⟩⟩
theorem cV {tg iter:Expr}{body:List Stmt}{wi:AI}{g:AG}{tb:AS} (hp:PassesOwn (model X.prog X.w) X.A X.env X.xe) (hc:X.calm=true) (hi:GI X tg iter wi) (hg:GG X tg g) (hb:zN X body tb)
  (hs:∀ x,foldedSetIterable iter X.env x=pure x:=by intro _;rfl):GS X (.For tg iter body [] pos) (nT wi g tb):=⟨mS (L2.cV hp hc hi.p hg.p hb.p hs) JT⟩
end
section
variable {X:Cx}
theorem HA {f:Value→Value→Sem Value}{r r':R2} (h:gh X f r) (h':gh X f r'):gh X f (fun x y H Q=>r x y H Q∨r' x y H Q):=by
 intro pins s σ H x y v u Q I rx ry q
 rcases q with q | q
 ·exact h pins s σ H x y v u Q I rx ry q
 ·exact h' pins s σ H x y v u Q I rx ry q
theorem MQ {f:Value}{r r':List V→Hp→VK→Prop} (h:bV X f r) (h':bV X f r'):bV X f (fun x H Q=>r x H Q∨r' x H Q):=by
 intro pins s σ H x v Q I rx q
 rcases q with q | q
 ·exact h pins s σ H x v Q I rx q
 ·exact h' pins s σ H x v Q I rx q
variable {K:PySem.W.Frag}{w:Wd}{H:Hp}{S:au}{v u:V}{d e:D}
theorem cR {i:Int} (h:Rep K w d v) (z:bD S d = .int i):v = .int i:=by
 cases d <;> simp only [bD] at z
 case loc n=>split at z <;> first | (rename_i o _;cases o <;> simp [MO.d] at z) | cases z
 all_goals first | cases z | skip
 simpa [Rep] using h
theorem bP {i:Str} (h:Rep K w d v) (z:bD S d = .str i):v = .str i:=by
 cases d <;> simp only [bD] at z
 case loc n=>split at z <;> first | (rename_i o _;cases o <;> simp [MO.d] at z) | cases z
 all_goals first | cases z | skip
 simpa [Rep] using h
theorem gv {i:Bool} (h:Rep K w d v) (z:bD S d = .bl i):v = .bl i:=by
 cases d <;> simp only [bD] at z
 case loc n=>split at z <;> first | (rename_i o _;cases o <;> simp [MO.d] at z) | cases z
 all_goals first | cases z | skip
 simpa [Rep] using h
theorem gY {ns:List Int} (k:Ok K w H S) (h:Rep K w d v) (z:bD S d = .k6 ns):∃ a,v = .ref a∧dh K H a (ns.map V.int):=by
 cases d <;> simp only [bD] at z
 case loc n=>split at z <;> first | (rename_i o _;cases o <;> simp [MO.d] at z) | cases z
 all_goals first | cases z | skip
 simp only [Rep] at h
 obtain ⟨a,h1,h2⟩:=h
 exact ⟨a,h1,k.base.seq h2⟩
noncomputable def aI (C:Int→Int→Prop) (g:Int→Int→D):A2:=fun x y S Q=>∃ i j,x = .int i∧y = .int j∧C i j∧Q (.dat (g i j)) S
theorem Mw {C:Int→Int→Prop}{g:Int→Int→D}{g':Int→Int→V} (h:∀ w i j,Rep K w (g i j) (g' i j)):∀ x y H Q,zh K (aI C g) x y H Q→rI C g' x y H Q:=by
 rintro x y H Q ⟨w,d,e,S,Qa,ok,r1,r2,⟨i,j,e1,e2,hc,q⟩,bk⟩
 exact ⟨i,j,bM r1 e1,bM r2 e2,hc,bk.dat .refl ok (h w i j) q⟩
theorem Hu {g:Int→Int→V}:∀ x y H Q,rI (fun _ _=>True) g x y H Q→De g x y H Q:=by
 rintro x y H Q ⟨i,j,h1,h2,_,q⟩
 exact ⟨i,j,h1,h2,q⟩
theorem uT:vM X (binaryOp .FloorDiv) (aI C9 fun i j=>.int (i / j)):=⟨m2 L2.xA (Mw fun _ _ _=>.int)⟩
theorem Bj:vM X (binaryOp .Mod) (aI (fun _ j=>0<j) fun i j=>.int (i % j)):=⟨m2 L2.fz (Mw fun _ _ _=>.int)⟩
theorem HP:vM X (compareOp .GtE) (aI (fun _ _=>True) fun i j=>.bl (decide (j≤i))):=⟨m2 L2.J6 fun x y H Q h=>Hu x y H Q (Mw (g':=fun i j=>.bl (decide (j≤i))) (fun _ _ _=>.bl) x y H Q h)⟩
noncomputable def aLt:A2:=fun x y S Q=>match x,y with
 | .int i,.int j=>Q (.dat (.bl (decide (i<j)))) S
 | .str i,.str j=>Q (.dat (.bl (decide (i.cps.toList<j.cps.toList)))) S
 | _,_=>False
noncomputable def MY:A2:=fun x y S Q=>match x,y with
 | .int i,.int j=>Q (.dat (.bl (decide (i≤j)))) S
 | .str i,.str j=>Q (.dat (.bl (!decide (j.cps.toList<i.cps.toList)))) S
 | _,_=>False
noncomputable def Ff:A2:=fun x y S Q=>match bD S x,bD S y with
 | .int i,.int j=>Q (.dat (.int (i+j))) S
 | .str i,.str j=>i.length+j.length≤sizeLine∧Q (.dat (.str (i++j))) S
 | .lst xs,.lst ys=>xs.length+ys.length≤sizeLine∧Q (.new (.lst (xs++ys))) S
 | .tup xs,.tup ys=>xs≠[]∧xs.length+ys.length≤sizeLine∧Q (.dat (.tup (xs++ys))) S
 | _,_=>False
theorem jx:vM X (binaryOp .Add) Ff:=⟨m2 (HA L2.dH (HA L2.iW (HA L2.Be L2.Ea))) fun x y H Q h=>by
 obtain ⟨w,d,e,S,Qa,ok,r1,r2,q,bk⟩:=h
 unfold Ff at q
 cases z1:bD S d <;> cases z2:bD S e <;> rw [z1,z2] at q <;> first | exact q.elim | skip
 ·exact .inl ⟨_,_,cR r1 z1,cR r2 z2,bk.dat .refl ok .int q⟩
 ·exact .inr (.inl ⟨_,_,bP r1 z1,bP r2 z2,q.1,bk.dat .refl ok .str q.2⟩)
 ·obtain ⟨a,xs,rfl,h1,g1⟩:=fc ok r1 z1
  obtain ⟨b,ys,rfl,h2,g2⟩:=fc ok r2 z2
  obtain ⟨hne,hl,q⟩:=q
  refine .inr (.inr (.inr ⟨a,b,xs,ys,rfl,rfl,eX.of h1,eX.of h2,?_,by rw [g1.length,g2.length];exact hl,fun hy => ?_,fun hy p hp => ?_⟩))
  ·intro z;subst z
   have:=g1.length
   simp at this
   exact hne (zaa this.symm)
  ·subst hy
   have:_=[]:=zaa g2.length.symm
   rw [this,zbK] at q
   cases d <;> simp only [bD] at z1
   case tup=>cases z1;exact bk.dat .refl ok r1 q
   case loc n=>split at z1 <;> first | (rename_i o _;cases o <;> simp [MO.d] at z1) | cases z1
   all_goals cases z1
  ·obtain ⟨w2,le2,ok2,rep2⟩:=ok.qF hp (g1.append g2)
   exact bk.dat le2 ok2 rep2 q
 ·obtain ⟨a,xs,rfl,h1,g1⟩:=bX ok r1 z1
  obtain ⟨b,ys,rfl,h2,g2⟩:=bX ok r2 z2
  refine .inr (.inr (.inl ⟨a,b,xs,ys,rfl,rfl,h1,h2,by rw [g1.length,g2.length];exact q.1,fun p hp => ?_⟩))
  exact bk (.new (.lst _)) S _ w _ .refl (ok.alloc hp) (ok.fresh hp ⟨_,rfl,g1.append g2⟩) q.2⟩
end
end M
namespace M
open PySem PySem.Spec PyProof.Rows PySem.SeqAt L2
mutual
noncomputable def b6:D→Bool
 | .bN | .bl _ | .int _ | .str _=>true
 | .tup ds | .lst ds=>bU ds
 | _=>false
noncomputable def bU:List D→Bool
 | []=>true
 | d::ds=>b6 d&&bU ds
end
mutual
noncomputable def py:D→PyData
 | .bN=>.none
 | .bl b=>.bool b
 | .int i=>.int i
 | .str x=>.str x
 | .tup ds=>.tuple (cY ds)
 | .lst ds=>.list (cY ds)
 | _=>.none
noncomputable def cY:List D→List PyData
 | []=>[]
 | d::ds=>py d::cY ds
end
section
variable {K:PySem.W.Frag}{w:Wd}{H:Hp}{S:au}
mutual
theorem B0 (e:fF w.B H):∀ (d:D) (v:V),b6 d=true→Rep K w d v→bC K H (py d) v
 | .bN,v,_,h=>by simpa [Rep,py,bC] using h
 | .bl _,v,_,h=>by simpa [Rep,py,bC] using h
 | .int _,v,_,h=>by simpa [Rep,py,bC] using h
 | .str _,v,_,h=>by simpa [Rep,py,bC] using h
 | .tup ds,v,hp,h=>by
  simp only [Rep,py,bC] at h ⊢
  obtain ⟨a,xs,h1,h2,h3⟩:=h
  exact ⟨a,xs,h1,eX.of (e _ _ h2),jJ e ds xs (by simpa [b6] using hp) h3⟩
 | .lst ds,v,hp,h=>by
  simp only [Rep,py,bC] at h ⊢
  obtain ⟨a,xs,h1,h2,h3⟩:=h
  exact ⟨a,xs,h1,dh.of (e _ _ h2),jJ e ds xs (by simpa [b6] using hp) h3⟩
 | .dct _ _,_,hp,_=>by simp [b6] at hp
 | .loc _,_,hp,_=>by simp [b6] at hp
 | .ty _,_,hp,_=>by simp [b6] at hp
 | .k6 _,_,hp,_=>by simp [b6] at hp
 | .Dd _,_,hp,_=>by simp [b6] at hp
 | .fd,_,hp,_=>by simp [b6] at hp
 | .fn _,_,hp,_=>by simp [b6] at hp
theorem jJ (e:fF w.B H):∀ (ds:List D) (vs:List V),bU ds=true→ak K w ds vs→dw K H (cY ds) vs
 | [],vs,_,h=>by simpa [ak,cY,dw] using h
 | d::ds,vs,hp,h=>by
  simp only [bU,zbE] at hp
  simp only [ak,cY,dw] at h ⊢
  obtain ⟨x,r,h1,h2,h3⟩:=h
  exact ⟨x,r,h1,B0 e d x hp.1 h2,jJ e ds r hp.2 h3⟩
end
theorem p9 (k:Ok K w H S) {d:D}{v:V} (h:Rep K w d v) (hp:b6 (bD S d)=true):bC K H (py (bD S d)) v:=by
 cases d with
 | loc n =>
  cases z:bD S (.loc n) with
  | lst ds =>
   rw [z] at hp
   obtain ⟨a,xs,rfl,h1,h2⟩:=bX k h z
   simp only [py,bC]
   exact ⟨a,xs,rfl,dh.of h1,jJ k.base ds xs (by simpa [b6] using hp) h2⟩
  | _ =>
   rw [z] at hp
   simp only [bD] at z
   split at z <;> first | (rename_i o _;cases o <;> simp [MO.d] at z) | (cases z;simp [b6] at hp) | cases z
   all_goals simp [b6] at hp
 | _=>exact B0 k.base _ v (by simpa [bD] using hp) h
end
noncomputable def fit (d:D):Bool:=b6 d&&shaped (py d)
noncomputable def LA:A2:=fun x y S Q=>match bD S x,bD S y with
 | .str a,.str b=>Q (.dat (.bl (decide (a=b)))) S
 | .int a,.int b=>Q (.dat (.bl (decide (a=b)))) S
 | .bl a,.bl b=>Q (.dat (.bl (decide (a=b)))) S
 | x',y'=>fit x'=true∧fit y'=true∧Q (.dat (.bl (PyData.eqv (py x') (py y')))) S
noncomputable def Fb:A2:=fun x y S Q=>match bD S x,bD S y with
 | .str a,.str b=>Q (.dat (.bl (!decide (a=b)))) S
 | .int a,.int b=>Q (.dat (.bl (!decide (a=b)))) S
 | .bl a,.bl b=>Q (.dat (.bl (!decide (a=b)))) S
 | x',y'=>fit x'=true∧fit y'=true∧Q (.dat (.bl (!PyData.eqv (py x') (py y')))) S
section
variable {X:Cx}
noncomputable def L6 (K:PySem.W.Frag):R2:=fun x y H Q=>∃ a b,bC K H a x∧bC K H b y∧shaped a=true∧shaped b=true∧Q (.bl (PyData.eqv a b)) H
noncomputable def L0 (K:PySem.W.Frag):R2:=fun x y H Q=>∃ a b,bC K H a x∧bC K H b y∧shaped a=true∧shaped b=true∧Q (.bl (!PyData.eqv a b)) H
theorem HK {k:Nat} (hr:bf k X.A):gh X (compareOp .Eq) (L6 X.K):=by
 intro pins s σ H x y v u Q I rx ry h
 obtain ⟨a,b,h1,h2,h3,h4,q⟩:=h
 obtain ⟨as,ra⟩:=I.reads a x v h1 rx
 obtain ⟨bs,rb⟩:=I.reads b y u h2 ry
 exact eq_dataH ra rb h3 h4 hr.units ⟨.bl _,H,I,rfl,q⟩
theorem HF {k:Nat} (hr:bf k X.A):gh X (compareOp .NotEq) (L0 X.K):=by
 intro pins s σ H x y v u Q I rx ry h
 obtain ⟨a,b,h1,h2,h3,h4,q⟩:=h
 obtain ⟨as,ra⟩:=I.reads a x v h1 rx
 obtain ⟨bs,rb⟩:=I.reads b y u h2 ry
 exact ne_dataH ra rb h3 h4 hr.units ⟨.bl _,H,I,rfl,q⟩
theorem dR {K:PySem.W.Frag}{w:Wd}{H:Hp}{S:au}{d:D}{v:V} (k:Ok K w H S) (h:Rep K w d v) (hf:fit (bD S d)=true):bC K H (py (bD S d)) v∧shaped (py (bD S d))=true:=by
 unfold fit at hf
 rw [zbE] at hf
 exact ⟨p9 k h hf.1,hf.2⟩
theorem ng {k:Nat} (hr:bf k X.A):vM X (compareOp .Eq) LA:=⟨m2 (HA L2.Bd (HK hr)) fun x y H Q h=>by
 obtain ⟨w,d,e,S,Qa,ok,r1,r2,q,bk⟩:=h
 unfold LA at q
 split at q
 next a b z1 z2 =>
  refine .inl ⟨by rw [bP r1 z1,bP r2 z2];rfl,?_⟩
  rw [bP r1 z1,bP r2 z2]
  exact bk.dat .refl ok (by rw [show decide (V.str a=V.str b)=decide (a=b) by simp];exact .bl) q
 next a b z1 z2 =>
  refine .inl ⟨by rw [cR r1 z1,cR r2 z2];rfl,?_⟩
  rw [cR r1 z1,cR r2 z2]
  exact bk.dat .refl ok (by rw [show decide (V.int a=V.int b)=decide (a=b) by simp];exact .bl) q
 next a b z1 z2 =>
  refine .inl ⟨by rw [gv r1 z1,gv r2 z2];rfl,?_⟩
  rw [gv r1 z1,gv r2 z2]
  exact bk.dat .refl ok (by rw [show decide (V.bl a=V.bl b)=decide (a=b) by simp];exact .bl) q
 next =>
  obtain ⟨f1,f2,q⟩:=q
  obtain ⟨g1,s1⟩:=dR ok r1 f1
  obtain ⟨g2,s2⟩:=dR ok r2 f2
  exact .inr ⟨_,_,g1,g2,s1,s2,bk.dat .refl ok .bl q⟩⟩
theorem qA {k:Nat} (hr:bf k X.A):vM X (compareOp .NotEq) Fb:=⟨m2 (HA L2.J4 (HF hr)) fun x y H Q h=>by
 obtain ⟨w,d,e,S,Qa,ok,r1,r2,q,bk⟩:=h
 unfold Fb at q
 split at q
 next a b z1 z2 =>
  refine .inl ⟨by rw [bP r1 z1,bP r2 z2];rfl,?_⟩
  rw [bP r1 z1,bP r2 z2]
  exact bk.dat .refl ok (by rw [show decide (V.str a=V.str b)=decide (a=b) by simp];exact .bl) q
 next a b z1 z2 =>
  refine .inl ⟨by rw [cR r1 z1,cR r2 z2];rfl,?_⟩
  rw [cR r1 z1,cR r2 z2]
  exact bk.dat .refl ok (by rw [show decide (V.int a=V.int b)=decide (a=b) by simp];exact .bl) q
 next a b z1 z2 =>
  refine .inl ⟨by rw [gv r1 z1,gv r2 z2];rfl,?_⟩
  rw [gv r1 z1,gv r2 z2]
  exact bk.dat .refl ok (by rw [show decide (V.bl a=V.bl b)=decide (a=b) by simp];exact .bl) q
 next =>
  obtain ⟨f1,f2,q⟩:=q
  obtain ⟨g1,s1⟩:=dR ok r1 f1
  obtain ⟨g2,s2⟩:=dR ok r2 f2
  exact .inr ⟨_,_,g1,g2,s1,s2,bk.dat .refl ok .bl q⟩⟩
noncomputable def inD (d:D) (ds:List D):Bool:=ds.any fun y=>PyData.eqv (py y) (py d)
noncomputable def zv (neg:Bool):A2:=fun x y S Q=>match bD S y with
 | .tup ds=>fit (bD S x)=true∧fit (.tup ds)=true∧Q (.dat (.bl (neg != inD (bD S x) ds))) S
 | .lst ds=>fit (bD S x)=true∧fit (.lst ds)=true∧Q (.dat (.bl (neg != inD (bD S x) ds))) S
 | .Dd ss=>fit (bD S x)=true∧fit (.tup (ss.map D.str))=true∧Q (.dat (.bl (neg != inD (bD S x) (ss.map D.str)))) S
 | _=>False
noncomputable def Hr (K:PySem.W.Frag) (neg:Bool):R2:=fun x y H Q=>∃ d ds,bC K H d x∧(bC K H (.tuple ds) y∨bC K H (.list ds) y)∧shaped d=true∧PyData.canLayAll0 ds=true∧Q (.bl (neg != ds.any fun y=>PyData.eqv y d)) H
theorem HJ {k:Nat} (hr:bf k X.A):gh X (compareOp .In) (Hr X.K false):=by
 intro pins s σ H x y v u Q I rx ry h
 obtain ⟨d,ds,h1,h2,h3,h4,q⟩:=h
 obtain ⟨as,ra⟩:=I.reads d x v h1 rx
 have hu:=hr.un
 rcases h2 with h2 | h2
 ·obtain ⟨bs,rb⟩:=I.reads _ y u h2 ry
  exact PySem.SeqAt.in_tuple_reads rb ra h4 (canLay_of_shaped h3) (room_in_shaped h3 (by omega)) ⟨.bl _,H,I,by simp [L2.RelV],q⟩
 ·obtain ⟨bs,rb⟩:=I.reads _ y u h2 ry
  exact PySem.SeqAt.in_list_reads rb ra h4 (canLay_of_shaped h3) (room_in_shaped h3 (by omega)) ⟨.bl _,H,I,by simp [L2.RelV],q⟩
theorem yH {k:Nat} (hr:bf k X.A):gh X (compareOp .NotIn) (Hr X.K true):=by
 intro pins s σ H x y v u Q I rx ry h
 obtain ⟨d,ds,h1,h2,h3,h4,q⟩:=h
 obtain ⟨as,ra⟩:=I.reads d x v h1 rx
 have hu:=hr.un
 rcases h2 with h2 | h2
 ·obtain ⟨bs,rb⟩:=I.reads _ y u h2 ry
  exact PySem.SeqAt.notIn_tuple_reads rb ra h4 (canLay_of_shaped h3) (room_in_shaped h3 (by omega)) ⟨.bl _,H,I,by simp [L2.RelV],q⟩
 ·obtain ⟨bs,rb⟩:=I.reads _ y u h2 ry
  exact PySem.SeqAt.notIn_list_reads rb ra h4 (canLay_of_shaped h3) (room_in_shaped h3 (by omega)) ⟨.bl _,H,I,by simp [L2.RelV],q⟩
theorem qm (ds:List D):cY ds=ds.map py:=by
 induction ds with
 | nil=>rfl
 | cons d ds ih=>simp [cY,ih]
theorem qZ (ds:List D) (p:PyData→Bool):(cY ds).any p=ds.any fun y=>p (py y):=by
 rw [qm,zch];rfl
theorem wj {K:PySem.W.Frag}{H:Hp}:∀ (ss:List Str),dw K H (cY (ss.map D.str)) (ss.map V.str)
 | []=>by simp [cY,dw]
 | s::ss=>by
  simp only [zcb,cY,dw,py,bC]
  exact ⟨_,_,rfl,rfl,wj ss⟩
theorem DH {K:PySem.W.Frag}{w:Wd}{H:Hp}{S:au}{d:D}{v:V}{ss:List Str} (k:Ok K w H S) (h:Rep K w d v) (z:bD S d = .Dd ss):∃ a,v = .ref a∧eX K H a (ss.map V.str):=by
 cases d <;> simp only [bD] at z
 case loc n=>split at z <;> first | (rename_i o _;cases o <;> simp [MO.d] at z) | cases z
 all_goals first | cases z | skip
 simp only [Rep] at h
 obtain ⟨a,h1,h2⟩:=h
 exact ⟨a,h1,eX.same k.base h2⟩
theorem xQ {ds:List D} (h:fit (.tup ds)=true):PyData.canLayAll0 (cY ds)=true:=by
 unfold fit at h
 rw [zbE] at h
 have:=canLay_of_shaped h.2
 simpa [py,PyData.canLay0] using this
theorem sR {ds:List D} (h:fit (.lst ds)=true):PyData.canLayAll0 (cY ds)=true:=by
 unfold fit at h
 rw [zbE] at h
 have:=canLay_of_shaped h.2
 simpa [py,PyData.canLay0] using this
theorem KS {K:PySem.W.Frag}{neg:Bool}:∀ x y H Q,zh K (zv neg) x y H Q→Hr K neg x y H Q:=by
 rintro x y H Q ⟨w,d,e,S,Qa,ok,r1,r2,q,bk⟩
 unfold zv at q
 split at q
 next ds z =>
  obtain ⟨f1,f2,q⟩:=q
  obtain ⟨g1,s1⟩:=dR ok r1 f1
  obtain ⟨g2,s2⟩:=dR ok r2 (by rw [z];exact f2)
  rw [z] at g2
  refine ⟨_,cY ds,g1,.inl (by simpa only [py] using g2),s1,xQ f2,?_⟩
  rw [qZ]
  exact bk.dat .refl ok .bl q
 next ds z =>
  obtain ⟨f1,f2,q⟩:=q
  obtain ⟨g1,s1⟩:=dR ok r1 f1
  obtain ⟨g2,s2⟩:=dR ok r2 (by rw [z];exact f2)
  rw [z] at g2
  refine ⟨_,cY ds,g1,.inr (by simpa only [py] using g2),s1,sR f2,?_⟩
  rw [qZ]
  exact bk.dat .refl ok .bl q
 next ss z =>
  obtain ⟨f1,f2,q⟩:=q
  obtain ⟨g1,s1⟩:=dR ok r1 f1
  obtain ⟨a,rfl,g2⟩:=DH ok r2 z
  refine ⟨_,cY (ss.map D.str),g1,.inl ?_,s1,xQ f2,?_⟩
  ·simp only [bC]
   exact ⟨a,_,rfl,g2,wj ss⟩
  ·rw [qZ]
   exact bk.dat .refl ok .bl q
 next=>exact q.elim
theorem Ka {k:Nat} (hr:bf k X.A):vM X (compareOp .In) (zv false):=⟨m2 (HJ hr) KS⟩
theorem qz {k:Nat} (hr:bf k X.A):vM X (compareOp .NotIn) (zv true):=⟨m2 (yH hr) KS⟩
end
section
variable {X:Cx}{K:PySem.W.Frag}{w:Wd}{H:Hp}{S:au}{d:D}{v:V}
theorem rV {ds:List D}{xs:List V}{i:Int}{e:D} (h:ak K w ds xs) (q:nU ds i=some e):∃ u,nU xs i=some u∧Rep K w e u:=by
 unfold nU at q ⊢
 rw [h.length]
 cases z:zR ds.length i with
 | none=>rw [z] at q;cases q
 | some j =>
  rw [z] at q
  exact h.get q
noncomputable def rF:A2:=fun x y S Q=>match bD S x,y with
 | .lst ds,.int i=>∃ e,nU ds i=some e∧Q (.dat e) S
 | .tup ds,.int i=>∃ e,nU ds i=some e∧Q (.dat e) S
 | .str z,.int i=>z.length≤sizeLine∧∃ c,nU z.cps.toList i=some c∧Q (.dat (.str ⟨#[c]⟩)) S
 | .k6 ns,.int i=>∃ n,nU ns i=some n∧Q (.dat (.int n)) S
 | _,_=>False
theorem E1 {α β:Type}{f:α→β}{xs:List α}{i:Int}{a:α} (h:nU xs i=some a):nU (xs.map f) i=some (f a):=by
 unfold nU at h ⊢
 rw [zbJ]
 cases z:zR xs.length i with
 | none=>rw [z] at h;cases h
 | some j =>
  rw [z] at h
  have h:xs[j]? = some a:=h
  show (xs.map f)[j]? = some (f a)
  rw [zbf,h];rfl
theorem bq:Na X rF:=⟨fun value slice pins s σ H x y v u Q I rx ry h hs=>by
 refine L2.Ie value slice pins s σ H x y v u Q I rx ry ?_ hs
 obtain ⟨w,d,e,S,Qa,ok,r1,r2,q,bk⟩:=h
 unfold rF at q
 split at q
 next ds i z =>
  obtain ⟨a,xs,rfl,h1,h2⟩:=bX ok r1 z
  obtain ⟨e',he,q⟩:=q
  obtain ⟨u',g1,g2⟩:=rV h2 he
  exact .inl ⟨a,xs,i,u',rfl,bM r2 rfl,dh.of h1,g1,bk.dat .refl ok g2 q⟩
 next ds i z =>
  obtain ⟨a,xs,rfl,h1,h2⟩:=fc ok r1 z
  obtain ⟨e',he,q⟩:=q
  obtain ⟨u',g1,g2⟩:=rV h2 he
  exact .inr (.inl ⟨a,xs,i,u',rfl,bM r2 rfl,eX.of h1,g1,bk.dat .refl ok g2 q⟩)
 next y i z =>
  obtain ⟨hl,c,hc,q⟩:=q
  exact .inr (.inr ⟨y,i,c,bP r1 z,bM r2 rfl,hl,hc,bk.dat .refl ok .str q⟩)
 next ns i z =>
  obtain ⟨a,rfl,h1⟩:=gY ok r1 z
  obtain ⟨n,hn,q⟩:=q
  exact .inl ⟨a,_,i,.int n,rfl,bM r2 rfl,h1,E1 hn,bk.dat .refl ok .int q⟩
 next=>exact q.elim⟩
noncomputable def cutD {α:Type} (xs:List α) (lo hi:Option Int):List α:=(xs.drop (HT.bZ xs.length 0 lo)).take (HT.bZ xs.length xs.length hi - HT.bZ xs.length 0 lo)
theorem mL {ds:List D}{xs:List V} (h:ak K w ds xs) (lo hi:Option Int):ak K w (cutD ds lo hi) (lz xs lo hi):=by
 unfold cutD lz
 rw [h.length]
 exact (h.drop _).take _
end
section
variable {prog:Program}{w:World}{A:Around}{E:Value→Shared→Prop}{s:Shared}
theorem iG {t sl:Addr}{items:Array Value}{vl vu:Value}{lo hi:Option Int}{Q:Value→Shared→Prop} (ht:IsTup s.heap t items) (hs:s.heap.IsSliceOf sl vl vu .none) (pl:IsPart vl lo) (pu:IsPart vu hi)
  (hw:HT.bZ items.size 0 lo=0∧HT.bZ items.size items.size hi=items.size) (h:Q (.ref t) s):wpAny (model prog w) A (getItem (.ref t) (.ref sl)) Q E s:=by
 obtain ⟨os,hos,hcs,hds⟩:=id hs
 have hTs:s.TypeIs (.ref sl) "slice" := ⟨os,hos,hcs⟩
 unfold getItem
 try with_reducible refine wpAny_holding ?_
 first | refine wpAny_bind (wpAny_pure ?_) | skip
 refine wpAny_bind (wpAny_sequenceKey ht.typeIs (by decide) ?_)
 refine wpAny_bind (wpAny_callSpecial?_slot (name:=Str.ofString "__getitem__") ht.typeIs PyProof.Rows.slot_tuple_getitem
  (wpAny_call_entry PyProof.Rows.slot_tuple_getitem ht.typeIs PyProof.Rows.entry_tuple_getitem ?_ (PyProof.Rows.args_tuple_getitem _ _)))
 show wpAny _ _ (Builtin.Tuple.tupleItemsOf (.ref t) >>= _) _ _ s
 refine wpAny_bind (PyProof.Rows.tupleItemsOf_ ht ?_)
 refine wpAny_bind (wpAny_typeOf hTs ?_)
 rw [if_pos (by decide)]
 refine wpAny_bind (HT.fH hs pl pu ?_)
 have hyes:(((HT.bZ items.size 0 lo:Nat):Int)==0&&(1:Int)==1&&(HT.bZ items.size items.size hi - HT.bZ items.size 0 lo)==items.size)=true:=by
  rw [hw.1,hw.2];simp
 show wpAny _ _ (if (((HT.bZ items.size 0 lo:Nat):Int)==0&&(1:Int)==1&&(HT.bZ items.size items.size hi - HT.bZ items.size 0 lo)==items.size)=true then _ else _) _ _ s
 rw [if_pos hyes]
 refine wpAny_bind (m:=Builtin.Tuple.tupleIsExact (.ref t)) ?_
 unfold Builtin.Tuple.tupleIsExact
 refine wpAny_bind (wpAny_typeOf ht.typeIs (wpAny_pure ?_))
 rw [if_pos (by decide)]
 exact wpAny_bind (wpAny_rule (wpAny_pure ⟨_,rfl,wpAny_pure h⟩))
end
section
variable {X:Cx}{K:PySem.W.Frag}{w:Wd}{H:Hp}{S:au}{d:D}{v:V}
noncomputable def KY:D→Option Int→Option Int→au→AK→Prop:=fun x lo hi S Q=>match bD S x with
 | .lst ds=>Q (.new (.lst (cutD ds lo hi))) S
 | .tup ds=>Q (.dat (.tup (cutD ds lo hi))) S
 | .str z=>z.length≤sizeLine∧Q (.dat (.str (Txt.slice z lo hi))) S
 | .k6 ns=>Q (.new (.lst ((cutD ns lo hi).map D.int))) S
 | _=>False
noncomputable def LX (K:PySem.W.Frag):V→Option Int→Option Int→Hp→VK→Prop:=fun x lo hi H Q=>∃ a xs,x = .ref a∧eX K H a xs∧(HT.bZ xs.length 0 lo=0∧HT.bZ xs.length xs.length hi=xs.length)∧Q (.ref a) H
theorem Aw:zU X (LX X.K):=by
 intro pins s σ H x v vl vu lo hi sl Q I rx hs pl pu h
 obtain ⟨a,xs,rfl,hx,hw,q⟩:=h
 cases rx
 obtain ⟨its,r,ht,hz⟩:=I.tuple hx
 have hlen:its.toArray.size=xs.length:=by rw [zbd];exact r.length.symm
 refine ⟨"tuple",_,PyProof.Rows.slot_tuple_getitem.lookup,ht.typeIs,?_⟩
 exact iG ht hs pl pu (by rw [hlen];exact hw) ⟨.ref a,H,I,rfl,q⟩
theorem zg {α:Type}{xs:List α}{lo hi:Option Int} (h:HT.bZ xs.length 0 lo=0∧HT.bZ xs.length xs.length hi=xs.length):cutD xs lo hi=xs:=by
 unfold cutD
 rw [h.1,h.2];simp
theorem EV {α β:Type} (f:α→β) (xs:List α) (lo hi:Option Int):cutD (xs.map f) lo hi=(cutD xs lo hi).map f:=by
 unfold cutD
 rw [zbJ,List.map_take,List.map_drop]
theorem ic {w:Wd}:∀ (ns:List Int),ak K w (ns.map D.int) (ns.map V.int)
 | []=>.nil
 | n::ns=>.cons .int (ic ns)
theorem FP:M7 X KY:=⟨by
 intro pins s σ H x v vl vu lo hi sl Q I rx hs pl pu h
 refine (L2.wH.or (L2.Gx.or (Aw.or L2.pY))) pins s σ H x v vl vu lo hi sl Q I rx hs pl pu ?_
 obtain ⟨w,d,S,Qa,ok,r1,q,bk⟩:=h
 unfold KY at q
 split at q
 next ds z =>
  obtain ⟨a,xs,rfl,h1,h2⟩:=bX ok r1 z
  exact .inl ⟨a,xs,rfl,dh.of h1,fun p hp=>bk (.new (.lst _)) S _ w _ .refl (ok.alloc hp) (ok.fresh hp ⟨_,rfl,mL h2 lo hi⟩) q⟩
 next ds z =>
  obtain ⟨a,xs,rfl,h1,h2⟩:=fc ok r1 z
  by_cases hw:HT.bZ xs.length 0 lo=0∧HT.bZ xs.length xs.length hi=xs.length
  ·refine .inr (.inr (.inl ⟨a,xs,rfl,eX.of h1,hw,?_⟩))
   rw [h2.length] at hw
   rw [zg hw] at q
   cases d <;> simp only [bD] at z
   case tup=>cases z;exact bk.dat .refl ok r1 q
   case loc n=>split at z <;> first | (rename_i o _;cases o <;> simp [MO.d] at z) | cases z
   all_goals cases z
  ·refine .inr (.inl ⟨a,xs,rfl,eX.of h1,hw,fun p hp => ?_⟩)
   obtain ⟨w2,le2,ok2,rep2⟩:=ok.qF hp (mL h2 lo hi)
   exact bk.dat le2 ok2 rep2 q
 next y z=>exact .inr (.inr (.inr ⟨y,bP r1 z,q.1,bk.dat .refl ok .str q.2⟩))
 next ns z =>
  obtain ⟨a,rfl,h1⟩:=gY ok r1 z
  refine .inl ⟨a,_,rfl,h1,fun p hp=>bk (.new (.lst _)) S _ w _ .refl (ok.alloc hp) (ok.fresh hp ⟨_,rfl,?_⟩) q⟩
  have:=mL (ic (K:=X.K) (w:=w) ns) lo hi
  rw [EV] at this
  exact this
 next=>exact q.elim⟩
noncomputable def K1:A2:=fun x y S Q=>match bD S x,y with
 | .int i,.int j=>zP i j∧Q (.dat (.int (i*j))) S
 | .lst ds,.int k=>(-(2 ^ 63)≤k∧k<2 ^ 63)∧ds.length*k.toNat≤sizeLine∧Q (.new (.lst (zbW k.toNat ds).flatten)) S
 | .str z,.int n=>MulOk z n∧Q (.dat (.str (Txt.mul z n))) S
 | _,_=>False
theorem rU {ds:List D}{xs:List V} (h:ak K w ds xs):∀ k:Nat,ak K w (zbW k ds).flatten (zbW k xs).flatten
 | 0=>.nil
 | k+1=>by
  rw [zaJ,zaJ,zbh,zbh]
  exact h.append (rU h k)
theorem J8:vM X (binaryOp .Mult) K1:=⟨m2 (HA L2.fy (HA L2.HC L2.uS)) fun x y H Q h=>by
 obtain ⟨w,d,e,S,Qa,ok,r1,r2,q,bk⟩:=h
 unfold K1 at q
 split at q
 next i j z=>exact .inl ⟨i,j,cR r1 z,bM r2 rfl,q.1,bk.dat .refl ok .int q.2⟩
 next ds k z =>
  obtain ⟨a,xs,rfl,h1,h2⟩:=bX ok r1 z
  obtain ⟨⟨g1,g2⟩,hl,q⟩:=q
  refine .inr (.inl ⟨a,k,xs,rfl,bM r2 rfl,h1,g1,g2,by rw [h2.length];exact hl,fun p hp => ?_⟩)
  exact bk (.new (.lst _)) S _ w _ .refl (ok.alloc hp) (ok.fresh hp ⟨_,rfl,rU h2 k.toNat⟩) q
 next y n z=>exact .inr (.inr ⟨y,n,bP r1 z,bM r2 rfl,q.1,bk.dat .refl ok .str q.2⟩)
 next=>exact q.elim⟩
end
mutual
noncomputable def iS (n:Nat):D→Bool
 | .loc m=>decide (m<n)
 | .tup ds | .lst ds | .dct _ ds=>jO n ds
 | _=>true
noncomputable def jO (n:Nat):List D→Bool
 | []=>true
 | d::ds=>iS n d&&jO n ds
end
noncomputable def qX (n:Nat):MO→Bool
 | .lst ds=>jO n ds
 | .dct _ ds=>jO n ds
 | .feed _=>true
 | .ins _ _ ds=>jO n ds
 | .Di _ ks=>jO n ks
mutual
theorem x8 (n:Nat):∀ d:D,b6 d=true→iS n d=true
 | .bN,_=>by simp [iS]
 | .bl _,_=>by simp [iS]
 | .int _,_=>by simp [iS]
 | .str _,_=>by simp [iS]
 | .tup ds,h=>by simp only [iS];exact gH n ds (by simpa [b6] using h)
 | .lst ds,h=>by simp only [iS];exact gH n ds (by simpa [b6] using h)
 | .dct _ _,h=>by simp [b6] at h
 | .loc _,h=>by simp [b6] at h
 | .ty _,h=>by simp [b6] at h
 | .k6 _,h=>by simp [b6] at h
 | .Dd _,h=>by simp [b6] at h
 | .fd,h=>by simp [b6] at h
 | .fn _,h=>by simp [b6] at h
theorem gH (n:Nat):∀ ds:List D,bU ds=true→jO n ds=true
 | [],_=>by simp [jO]
 | d::ds,h=>by
  simp only [bU,zbE] at h
  simp only [jO,zbE]
  exact ⟨x8 n d h.1,gH n ds h.2⟩
end
noncomputable def iL (n:Nat) (w:Wd):Wd:=⟨w.B,fun k=>if k<n then w.r k else none⟩
section
variable {K:PySem.W.Frag}{w w1:Wd}{H H1:Hp}{S S0 S1:au}
mutual
theorem oK (n:Nat):∀ (d:D) (v:V),iS n d=true→Rep K w d v→Rep K (iL n w) d v
 | .bN,_,_,h=>by simpa [Rep] using h
 | .bl _,_,_,h=>by simpa [Rep] using h
 | .int _,_,_,h=>by simpa [Rep] using h
 | .str _,_,_,h=>by simpa [Rep] using h
 | .ty _,_,_,h=>by simpa [Rep] using h
 | .fd,_,_,h=>by simpa [Rep] using h
 | .fn _,_,_,h=>by simpa [Rep] using h
 | .k6 _,_,_,h=>by simpa [Rep,iL] using h
 | .Dd _,_,_,h=>by simpa [Rep,iL] using h
 | .loc m,v,hb,h=>by
  simp only [iS,decide_eq_true_eq] at hb
  simp only [Rep] at h ⊢
  obtain ⟨a,h1,h2⟩:=h
  exact ⟨a,by show (if m<n then w.r m else none)=_;rw [if_pos hb];exact h1,h2⟩
 | .tup ds,v,hb,h=>by
  simp only [Rep] at h ⊢
  obtain ⟨a,xs,h1,h2,h3⟩:=h
  exact ⟨a,xs,h1,h2,cg n ds xs (by simpa [iS] using hb) h3⟩
 | .lst ds,v,hb,h=>by
  simp only [Rep] at h ⊢
  obtain ⟨a,xs,h1,h2,h3⟩:=h
  exact ⟨a,xs,h1,h2,cg n ds xs (by simpa [iS] using hb) h3⟩
 | .dct ks ds,v,hb,h=>by
  simp only [Rep] at h ⊢
  obtain ⟨a,xs,h1,h2,h3,h4⟩:=h
  exact ⟨a,xs,h1,h2,h3,cg n ds _ (by simpa [iS] using hb) h4⟩
theorem cg (n:Nat):∀ (ds:List D) (vs:List V),jO n ds=true→ak K w ds vs→ak K (iL n w) ds vs
 | [],_,_,h=>by simpa [ak] using h
 | d::ds,vs,hb,h=>by
  simp only [jO,zbE] at hb
  simp only [ak] at h ⊢
  obtain ⟨x,r,h1,h2,h3⟩:=h
  exact ⟨x,r,h1,oK n d x hb.1 h2,cg n ds r hb.2 h3⟩
end
mutual
theorem D0 (n:Nat) (ht:∀ k,n≤k→w.r k=none):∀ (d:D) (v:V),Rep K w d v→iS n d=true
 | .bN,_,_=>by simp [iS]
 | .bl _,_,_=>by simp [iS]
 | .int _,_,_=>by simp [iS]
 | .str _,_,_=>by simp [iS]
 | .ty _,_,_=>by simp [iS]
 | .fd,_,_=>by simp [iS]
 | .fn _,_,_=>by simp [iS]
 | .k6 _,_,_=>by simp [iS]
 | .Dd _,_,_=>by simp [iS]
 | .loc m,v,h=>by
  simp only [Rep] at h
  obtain ⟨a,h1,h2⟩:=h
  simp only [iS,decide_eq_true_eq]
  rcases zcn m n with q | q
  ·exact q
  ·rw [ht m q] at h1;cases h1
 | .tup ds,v,h=>by
  simp only [Rep] at h
  obtain ⟨a,xs,h1,h2,h3⟩:=h
  simp only [iS];exact dU n ht ds xs h3
 | .lst ds,v,h=>by
  simp only [Rep] at h
  obtain ⟨a,xs,h1,h2,h3⟩:=h
  simp only [iS];exact dU n ht ds xs h3
 | .dct ks ds,v,h=>by
  simp only [Rep] at h
  obtain ⟨a,xs,h1,h2,h3,h4⟩:=h
  simp only [iS];exact dU n ht ds _ h4
theorem dU (n:Nat) (ht:∀ k,n≤k→w.r k=none):∀ (ds:List D) (vs:List V),ak K w ds vs→jO n ds=true
 | [],_,_=>by simp [jO]
 | d::ds,vs,h=>by
  simp only [ak] at h
  obtain ⟨x,r,h1,h2,h3⟩:=h
  simp only [jO,zbE]
  exact ⟨D0 n ht d x h2,dU n ht ds r h3⟩
end
theorem iV (n:Nat):∀ {o:MO}{u:HO},qX n o=true→jQ K w o u→jQ K (iL n w) o u
 | .lst ds,u,hb,⟨xs,h1,h2⟩=>⟨xs,h1,cg n ds xs hb h2⟩
 | .dct ks ds,u,hb,⟨xs,h1,h2,h3⟩=>⟨xs,h1,h2,cg n ds _ hb h3⟩
 | .feed _,u,_,h=>h
 | .ins C ks ds,u,hb,⟨dx,fs,h1,h2,h3⟩=>⟨dx,fs,h1,h2,cg n ds _ hb h3⟩
 | .Di F ks,u,hb,⟨a,bs,h1,h2⟩=>⟨a,bs,h1,cg n ks _ hb h2⟩
theorem AW (n:Nat) (ht:∀ k,n≤k→w.r k=none):∀ {o:MO}{u:HO},jQ K w o u→qX n o=true
 | .lst ds,u,⟨xs,h1,h2⟩=>dU n ht ds xs h2
 | .dct ks ds,u,⟨xs,h1,h2,h3⟩=>dU n ht ds _ h3
 | .feed _,u,h=>rfl
 | .ins C ks ds,u,⟨dx,fs,h1,h2,h3⟩=>dU n ht ds _ h3
 | .Di F ks,u,⟨a,bs,h1,h2⟩=>dU n ht ks _ h2
noncomputable def out (n:Nat) (S1:au):R→Option R
 | .dat (.loc m)=>if m<n then some (.dat (.loc m)) else match S1[m]? with
  | some (some o)=>if qX n o=true then some (.new o) else none
  | _=>none
 | .dat d=>if iS n d=true then some (.dat d) else none
 | .new o=>if qX n o=true then some (.new o) else none
noncomputable def chg (S0 S1:au):Prop:=∀ k o,k<S0.length→S1[k]? = some (some o)→S0[k]? = some (some o)∨qX S0.length o=true
noncomputable def ret (S0 S1:au) (r:R) (Q:AK):Prop:=∃ r',out S0.length S1 r=some r'∧chg S0 S1∧Q r' (S1.take S0.length)
theorem AR {r:R}{v:V}{Qa:AK}{Q:VK} (ok:Ok K w H S0) (le:w.le w1) (ok1:Ok K w1 H1 S1) (rep:vL K w1 H1 S1 r v) (h:ret S0 S1 r Qa) (bk:eU K w Qa Q):Q v H1:=by
 obtain ⟨r',ho,hc,q⟩:=h
 generalize hn:S0.length=n at *
 have lt:∀ k a,w.r k=some a→k<n:=fun k a e=>by
  rcases zcn k n with z | z
  ·exact z
  ·rw [ok.top k (by omega)] at e;cases e
 have at_:∀ k o,(S1.take n)[k]? = some (some o)→k<n∧S1[k]? = some (some o):=fun k o e=>by
  rw [List.getElem?_take] at e
  by_cases z:k<n
  ·rw [if_pos z] at e;exact ⟨z,e⟩
  ·rw [if_neg z] at e;cases e
 have le2:w.le (iL n w1):=⟨le.b,fun k a e=>by show (if k<n then w1.r k else none)=_;rw [if_pos (lt k a e)];exact le.r k a e⟩
 have bl:∀ k o,k<n→S1[k]? = some (some o)→qX n o=true:=fun k o hk e=>by
  rcases hc k o (by omega) e with z | z
  ·obtain ⟨a,u,_,_,_,h4⟩:=ok.live k o z
   exact AW n (fun k hk=>ok.top k (by omega)) h4
  ·rw [hn] at z;exact z
 have ok2:Ok K (iL n w1) H1 (S1.take n):=⟨ok1.base,fun k o e=>by
   obtain ⟨hk,e⟩:=at_ k o e
   obtain ⟨a,u,h1,h2,h3,h4⟩:=ok1.live k o e
   exact ⟨a,u,by show (if k<n then w1.r k else none)=_;rw [if_pos hk];exact h1,h2,h3,iV n (bl k o hk e) h4⟩,
  fun k m o o' e e' z=>by
   obtain ⟨hk,e⟩:=at_ k o e
   obtain ⟨hm,e'⟩:=at_ m o' e'
   have z:(if k<n then w1.r k else none)=(if m<n then w1.r m else none):=z
   rw [if_pos hk,if_pos hm] at z
   exact ok1.inj k m o o' e e' z,
  fun k hk=>by
   show (if k<n then w1.r k else none)=none
   by_cases z:k<n
   ·rw [if_pos z]
    rw [zbv] at hk
    exact ok1.top k (by omega)
   ·rw [if_neg z]⟩
 refine bk r' (S1.take n) v (iL n w1) H1 le2 ok2 ?_ q
 have fresh:∀ m o a,n≤m→S1[m]? = some (some o)→w1.r m=some a→∀ k o',(S1.take n)[k]? = some (some o')→(iL n w1).r k≠some a:=fun m o a hm e ha k o' e' z=>by
  obtain ⟨hk,e'⟩:=at_ k o' e'
  have z:(if k<n then w1.r k else none)=some a:=z
  rw [if_pos hk] at z
  have:=ok1.inj k m o' o e' e (z.trans ha.symm)
  omega
 cases r with
 | new o =>
  simp only [out] at ho
  split at ho
  next hb =>
   cases ho
   obtain ⟨a,u,rfl,h1,h2,h3,h4⟩:=rep
   refine ⟨a,u,rfl,h1,h2,iV n hb h3,fun k o' e z => ?_⟩
   obtain ⟨hk,e⟩:=at_ k o' e
   have z:(if k<n then w1.r k else none)=some a:=z
   rw [if_pos hk] at z
   exact h4 k o' e z
  next=>cases ho
 | dat d =>
  have gen:(if iS n d=true then some (R.dat d) else none)=some r'→vL K (iL n w1) H1 (S1.take n) r' v:=fun ho=>by
   split at ho
   next hb=>cases ho;exact oK n d v hb rep
   next=>cases ho
  cases d with
  | loc m =>
   simp only [out] at ho
   split at ho
   next hm=>exact gen (by simp [iS,hm,ho])
   next hm =>
    have hm:n≤m:=by omega
    split at ho
    next o e =>
     split at ho
     next hb =>
      cases ho
      have rep:Rep K w1 (.loc m) v:=rep
      simp only [Rep] at rep
      obtain ⟨a,ha,rfl⟩:=rep
      obtain ⟨a',u,h1,h2,h3,h4⟩:=ok1.live m o e
      rw [ha] at h1;cases h1
      exact ⟨a,u,rfl,h2,h3,iV n hb h4,fresh m o a hm e ha⟩
     next=>cases ho
    next=>cases ho
  | _=>exact gen (by simpa only [out] using ho)
end
noncomputable def aT (N:List Str) (ds:List D):bH:=ds.map some++zbW (N.length - ds.length) none
theorem kE {K:PySem.W.Frag}{w:Wd}{N:List Str}{ds:List D}{vs:List V} (h:ak K w ds vs):eY K w (aT N ds) (L2.start N vs):=by
 have hl:=h.length
 refine ⟨by simp [aT,L2.start,hl],fun i d e => ?_⟩
 unfold aT at e
 by_cases hi:i<ds.length
 ·rw [zaf (by simpa using hi),zbf] at e
  cases z:ds[i]? with
  | none=>rw [z] at e;cases e
  | some d' =>
   rw [z] at e
   have e:d'=d:=by simpa using e
   subst e
   obtain ⟨v,h1,h2⟩:=h.get z
   refine ⟨v,?_,h2⟩
   unfold L2.start
   rw [zaf (by rw [zbJ,hl];exact hi),zbf,h1];rfl
 ·rw [zab (by simpa using hi),List.getElem?_replicate] at e
  split at e <;> cases e
section
variable {P:Program}{w:World}{K:PySem.W.Frag}{mg:Str→Option Value}{base:Heap}
theorem Ip {x:Str}{st:Stmt}{N ps:List Str}{k:Nat}{sp:AN} (F:Src K mg x ps st) (S:aG N ps (ai st)) (len:∀ ds S Q,sp ds S Q→ds.length=ps.length)
  (hbody:∀ (f:Addr) (cdv:Value) (A:Around) (outer:List Env) (s:Shared) (H:Hp) (E:XK),bf k (A.deeper (envOfC x (ai st) s.heap.objs.size f cdv)) →
   ∃ a,zN (jM kY P w K mg base N x (ai st) f cdv A outer s H E).Df (bE st) a∧∀ ds S Q,sp ds S Q→a { nx:=fun _ S'=>ret S S' (.dat .bN) Q,rt:=fun r S'=>ret S S' r Q } (aT N ds) S):Def P w K mg base (k+1) x ps (aW K sp) :=
 F.def S (fun vs H Q E h=>by
  obtain ⟨w,ds,S,Qa,ok,rep,q,bk⟩:=h
  rw [rep.length];exact len ds S Qa q) fun f cdv A outer s H vs Q E hr h=>by
  obtain ⟨a,ha,hd⟩:=hbody f cdv A outer s H E hr
  obtain ⟨w,ds,S,Qa,ok,rep,q,bk⟩:=h
  refine ⟨_,ha.p,w,aT N ds,S,_,ok,kE rep,hd ds S Qa q,⟨fun δ S' σ w' H' le ok' env q' => ?_,fun r S' v w' H' le ok' rep' q' => ?_,fun _ _ _ _ _ _ _ _ z=>z.elim,fun _ _ _ _ _ _ _ _ z=>z.elim⟩⟩
  ·exact AR (r:=.dat .bN) (v:=.bN) ok le ok' (show Rep K w' .bN .bN from .bN) q' bk
  ·exact AR ok le ok' rep' q' bk
end
section
variable {X:Cx}{K:PySem.W.Frag}{w:Wd}{H:Hp}{S:au}{d:D}{v:V}
theorem fJ {vs:List V} (h:ak K w [d] vs):∃ v,vs=[v]∧Rep K w d v:=by
 simp only [ak] at h
 obtain ⟨x,r,rfl,h1,rfl⟩:=h
 exact ⟨x,rfl,h1⟩
theorem xo {e:D}{vs:List V} (h:ak K w [d,e] vs):∃ v u,vs=[v,u]∧Rep K w d v∧Rep K w e u:=by
 simp only [ak] at h
 obtain ⟨x,r,rfl,h1,y,r',rfl,h2,rfl⟩:=h
 exact ⟨x,y,rfl,h1,h2⟩
noncomputable def qI:D→Option Nat
 | .lst ds=>some ds.length
 | .tup ds=>some ds.length
 | .k6 ns=>some ns.length
 | .dct ks _=>some ks.length
 | .str z=>if z.length≤sizeLine then some z.length else none
 | _=>none
noncomputable def K4:AN:=fun ds S Q=>∃ d n,ds=[d]∧qI (bD S d)=some n∧Q (.dat (.int n)) S
theorem kL:zL X (.builtin "len") K4:=⟨mC (MQ L2.tP L2.zq) fun xs H Q h=>by
 obtain ⟨w,ds,S,Qa,ok,rep,⟨d,n,rfl,e,q⟩,bk⟩:=h
 obtain ⟨v,rfl,r1⟩:=fJ rep
 cases z:bD S d with
 | lst ds =>
  rw [z] at e
  have e:ds.length=n:=by simpa [qI] using e
  obtain ⟨a,xs,rfl,h1,h2⟩:=bX ok r1 z
  exact .inl ⟨_,n,rfl,.inl ⟨xs,dh.of h1,by rw [h2.length,e]⟩,bk.dat .refl ok .int q⟩
 | tup ds =>
  rw [z] at e
  have e:ds.length=n:=by simpa [qI] using e
  obtain ⟨a,xs,rfl,h1,h2⟩:=fc ok r1 z
  exact .inl ⟨_,n,rfl,.inr ⟨xs,eX.of h1,by rw [h2.length,e]⟩,bk.dat .refl ok .int q⟩
 | k6 ns =>
  rw [z] at e
  have e:ns.length=n:=by simpa [qI] using e
  obtain ⟨a,rfl,h1⟩:=gY ok r1 z
  exact .inl ⟨_,n,rfl,.inl ⟨_,h1,by rw [zbJ,e]⟩,bk.dat .refl ok .int q⟩
 | str y =>
  rw [z] at e
  simp only [qI] at e
  split at e
  next hl =>
   cases e
   exact .inl ⟨_,_,rfl,(by rw [bP r1 z];exact ⟨hl,rfl⟩),bk.dat .refl ok .int q⟩
  next=>cases e
 | dct ks ds =>
  rw [z] at e
  have e:ks.length=n:=by simpa [qI] using e
  obtain ⟨a,kvs,rfl,h1,h2,_⟩:=gZ ok r1 z
  refine .inr ⟨a,kvs,rfl,h1,?_⟩
  rw [← zbJ (f:=(·.1)),h2,e]
  exact bk.dat .refl ok .int q
 | _=>rw [z] at e;simp [qI] at e⟩
noncomputable def tyD:D→Option String
 | .bN=>some "NoneType"
 | .bl _=>some "bool"
 | .int _=>some "int"
 | .str _=>some "str"
 | .tup _=>some "tuple"
 | .lst _=>some "list"
 | _=>none
noncomputable def Mj (d:D) (T:String):Option Bool:=(tyD d).bind fun t=>if T == "str" || T == "int" || T == "bool" || T == "tuple" || T == "list" then some (t==T||(t == "bool" && T == "int")) else none
noncomputable def MD:AN:=fun ds S Q=>∃ d T b,ds=[d,.ty T]∧Mj (bD S d) T=some b∧Q (.dat (.bl b)) S
noncomputable def pI:AN:=fun ds S Q=>∃ d,ds=[d]∧b6 (bD S d)=true∧(py (bD S d)).showable=true∧(py (bD S d)).depth≤100∧(py (bD S d)).shown.length≤sizeLine∧Q (.dat (.str (py (bD S d)).shown)) S
theorem dI {k:Nat} (hr:bf k X.A):zL X (.builtin "repr") pI:=⟨mC (L2.zj hr) fun xs H Q h=>by
 obtain ⟨w,ds,S,Qa,ok,rep,⟨d,rfl,h1,h2,h3,h4,q⟩,bk⟩:=h
 obtain ⟨v,rfl,r1⟩:=fJ rep
 exact ⟨v,_,rfl,p9 ok r1 h1,h2,h3,h4,bk.dat .refl ok .str q⟩⟩
noncomputable def Fc:AN:=fun ds S Q=>∃ d,ds=[d]∧match bD S d with
 | .lst es=>Q (.new (.lst es)) S
 | .tup es=>Q (.new (.lst es)) S
 | .k6 ns=>Q (.new (.lst (ns.map D.int))) S
 | _=>False
theorem sr:zL X (.type "list") Fc:=⟨mC L2.qW fun xs H Q h=>by
 obtain ⟨w,ds,S,Qa,ok,rep,⟨d,rfl,q⟩,bk⟩:=h
 obtain ⟨v,rfl,r1⟩:=fJ rep
 split at q
 next es z =>
  obtain ⟨a,xs,rfl,h1,h2⟩:=bX ok r1 z
  exact ⟨a,xs,rfl,.inl (dh.of h1),fun p hp=>bk (.new (.lst _)) S _ w _ .refl (ok.alloc hp) (ok.fresh hp ⟨_,rfl,h2⟩) q⟩
 next es z =>
  obtain ⟨a,xs,rfl,h1,h2⟩:=fc ok r1 z
  exact ⟨a,xs,rfl,.inr (eX.of h1),fun p hp=>bk (.new (.lst _)) S _ w _ .refl (ok.alloc hp) (ok.fresh hp ⟨_,rfl,h2⟩) q⟩
 next ns z =>
  obtain ⟨a,rfl,h1⟩:=gY ok r1 z
  exact ⟨a,_,rfl,.inl h1,fun p hp=>bk (.new (.lst _)) S _ w _ .refl (ok.alloc hp) (ok.fresh hp ⟨_,rfl,ic ns⟩) q⟩
 next=>exact q.elim⟩
noncomputable def Cp:AN:=fun ds S Q=>∃ d,ds=[d]∧match bD S d with
 | .lst es=>Q (.dat (.tup es)) S
 | .tup es=>Q (.dat (.tup es)) S
 | _=>False
theorem eu:zL X (.type "tuple") Cp:=⟨mC L2.ou fun xs H Q h=>by
 obtain ⟨w,ds,S,Qa,ok,rep,⟨d,rfl,q⟩,bk⟩:=h
 obtain ⟨v,rfl,r1⟩:=fJ rep
 split at q
 next es z =>
  obtain ⟨a,xs,rfl,h1,h2⟩:=bX ok r1 z
  refine ⟨a,xs,rfl,.inl ⟨dh.of h1,fun p hp => ?_⟩⟩
  obtain ⟨w2,le2,ok2,rep2⟩:=ok.qF hp h2
  exact bk.dat le2 ok2 rep2 q
 next es z =>
  obtain ⟨a,xs,rfl,h1,h2⟩:=fc ok r1 z
  refine ⟨a,xs,rfl,.inr ⟨eX.of h1,?_⟩⟩
  cases d <;> simp only [bD] at z
  case tup=>cases z;exact bk.dat .refl ok r1 q
  case loc n=>split at z <;> first | (rename_i o _;cases o <;> simp [MO.d] at z) | cases z
  all_goals cases z
 next=>exact q.elim⟩
noncomputable def K2:AN:=fun ds S Q=>∃ i j,ds=[.int i,.int j]∧Q (.dat (.int (if j<i then j else i))) S
theorem HM (hc:X.calm=true):zL X (.builtin "min") K2:=⟨mC (L2.zk hc) fun xs H Q h=>by
 obtain ⟨w,ds,S,Qa,ok,rep,⟨i,j,rfl,q⟩,bk⟩:=h
 obtain ⟨v,u,rfl,r1,r2⟩:=xo rep
 exact ⟨i,j,by rw [bM r1 rfl,bM r2 rfl],bk.dat .refl ok .int q⟩⟩
end
noncomputable abbrev AM:=D→List D→au→AK→Prop
structure MJ (X:Cx) (id:String) (r:AM):Prop where
 p:Fv X id (KO X.K r)
noncomputable def yV (T:String):D→Prop
 | .lst _=>T = "list"
 | .str _=>T = "str"
 | .k6 _=>T = "list"
 | .dct _ _=>T = "dict"
 | _=>False
noncomputable def Jk (T:String) (r:AM) (a:AE) (b:AA):AE:=fun δ S Q=>a δ S fun x S1=>yV T (bD S1 x.d)∧b δ S1 fun ds S2=>r x.d ds S2 Q
section
variable {X:Cx}{K:PySem.W.Frag}{w:Wd}{H:Hp}{S:au}{d:D}{v:V}
theorem Jz {T:String} (ok:Ok K w H S) (h:Rep K w d v) (t:yV T (bD S d)):LG K T v H:=by
 cases z:bD S d with
 | lst ds =>
  rw [z] at t;cases t
  obtain ⟨a,xs,rfl,h1,h2⟩:=bX ok h z
  exact .inl ⟨rfl,xs,dh.of h1⟩
 | str y=>rw [z] at t;cases t;rw [bP h z];exact rfl
 | k6 ns =>
  rw [z] at t;cases t
  obtain ⟨a,rfl,h1⟩:=gY ok h z
  exact .inl ⟨rfl,_,h1⟩
 | dct ks ds =>
  rw [z] at t;cases t
  obtain ⟨a,kvs,rfl,h1,_⟩:=gZ ok h z
  exact .inr (.inr (.inl ⟨rfl,.inl ⟨kvs,h1⟩⟩))
 | _=>rw [z] at t;exact t.elim
theorem LR {T:String}{r:AM}{a:AE}{b:AA}:∀ σ H Q,bB K (Jk T r a b) σ H Q→Ll K T (KO K r) (bB K a) (nL K b) σ H Q:=by
 rintro σ H Q ⟨w,δ,S,Qa,ok,env,q,bk⟩
 refine ⟨w,δ,S,_,ok,env,q,.go fun r1 S1 v1 w1 H1 le1 ok1 rep1 ⟨ty,q1⟩=>⟨Jz ok1 rep1 ty,?_⟩⟩
 refine ⟨w1,δ,S1,_,ok1,env.le le1,q1,fun ds S2 vs w2 H2 le2 ok2 rep2 q2 => ?_⟩
 exact ⟨w2,r1.d,ds,S2,Qa,ok2,rep1.le le2,rep2,q2,bk.le (le1.trans le2)⟩
theorem kK {o e:Expr}{es:List Expr}{to:AE}{t:AA}{name:Str}{apos cpos:Pos}{T id:String}{r:AM} (pa:PlainAttrs T) (slot:Slot T name id) (hty:typeOf (.builtin id)=pure (.type "method_descriptor")) (hm:MJ X id r) (ho:GE X o to) (ha:GA X (e::es) t)
  (hbase:attributeBase o name X.env (eval o X.env)=eval o X.env:=by rfl) (hs:(e::es).all notStar=true:=by rfl) (hfew:decide ((e::es).length+0+0<30)=true:=by rfl)
  (hline:(apos.endLine==cpos.line)=true:=by rfl):GE X (.Call (.Attribute o name apos) (e::es) [] cpos) (Jk T r to t):=⟨mE (L2.m8 pa slot hty hm.p ho.p ha.p hbase hs hfew hline) LR⟩
theorem mM {id:String}{t u:V→List V→Hp→VK→Prop} (h:Fv X id t) (m:∀ x xs H Q,u x xs H Q→t x xs H Q):Fv X id u:=fun pins s σ H x xs v us Q I rx rs q=>h pins s σ H x xs v us Q I rx rs (m x xs H Q q)
theorem vd {n:Nat}{ds:List D} (ok:Ok K w H S) (h:Rep K w (.loc n) v) (e:S[n]? = some (some (.lst ds))):∃ a xs,v = .ref a∧w.r n=some a∧H a=some (.lst xs)∧ak K w ds xs:=by
 simp only [Rep] at h
 obtain ⟨a,h1,rfl⟩:=h
 obtain ⟨a',u,g1,g2,g3,xs,rfl,g5⟩:=ok.live n _ e
 rw [h1] at g1;cases g1
 exact ⟨a,xs,rfl,h1,g3,g5⟩
theorem rX {ds:List D}{xs:List V} (h:ak K w ds xs):jQ K w (.lst ds) (.lst xs):=⟨xs,rfl,h⟩
noncomputable def Fe:AM:=fun x ds S Q=>∃ n es e,x = .loc n∧ds=[e]∧S[n]? = some (some (.lst es))∧es.length<sizeLine∧Q (.dat .bN) (S.set n (some (.lst (es++[e]))))
theorem jB:MJ X "list.append" Fe:=⟨mM (X:=X) (t:=xu) L2.oU fun x xs H Q h=>by
 obtain ⟨w,d,ds,S,Qa,ok,r1,r2,⟨n,es,e,rfl,rfl,hS,hl,q⟩,bk⟩:=h
 obtain ⟨a,ys,rfl,ha,hH,hr⟩:=vd ok r1 hS
 obtain ⟨v,rfl,r3⟩:=fJ r2
 exact ⟨a,ys,v,rfl,rfl,hH,by rw [hr.length];exact hl,bk.dat .refl (ok.put hS ha (rX (hr.snoc r3))) .bN q⟩⟩
end
end M
namespace M
open PySem L2
theorem c8 {P:au→Prop}{g:AG}{b:AS}{D:fR} (I:List M.D→bH→au→Prop) (hn:∀ δ S,I [] δ S→P S∧D.nx δ S)
  (hc:∀ x xs δ S N,I (x::xs) δ S→(∀ δ' S',I xs δ' S'→N δ' S')→P S∧g x δ S fun δ2 S2=>b { D with nx:=N,ct:=N,bk:=D.nx } δ2 S2):∀ ds δ S,I ds δ S→fM P g b ds D δ S
 | [],δ,S,h=>hn δ S h
 | x::xs,δ,S,h=>hc x xs δ S _ h fun δ' S' h'=>c8 I hn hc xs δ' S' h'
theorem qU {P:au→Prop}{g:AG}{t:AT}{e:AE}{Q:List M.D→au→Prop} (I:List M.D→List M.D→bH→au→Prop) (hn:∀ acc δ S,I [] acc δ S→P S∧Q acc S)
  (hc:∀ x xs acc δ S (N:List M.D→bH→au→Prop),I (x::xs) acc δ S→(∀ acc' δ' S',I xs acc' δ' S'→N acc' δ' S')→P S∧g x δ S fun δ2 S2=>t δ2 S2 fun b S3=>if b=true then e δ2 S3 fun r S4=>acc.length<sizeLine∧N (acc++[r.d]) δ2 S4 else N acc δ2 S3) :
  ∀ ds acc δ S,I ds acc δ S→cM P g t e ds acc δ S Q
 | [],acc,δ,S,h=>hn acc δ S h
 | x::xs,acc,δ,S,h=>hc x xs acc δ S (fun acc' δ' S'=>cM P g t e xs acc' δ' S' Q) h fun acc' δ' S' h'=>qU I hn hc xs acc' δ' S' h'
theorem comp_map {P:au→Prop}{e:AE}{Q:List M.D→au→Prop}{δ:bH}{S:au} (f:M.D→M.D) (hP:P S):∀ (xs acc:List M.D) (δ':bH),δ'.set 0 none=δ.set 0 none→(∀ x∈xs,∀ Q:AK,Q (.dat (f x)) S→e (δ.set 0 (some x)) S Q)→acc.length+xs.length≤sizeLine→Q (acc++xs.map f) S →
  cM P (bI 0) ow e xs acc δ' S Q
 | [],acc,δ',_,_,_,q=>⟨hP,by simpa using q⟩
 | x::xs,acc,δ',hd,h,hl,q=>by
  refine ⟨hP,?_⟩
  have e1:δ'.set 0 (some x)=δ.set 0 (some x):=by
   have:=congrArg (fun l=>l.set 0 (some x)) hd
   simpa [zci] using this
  simp only [bI,ow,if_true]
  rw [e1]
  refine h x (by simp) _ ⟨by simp at hl;omega,?_⟩
  refine comp_map f hP xs _ _ (by simp [zci]) (fun y hy=>h y (by simp [hy])) (by simp at hl ⊢;omega) ?_
  simpa [R.d,zbi] using q
theorem lK {S:au}{d:D} (h:b6 d=true):bD S d=d:=by
 cases d <;> first | rfl | simp [b6] at h
theorem AB {S:au}{i:Int}:bD S (.int i) = .int i:=rfl
theorem Ax {S:au}{i:Str}:bD S (.str i) = .str i:=rfl
theorem DJ {S:au}{i:Bool}:bD S (.bl i) = .bl i:=rfl
theorem Az {S:au}:bD S .bN = .bN:=rfl
theorem rP {S:au}{i:List D}:bD S (.tup i) = .tup i:=rfl
theorem eE {S:au}{i:List D}:bD S (.lst i) = .lst i:=rfl
theorem Ay {S:au}{i:List Str}:bD S (.Dd i) = .Dd i:=rfl
theorem rQ {S:au}{i:List Int}:bD S (.k6 i) = .k6 i:=rfl
theorem mU {d:D}:(R.dat d).d=d:=rfl
theorem Hg {o:MO}:(R.new o).d=o.d:=rfl
theorem Eh {ds:List D}:(MO.lst ds).d = .lst ds:=rfl
theorem Ep {i j:Int}{S:au}{Q:AK}:MY (.int i) (.int j) S Q=Q (.dat (.bl (decide (i≤j)))) S:=rfl
theorem Ej {i j:Int}{S:au}{Q:AK}:aLt (.int i) (.int j) S Q=Q (.dat (.bl (decide (i<j)))) S:=rfl
theorem Lq {i j:Str}{S:au}{Q:AK}:MY (.str i) (.str j) S Q=Q (.dat (.bl (!decide (j.cps.toList<i.cps.toList)))) S:=rfl
theorem Jh {C:Int→Int→Prop}{g:Int→Int→D}{i j:Int}{S:au}{Q:AK}:aI C g (.int i) (.int j) S Q=(C i j∧Q (.dat (g i j)) S):=by
 refine propext ⟨fun ⟨a,b,e1,e2,h⟩ => ?_,fun h=>⟨i,j,rfl,rfl,h⟩⟩
 cases e1;cases e2;exact h
theorem Co {i j:Int}{S:au}{Q:AK}:Ff (.int i) (.int j) S Q=Q (.dat (.int (i+j))) S:=rfl
theorem Cn {i j:List D}{S:au}{Q:AK}:Ff (.lst i) (.lst j) S Q=(i.length+j.length≤sizeLine∧Q (.new (.lst (i++j))) S):=rfl
theorem EC {i j:Int}{S:au}{Q:AK}:LA (.int i) (.int j) S Q=Q (.dat (.bl (decide (i=j)))) S:=rfl
theorem EB {i j:Str}{S:au}{Q:AK}:LA (.str i) (.str j) S Q=Q (.dat (.bl (decide (i=j)))) S:=rfl
theorem Gi {b:Bool}:fj (.bl b)=some b:=rfl
theorem Dt {ds:List D}:fj (.lst ds)=some (!ds.isEmpty):=rfl
theorem Dr {ds:List D}:fj (.tup ds)=some (!ds.isEmpty):=rfl
theorem qx {n:Nat}{S:au}{d:D} (h:b6 d=true):out n S (.dat d)=some (.dat d):=by
 have b:=x8 n d h
 cases d <;> first | (simp [b6] at h;done) | (simp only [out];rw [if_pos b])
theorem tH {S:au}:chg S S:=fun _ _ _ e=>.inl e
theorem ql {S:au}{d:D}{Q:AK} (h:b6 d=true) (q:Q (.dat d) S):ret S S (.dat d) Q:=⟨_,qx h,tH,by rw [zbA];exact q⟩
theorem Hf {S:au}{b:Bool}{Q:AK}:ret S S (.dat (.bl b)) Q=Q (.dat (.bl b)) S:=by
 refine propext ⟨fun ⟨r,h1,_,h2⟩ => ?_,ql rfl⟩
 simp [out,iS] at h1
 subst h1
 rw [zbA] at h2;exact h2
theorem DX {S:au}{b:Int}{Q:AK}:ret S S (.dat (.int b)) Q=Q (.dat (.int b)) S:=by
 refine propext ⟨fun ⟨r,h1,_,h2⟩ => ?_,ql rfl⟩
 simp [out,iS] at h1
 subst h1
 rw [zbA] at h2;exact h2
theorem Lm {S:au}{ds:List D}{Q:AK} (h:bU ds=true) (q:Q (.new (.lst ds)) S):ret S S (.new (.lst ds)) Q :=
 ⟨_,by simp only [out];rw [if_pos (show qX _ (.lst ds)=true from gH _ ds h)],tH,by rw [zbA];exact q⟩
theorem Ln {S:au}{ds:List D}{Q:AK}{S':au}{n:Nat} (hn:S.length≤n) (h:bU ds=true) (e:S'[n]? = some (some (.lst ds))) (hs:S'.take S.length=S) (q:Q (.new (.lst ds)) S):ret S S' (.dat (.loc n)) Q:=by
 refine ⟨.new (.lst ds),?_,fun k o hk e=>.inl ?_,by rw [hs];exact q⟩
 ·simp only [out]
  rw [if_neg (by omega),e]
  show (if qX S.length (.lst ds)=true then some (R.new (.lst ds)) else none)=_
  rw [if_pos (show qX _ (.lst ds)=true from gH _ ds h)]
 ·rw [← hs,List.getElem?_take,if_pos hk];exact e
noncomputable def eV (x:Str):Bool:=x.cps.toList.all (fun c=>decide (c<128))&&decide (x.length≤100)
noncomputable def j7:Nat→D→Bool
 | _,.bN=>true
 | _,.bl _=>true
 | _,.int _=>true
 | _,.str x=>eV x
 | n+1,.tup ds=>decide (ds.length≤100)&&ds.all (j7 n)
 | n+1,.lst ds=>decide (ds.length≤100)&&ds.all (j7 n)
 | _,_=>false
theorem iX {x:Str} (h:eV x=true):PyData.strOk x=true:=by
 unfold eV at h
 rw [zbE] at h
 unfold PyData.strOk
 rw [← Array.all_toList]
 refine zbz.mpr fun c hc => ?_
 have:=of_decide_eq_true (zbz.mp h.1 c hc)
 exact decide_eq_true (by omega)
theorem pQ:∀ (n:Nat) (d:D),j7 n d=true→b6 d=true∧(py d).canLay0=true∧(py d).depth≤n:=by
 intro n
 induction n with
 | zero =>
  intro d h
  cases d <;> first | (simp [j7] at h;done) | skip
  ·simp [b6,py,PyData.canLay0,PyData.depth]
  ·simp [b6,py,PyData.canLay0,PyData.depth]
  ·simp [b6,py,PyData.canLay0,PyData.depth]
  ·simp only [j7] at h
   simp [b6,py,PyData.canLay0,PyData.depth,iX h]
 | succ n ih =>
  have all:∀ ds:List D,(ds.all (j7 n))=true→bU ds=true∧PyData.canLayAll0 (cY ds)=true∧PyData.depthAll (cY ds)≤n:=by
   intro ds
   induction ds with
   | nil=>intro _;simp [bU,cY,PyData.canLayAll0,PyData.depthAll]
   | cons d ds ih2 =>
    intro h
    rw [zcd,zbE] at h
    obtain ⟨a1,a2,a3⟩:=ih d h.1
    obtain ⟨b1,b2,b3⟩:=ih2 h.2
    refine ⟨by simp [bU,a1,b1],by simp [cY,PyData.canLayAll0,a2,b2],?_⟩
    simp only [cY,PyData.depthAll]
    omega
  intro d h
  cases d <;> first | (simp [j7] at h;done) | skip
  ·simp [b6,py,PyData.canLay0,PyData.depth]
  ·simp [b6,py,PyData.canLay0,PyData.depth]
  ·simp [b6,py,PyData.canLay0,PyData.depth]
  ·simp only [j7] at h
   simp [b6,py,PyData.canLay0,PyData.depth,iX h]
  ·simp only [j7,zbE] at h
   obtain ⟨a1,a2,a3⟩:=all _ h.2
   exact ⟨by simpa [b6] using a1,by simpa [py,PyData.canLay0] using a2,by simp only [py,PyData.depth];omega⟩
  ·simp only [j7,zbE] at h
   obtain ⟨a1,a2,a3⟩:=all _ h.2
   exact ⟨by simpa [b6] using a1,by simpa [py,PyData.canLay0] using a2,by simp only [py,PyData.depth];omega⟩
theorem z7 {n:Nat}{d:D} (h:j7 n d=true):b6 d=true:=(pQ n d h).1
theorem fq {n:Nat}{d:D} (h:j7 n d=true) (hn:n≤64):fit d=true:=by
 obtain ⟨a,b,c⟩:=pQ n d h
 unfold fit PySem.SeqAt.shaped
 rw [a,b,decide_eq_true (by omega)];rfl
noncomputable def Ex (x:D) (s:Str):Bool:=match x with
 | .str a=>decide (a=s)
 | _=>false
noncomputable def yY (x:D) (ss:List Str):Bool:=ss.any fun s=>Ex x s
theorem EA {x:D}{s:Str} (h:b6 x=true):PyData.eqv (.str s) (py x)=Ex x s:=by
 cases x <;> first | (simp [b6] at h;done) | simp only [py,PyData.eqv,Ex]
 rename_i a
 by_cases e:s=a
 ·subst e;simp
 ·rw [decide_eq_false (fun z=>e z.symm)]
  exact beq_eq_false_iff_ne.mpr e
theorem ny {x:D} (h:b6 x=true):∀ ss:List Str,inD x (ss.map D.str)=yY x ss
 | []=>rfl
 | s::ss=>by
  have:=ny h ss
  unfold inD yY at this ⊢
  rw [zcb,zcc,zcc,this]
  rw [show PyData.eqv (py (.str s)) (py x)=Ex x s from EA h]
theorem BB {n:Nat}{x:D}{ss:List Str}{neg:Bool}{S:au}{Q:AK} (h:j7 n x=true) (hn:n≤64) (hs:ss.all eV=true) (q:Q (.dat (.bl (neg != yY x ss))) S) (hl:ss.length≤100:=by decide):zv neg x (.tup (ss.map D.str)) S Q:=by
 have hp:=z7 h
 unfold zv
 rw [lK hp,rP]
 refine ⟨fq h hn,fq (n:=1) ?_ (by decide),?_⟩
 ·simp only [j7,List.all_map,zbJ,decide_eq_true hl,Bool.true_and]
  exact hs
 ·rw [ny hp];exact q
theorem yX {n:Nat}{x:D}{ss:List Str}{neg:Bool}{S:au}{Q:AK} (h:j7 n x=true) (hn:n≤64) (hs:ss.all eV=true) (q:Q (.dat (.bl (neg != yY x ss))) S) (hl:ss.length≤100:=by decide):zv neg x (.lst (ss.map D.str)) S Q:=by
 have hp:=z7 h
 unfold zv
 rw [lK hp,eE]
 refine ⟨fq h hn,fq (n:=1) ?_ (by decide),?_⟩
 ·simp only [j7,List.all_map,zbJ,decide_eq_true hl,Bool.true_and]
  exact hs
 ·rw [ny hp];exact q
end M
namespace M
open PySem PySem.Spec PyProof.Rows L2
theorem jZ:∀ {vs:List Value}{ss:List Str},StrsAre vs ss→Vals (ss.map V.str) vs
 | _,_,.nil=>.nil
 | _,_,.cons y t h=>.cons ⟨t,rfl⟩ (jZ h)
section
variable {X:Cx}
noncomputable def Hi (K:PySem.W.Frag):List V→Hp→VK→Prop:=fun xs H Q=>∃ (a:Addr) (ss:List Str),xs=[.ref a]∧dh K H a (ss.map V.str)∧ss.length<64∧∀ (p:Addr) (ss':List Str),H p=none→ss'.Perm ss→sortedS ss'=true→Q (.ref p) (upd H p (.lst (ss'.map V.str)))
theorem vC:bV X (.builtin "sorted") (Hi X.K):=by
 intro pins s σ H xs us Q I r h
 obtain ⟨a,ss,rfl,ha,hl,q⟩:=h
 obtain ⟨u,rfl,ru⟩:=vals1 r
 cases ru
 obtain ⟨its,r1,⟨o,n,e,hc,hd,hda⟩,_⟩:=I.list ha
 have hlen:its.length=ss.length:=by have:=r1.length;rw [zbJ] at this;exact this.symm
 refine sorted_strs ⟨o,e,hc,n,hda⟩ (lF r1) (by omega) fun out ss' a1 a2 a3 => ?_
 obtain ⟨ep,he⟩:=sortedAll_at s.heap its out
 have hz:(ss'.map V.str).length≤sizeLine:=by rw [zbJ,a2.length_eq,sizeLine_eq];omega
 refine ⟨.ref (s.heap.objs.size+1),_,I.laid (t':=s.toks) (o:=.lst (ss'.map V.str)) (fun b ob q=>sortedAll_old q) (zcz _) ⟨hz,out.toList,ep,jZ a1,he⟩,rfl,q _ ss' (I.hok.fresh (zcz _)) a2 a3⟩
noncomputable def Hl (K:PySem.W.Frag):List V→Hp→VK→Prop:=fun xs H Q=>∃ (a:Addr) (ns:List Int),xs=[.ref a]∧dh K H a (ns.map V.int)∧ns.length<64∧∀ (p:Addr) (ns':List Int),H p=none→ns'.Perm ns→ns'.Pairwise (· ≤ ·)→Q (.ref p) (upd H p (.lst (ns'.map V.int)))
theorem vD:bV X (.builtin "sorted") (Hl X.K):=by
 intro pins s σ H xs us Q I r h
 obtain ⟨a,ns,rfl,ha,hl,q⟩:=h
 obtain ⟨u,rfl,ru⟩:=vals1 r
 cases ru
 obtain ⟨its,r1,⟨o,n,e,hc,hd,hda⟩,_⟩:=I.list ha
 have hlen:its.length=ns.length:=by have:=r1.length;rw [zbJ] at this;exact this.symm
 refine sorted_ints ⟨o,e,hc,n,hda⟩ (intsAre_of r1) (by omega) fun out ns' a1 a2 a3 => ?_
 obtain ⟨ep,he⟩:=sortedAll_at s.heap its out
 have hz:(ns'.map V.int).length≤sizeLine:=by rw [zbJ,a2.length_eq,sizeLine_eq];omega
 refine ⟨.ref (s.heap.objs.size+1),_,I.laid (t':=s.toks) (o:=.lst (ns'.map V.int)) (fun b ob q=>sortedAll_old q) (zcz _) ⟨hz,out.toList,ep,j6 a1,he⟩,rfl,q _ ns' (I.hok.fresh (zcz _)) a2 a3⟩
noncomputable def E6:AN:=fun ds S Q=>∃ d,ds=[d] ∧
 ((∃ ss:List Str,bD S d = .lst (ss.map D.str)∧ss.length<64∧∀ ss':List Str,ss'.Perm ss→sortedS ss'=true→Q (.new (.lst (ss'.map D.str))) S)∨(∃ ns:List Int,bD S d = .lst (ns.map D.int)∧ns.length<64∧∀ ns':List Int,ns'.Perm ns→ns'.Pairwise (· ≤ ·)→Q (.new (.lst (ns'.map D.int))) S))
theorem mJ {K:PySem.W.Frag}{w:Wd}:∀ {ss:List Str}{xs:List V},ak K w (ss.map D.str) xs→xs=ss.map V.str
 | [],xs,h=>by simpa [ak] using h
 | s::ss,xs,h=>by
  simp only [zcb,ak] at h
  obtain ⟨x,r,rfl,h1,h2⟩:=h
  rw [xq h1 rfl,mJ h2];rfl
theorem mK {K:PySem.W.Frag}{w:Wd}:∀ {ns:List Int}{xs:List V},ak K w (ns.map D.int) xs→xs=ns.map V.int
 | [],xs,h=>by simpa [ak] using h
 | s::ss,xs,h=>by
  simp only [zcb,ak] at h
  obtain ⟨x,r,rfl,h1,h2⟩:=h
  rw [bM h1 rfl,mK h2];rfl
theorem fU {K:PySem.W.Frag}{w:Wd}:∀ ss:List Str,ak K w (ss.map D.str) (ss.map V.str)
 | []=>by simp [ak]
 | s::ss=>by
  simp only [zcb,ak]
  exact ⟨_,_,rfl,by simp [Rep],fU ss⟩
theorem Bh:zL X (.builtin "sorted") E6:=⟨mC (MQ vC vD) fun xs H Q h=>by
 obtain ⟨w,ds,S,Qa,ok,rep,⟨d,rfl,q⟩,bk⟩:=h
 obtain ⟨v,rfl,r1⟩:=fJ rep
 rcases q with ⟨ss,z,hl,q⟩ | ⟨ns,z,hl,q⟩
 ·obtain ⟨a,xs,rfl,h1,h2⟩:=bX ok r1 z
  have:=mJ h2
  subst this
  exact .inl ⟨a,ss,rfl,dh.of h1,hl,fun p ss' hp h3 h4=>bk (.new (.lst _)) S _ w _ .refl (ok.alloc hp) (ok.fresh hp ⟨_,rfl,fU ss'⟩) (q ss' h3 h4)⟩
 ·obtain ⟨a,xs,rfl,h1,h2⟩:=bX ok r1 z
  have:=mK h2
  subst this
  exact .inr ⟨a,ns,rfl,dh.of h1,hl,fun p ns' hp h3 h4=>bk (.new (.lst _)) S _ w _ .refl (ok.alloc hp) (ok.fresh hp ⟨_,rfl,ic ns'⟩) (q ns' h3 h4)⟩⟩
end
section
variable {X:Cx}{e o value:Expr}{es:List Expr}{p p2 pos pos2 apos tpos:Pos}
noncomputable def putD (f:Str) (d:D):List Str→List D→List Str×List D
 | k::ks,e::ds=>if k=f then (k::ks,d::ds) else (k::(putD f d ks ds).1,e::(putD f d ks ds).2)
 | _,_=>([f],[d])
theorem xw {K:PySem.W.Frag}{w:Wd}{f:Str}{d:D}{v:V} (g:Rep K w d v):∀ (fs:List (Str×V)) (ds:List D),ak K w ds (fs.map (·.2))→(fV f v fs).map (·.1)=(putD f d (fs.map (·.1)) ds).1∧ak K w (putD f d (fs.map (·.1)) ds).2 ((fV f v fs).map (·.2))
 | [],ds,h=>by
  cases ds with
  | nil=>exact ⟨rfl,.cons g .nil⟩
  | cons _ _=>exact ⟨rfl,.cons g .nil⟩
 | (k,x)::fs,ds,h=>by
  cases ds with
  | nil=>simp [ak] at h
  | cons e ds =>
   simp only [zcb,ak] at h
   obtain ⟨y,r,h1,h2,h3⟩:=h
   have e1:=(zcD.inj h1).1
   have e2:=(zcD.inj h1).2
   subst e1;subst e2
   obtain ⟨i1,i2⟩:=xw g fs ds h3
   simp only [fV,zcb,putD]
   by_cases hk:k=f
   ·rw [if_pos hk,if_pos hk];exact ⟨rfl,.cons g h3⟩
   ·rw [if_neg hk,if_neg hk]
    exact ⟨by rw [zcb,i1],.cons h2 i2⟩
theorem sG {K:PySem.W.Frag}{w:Wd}{f:Str}{d:D}:∀ (fs:List (Str×V)) (ds:List D),ak K w ds (fs.map (·.2))→((fs.map (·.1)).zip ds).lookup f=some d→∃ v,fs.lookup f=some v∧Rep K w d v
 | [],ds,h,q=>by simp at q
 | (k,x)::fs,ds,h,q=>by
  cases ds with
  | nil=>simp at q
  | cons e ds =>
   simp only [zcb,ak] at h
   obtain ⟨y,r,h1,h2,h3⟩:=h
   have e1:=(zcD.inj h1).1
   have e2:=(zcD.inj h1).2
   subst e1;subst e2
   rw [zcb,zaT,zby] at q
   rw [zby]
   split at q
   ·rename_i hb
    have:e=d:=by simpa using q
    subst this
    exact ⟨x,by rw [hb],h2⟩
   ·rename_i hb
    obtain ⟨v,e,r⟩:=sG fs ds h3 q
    exact ⟨v,by rw [hb];exact e,r⟩
theorem ko {f:Str}:∀ (fs:List (Str×V)),f ∉ fs.map (·.1)→fs.lookup f=none
 | [],_=>rfl
 | (k,x)::fs,h=>by
  rw [zby]
  have:(f==k)=false:=by
   rw [beq_eq_false_iff_ne];intro z;exact h (by simp [z])
  rw [this]
  exact ko fs fun z=>h (by simp only [zcb,zca];exact .inr z)
theorem qO {K:PySem.W.Frag}{w:Wd}{H:Hp}{S:au}{n:Nat}{v:V}{C:Addr}{ks:List Str}{ds:List D} (ok:Ok K w H S) (h:Rep K w (.loc n) v) (e:S[n]? = some (some (.ins C ks ds))) :
  ∃ a dx fs,v = .ref a∧w.r n=some a∧H a=some (.ins C dx fs)∧fs.map (·.1)=ks∧ak K w ds (fs.map (·.2)):=by
 simp only [Rep] at h
 obtain ⟨a,h1,rfl⟩:=h
 obtain ⟨a',u,g1,g2,g3,dx,fs,rfl,g5,g6⟩:=ok.live n _ e
 rw [h1] at g1;cases g1
 exact ⟨a,dx,fs,rfl,h1,g3,g5,g6⟩
noncomputable def Cw (C:Addr) (a:AE) (f:Str):AE:=fun δ S Q=>a δ S fun r S1=>∃ n ks ds d,r = .dat (.loc n)∧S1[n]? = some (some (.ins C ks ds))∧(ks.zip ds).lookup f=some d∧Q (.dat d) S1
theorem bz {C:Addr}{f:Str}{ta:AE} (he:GE X e ta) (c:yr X.K C) (nf:eS X.K C f) (hb:attributeBase e f X.env (eval e X.env)=eval e X.env:=by rfl):GE X (.Attribute e f pos) (Cw C ta f) :=
 ⟨mE (L2.bz he.p hb) fun σ H Q h=>by
  obtain ⟨w,δ,S,Qa,ok,env,q,bk⟩:=h
  refine ⟨w,δ,S,_,ok,env,q,fun r S1 v w1 H1 le1 ok1 rep1 ⟨n,ks,ds,d,er,hS,hl,q1⟩ => ?_⟩
  subst er
  obtain ⟨a,dx,fs,rfl,_,ha,hk,hd⟩:=qO ok1 rep1 hS
  subst hk
  obtain ⟨v,l,rv⟩:=sG fs ds hd hl
  exact ⟨a,C,dx,fs,v,rfl,ha,c,nf,l,bk.dat le1 ok1 rv q1⟩⟩
noncomputable def FH (C:Addr) (a v:AE) (f:Str):AS:=fun D δ S=>v δ S fun y S1=>a δ S1 fun r S2=>∃ n ks ds,r = .dat (.loc n)∧S2[n]? = some (some (.ins C ks ds))∧ks.length<1000∧D.nx δ (S2.set n (some (.ins C (putD f y.d ks ds).1 (putD f y.d ks ds).2)))
theorem mY {C:Addr}{f:Str}{ta tv:AE} (ha:GE X o ta) (hv:GE X value tv) (c:yr X.K C) (nf:eS X.K C f) (hs:swapsWith value (some (.Attribute o f pos2)) pos.line X.env=pure false:=by rfl) :
  GS X (.Assign [.Attribute o f pos2] value pos) (FH C ta tv f) :=
 ⟨mS (L2.mY ha.p hv.p hs) fun Dx σ H h=>by
  obtain ⟨w,δ,S,Da,ok,env,q,bk⟩:=h
  refine ⟨w,δ,S,_,ok,env,q,.go fun y S1 v1 w1 H1 le1 ok1 rep1 q1 => ?_⟩
  refine ⟨w1,δ,S1,_,ok1,env.le le1,q1,fun r S2 v2 w2 H2 le2 ok2 rep2 ⟨n,ks,ds,er,hS,hl,q2⟩ => ?_⟩
  subst er
  obtain ⟨a,dx,fs,rfl,hr,ha,hk,hd⟩:=qO ok2 rep2 hS
  subst hk
  obtain ⟨i1,i2⟩:=xw (f:=f) (rep1.le le2) fs ds hd
  refine ⟨a,C,dx,fs,rfl,ha,c,nf,by simpa using hl,?_⟩
  exact bk.nx _ _ _ w2 _ (le1.trans le2) (ok2.put hS hr (o':=.ins C (putD f y.d (fs.map (·.1)) ds).1 (putD f y.d (fs.map (·.1)) ds).2) ⟨dx,_,rfl,i1,i2⟩) (env.le (le1.trans le2)) q2⟩
end
structure cE (K:PySem.W.Frag) (C:Addr) (m qual:Str) (ps:List Str) (st:Stmt):Prop where
 ex:∃ f fd,Dk K m qual st f fd∧Meth K C m f∧Binds K fd ps []
structure bA (P:Program) (w:World) (K:PySem.W.Frag) (mg:Str→Option Value) (base:Heap) (k:Nat) (C:Addr) (m:Str) (ps:List Str) (sp:AN):Prop where
 ex:∃ f fd,d8 P w K mg base kY k f fd ps (aW K sp)∧Meth K C m f∧Binds K fd ps []
section
variable {X:Cx}{e o:Expr}{es:List Expr}{p pos apos:Pos}{C:Addr}{k:Nat}{m:Str}{ps:List Str}{sp:AN}
noncomputable def tR (C:Addr) (m:Str) (sp:AN) (a:AE) (t:AA):AE:=fun δ S Q=>a δ S fun r S1=>∃ n ks ds,r = .dat (.loc n)∧S1[n]? = some (some (.ins C ks ds))∧m ∉ ks∧t δ S1 fun es S2=>sp (.loc n::es) S2 Q
theorem GY {K:PySem.W.Frag}{E:XK}{a:AE}{t:AA}:∀ σ H Q,bB K (tR C m sp a t) σ H Q→Ac C m (aW K sp) [] E (bB K a) (nL K t) σ H Q:=by
 rintro σ H Q ⟨w,δ,S,Qa,ok,env,q,bk⟩
 refine ⟨w,δ,S,_,ok,env,q,fun r S1 v w1 H1 le1 ok1 rep1 ⟨n,ks,ds,er,hS,hm,q1⟩ => ?_⟩
 subst er
 obtain ⟨a,dx,fs,rfl,hr,ha,hk,hd⟩:=qO ok1 rep1 hS
 subst hk
 refine ⟨a,dx,fs,rfl,ha,ko fs hm,w1,δ,S1,_,ok1,env.le le1,q1,fun es S2 vs w2 H2 le2 ok2 rep2 q2 => ?_⟩
 refine ⟨w2,.loc n::es,S2,Qa,ok2,?_,q2,bk.le (le1.trans le2)⟩
 rw [zbK]
 exact .cons (by simp only [Rep];exact ⟨a,le2.r _ _ hr,rfl⟩) rep2
theorem aP {pl:Sem Bool}{ta:AE}{t:AA} (he:GE X o ta) (c:yr X.K C) (D:bA X.prog X.w X.K X.mg X.base k C m ps sp) (hr:bf k X.A) (ha:GA X (e::es) t)
  (hst:starEach (e::es) X.env=(false,eval e X.env)::starEach es X.env:=by rfl) (hpl:(backTo pos (starEach es X.env)).any (·.1)=false:=by rfl)
  (ht:eval (.Call (.Attribute o m apos) (e::es) [] pos) X.env=(do
   let ov ← eval o X.env
   standAt apos.atName
   let (f,first) ← holding [ov] (getMethod ov m pl)
   callWith pos f first (backTo pos (starEach (e::es) X.env)) (backToKw pos (keywordEach [] X.env))):=by rfl) :
  GE X (.Call (.Attribute o m apos) (e::es) [] pos) (tR C m sp ta t):=by
 obtain ⟨f,fd,F,hm,hb⟩:=D.ex
 exact ⟨mE (L2.aP he.p c hm F hr hb .nil jv ha.p hst hpl ht) GY⟩
theorem cu {pl:Sem Bool}{ta:AE} (he:GE X o ta) (c:yr X.K C) (D:bA X.prog X.w X.K X.mg X.base k C m ps sp) (hr:bf k X.A)
  (ht:eval (.Call (.Attribute o m apos) [] [] pos) X.env=(do
   let ov ← eval o X.env
   standAt apos.atName
   let (f,first) ← holding [ov] (getMethod ov m pl)
   callWith pos f first (backTo pos (starEach [] X.env)) (backToKw pos (keywordEach [] X.env))):=by rfl) :
  GE X (.Call (.Attribute o m apos) [] [] pos) (tR C m sp ta vH):=by
 obtain ⟨f,fd,F,hm,hb⟩:=D.ex
 exact ⟨mE (L2.cu he.p c hm F hr hb .nil jv ht) fun σ H Q h=>by
  obtain ⟨w,δ,S,Qa,ok,env,q,bk⟩:=h
  refine ⟨w,δ,S,_,ok,env,q,fun r S1 v w1 H1 le1 ok1 rep1 ⟨n,ks,ds,er,hS,hm,q1⟩ => ?_⟩
  subst er
  obtain ⟨a,dx,fs,rfl,hr,ha,hk,hd⟩:=qO ok1 rep1 hS
  subst hk
  refine ⟨a,dx,fs,rfl,ha,ko fs hm,w1,[.loc n],S1,Qa,ok1,?_,q1,bk.le le1⟩
  rw [zbQ]
  exact .cons rep1 .nil⟩
noncomputable def Cv (C:Addr) (sp:AN) (t:AA):AE:=fun δ S Q=>t δ S fun es S1=>sp (.loc S1.length::es) (S1++[some (.ins C [] [])]) fun r S2=>r = .dat .bN∧Q (.dat (.loc S1.length)) S2
noncomputable def Je:AS:=fun _ _ _=>False
theorem cj {st:Stmt}:GS X st Je:=⟨mS L2.cj fun D σ H h=>by obtain ⟨_,_,_,_,_,_,z,_⟩:=h;exact z.elim⟩
end
end M
namespace Srt
open PySem PySem.W PyProof.Rows
structure Ord (α:Type) where
 lt:α→α→Bool
 irr:∀ a,lt a a=false
 tr:∀ a b c,lt a b=true→lt b c=true→lt a c=true
 nt:∀ a b c,lt a c=true→lt a b=true∨lt b c=true
noncomputable def run {β:Type} (f:Nat→Nat→Bool):KasT β→β
 | .ret a=>a
 | .ask i j k=>run f (k (f i j))
section
variable {α:Type} (O:Ord α)
noncomputable def le (a b:α):Prop:=O.lt b a=false
variable {O}
end
section
variable {α:Type}{O:Ord α}{k:Nat→α}{p:Array Nat}
noncomputable def val (k:Nat→α) (p:Array Nat) (i:Nat):α:=k (p.getD i 0)
variable (O k)
noncomputable def Up (p:Array Nat) (m:Nat):Prop:=∀ i j,i≤j→j<m→le O (val k p i) (val k p j)
noncomputable abbrev ask (i j:Nat):Bool:=O.lt (k i) (k j)
variable {O k}
end
end Srt
namespace M
open PySem PySem.Spec PyProof.Rows L2
section
variable {K:PySem.W.Frag}
noncomputable def i0 (ks:List Key) (ds:List D) (k:Key):Option D:=((ks.zip ds).find? fun p=>decide (p.1=k)).map (·.2)
noncomputable def jL (ks:List Key) (ds:List D) (k:Key) (d:D):MO:=if (ks.any fun j=>decide (j=k))=true then .dct ks ((ks.zip ds).map fun p=>if p.1=k then d else p.2) else .dct (ks++[k]) (ds++[d])
theorem qQ {w:Wd}{k:Key}{d:D}:∀ {kvs:List (Key×V)}{ds:List D},ak K w ds (kvs.map (·.2))→i0 (kvs.map (·.1)) ds k=some d→∃ v,eW kvs k=some v∧Rep K w d v
 | [],ds,h,e=>by simp [i0] at e
 | (j,u)::r,ds,h,e=>by
  cases ds with
  | nil=>simp [i0] at e
  | cons x ds =>
   simp only [zcb,ak] at h
   obtain ⟨x',r',e',h1,h2⟩:=h
   injection e' with e1 e2
   subst e1;subst e2
   unfold i0 at e
   unfold eW
   by_cases hj:j=k
   ·rw [zcb,zaT,List.find?_cons_of_pos (by simpa using hj)] at e
    rw [List.find?_cons_of_pos (by simpa using hj)]
    cases e
    exact ⟨u,rfl,h1⟩
   ·rw [zcb,zaT,List.find?_cons_of_neg (by simpa using hj)] at e
    rw [List.find?_cons_of_neg (by simpa using hj)]
    exact qQ (kvs:=r) h2 e
theorem rW {w:Wd}{k:Key}{d:D}{v:V} (g:Rep K w d v):∀ {kvs:List (Key×V)}{ds:List D},ak K w ds (kvs.map (·.2)) →
  ak K w (((kvs.map (·.1)).zip ds).map fun p=>if p.1=k then d else p.2) ((kvs.map fun kv=>if kv.1=k then (kv.1,v) else kv).map (·.2))
 | [],ds,h=>by
  cases ds with
  | nil=>exact .nil
  | cons x ds=>simp only [zcg,ak] at h;obtain ⟨_,_,z,_⟩:=h;cases z
 | (j,u)::r,ds,h=>by
  cases ds with
  | nil=>simp only [zcb,ak] at h;cases h
  | cons x ds =>
   simp only [zcb,ak] at h
   obtain ⟨x',r',e',h1,h2⟩:=h
   injection e' with e1 e2
   subst e1;subst e2
   simp only [zcb,zaT]
   refine .cons ?_ (rW g h2)
   by_cases hj:j=k
   ·rw [if_pos hj,if_pos hj];exact g
   ·rw [if_neg hj,if_neg hj];exact h1
theorem r6 {w:Wd}{k:Key}{d:D}{v:V}{kvs:List (Key×V)}{ds:List D} (g:Rep K w d v) (h:ak K w ds (kvs.map (·.2))):jQ K w (jL (kvs.map (·.1)) ds k d) (.dK (putK kvs k v)):=by
 unfold jL putK
 have e:((kvs.map (·.1)).any fun j=>decide (j=k))=(kvs.any fun kv=>decide (kv.1=k)):=by
  rw [zch];rfl
 rw [e]
 by_cases hc:(kvs.any fun kv=>decide (kv.1=k))=true
 ·rw [if_pos hc,if_pos hc]
  refine ⟨_,rfl,?_,rW g h⟩
  rw [zcj]
  refine zaK fun kv _ => ?_
  show (if kv.1=k then (kv.1,v) else kv).1=kv.1
  split <;> rfl
 ·rw [if_neg hc,if_neg hc]
  refine ⟨_,rfl,by simp,?_⟩
  rw [zbR]
  exact h.snoc g
theorem vz {w:Wd}{H:Hp}{S:au}{p:Nat}{v:V}{ks:List Key}{ds:List D} (ok:Ok K w H S) (h:Rep K w (.loc p) v) (e:S[p]? = some (some (.dct ks ds))) :
  ∃ a kvs,v = .ref a∧w.r p=some a∧H a=some (.dK kvs)∧kvs.map (·.1)=ks∧ak K w ds (kvs.map (·.2)):=by
 simp only [Rep] at h
 obtain ⟨a,h1,rfl⟩:=h
 obtain ⟨a',u,g1,g2,g3,kvs,rfl,g5,g6⟩:=ok.live p _ e
 rw [h1] at g1;cases g1
 exact ⟨a,kvs,rfl,h1,g3,g5,g6⟩
noncomputable def kW (a b c:AE):AS:=fun D δ S=>c δ S fun r3 S1=>a δ S1 fun r1 S2=>b δ S2 fun r2 S3=>∃ n es k j,r1.d = .loc n∧r2.d = .int k∧S3[n]? = some (some (.lst es))∧zR es.length k=some j∧D.nx δ (S3.set n (some (.lst (es.set j r3.d))))
theorem GZ {a b c:AE}:∀ D σ H,f7 K (kW a b c) D σ H→uv (bB K c) (Ky (bB K a) (bB K b) FJ) D σ H:=by
 rintro D σ H ⟨w,δ,S,Da,ok,env,q,bk⟩
 refine ⟨w,δ,S,_,ok,env,q,.go fun r3 S1 v3 w1 H1 le1 ok1 rep3 q1 => ?_⟩
 refine ⟨w1,δ,S1,_,ok1,env.le le1,q1,.go fun r1 S2 v1 w2 H2 le2 ok2 rep1 q2 => ?_⟩
 refine ⟨w2,δ,S2,_,ok2,(env.le le1).le le2,q2,.go fun r2 S3 v2 w3 H3 le3 jw rep2 ⟨n,es,k,j,z1,z2,z3,hj,q3⟩ => ?_⟩
 rw [z1] at rep1
 obtain ⟨a,ys,rfl,ha,hH,hr⟩:=vd jw (rep1.le le3) z3
 rw [bM rep2 z2]
 refine ⟨a,ys,k,j,rfl,rfl,hH,by rw [hr.length];exact hj,?_⟩
 have ok4:=jw.put z3 ha (rX (hr.set (rep3.le (le2.trans le3)) j))
 exact bk.nx δ _ σ w3 _ ((le1.trans le2).trans le3) ok4 (((env.le le1).le le2).le le3) q3
end
section
variable {X:Cx}{e o i value:Expr}{p p2 pos pos2 pos' pc pu:Pos}
theorem jk {ta tb tc:AE} (ho:GE X o ta) (hi:GE X i tb) (hv:GE X value tc) (ha:∀ v,assign (.Subscript o i pos') X.env v=(do
   let ov ← holding [v] (eval o X.env)
   let iv ← holding [v,ov] (eval i X.env)
   standAt pos'
   holding [v,ov,iv] (setItem ov iv v)
   release [v,ov,iv] []):=by intro _;rfl) (hs:swapsWithSole [.Subscript o i pos'] value pos.line X.env=pure false:=by rfl) (hw:swappedStores [.Subscript o i pos'] value X.env=pure none:=by rfl)
  (h1:(assignEach [.Subscript o i pos'] X.env).map (·.2)=[assign (.Subscript o i pos') X.env]:=by rfl):GS X (.Assign [.Subscript o i pos'] value pos) (kW ta tb tc) :=
 ⟨mS (L2.qp hv.p (L2.Hy ho.p hi.p set_list ha) hs hw h1) GZ⟩
end
section
variable {K:PySem.W.Frag}
noncomputable def pO (K:PySem.W.Frag):List Str→List AE→List (TE×TE)
 | k::ks,a::as=>(tC (.str k),bB K a)::pO K ks as
 | _,_=>[]
theorem KA {w:Wd}{H:Hp}{S:au}{m:Nat}{ds:List D} (k:Ok K w H S) (e:S[m]? = some (some (.lst ds))):∃ w',w.le w'∧Ok K w' H (S.set m none)∧∀ v,Rep K w (.loc m) v→Rep K w' (.lst ds) v:=by
 obtain ⟨a,u,h1,h2,h3,xs,rfl,h4⟩:=k.live m _ e
 have le:w.le ⟨upd w.B a (.lst xs),w.r⟩:=⟨al h2,fun _ _ e=>e⟩
 have at_:∀ n o,(S.set m none)[n]? = some (some o)→n≠m∧S[n]? = some (some o):=fun n o z=>by
  by_cases hm:m=n
  ·subst hm
   rw [zbj] at z
   simp at z
  ·rw [zaC hm] at z
   exact ⟨fun y=>hm y.symm,z⟩
 refine ⟨⟨upd w.B a (.lst xs),w.r⟩,le,⟨fun b o z => ?_,fun n o z => ?_,fun n j o o' z1 z2 z => ?_,fun n hn=>k.top n (by rw [zbO] at hn;exact hn)⟩,fun v hv => ?_⟩
 ·by_cases hb:b=a
  ·subst hb
   have z:upd w.B b (.lst xs) b=some o:=z
   rw [aM] at z
   rw [h3];exact z
  ·have z:upd w.B a (.lst xs) b=some o:=z
   rw [aJ hb] at z
   exact k.base b o z
 ·obtain ⟨hn,z⟩:=at_ n o z
  obtain ⟨a',u',g1,g2,g3,g4⟩:=k.live n o z
  have hne:a'≠a:=fun y=>hn (k.inj n m _ _ z e (by rw [g1,h1,y]))
  exact ⟨a',u',g1,by show upd w.B a _ a'=none;rw [aJ hne];exact g2,g3,g4.le le⟩
 ·exact k.inj n j o o' (at_ n o z1).2 (at_ j o' z2).2 z
 ·simp only [Rep] at hv ⊢
  obtain ⟨a',g1,rfl⟩:=hv
  rw [h1] at g1;cases g1
  exact ⟨a,xs,rfl,aM,h4.le le⟩
noncomputable def sb (m:Nat) (e:D):D→D
 | .loc n=>if n=m then e else .loc n
 | d=>d
theorem AF {w w':Wd}{m:Nat}{ds:List D} (le:w.le w') (f:∀ v,Rep K w (.loc m) v→Rep K w' (.lst ds) v):∀ {es:List D}{xs:List V},ak K w es xs→ak K w' (es.map (sb m (.lst ds))) xs
 | [],xs,h=>by simp only [ak] at h;subst h;exact .nil
 | d::es,xs,h=>by
  simp only [ak] at h
  obtain ⟨x,r,rfl,h1,h2⟩:=h
  refine .cons ?_ (AF le f h2)
  cases d with
  | loc n =>
   show Rep K w' (if n=m then _ else _) x
   by_cases hn:n=m
   ·rw [if_pos hn];subst hn;exact f x h1
   ·rw [if_neg hn];exact h1.le le
  | _=>exact h1.le le
noncomputable def Fd (a:AE):AE:=fun δ S Q=>a δ S fun r S1=>∃ m ds es,r = .dat (.tup es)∧S1[m]? = some (some (.lst ds))∧Q (.dat (.tup (es.map (sb m (.lst ds))))) (S1.set m none)
theorem JS {a:AE}:∀ σ H Q,bB K (Fd a) σ H Q→bB K a σ H Q:=by
 rintro σ H Q ⟨w,δ,S,Qa,ok,env,q,bk⟩
 refine ⟨w,δ,S,_,ok,env,q,fun r S1 v w1 H1 le1 ok1 rep1 ⟨m,ds,es,er,hS,q1⟩ => ?_⟩
 subst er
 have rep1:Rep K w1 (.tup es) v:=rep1
 simp only [Rep] at rep1
 obtain ⟨t,xs,rfl,hB,hr⟩:=rep1
 obtain ⟨w2,le2,ok2,f⟩:=KA ok1 hS
 refine bk.dat (le1.trans le2) ok2 ?_ q1
 simp only [Rep]
 exact ⟨t,xs,rfl,le2.b _ _ hB,AF le2 f hr⟩
end
section
variable {X:Cx}{e:Expr}{pos:Pos}
theorem Im {t:AE} (h:GE X e t):GE X e (Fd t):=⟨mE h.p JS⟩
end
end M
namespace M6
open PySem PySem.Spec PyProof.Rows
mutual
noncomputable def b8:PyData→Bool
 | .int _=>true
 | .str x=>(PyData.str x).canLay0
 | .tuple xs=>dz xs
 | _=>false
noncomputable def dz:List PyData→Bool
 | []=>true
 | x::xs=>b8 x&&dz xs
end
mutual
noncomputable def xN (w:World):PyData→Int
 | .int i=>hashInt i
 | .str x=>hashStr w x
 | .tuple xs=>reduceHash (Builtin.Tuple.tupleHashOf (gC w xs))
 | _=>0
noncomputable def gC (w:World):List PyData→List Int
 | []=>[]
 | x::xs=>xN w x::gC w xs
end
mutual
noncomputable def Mu:PyData→Nat
 | .int _=>1
 | .str _=>1
 | .tuple xs=>nG xs+1
 | _=>0
noncomputable def nG:List PyData→Nat
 | []=>0
 | x::xs=>Mu x+nG xs
end
theorem iP (w:World):∀ a b,gC w (a++b)=gC w a++gC w b
 | [],b=>rfl
 | x::a,b=>by simp only [List.cons_append,gC,iP w a b]
theorem kT:∀ a b,nG (a++b)=nG a+nG b
 | [],b=>by simp [nG]
 | x::a,b=>by simp only [List.cons_append,nG,kT a b];omega
theorem gz:∀ {xs:List PyData},dz xs=true→∀ x∈xs,b8 x=true
 | [],_,x,hx=>by simp at hx
 | y::xs,h,x,hx=>by
  simp only [dz,zbE] at h
  rcases zca.mp hx with rfl | hx
  ·exact h.1
  ·exact gz h.2 x hx
theorem dJ:∀ {xs:List PyData}{x:PyData},x∈xs→x.depth≤PyData.depthAll xs
 | y::xs,x,hx=>by
  simp only [PyData.depthAll]
  rcases zca.mp hx with rfl | hx
  ·omega
  ·have:=dJ hx;omega
theorem cC (xs:List PyData):(PyData.tuple xs).depth=PyData.depthAll xs+1:=by
 simp only [PyData.depth]
section
variable {prog:Program}{w:World}
theorem gV {s:Shared}{a:Addr}{o:Obj} (ho:s.heap.get? a=some o) (hc:o.cls=Value.type "tuple"):s.TypeIs (.ref a) "tuple" := ⟨o,ho,hc⟩
theorem rZ:∀ (n:Nat) (d:PyData) {v:Value}{as:List Addr}{A:Around}{E:Value→Shared→Prop}{s:Shared}{Q:Int→Shared→Prop},d.depth≤n→b8 d=true→Reads s.heap v d as→A.units+n<cLine →
  Q (xN w d) { s with toks:=s.toks+Mu d }→wpAny (model prog w) A (pyHash v) Q E s:=by
 intro n
 induction n with
 | zero =>
  intro d v as A E s Q hd hk hr hu h
  cases hr with
  | int i t=>exact wpAny_pyHash_int h
  | str x t=>exact wpAny_pyHash_str h
  | tuple ho hc hd' hall=>rw [cC] at hd;omega
  | none=>simp [b8] at hk
  | bool b=>simp [b8] at hk
  | list _ _ _ _=>simp [b8] at hk
  | dict _ _ _ _ _=>simp [b8] at hk
 | succ n ih =>
  intro d v as A E s Q hd hk hr hu h
  cases hr with
  | int i t=>exact wpAny_pyHash_int h
  | str x t=>exact wpAny_pyHash_str h
  | none=>simp [b8] at hk
  | bool b=>simp [b8] at hk
  | list _ _ _ _=>simp [b8] at hk
  | dict _ _ _ _ _=>simp [b8] at hk
  | @tuple a o vs m xs as ho hc hdat hall =>
   have hT:=gV ho hc
   have hk:dz xs=true:=hk
   rw [cC] at hd
   show wpAny (model prog w) A (pyHashByItsType (.ref a)) Q E s
   refine W.pyHash_slot (T := "tuple") hT F.slot_tuple_hash F.entry_tuple_hash (F.args_tuple_hash_1 (.ref a)) (by decide) (.inr (by omega)) ?_
   show wpAny (model prog w) A.in1 (do
    let __do_lift ← Builtin.Tuple.tupleItemsOf (.ref a)
    let __s ← forIn __do_lift (#[]:Array Int) fun x __s=>do
       let __do_lift ← pyHash x
       pure (ForInStep.yield (__s.push __do_lift))
    retInt (Builtin.Tuple.tupleHashOf __s.toList)) _ E s
   refine wpAny_bind (wpAny_tupleItemsOf ho hdat (wpAny_bind ?_))
   rw [← Array.forIn_toList]
   refine wpAny_forIn_list _ (fun rest b s'=>∃ don left as',xs=don++left∧ReadsAll s.heap rest left as'∧b.toList=gC w don∧s'={ s with toks:=s.toks+nG don }) _ ?_ ?_ vs.toList #[] ⟨[],xs,_,rfl,hall,rfl,rfl⟩
   ·rintro x rest b s' ⟨don,left,as',rfl,hl,hb,rfl⟩
    cases hl with
    | @cons _ _ d' ds as1 bs hx hrest =>
     have hm:d'∈don++d'::ds:=by simp
     refine wpAny_bind (ih d' (as:=as1) (s:={ s with toks:=s.toks+nG don }) (by have:=dJ hm;omega) (gz hk d' hm) hx (by show A.units+1+n<cLine;omega) ?_)
     refine wpAny_pure ⟨don++[d'],ds,bs,by simp,hrest,?_,?_⟩
     ·rw [zbq,hb,iP];rfl
     ·rw [kT];simp only [nG,Nat.add_zero,Nat.add_assoc]
   ·rintro b s' ⟨don,left,as',rfl,hl,hb,rfl⟩
    cases hl
    rw [zbK] at h
    rw [hb]
    refine wpAny_mono (wpAny_ret_mkInt (Q:=fun v s'=>∃ n t,v=Value.int n t∧Q (reduceHash n) s') ⟨_,_,rfl,?_⟩) (fun fin s' => ?_) (fun _ _ z=>z)
    ·have h:Q (reduceHash (Builtin.Tuple.tupleHashOf (gC w don))) { s with toks:=s.toks+(nG don+1) }:=h
     exact h
    ·rintro ⟨v,rfl,n,t,rfl,q⟩
     exact ⟨n,t,rfl,q⟩
theorem uN:∀ (n:Nat) (d:PyData) {v:Value}{as:List Addr}{A:Around}{E:Value→Shared→Prop}{s:Shared}{Q:Bool→Shared→Prop},d.depth≤n→b8 d=true→Reads s.heap v d as→Q true s→wpAny (model prog w) A (eqIsQuiet n v) Q E s:=by
 intro n
 induction n with
 | zero =>
  intro d v as A E s Q hd hk hr h
  cases hr with
  | int i t=>rw [eqIsQuiet_byValue 0 rfl];exact wpAny_pure h
  | str x t=>rw [eqIsQuiet_byValue 0 rfl];exact wpAny_pure h
  | tuple ho hc hd' hall=>rw [cC] at hd;omega
  | none=>simp [b8] at hk
  | bool b=>simp [b8] at hk
  | list _ _ _ _=>simp [b8] at hk
  | dict _ _ _ _ _=>simp [b8] at hk
 | succ n ih =>
  intro d v as A E s Q hd hk hr h
  cases hr with
  | int i t=>rw [eqIsQuiet_byValue _ rfl];exact wpAny_pure h
  | str x t=>rw [eqIsQuiet_byValue _ rfl];exact wpAny_pure h
  | none=>simp [b8] at hk
  | bool b=>simp [b8] at hk
  | list _ _ _ _=>simp [b8] at hk
  | dict _ _ _ _ _=>simp [b8] at hk
  | @tuple a o vs m xs as ho hc hdat hall =>
   have hT:=gV ho hc
   have hk:dz xs=true:=hk
   rw [cC] at hd
   rw [eqIsQuiet.eq_def]
   refine wpAny_bind (wpAny_specialOf hT F.slot_tuple_eq.lookup ?_)
   refine wpAny_bind (wpAny_isInstance hT isSubtype_tuple_tuple ?_)
   rw [if_neg (by decide)]
   refine wpAny_bind (wpAny_seqItems ho hdat (wpAny_bind ?_))
   show wpAny (model prog w) A (forIn vs _ _) _ E s
   rw [← Array.forIn_toList]
   refine wpAny_forIn_list _ (fun rest r s'=>r.1=none∧s'=s∧∃ left as',ReadsAll s.heap rest left as'∧∀ x∈left,x∈xs) _ ?_ ?_ vs.toList (none,()) ⟨rfl,rfl,xs,_,hall,fun _ hx=>hx⟩
   ·rintro y rest ⟨r1,r2⟩ s' ⟨hr,rfl,left,as',hl,hsub⟩
    cases hl with
    | @cons _ _ d' ds as1 bs hx hrest =>
     have hm:d'∈xs:=hsub d' (by simp)
     refine wpAny_bind (ih d' (as:=as1) (by have:=dJ hm;omega) (gz hk d' hm) hx ?_)
     exact wpAny_pure ⟨rfl,rfl,ds,bs,hrest,fun x hx=>hsub x (zaA _ hx)⟩
   ·rintro ⟨r1,r2⟩ s' ⟨hr,rfl,_⟩
    have hr:r1=none:=hr
    subst hr
    exact wpAny_pure h
end
noncomputable instance:DecidableEq PyData:=fun _ _=>Classical.propDecidable _
mutual
theorem fZ:∀ x y:PyData,b8 x=true→b8 y=true→PyData.eqv x y=decide (x=y)
 | .int i,.int j,_,_=>by
  simp only [PyData.eqv]
  by_cases h:i=j
  ·subst h;simp
  ·have : ¬ PyData.int i = .int j:=fun e=>h (by injection e)
   rw [decide_eq_false this];simpa using h
 | .str i,.str j,_,_=>by
  simp only [PyData.eqv]
  by_cases h:i=j
  ·subst h;simp
  ·have : ¬ PyData.str i = .str j:=fun e=>h (by injection e)
   rw [decide_eq_false this];simpa using h
 | .tuple xs,.tuple ys,hx,hy=>by
  simp only [PyData.eqv]
  rw [sS xs ys hx hy]
  by_cases h:xs=ys
  ·subst h;simp
  ·have : ¬ PyData.tuple xs = .tuple ys:=fun e=>h (by injection e)
   rw [decide_eq_false this,decide_eq_false h]
 | .int i,.str j,_,_=>by rw [decide_eq_false (fun e=>nomatch e)];rfl
 | .int i,.tuple j,_,_=>by rw [decide_eq_false (fun e=>nomatch e)];rfl
 | .str i,.int j,_,_=>by rw [decide_eq_false (fun e=>nomatch e)];rfl
 | .str i,.tuple j,_,_=>by rw [decide_eq_false (fun e=>nomatch e)];rfl
 | .tuple i,.int j,_,_=>by rw [decide_eq_false (fun e=>nomatch e)];rfl
 | .tuple i,.str j,_,_=>by rw [decide_eq_false (fun e=>nomatch e)];rfl
 | .none,_,h,_=>by simp [b8] at h
 | .bool _,_,h,_=>by simp [b8] at h
 | .list _,_,h,_=>by simp [b8] at h
 | .dict _,_,h,_=>by simp [b8] at h
 | _,.none,_,h=>by simp [b8] at h
 | _,.bool _,_,h=>by simp [b8] at h
 | _,.list _,_,h=>by simp [b8] at h
 | _,.dict _,_,h=>by simp [b8] at h
theorem sS:∀ x y:List PyData,dz x=true→dz y=true→PyData.eqvAll x y=decide (x=y)
 | [],[],_,_=>by simp [PyData.eqvAll]
 | [],y::ys,_,_=>by simp [PyData.eqvAll]
 | x::xs,[],_,_=>by simp [PyData.eqvAll]
 | x::xs,y::ys,hx,hy=>by
  simp only [dz,zbE] at hx hy
  simp only [PyData.eqvAll]
  rw [fZ x y hx.1 hy.1,sS xs ys hx.2 hy.2]
  by_cases h:x=y <;> by_cases g:xs=ys <;> simp [h,g]
end
mutual
theorem iY:∀ x:PyData,b8 x=true→x.canLay0=true
 | .int i,_=>rfl
 | .str i,h=>h
 | .tuple xs,h=>by simp only [PyData.canLay0];exact xF xs h
 | .none,h=>by simp [b8] at h
 | .bool _,h=>by simp [b8] at h
 | .list _,h=>by simp [b8] at h
 | .dict _,h=>by simp [b8] at h
theorem xF:∀ x:List PyData,dz x=true→PyData.canLayAll0 x=true
 | [],_=>rfl
 | x::xs,h=>by
  simp only [dz,zbE] at h
  simp only [PyData.canLayAll0,iY x h.1,xF xs h.2,Bool.and_self]
end
noncomputable def isKey (h:Heap) (d:PyData) (a:Addr):Prop:=b8 d=true∧d.depth≤6∧∃ as,Reads h (.ref a) d as
mutual
theorem oQ {h h':Heap}{b:Addr}{ob:Obj}{es:Array DictEntry}{ep:Nat} (hb:h.get? b=some ob) (hd:ob.data=Data.dict es ep) (sm:Heap.SameBut b h h'):∀ (d:PyData) {v:Value}{as:List Addr},b8 d=true→Reads h v d as→Reads h' v d as
 | .int i,v,as,hk,hr=>by cases hr;exact .int ..
 | .str i,v,as,hk,hr=>by cases hr;exact .str ..
 | .tuple xs,v,as,hk,hr=>by
  cases hr with
  | @tuple a o vs m _ _ ho hc hdat hall =>
   have hne:a≠b:=fun e=>by
    subst e
    rw [hb] at ho;cases ho
    rw [hd] at hdat;cases hdat
   exact .tuple (by rw [sm.2 a hne];exact ho) hc hdat (mR hb hd sm xs hk hall)
 | .none,_,_,h,_=>by simp [b8] at h
 | .bool _,_,_,h,_=>by simp [b8] at h
 | .list _,_,_,h,_=>by simp [b8] at h
 | .dict _,_,_,h,_=>by simp [b8] at h
theorem mR {h h':Heap}{b:Addr}{ob:Obj}{es:Array DictEntry}{ep:Nat} (hb:h.get? b=some ob) (hd:ob.data=Data.dict es ep) (sm:Heap.SameBut b h h'):∀ (ds:List PyData) {vs:List Value}{as:List Addr},dz ds=true→ReadsAll h vs ds as→ReadsAll h' vs ds as
 | [],vs,as,hk,hr=>by cases hr;exact .nil
 | d::ds,vs,as,hk,hr=>by
  simp only [dz,zbE] at hk
  cases hr with
  | cons hx hr=>exact .cons (oQ hb hd sm d hk.1 hx) (mR hb hd sm ds hk.2 hr)
end
noncomputable def fP (prog:Program) (w:World):HeapKind prog w PyData where
 is:=isKey
 hash:=xN w
 draws:=Mu
 room:=fun A=>A.units+10<cLine
 inj:=fun ⟨_,_,as,hx⟩ ⟨_,_,bs,hy⟩=>(Reads.unique hx _ _ hy).1
 keeps:=fun ⟨h1,h2,as,hr⟩ hb hd sm=>⟨h1,h2,as,oQ hb hd sm _ h1 hr⟩
 pyHash:=fun hu ⟨h1,h2,as,hr⟩ h=>rZ 6 _ h2 h1 hr (by omega) h
 eqBool:=fun {A E s x y a b Q} hu ⟨h1,h2,as,hr⟩ ⟨g1,g2,bs,gr⟩ h=>SeqAt.eqBoolOverData prog w A E s _ _ _ _ _ _ Q hr gr (iY _ h1) (iY _ g1) (by omega) (by
  rw [fZ _ _ h1 g1]
  exact h)
 quiet:=fun ⟨h1,h2,as,hr⟩ h=>uN 8 _ (by omega) h1 hr h
noncomputable def i7 (h:Heap) (d:Addr) (es:Array DictEntry) (ep:Nat):Prop:=∃ o,h.get? d=some o∧o.ExactDict∧o.data=Data.dict es ep
theorem i7.at {h h':Heap}{d:Addr}{es:Array DictEntry}{ep:Nat} (x:i7 h d es ep) (e:∀ o,h.get? d=some o→h'.get? d=some o):i7 h' d es ep:=let ⟨o,ho,r⟩:=x;⟨o,e o ho,r⟩
section
variable {prog:Program}{w:World}{A:Around}{E:Value→Shared→Prop}{s:Shared}
theorem i7.typeIs {d:Addr}{es:Array DictEntry}{ep:Nat} (x:i7 s.heap d es ep):s.TypeIs (.ref d) "dict" := let ⟨o,ho,hc,_⟩:=x;⟨o,ho,hc.1⟩
theorem nextK {it d:Addr}{i ep:Nat}{es:Array DictEntry}{e:DictEntry}{Q:Option Value→Shared→Prop} (hit:s.heap.IsKeyIter it d i es.size ep) (hD:i7 s.heap d es ep) (hx:es[i]? = some e)
  (hQ:∀ h',h'.IsKeyIter it d (i+1) es.size ep→Heap.SameBut it s.heap h'→Q (some e.key) { s with heap:=h' }):wpAny (model prog w) A (pyNext (.ref it)) Q E s:=by
 obtain ⟨o,ho,hc,hd⟩:=id hit
 obtain ⟨od,hod,hcd,hdd⟩:=id hD
 have hT:=Heap.IsKeyIter.typeIs hit
 unfold pyNext
 refine wpAny_bind (wpAny_attempt (wpAny_callSpecial?_slot (name:=Str.ofString "__next__") hT F.slot_dict_keyiterator_next
  (wpAny_call_entry F.slot_dict_keyiterator_next hT F.entry_dict_keyiterator_next ?_ (F.args_dict_keyiterator_next_1 _))))
 unfold Builtin.«dict_keyiterator.__next__»
 refine wpAny_bind (wpAny_pure ?_)
 refine wpAny_bind ?_
 refine wpAny_bind ?_
 refine wpAny_bind (wpAny_typeNameOfWhole_keyiter hT (wpAny_pure ?_))
 have hown:Builtin.Dict_items.ownsTuple "dict_keyiterator" = false:=by decide +kernel
 refine wpAny_bind (wpAny_fieldsOf ho hd ?_)
 simp only [hown,zba,if_false,List.drop_zero]
 show wpAny (model prog w) A.in1 (if (Value.ref d==Value.none)=true then _ else _) _ _ s
 rw [if_neg (by exact zaZ)]
 refine wpAny_bind (wpAny_pure ?_)
 refine wpAny_bind (wpAny_dictEntries hod hdd ?_)
 rw [if_neg (by simp)]
 refine wpAny_bind (wpAny_pure ?_)
 refine wpAny_bind (wpAny_dictEpoch hod hdd ?_)
 rw [if_neg (by simp)]
 refine wpAny_pure ?_
 dsimp only
 rw [if_neg (by omega),show ((i:Int)).toNat=i from Int.toNat_natCast i,hx]
 dsimp only
 refine wpAny_bind (?_)
 refine wpAny_bind (wpAny_typeNameOfWhole_keyiter hT (wpAny_pure ?_))
 simp only [hown,zba,if_false]
 refine wpAny_bind (wpAny_isOneOf_keyiter hT ?_)
 refine wpAny_bind (wpAny_setField ho hd (by simp) ?_)
 have e1:∀ b:Bool,b=false→(if b=true then (i:Int) - 1 else (i:Int)+1)=((i+1:Nat):Int):=fun b hb=>by subst hb;simp
 rw [e1 _ (by decide +kernel)]
 refine wpAny_bind (wpAny_holding ?_)
 have ho2:=zaz (Obj.mapFields (·.setIfInBounds (0+1) (rawInt ((i+1:Nat):Int)))) ho (Obj.isFreed_of_fields (Obj.data_mapFields hd _))
 have hc2:=(Obj.cls_mapFields o (·.setIfInBounds (0+1) (rawInt ((i+1:Nat):Int)))).trans hc
 refine wpAny_bind (wpAny_isOneOf_keyiter ⟨_,ho2,hc2⟩ ?_)
 rw [if_pos (by decide +kernel)]
 refine wpAny_pure (wpAny_pure ⟨e.key,rfl,wpAny_pure (hQ _ ?_ (Heap.SameBut.update ..))⟩)
 exact ⟨_,ho2,hc2,by rw [Obj.data_mapFields hd];simp [rawInt]⟩
theorem Mt {it d:Addr}{ep:Nat}{es:Array DictEntry}{Q:Option Value→Shared→Prop} (hh:A.handled=none) (hit:s.heap.IsKeyIter it d es.size es.size ep) (hD:i7 s.heap d es ep)
  (hQ:∀ h',Heap.ExtBut it s.heap h'→Q none { s with heap:=h' }):wpAny (model prog w) A (pyNext (.ref it)) Q E s:=by
 obtain ⟨o,ho,hc,hd⟩:=id hit
 obtain ⟨od,hod,hcd,hdd⟩:=id hD
 have hT:=Heap.IsKeyIter.typeIs hit
 unfold pyNext
 refine wpAny_bind (wpAny_attempt (wpAny_callSpecial?_slot (name:=Str.ofString "__next__") hT F.slot_dict_keyiterator_next
  (wpAny_call_entry F.slot_dict_keyiterator_next hT F.entry_dict_keyiterator_next ?_ (F.args_dict_keyiterator_next_1 _))))
 unfold Builtin.«dict_keyiterator.__next__»
 refine wpAny_bind (wpAny_pure ?_)
 refine wpAny_bind ?_
 refine wpAny_bind ?_
 refine wpAny_bind (wpAny_typeNameOfWhole_keyiter hT (wpAny_pure ?_))
 have hown:Builtin.Dict_items.ownsTuple "dict_keyiterator" = false:=by decide +kernel
 refine wpAny_bind (wpAny_fieldsOf ho hd ?_)
 simp only [hown,zba,if_false,List.drop_zero]
 show wpAny (model prog w) A.in1 (if (Value.ref d==Value.none)=true then _ else _) _ _ s
 rw [if_neg (by exact zaZ)]
 refine wpAny_bind (wpAny_pure ?_)
 refine wpAny_bind (wpAny_dictEntries hod hdd ?_)
 rw [if_neg (by simp)]
 refine wpAny_bind (wpAny_pure ?_)
 refine wpAny_bind (wpAny_dictEpoch hod hdd ?_)
 rw [if_neg (by simp)]
 refine wpAny_pure ?_
 dsimp only
 rw [if_neg (by omega),show ((es.size:Int)).toNat=es.size from Int.toNat_natCast _,Array.getElem?_eq_none (zcx _)]
 dsimp only
 refine wpAny_bind ?_
 refine wpAny_bind (wpAny_typeNameOfWhole_keyiter hT (wpAny_pure ?_))
 simp only [hown,zba,if_false]
 refine wpAny_bind (wpAny_setField ho hd (by simp) ?_)
 refine wpAny_bind ?_
 simp only [newExc,newTuple]
 refine wpAny_bind (wpAny_newObj_type ?_ (by size_fits))
 refine wpAny_bind (m:=firstArgMember _ _) (wpAny_of_eq (a:=Value.none) (by first | rfl | (simp only [firstArgMember];rfl)) ?_)
 refine wpAny_newObj_type ?_ (by size_fits)
 simp only [raiseNew]
 refine wpAny_bind (wpAny_handled ?_)
 first | rw [show A.in1.handled=none from hh] | rw [hh]
 refine wpAny_bind (wpAny_pure (wpAny_throw ?_))
 refine wpAny_bind (wpAny_isInstance (T := "StopIteration") (b:=true) ⟨_,zaQ _ rfl,rfl⟩ isSubtype_stop ?_)
 refine wpAny_pure (hQ _ (Heap.ExtBut.push (Heap.ExtBut.push ?_ _) _))
 exact fun b ob hb e=>(zar _ _ (Ne.symm hb)).trans e
theorem Kq {d:Addr}{ep:Nat}{es:Array DictEntry}{Q:Value→Shared→Prop} (hd:(d==sysModules)=false) (hD:i7 s.heap d es ep)
  (hQ:Q (.ref s.heap.objs.size) { s with heap:=s.heap.push { cls:=.type "dict_keyiterator",data:=.fields #[.ref d,.int 0 0,.int es.size 0,.int ep 0] } }):wpAny (model prog w) A (pyIter (.ref d)) Q E s:=by
 obtain ⟨od,hod,hcd,hdd⟩:=id hD
 have hT:=hD.typeIs
 refine wpAny_pyIter_slot hT F.slot_dict_iter (wpAny_call_entry F.slot_dict_iter hT F.entry_dict_iter ?_ (F.args_dict_iter_1 _))
 unfold Builtin.«dict.__iter__»
 refine wpAny_bind (wpAny_bind (wpAny_notOrdered_dict hT (wpAny_pure ?_)))
 refine wpAny_bind (wpAny_pure ?_)
 unfold Builtin.Dict.showsAll
 rw [if_neg (by rw [hd];exact zaZ)]
 refine wpAny_bind (wpAny_pure ?_)
 refine wpAny_bind (wpAny_dictEntries hod hdd ?_)
 refine wpAny_bind (wpAny_dictEpoch hod hdd ?_)
 refine wpAny_bind (wpAny_newObj_type ?_ (by size_fits))
 exact wpAny_pure ⟨_,rfl,"dict_keyiterator",_,⟨_,zaQ _ rfl,rfl⟩,F.slot_dict_keyiterator_next.lookup,hQ⟩
theorem Gf (hh:A.handled=none) (I d:Addr) (hne:d≠I) (es:Array DictEntry) (ep:Nat) :
  Walks prog w A I [I,d] [I] es.size (fun i v=>∃ e,es[i]? = some e∧v=e.key) (fun i h=>h.IsKeyIter I d i es.size ep∧i7 h d es ep) where
 sub:=fun b hb=>by simp only [zaU] at hb;simp [hb]
 frame:=fun i h h' st hk=>⟨Heap.IsKeyIter.at st.1 fun o e=>hk I (by simp) o e,st.2.at fun o e=>hk d (by simp) o e⟩
 item:=fun i s Q E hi st hQ=>by
  have hx:es[i]? = some es[i]:=Array.getElem?_eq_getElem hi
  refine nextK st.1 st.2 hx fun h' hit' hs'=>hQ es[i].key h' s.toks ⟨es[i],hx,rfl⟩ ⟨hit',st.2.at fun o e=>by rw [hs'.2 d hne];exact e⟩ fun b o hb e => ?_
  rw [hs'.2 b (fun z=>hb (by simp [z]))];exact e
 done:=fun s Q E st hQ=>Mt hh st.1 st.2 fun h' he=>hQ h' s.toks fun b o hb e=>he b o (fun z=>hb (by simp [z])) e
 self:=fun i s Q E st hQ=>wpAny_pyIter_keyiter st.1 hQ
theorem LN {d:Addr}{es:Array DictEntry}{ep:Nat} (lo:(d==sysModules)=false):W.KdlSrc prog w "dict" d d es.size (fun i v=>∃ e,es[i]? = some e∧v=e.key) (fun h=>i7 h d es ep) where
 type:=fun s hm=>hm.typeIs
 there:=fun h hm=>by obtain ⟨o,ho,_⟩:=hm;exact ⟨zct ho,zct ho⟩
 keep:=fun h h' hm hk=>hm.at fun o e=>hk d (.inl rfl) o e
 notList:=by decide
 notTuple:=by decide
 hint:=fun A E s Q hm hq=>W.kdl_hint_dict hm.typeIs hq
 iter:=fun A s hh hm=>by
  have hlt:d<s.heap.objs.size:=by obtain ⟨o,ho,_⟩:=hm;exact zct ho
  exact ⟨_,_,fun E Q hq=>Kq lo hm hq,Gf hh s.heap.objs.size d (zcl hlt) es ep,⟨_,zaQ _ rfl,rfl,rfl⟩,hm.at fun o e=>zaq _ e⟩
theorem tE {d:Addr}{es:Array DictEntry}{ep:Nat}{R:List Value→Shared→Prop} (lo:(d==sysModules)=false) (hh:A.handled=none) (hD:i7 s.heap d es ep) (hl:es.size≤sizeLine)
  (h:∀ (h':Heap) (tk:Nat),(∀ b o,s.heap.get? b=some o→h'.get? b=some o)→R (es.toList.map (·.key)) { s with heap:=h',toks:=tk }):wpAny (model prog w) A (collect (.ref d)) R E s:=by
 refine W.kdu_collect (LN lo) hh hD hl fun h' tk acc kp hacc => ?_
 have:acc.toList=es.toList.map (·.key):=by
  refine List.ext_getElem? fun i => ?_
  rw [zay,zbf,zay]
  cases z:acc[i]? with
  | some v =>
   obtain ⟨e,he,rfl⟩:=hacc.2 i v z
   rw [he];rfl
  | none =>
   have:es.size≤i:=by rw [← hacc.1];exact Array.getElem?_eq_none_iff.mp z
   rw [Array.getElem?_eq_none this];rfl
 rw [this]
 exact h h' tk kp
end
mutual
noncomputable def dY:PyData→PyData→Bool
 | .int i,.int j=>decide (i<j)
 | .str i,.str j=>decide (i.cps.toList<j.cps.toList)
 | .tuple xs,.tuple ys=>cJ xs ys
 | _,_=>false
noncomputable def cJ:List PyData→List PyData→Bool
 | [],[]=>false
 | [],_::_=>true
 | _::_,[]=>false
 | x::xs,y::ys=>if x=y then cJ xs ys else dY x y
end
mutual
noncomputable def aN:PyData→PyData→Bool
 | .int _,.int _=>true
 | .str _,.str _=>true
 | .tuple xs,.tuple ys=>dc xs ys
 | _,_=>false
noncomputable def dc:List PyData→List PyData→Bool
 | x::xs,y::ys=>aN x y&&dc xs ys
 | _,_=>true
end
theorem fK {h:Heap}:∀ {ds:List PyData}{vs:List Value}{as:List Addr},ReadsAll h vs ds as→vs.length=ds.length
 | [],_,_,h=>by cases h;rfl
 | _::_,_,_,h=>by cases h with | cons _ r=>simp [fK r]
section
variable {prog:Program}{w:World}
theorem Ek:∀ (n:Nat) (x y:PyData) {u v:Value}{as bs:List Addr}{A:Around}{E:Value→Shared→Prop}{s:Shared}{Q:Value→Shared→Prop},x.depth≤n→y.depth≤n→b8 x=true→b8 y=true→aN x y=true→Reads s.heap u x as→Reads s.heap v y bs→A.units+n<cLine →
  Q (.bool (dY x y)) s→wpAny (model prog w) A (compareOp .Lt u v) Q E s:=by
 intro n
 induction n with
 | zero =>
  intro x y u v as bs A E s Q hx hy kx ky hc hr gr hu h
  cases hr with
  | int i t =>
   cases gr with
   | int j t'=>exact wpAny_lt_int h
   | _=>simp [aN] at hc
  | str i t =>
   cases gr with
   | str j t'=>exact lt_str h
   | _=>simp [aN] at hc
  | tuple ho hc hd' hall=>rw [cC] at hx;omega
  | none=>simp [b8] at kx
  | bool b=>simp [b8] at kx
  | list _ _ _ _=>simp [b8] at kx
  | dict _ _ _ _ _=>simp [b8] at kx
 | succ n ih =>
  intro x y u v as bs A E s Q hx hy kx ky hc hr gr hu h
  cases hr with
  | int i t =>
   cases gr with
   | int j t'=>exact wpAny_lt_int h
   | _=>simp [aN] at hc
  | str i t =>
   cases gr with
   | str j t'=>exact lt_str h
   | _=>simp [aN] at hc
  | none=>simp [b8] at kx
  | bool b=>simp [b8] at kx
  | list _ _ _ _=>simp [b8] at kx
  | dict _ _ _ _ _=>simp [b8] at kx
  | @tuple a o us m xs as ho hcl hdat hall =>
   cases gr with
   | @tuple b o2 vs m2 ys bs ho2 hcl2 hdat2 hall2 =>
    have hT:=gV ho hcl
    have hT2:=gV ho2 hcl2
    rw [cC] at hx hy
    have kx:dz xs=true:=kx
    have ky:dz ys=true:=ky
    have hc:dc xs ys=true:=hc
    show wpAny (model prog w) A (richCompare .Lt (.ref a) (.ref b)) Q E s
    refine wpAny_richCompare_same_room hT hT2 F.slot_tuple_lt ?_ (by omega)
    refine wpAny_call_entry F.slot_tuple_lt hT F.entry_tuple_lt ?_ (F.args_tuple_lt_2 _ _)
    unfold Builtin.«tuple.__lt__»
    refine wpAny_bind (wpAny_pure ?_)
    refine wpAny_bind (wpAny_isInstance hT2 isSubtype_tuple_tuple ?_)
    rw [if_neg (by decide)]
    refine wpAny_bind (wpAny_tupleItemsOf ho hdat (wpAny_bind (wpAny_tupleItemsOf ho2 hdat2 (wpAny_bind ?_))))
    refine wpAny_forIn_list _ (fun rest r s'=>r.1=none∧s'=s∧∃ lx ly lu lv as' bs',rest=lu.zip lv∧ReadsAll s.heap lu lx as'∧ReadsAll s.heap lv ly bs'∧cJ xs ys=cJ lx ly∧(∀ z∈lx,z∈xs)∧(∀ z∈ly,z∈ys)∧dc lx ly=true∧us.size+ly.length=vs.size+lx.length) _ ?_ ?_ (us.toList.zip vs.toList) (none,())
     ⟨rfl,rfl,xs,ys,us.toList,vs.toList,_,_,rfl,hall,hall2,rfl,fun _ z=>z,fun _ z=>z,hc,by
      have h1:=fK hall
      have h2:=fK hall2
      rw [zaO] at h1 h2
      omega⟩
    ·rintro ⟨p,q⟩ rest ⟨r1,r2⟩ s' ⟨hr,rfl,lx,ly,lu,lv,as',bs',hz,h1,h2,hl,m1,m2,hcc,hsz⟩
     cases h1 with
     | nil=>simp at hz
     | @cons _ _ d1 ds1 a1 b1 g1 t1 =>
      cases h2 with
      | nil=>simp at hz
      | @cons _ _ d2 ds2 a2 b2 g2 t2 =>
       rw [zaT] at hz
       injection hz with e1 e2
       injection e1 with e3 e4
       subst e3;subst e4;subst e2
       have n1:=m1 d1 (by simp)
       have n2:=m2 d2 (by simp)
       have k1:=gz kx d1 n1
       have k2:=gz ky d2 n2
       have dd1:=dJ n1
       have dd2:=dJ n2
       simp only [dc,zbE] at hcc
       dsimp only
       refine wpAny_bind (SeqAt.eqBoolOverData prog w _ _ _ _ _ _ _ _ _ _ g1 g2 (iY _ k1) (iY _ k2) (by show A.units+1+_<cLine;omega) ?_)
       rw [fZ _ _ k1 k2]
       by_cases he:d1=d2
       ·rw [decide_eq_true he]
        refine wpAny_pure ⟨rfl,rfl,ds1,ds2,_,_,_,_,rfl,t1,t2,?_,fun z hz=>m1 z (zaA _ hz),fun z hz=>m2 z (zaA _ hz),hcc.2,by simp only [zbu] at hsz;omega⟩
        rw [hl]
        simp only [cJ]
        rw [if_pos he]
       ·rw [decide_eq_false he]
        have hl2:cJ xs ys=dY d1 d2:=by
         rw [hl]
         simp only [cJ]
         rw [if_neg he]
        refine wpAny_bind (wpAny_rule ?_)
        refine wpAny_bind (ih d1 d2 (u:=p) (v:=q) (A:=A.in1) (by omega) (by omega) k1 k2 hcc.1 g1 g2 (by show A.units+1+n<cLine;omega) ?_)
        refine wpAny_bind (wpAny_pure (wpAny_pure ?_))
        refine wpAny_pure ⟨_,rfl,(fun z=>by cases z),?_⟩
        rw [← hl2];exact h
    ·rintro ⟨r1,r2⟩ s' ⟨hr,rfl,lx,ly,lu,lv,as',bs',hz,h1,h2,hl,m1,m2,hcc,hsz⟩
     have hr:r1=none:=hr
     subst hr
     refine wpAny_pure ⟨_,rfl,(fun z=>by cases z),?_⟩
     have Ml:decide (us.size<vs.size)=cJ xs ys:=by
      rw [hl]
      cases h1 with
      | nil =>
       cases ly with
       | nil=>simp only [cJ,zbN] at hsz ⊢;exact decide_eq_false (by omega)
       | cons _ _=>simp only [cJ,zbu,zbN] at hsz ⊢;exact decide_eq_true (by omega)
      | cons g1 t1 =>
       cases h2 with
       | nil=>simp only [cJ,zbu,zbN] at hsz ⊢;exact decide_eq_false (by omega)
       | cons g2 t2=>simp at hz
     show Q (.bool (decide (us.size<vs.size))) s'
     rw [Ml];exact h
   | _=>simp [aN] at hc
theorem Bg {A:Around}{E:Value→Shared→Prop}{s:Shared}{x y:PyData}{u v:Value}{as bs:List Addr}{Q:Bool→Shared→Prop} (n:Nat) (hx:x.depth≤n) (hy:y.depth≤n) (kx:b8 x=true) (ky:b8 y=true) (hc:aN x y=true) (hr:Reads s.heap u x as) (gr:Reads s.heap v y bs) (hu:A.units+n<cLine)
  (h:Q (dY x y) s):wpAny (model prog w) A (PyProof.Rows.oneLt' false u v) Q E s:=W.kat_one u v (Ek n x y hx hy kx ky hc hr gr hu h)
end
section
variable {prog:Program}{w:World}{A:Around}{E:Value→Shared→Prop}{s:Shared}
noncomputable def ef (h:Heap) (a:Addr) (vs:List Value):Heap:=((h.update a (Obj.mapSeq fun _ => #[])).push (seqObj "tuple" vs.toArray 0)).push (seqObj "list" #[] 0)
mutual
theorem oN {h h':Heap}{b:Addr}{ob:Obj} (hb:h.get? b=some ob) (hd:ob.cls ≠ .type "tuple") (kp:∀ c o,c≠b→h.get? c=some o→h'.get? c=some o):∀ (d:PyData) {v:Value}{as:List Addr},b8 d=true→Reads h v d as→Reads h' v d as
 | .int i,v,as,hk,hr=>by cases hr;exact .int ..
 | .str i,v,as,hk,hr=>by cases hr;exact .str ..
 | .tuple xs,v,as,hk,hr=>by
  cases hr with
  | @tuple a o vs m _ _ ho hc hdat hall =>
   have hne:a≠b:=fun e=>by
    subst e
    rw [hb] at ho;cases ho
    exact hd hc
   exact .tuple (kp a o hne ho) hc hdat (mP hb hd kp xs hk hall)
 | .none,_,_,h,_=>by simp [b8] at h
 | .bool _,_,_,h,_=>by simp [b8] at h
 | .list _,_,_,h,_=>by simp [b8] at h
 | .dict _,_,_,h,_=>by simp [b8] at h
theorem mP {h h':Heap}{b:Addr}{ob:Obj} (hb:h.get? b=some ob) (hd:ob.cls ≠ .type "tuple") (kp:∀ c o,c≠b→h.get? c=some o→h'.get? c=some o):∀ (ds:List PyData) {vs:List Value}{as:List Addr},dz ds=true→ReadsAll h vs ds as→ReadsAll h' vs ds as
 | [],vs,as,hk,hr=>by cases hr;exact .nil
 | d::ds,vs,as,hk,hr=>by
  simp only [dz,zbE] at hk
  cases hr with
  | cons hx hr=>exact .cons (oN hb hd kp d hk.1 hx) (mP hb hd kp ds hk.2 hr)
end
theorem gy {α β:Type}{f:α→β}:∀ {ks:List α}{out:List β},out.Perm (ks.map f)→∃ o':List α,o'.Perm ks∧out=o'.map f
 | [],out,h=>⟨[],.refl _,by simpa using h⟩
 | k::ks,out,h=>by
  have hm:f k∈out:=h.mem_iff.mpr (by simp)
  obtain ⟨l1,l2,rfl⟩:=List.append_of_mem hm
  have h2:(l1++l2).Perm (ks.map f):=by
   have:=List.perm_middle.symm.trans h
   rw [zcb] at this
   exact this.cons_inv
  obtain ⟨o',p1,p2⟩:=gy h2
  obtain ⟨o1,o2,e1,e2,e3⟩:=List.map_eq_append_iff.mp p2.symm
  subst e1
  refine ⟨o1++k::o2,List.perm_middle.trans (p1.cons k),?_⟩
  rw [zbR,zcb,e2,e3]
mutual
theorem u9:∀ x:PyData,dY x x=false
 | .int i=>by simp only [dY];exact decide_eq_false (Int.lt_irrefl i)
 | .str i=>by simp only [dY];exact decide_eq_false (List.lt_irrefl _)
 | .tuple xs=>by simp only [dY];exact xD xs
 | .none=>by simp only [dY]
 | .bool _=>by simp only [dY]
 | .list _=>by simp only [dY]
 | .dict _=>by simp only [dY]
theorem xD:∀ x:List PyData,cJ x x=false
 | []=>by simp only [cJ]
 | x::xs=>by simp only [cJ];rw [if_pos trivial];exact xD xs
end
mutual
theorem sE:∀ x y z:PyData,aN x y=true→aN y z=true→aN x z=true→dY x y=true→dY y z=true→dY x z=true
 | .int i,.int j,.int k,_,_,_,h,g=>by simp only [dY,decide_eq_true_eq] at h g ⊢;omega
 | .str i,.str j,.str k,_,_,_,h,g=>by simp only [dY,decide_eq_true_eq] at h g ⊢;exact List.lt_trans h g
 | .tuple xs,.tuple ys,.tuple zs,a,b,c,h,g=>by simp only [dY] at h g ⊢;exact Bu xs ys zs a b c h g
 | .none,_,_,a,_,_,_,_=>by simp [aN] at a
 | .bool _,_,_,a,_,_,_,_=>by simp [aN] at a
 | .list _,_,_,a,_,_,_,_=>by simp [aN] at a
 | .dict _,_,_,a,_,_,_,_=>by simp [aN] at a
 | .int i,.str j,_,a,_,_,_,_=>by simp [aN] at a
 | .int i,.tuple j,_,a,_,_,_,_=>by simp [aN] at a
 | .int i,.none,_,a,_,_,_,_=>by simp [aN] at a
 | .int i,.bool j,_,a,_,_,_,_=>by simp [aN] at a
 | .int i,.list j,_,a,_,_,_,_=>by simp [aN] at a
 | .int i,.dict j,_,a,_,_,_,_=>by simp [aN] at a
 | .str i,.int j,_,a,_,_,_,_=>by simp [aN] at a
 | .str i,.tuple j,_,a,_,_,_,_=>by simp [aN] at a
 | .str i,.none,_,a,_,_,_,_=>by simp [aN] at a
 | .str i,.bool j,_,a,_,_,_,_=>by simp [aN] at a
 | .str i,.list j,_,a,_,_,_,_=>by simp [aN] at a
 | .str i,.dict j,_,a,_,_,_,_=>by simp [aN] at a
 | .tuple i,.int j,_,a,_,_,_,_=>by simp [aN] at a
 | .tuple i,.str j,_,a,_,_,_,_=>by simp [aN] at a
 | .tuple i,.none,_,a,_,_,_,_=>by simp [aN] at a
 | .tuple i,.bool j,_,a,_,_,_,_=>by simp [aN] at a
 | .tuple i,.list j,_,a,_,_,_,_=>by simp [aN] at a
 | .tuple i,.dict j,_,a,_,_,_,_=>by simp [aN] at a
 | .int i,.int j,.str _,_,a,_,_,_=>by simp [aN] at a
 | .int i,.int j,.tuple _,_,a,_,_,_=>by simp [aN] at a
 | .int i,.int j,.none,_,a,_,_,_=>by simp [aN] at a
 | .int i,.int j,.bool _,_,a,_,_,_=>by simp [aN] at a
 | .int i,.int j,.list _,_,a,_,_,_=>by simp [aN] at a
 | .int i,.int j,.dict _,_,a,_,_,_=>by simp [aN] at a
 | .str i,.str j,.int _,_,a,_,_,_=>by simp [aN] at a
 | .str i,.str j,.tuple _,_,a,_,_,_=>by simp [aN] at a
 | .str i,.str j,.none,_,a,_,_,_=>by simp [aN] at a
 | .str i,.str j,.bool _,_,a,_,_,_=>by simp [aN] at a
 | .str i,.str j,.list _,_,a,_,_,_=>by simp [aN] at a
 | .str i,.str j,.dict _,_,a,_,_,_=>by simp [aN] at a
 | .tuple i,.tuple j,.int _,_,a,_,_,_=>by simp [aN] at a
 | .tuple i,.tuple j,.str _,_,a,_,_,_=>by simp [aN] at a
 | .tuple i,.tuple j,.none,_,a,_,_,_=>by simp [aN] at a
 | .tuple i,.tuple j,.bool _,_,a,_,_,_=>by simp [aN] at a
 | .tuple i,.tuple j,.list _,_,a,_,_,_=>by simp [aN] at a
 | .tuple i,.tuple j,.dict _,_,a,_,_,_=>by simp [aN] at a
theorem Bu:∀ x y z:List PyData,dc x y=true→dc y z=true→dc x z=true→cJ x y=true→cJ y z=true→cJ x z=true
 | [],[],z,_,_,_,h,_=>by simp [cJ] at h
 | [],y::ys,[],_,_,_,_,g=>by simp [cJ] at g
 | [],y::ys,z::zs,_,_,_,_,_=>by simp only [cJ]
 | x::xs,[],z,_,_,_,h,_=>by simp [cJ] at h
 | x::xs,y::ys,[],_,_,_,_,g=>by simp [cJ] at g
 | x::xs,y::ys,z::zs,a,b,c,h,g=>by
  simp only [dc,zbE] at a b c
  simp only [cJ] at h g ⊢
  by_cases e1:x=y
  ·rw [if_pos e1] at h
   subst e1
   by_cases e2:x=z
   ·rw [if_pos e2] at g ⊢
    exact Bu xs ys zs a.2 b.2 c.2 h g
   ·rw [if_neg e2] at g ⊢
    exact g
  ·rw [if_neg e1] at h
   by_cases e2:y=z
   ·subst e2
    rw [if_neg e1]
    exact h
   ·rw [if_neg e2] at g
    have t:=sE x y z a.1 b.1 c.1 h g
    rw [if_neg (fun e3=>by subst e3;rw [u9] at t;cases t)]
    exact t
end
mutual
theorem qH:∀ x y:PyData,aN x y=true→x≠y→dY x y=true∨dY y x=true
 | .int i,.int j,_,n=>by
  have:i≠j:=fun e=>n (by rw [e])
  simp only [dY,decide_eq_true_eq];omega
 | .str i,.str j,_,n=>by
  simp only [dY,decide_eq_true_eq]
  by_cases h:i.cps.toList<j.cps.toList
  ·exact .inl h
  ·by_cases g:j.cps.toList<i.cps.toList
   ·exact .inr g
   ·refine absurd ?_ n
    have e:i.cps.toList=j.cps.toList:=List.le_antisymm g h
    obtain ⟨i⟩:=i
    obtain ⟨j⟩:=j
    have e:i.toList=j.toList:=e
    rw [show i=j from Array.toList_inj.mp e]
 | .tuple xs,.tuple ys,a,n=>by
  simp only [dY]
  exact xC xs ys a fun e=>n (by rw [e])
 | .none,_,a,_=>by simp [aN] at a
 | .bool _,_,a,_=>by simp [aN] at a
 | .list _,_,a,_=>by simp [aN] at a
 | .dict _,_,a,_=>by simp [aN] at a
 | .int i,.str j,a,_=>by simp [aN] at a
 | .int i,.tuple j,a,_=>by simp [aN] at a
 | .int i,.none,a,_=>by simp [aN] at a
 | .int i,.bool j,a,_=>by simp [aN] at a
 | .int i,.list j,a,_=>by simp [aN] at a
 | .int i,.dict j,a,_=>by simp [aN] at a
 | .str i,.int j,a,_=>by simp [aN] at a
 | .str i,.tuple j,a,_=>by simp [aN] at a
 | .str i,.none,a,_=>by simp [aN] at a
 | .str i,.bool j,a,_=>by simp [aN] at a
 | .str i,.list j,a,_=>by simp [aN] at a
 | .str i,.dict j,a,_=>by simp [aN] at a
 | .tuple i,.int j,a,_=>by simp [aN] at a
 | .tuple i,.str j,a,_=>by simp [aN] at a
 | .tuple i,.none,a,_=>by simp [aN] at a
 | .tuple i,.bool j,a,_=>by simp [aN] at a
 | .tuple i,.list j,a,_=>by simp [aN] at a
 | .tuple i,.dict j,a,_=>by simp [aN] at a
theorem xC:∀ x y:List PyData,dc x y=true→x≠y→cJ x y=true∨cJ y x=true
 | [],[],_,n=>absurd rfl n
 | [],y::ys,_,_=>.inl (by simp only [cJ])
 | x::xs,[],_,_=>.inr (by simp only [cJ])
 | x::xs,y::ys,a,n=>by
  simp only [dc,zbE] at a
  simp only [cJ]
  by_cases e:x=y
  ·subst e
   rw [if_pos rfl,if_pos rfl]
   exact xC xs ys a.2 fun e=>n (by rw [e])
  ·rw [if_neg e,if_neg (Ne.symm e)]
   exact qH x y a.1 e
end
theorem yN {h:Heap}{a:Addr}{vs:List Value}{b:Addr}{o:Obj} (hb:b≠a) (e:h.get? b=some o):(ef h a vs).get? b=some o :=
 zaq _ (zaq _ ((zar _ _ (Ne.symm hb)).trans e))
end
end M6
namespace L2
open PySem PySem.Spec PyProof.Rows M6
noncomputable def ig (W:World) (a:Addr) (xs:List (PyData×Addr)):Heap→Prop:=fun h=>(a==sysModules)=false∧∃ o es ep,h.get? a=some o∧o.ExactDict∧o.data=Data.dict es ep ∧
 es.toList=xs.map (fun x=>({ hash:=xN W x.1,key:=.ref x.2,val:=.bool true }:DictEntry))∧(xs.map (·.1)).Nodup
theorem ig.at {W:World}{a:Addr}{xs:List (PyData×Addr)}{h h':Heap} (x:ig W a xs h) (e:∀ o,h.get? a=some o→h'.get? a=some o):ig W a xs h':=by
 obtain ⟨z,o,es,ep,h1,r⟩:=x
 exact ⟨z,o,es,ep,e o h1,r⟩
theorem ig.ok {P:Program}{w W:World}{H:Hp}{h:Heap}{a:Addr}{xs:List (PyData×Addr)} (x:ig W a xs h):bw P w H h a (.ext (ig W a xs)):=by
 obtain ⟨z,o,es,ep,h1,r⟩:=id x
 exact ⟨x,⟨o,h1⟩,fun h1 h2 y e=>y.at e⟩
theorem iu {P:Program}{w W:World}{H:Hp}{h:Heap}{a b:Addr}{xs:List (PyData×Addr)} (x:bw P w H h a (.ext (ig W b xs))):b=a:=by
 obtain ⟨y,⟨o,e⟩,st⟩:=x
 apply Classical.byContradiction
 intro hne
 obtain ⟨z,ob,es,ep,h1,h2,h3,r⟩:=id y
 have g1:(h.update b fun _=>{ cls:=.none }).get? a=some o:=(zar _ _ hne).trans e
 have g2:(h.update b fun _=>{ cls:=.none }).get? b=some { cls:=.none }:=zaz (fun _=>{ cls:=.none }) h1 rfl
 obtain ⟨_,o2,es2,ep2,k1,k2,k3,_⟩:=st h (h.update b fun _=>{ cls:=.none }) y fun o' e'=>by rw [e] at e';cases e';exact g1
 rw [g2] at k1
 cases k1
 cases k3
noncomputable def uP (xs:List (PyData×Addr)) (d:PyData) (b:Addr):List (PyData×Addr):=if (xs.any fun x=>decide (x.1=d))=true then xs else xs++[(d,b)]
theorem r9 (xs:List (PyData×Addr)) (d:PyData) (b:Addr):storedH (xs.map fun x=>(x.1,x.2,Value.bool true)) d b (.bool true)=(uP xs d b).map fun x=>(x.1,x.2,Value.bool true):=by
 have e:(atKey (xs.map fun x=>(x.1,x.2,Value.bool true)) d).isSome=(xs.any fun x=>decide (x.1=d)):=by
  unfold atKey
  rw [zbt]
  induction xs with
  | nil=>rfl
  | cons x xs ih =>
   rw [zcb,zbM,zcc]
   by_cases h:x.1=d
   ·simp [h]
   ·simp only [h,decide_false,Bool.false_or];exact ih
 unfold storedH uP
 rw [e]
 by_cases h:(xs.any fun x=>decide (x.1=d))=true
 ·rw [if_pos h,if_pos h,zcj]
  refine zaK fun x _ => ?_
  simp only [Function.comp,putAt]
  split <;> rfl
 ·rw [if_neg h,if_neg h,zbR];rfl
section
variable {X:Cx}{pins:List (Addr×Obj)}{σ:St}{H:Hp}{s:Shared}{A:Around}{E:Value→Shared→Prop}
noncomputable def kX (K:PySem.W.Frag) (H:Hp) (xs:List (PyData×Addr)):Prop:=∀ x∈xs,b8 x.1=true∧x.1.depth≤6∧bC K H x.1 (.ref x.2)
theorem Inv.key (I:Inv X pins σ H s) {d:PyData}{b:Addr} (h1:b8 d=true) (h2:d.depth≤6) (h3:bC X.K H d (.ref b)):isKey s.heap d b :=
 ⟨h1,h2,I.reads d (.ref b) (.ref b) h3 rfl⟩
theorem yK {a b:Addr}{xs:List (PyData×Addr)}{d:PyData}{Q:Unit→Shared→Prop} (hu:A.units+20<cLine) (I:Inv X pins σ H s) (e:H a=some (.ext (ig X.w a xs))) (hk:kX X.K H xs) (h1:b8 d=true) (h2:d.depth≤6) (h3:bC X.K H d (.ref b)) (hl:xs.length<1000)
  (h:∀ s',Inv X pins σ (upd H a (.ext (ig X.w a (uP xs d b)))) s'→Q () s'):wpAny (model X.prog X.w) A (setItem (.ref a) (.ref b) (.bool true)) Q E s:=by
 obtain ⟨⟨z,o,es,ep,ho,hx,hd,hes,hn⟩,_,_⟩:=(show bw X.prog X.w H s.heap a (.ext (ig X.w a xs)) from I.hok a _ e)
 have dd:Heap.DictOfH (fP X.prog X.w) s.heap a (xs.map fun x=>(x.1,x.2,Value.bool true)):=by
  refine ⟨o,es,ep,ho,hx,hd,?_,fun x hx' => ?_,?_⟩
  ·rw [hes,zcj];rfl
  ·obtain ⟨y,hy,rfl⟩:=zck.mp hx'
   obtain ⟨k1,k2,k3⟩:=hk y hy
   exact I.key k1 k2 k3
  ·rw [zcj];exact hn
 refine wpAny_setItem_heap (knd:=fP X.prog X.w) (hsz:=by rw [zbJ,sizeLine_eq];omega) (show A.units+1+10<cLine by omega) (I.key h1 h2 h3) dd fun h' dd' hs=>h _ ?_
 rw [r9] at dd'
 obtain ⟨q,es',ep',hq,x1,x2,x3,_,x5⟩:=dd'
 have nn:ig X.w a (uP xs d b) h':=⟨z,q,es',ep',hq,x1,x2,by rw [x3,zcj];rfl,by rw [zcj] at x5;exact x5⟩
 exact iw I (by rw [e];exact True.intro) hs ⟨q,hq⟩ nn.ok
end
noncomputable def Ag (W:World):TE:=fun _ H Q=>∀ p,H p=none→Q (.ref p) (upd H p (.ext (ig W p [])))
noncomputable def FG (K:PySem.W.Frag) (W:World) (td ty tv:TE):TS:=fun D σ H=>tv σ H fun v H1=>td σ H1 fun x H2=>ty σ H2 fun y H3=>∃ (a a' b:Addr) (xs:List (PyData×Addr)) (d:PyData),v = .bl true∧x = .ref a∧y = .ref b∧H3 a=some (.ext (ig W a' xs)) ∧
 kX K H3 xs∧b8 d=true∧d.depth≤6∧bC K H3 d (.ref b)∧xs.length<1000∧(a'=a→D.nx σ (upd H3 a (.ext (ig W a (uP xs d b)))))
theorem j0 {α:Type} (f:α→Addr):∀ l:List α,Vals (l.map fun x=>V.ref (f x)) (l.map fun x=>Value.ref (f x))
 | []=>.nil
 | x::l=>.cons rfl (j0 f l)
section
variable {X:Cx}{o i value:Expr}{td ty tv:TE}{pos pos':Pos}
theorem jr:PE X (.Dict [] [] pos) (Ag X.w):=fun pins s σ H Q I h =>
 wpAny_Dict_empty ⟨.ref s.heap.objs.size,_,I.laid (a:=s.heap.objs.size) (o:=.ext (ig X.w s.heap.objs.size [])) (t':=s.toks) (fun _ _ q=>zaq _ q) (zcx _)
  (ig.ok ⟨beq_eq_false_iff_ne.mpr (Ne.symm (zcl I.big)),_,#[],0,zaQ _ rfl,⟨rfl,rfl,rfl⟩,rfl,rfl,List.nodup_nil⟩),rfl,h _ (I.hok.fresh (zcx _))⟩
theorem jj (hu:X.A.units+20<cLine) (ho:PE X o td) (hi:PE X i ty) (hv:PE X value tv) (hs:swapsWith value (some (.Subscript o i pos')) pos.line X.env=pure false) :
  PS X (.Assign [.Subscript o i pos'] value pos) (FG X.K X.w td ty tv):=by
 intro pins s σ H D I h
 refine wpAny_Assign_Subscript (cF (hv pins s σ H _ I h) fun r s1 ⟨v,H1,I1,rv,q1⟩=>cF (ho pins s1 σ H1 _ I1 q1) fun u s2 ⟨x,H2,I2,rx,q2⟩=>cF (hi pins s2 σ H2 _ I2 q2) fun iv s3 ⟨y,H3,I3,ry,a,a',b,xs,d,ev,ex,ey,e,k1,k2,k3,k4,k5,q3⟩ => ?_) hs
 subst ev ex ey
 obtain rfl:u=Value.ref a:=rx
 obtain rfl:iv=Value.ref b:=ry
 obtain rfl:r=Value.bool true:=rv
 obtain rfl:=iu (show bw X.prog X.w H3 s3.heap a (.ext (ig X.w a' xs)) from I3.hok a _ e)
 exact yK hu I3 e k1 k2 k3 k4 k5 fun s4 I4=>⟨σ,_,I4,q3 rfl⟩
end
theorem Ic {k:Key}{u:Value} (h:nu k u=true):RelV (kV k) u:=by
 rcases bJ h with ⟨i,t,rfl,rfl⟩ | ⟨x,t,rfl,rfl⟩
 ·exact ⟨t,rfl⟩
 ·exact ⟨t,rfl⟩
theorem sJ {prog:Program}{w:World}:∀ {kvs:List (Key×V)}{vs:List (Key×Value)}{es:List DictEntry},KV kvs vs→Pairs (bx prog w) es vs→Vals (kvs.map fun p=>kV p.1) (es.map (·.key))
 | [],_,es,h1,h2=>by cases h1;cases h2;exact .nil
 | p::kvs,_,es,h1,h2=>by
  cases h1 with
  | cons r t =>
   cases h2 with
   | cons g1 g2 g3 =>
    refine .cons ?_ (sJ t g3)
    show RelV (kV p.1) _
    rw [r.1]
    exact Ic g1
noncomputable def Hq (neg:Bool):R2:=fun y x H Q=>∃ a kvs k,x = .ref a∧y=kV k∧H a=some (.dK kvs)∧Q (.bl (neg != (eW kvs k).isSome)) H
section
variable {X:Cx}
theorem Hh {pins:List (Addr×Obj)}{σ:St}{H:Hp}{s:Shared}{a:Addr}{kvs:List (Key×V)} (I:Inv X pins σ H s) (e:H a=some (.dK kvs)):(a==sysModules)=false∧kvs.length≤sizeLine∧∃ es ep,i7 s.heap a es ep∧Vals (kvs.map fun x=>kV x.1) (es.toList.map (·.key)):=by
 obtain ⟨z,hd,vs,rel,o,es,ep,ho,hx,hdat,hk,hp,hn⟩:=xV I.hok e
 exact ⟨hd,z,es,ep,⟨o,ho,hx,hdat⟩,sJ rel hp⟩
theorem HH (hu:X.A.units+1<cLine):gh X (compareOp .In) (Hq false):=by
 intro pins s σ H y x v u Q I ry rx h
 obtain ⟨a,kvs,k,rfl,rfl,e,q⟩:=h
 obtain rfl:u=Value.ref a:=rx
 exact Mv hu I (iJ.k e) ry fun s3 I3=>⟨.bl (eW kvs k).isSome,H,I3,rfl,by simpa using q⟩
theorem yG (hu:X.A.units+1<cLine):gh X (compareOp .NotIn) (Hq true):=by
 intro pins s σ H y x v u Q I ry rx h
 obtain ⟨a,kvs,k,rfl,rfl,e,q⟩:=h
 obtain rfl:u=Value.ref a:=rx
 exact EG hu I (iJ.k e) ry fun s3 I3=>⟨.bl (!(eW kvs k).isSome),H,I3,rfl,by simpa using q⟩
end
end L2
namespace M6
open PySem PySem.Spec PyProof.Rows
theorem yM:typeLookup (.type "list") (Str.ofString "keys")=pure none:=by rw [typeLookup_type];kernel_rfl
section
variable {prog:Program}{w:World}{A:Around}{E:Value→Shared→Prop}{s:Shared}
theorem yR {a:Addr}{xs:Array Value}{k:Nat}{Q:Option Value→Shared→Prop} (hx:s.heap.get? a=some { cls:=.type "list",data:=.seq xs k }) (hA:A.handled=none)
  (h:∀ (h':Heap) (tk:Nat),(∀ b o,s.heap.get? b=some o→h'.get? b=some o)→Q none { s with heap:=h',toks:=tk }):wpAny (model prog w) A (getAttr? (.ref a) (Str.ofString "keys")) Q E s:=by
 have f1:=sub_AttributeError
 have f3:=PySem.F.slot_list_getattribute.lookup
 have f4:=PySem.F.slot_list_getattribute.bind (Value.ref a)
 have f5:=am_list_getattr_none
 have f6:=yM
 obtain ⟨hp,g,d,tk,os⟩:=s
 dsimp only at h hx ⊢
 have hT:Shared.TypeIs ⟨hp,g,d,tk,os⟩ (.ref a) "list" := ⟨_,hx,rfl⟩
 unfold getAttr? getAttrBy? getAttrBy getAttrByItsOwn callGetattribute boundAndCalled
 generalize hC:@PySem.call=C
 wp_walk
 subst hC
 refine call_meets PySem.F.slot_list_getattribute (s:=⟨hp,g,d,tk+1,os⟩) ⟨_,hx,rfl⟩ am_entry_list_getattribute (PySem.F.args_list_getattribute_2 (Value.ref a) (Value.str (Str.ofString "keys") tk)) (meets_getattribute_miss_list a xs k #[] (Str.ofString "keys") tk f6 (by decide +kernel)) ⟨hx,hA,fun h' tk' e hx' => ?_⟩
 obtain ⟨t,u,he⟩:=hx'.there
 have hT2:Shared.TypeIs ⟨h',g,d,tk',os⟩ (.ref e) "AttributeError" := ⟨_,he,rfl⟩
 have hk:=hx'.keeps
 show wpAny (model prog w) A (getattributeRaised (Value.ref a) (Value.str (Str.ofString "keys") tk) (Value.type "list") (.ref e) none false false) _ _ _
 unfold getattributeRaised
 refine wpAny_bind (wpAny_isInstance hT2 f1 ?_)
 rw [if_pos rfl]
 refine wpAny_bind (wpAny_of_eq f5 ?_)
 show wpAny (model prog w) A (do let _ ← throw (Value.ref e);_) _ _ _
 refine wpAny_bind (wpAny_throw ?_)
 show wpAny (model prog w) A (do
       let __do_lift ← isInstance (Value.ref e) (Value.type "AttributeError")
       if __do_lift=true then pure none else throw (Value.ref e)) Q E _
 refine wpAny_bind (wpAny_isInstance hT2 f1 ?_)
 rw [if_pos rfl]
 exact wpAny_pure (h h' tk' hk)
end
theorem pe:entryFor table "dict.update.loop" = some Builtin.«dict.update.loop» := entryFor_of_tree (by kernel_rfl)
theorem ie:plainId "dict.update.loop" = true:=by decide +kernel
noncomputable def bQ {K:Type} [DecidableEq K] (ps:List (K×Value)):List (K×Value):=ps.foldl (fun acc p=>stored acc p.1 p.2) []
section
variable {prog:Program}{w:World}{A:Around}{E:Value→Shared→Prop}{s:Shared}{K:Type} [DecidableEq K] {knd:KeyKind prog w K}
noncomputable def i8 (knd:KeyKind prog w K) (h:Heap) (v:Value) (p:K×Value):Prop:=∃ t ku o n,v = .ref t∧h.get? t=some o∧o.cls = .type "tuple" ∧ o.data = .seq #[ku,p.2] n∧knd.is p.1 ku=true
theorem i8.at {h h':Heap}{v:Value}{p:K×Value} (x:i8 knd h v p) (e:∀ b o,o.cls = .type "tuple" → h.get? b=some o→h'.get? b=some o):i8 knd h' v p:=by
 obtain ⟨t,ku,o,n,h1,h2,h3,h4⟩:=x
 exact ⟨t,ku,o,n,h1,e t o h3 h2,h3,h4⟩
theorem lV {h h':Heap}{d:Addr}{kvs:List (K×Value)} (x:Heap.DictOf knd h d kvs) (e:∀ o,h.get? d=some o→h'.get? d=some o):Heap.DictOf knd h' d kvs:=by
 obtain ⟨o,es,ep,h1,r⟩:=x
 exact ⟨o,es,ep,e o h1,r⟩
theorem uw (kvs:List (K×Value)) (k:K) (v:Value):(stored kvs k v).length≤kvs.length+1:=by
 unfold stored
 split
 ·rw [zbJ];omega
 ·rw [zaS];exact zcx _
theorem l8 (ps:List (K×Value)) (p:K×Value):bQ (ps++[p])=stored (bQ ps) p.1 p.2:=by
 unfold bQ
 rw [List.foldl_append];rfl
theorem nX (ps:List (K×Value)):(bQ ps).length≤ps.length:=by
 have:∀ (l acc:List (K×Value)),(l.foldl (fun acc p=>stored acc p.1 p.2) acc).length≤acc.length+l.length:=by
  intro l
  induction l with
  | nil=>intro acc;simp
  | cons a r ih=>intro acc;rw [zbP,zbu];have:=ih (stored acc a.1 a.2);have:=uw acc a.1 a.2;omega
 have:=this ps []
 simpa [bQ] using this
theorem yO {I l d:Addr}{its:Array Value}{ps:List (K×Value)}{R:Result→Shared→Prop}{St:Nat→Heap→Prop} (W:Walks prog w A.in1 I [I,l] [I] its.size (fun i v=>its[i]? = some v) St) (hSt:∀ i h,St i h→∀ o,h.get? I=some o→o.cls ≠ .type "tuple") (hdI:d≠I) (hdl:d≠l) (hlen:its.size=ps.length) (hn:ps.length≤1000) :
  ∀ (k i:Nat) (s:Shared),its.size - i=k→i≤its.size→St i s.heap→Heap.DictOf knd s.heap d (bQ (ps.take i))→(∀ (i:Nat) (v:Value) (p:K×Value),its[i]? = some v→ps[i]? = some p→i8 knd s.heap v p) →
   (∀ (h':Heap) (tk:Nat),Heap.DictOf knd h' d (bQ ps)→(∀ b o,b≠d→b≠I→s.heap.get? b=some o→h'.get? b=some o)→R (.ok (.ret .none)) { s with heap:=h',toks:=tk }) →
   codeAny (model prog w) A (.builtin "dict.update.loop" ⟨[.ref d,.ref I,rawInt i,.none],[]⟩) R s:=by
 intro k
 induction k with
 | zero =>
  intro i s hk hi hst hD hp hR
  obtain rfl:i=its.size:=by omega
  refine codeAny_builtin pe ?_
  rw [Around.under_plainId ie _]
  show wpAny _ A.in1 (pyNext (.ref I) >>= _) _ _ s
  refine wpAny_bind (W.done s _ _ hst fun h' tk hm => ?_)
  rw [hlen,zbA] at hD
  refine wpAny_bind (wpAny_pure ?_)
  exact wpAny_pure (hR h' tk (lV hD fun o e=>hm d o (by simpa using hdI) e) fun b o h1 h2 e=>hm b o (by simpa using h2) e)
 | succ k ih =>
  intro i s hk hi hst hD hp hR
  have hlt:i<its.size:=by omega
  refine codeAny_builtin pe ?_
  rw [Around.under_plainId ie _]
  show wpAny _ A.in1 (pyNext (.ref I) >>= _) _ _ s
  refine wpAny_bind (W.item i s _ _ hlt hst fun v h' tk hP hst' hm => ?_)
  have hpi:ps[i]? = some ps[i]:=zak (by omega)
  have hp2:∀ (i:Nat) (v:Value) (p:K×Value),its[i]? = some v→ps[i]? = some p→i8 knd h' v p:=fun j v p h1 h2=>(hp j v p h1 h2).at fun b o hc e=>hm b o (by
   intro z
   simp only [zaU] at z
   subst z
   exact hSt i _ hst o e hc) e
  obtain ⟨t,ku,o,m,rfl,ho,hc,hd,hku⟩:=hp2 i v _ hP hpi
  have hD2:Heap.DictOf knd h' d (bQ (ps.take i)):=lV hD fun o e=>hm d o (by simpa using hdI) e
  dsimp only
  refine wpAny_bind (wpAny_holding ?_)
  refine wpAny_bind (wpAny_tryCatch ?_)
  unfold Builtin.Dict.pairItems
  refine wpAny_bind (wpAny_typeOf (T := "tuple") ⟨o,ho,hc⟩ ?_)
  rw [if_pos (by decide)]
  refine wpAny_bind (wpAny_seqItems ho hd (wpAny_pure ?_))
  have h2:=nX (ps.take i)
  rw [zbv] at h2
  refine wpAny_holding (wpAny_dictSet_pairs hku hD2 (fun h'' hD'' hs => ?_) (by rw [sizeLine_eq];omega))
  have e9:∀ b o,b≠d→h'.get? b=some o→h''.get? b=some o:=fun b o hb e=>(hs.2 b hb).trans e
  refine wpAny_pure ⟨plainId_quiet ie _,?_⟩
  rw [show ((i:Int)+1)=((i+1:Nat):Int) by omega]
  refine ih (i+1) { s with heap:=h'',toks:=tk+1 } (by omega) hlt (W.frame _ h' h'' hst' fun b hb o e=>e9 b o ?_ e) ?_ (fun j v p h1 h2=>(hp2 j v p h1 h2).at fun b o hc e=>e9 b o ?_ e) fun h3 tk3 hD3 kp3 => ?_
  ·simp only [zca,zbB,or_false] at hb
   rcases hb with rfl | rfl
   ·exact Ne.symm hdI
   ·exact Ne.symm hdl
  ·rw [List.take_succ,hpi]
   show Heap.DictOf knd h'' d (bQ (ps.take i++[ps[i]]))
   rw [l8]
   exact hD''
  ·intro z
   subst z
   obtain ⟨od,_,_,hod,hcd,_⟩:=hD2
   rw [hod] at e;cases e
   rw [hcd.1] at hc
   injection hc with hc
   exact absurd hc (by decide)
  ·exact hR h3 tk3 hD3 fun b o h1 h2 e=>kp3 b o h1 h2 (e9 b o h1 (hm b o (by simpa using h2) e))
theorem vE {l:Addr}{its:Array Value}{ps:List (K×Value)}{Q:Value→Shared→Prop} (hh:A.handled=none) {c:Nat} (hl:s.heap.get? l=some { cls:=.type "list",data:=.seq its c }) (hlen:its.size=ps.length) (hp:∀ (i:Nat) (v:Value) (p:K×Value),its[i]? = some v→ps[i]? = some p→i8 knd s.heap v p) (hn:ps.length≤1000)
  (h:∀ (h':Heap) (tk:Nat),Heap.DictOf knd h' s.heap.objs.size (bQ ps)→(∀ b o,s.heap.get? b=some o→h'.get? b=some o)→Q (.ref s.heap.objs.size) { s with heap:=h',toks:=tk }) :
  wpAny (model prog w) A (call (.type "dict") [.ref l]) Q E s:=by
 refine callType_codes PySem.F.kt_called_dict (PySem.F.kt_typeCall_dict_1 (.ref l)) PySem.F.entry_dict_init (kt_code_dict_new (.ref l) (Q₁:=fun u s₁=>u = .ref s.heap.objs.size∧s₁={ s with heap:=s.heap.push { cls:=.type "dict",data:=.dict #[] } }) ⟨rfl,rfl⟩) fun obj s₁ z => ?_
 obtain ⟨rfl,rfl⟩:=z
 have hnew:Heap.DictOf knd (s.heap.push { cls:=Value.type "dict",data:=Data.dict #[] }) s.heap.objs.size []:=Heap.DictOf.new s.heap
 have hl1:(s.heap.push { cls:=Value.type "dict",data:=Data.dict #[] }).get? l=some { cls:=.type "list",data:=.seq its c }:=zaq _ hl
 refine ⟨Heap.DictOf.typeIs hnew,PySem.F.args_dict_init_2 _ _,?_⟩
 unfold Builtin.«dict.__init__»
 refine wpAny_bind (wpAny_bind (wpAny_notOrdered_dict (Heap.DictOf.typeIs hnew) (wpAny_pure ?_)))
 show wpAny _ _ (Builtin.Dict.updateFrom "dict.__init__" s.heap.objs.size (.ref l) [] .none) _ _ _
 unfold Builtin.Dict.updateFrom
 refine wpAny_bind (wpAny_typeOf (T := "list") ⟨_,hl1,rfl⟩ ?_)
 rw [if_pos (by decide)]
 refine wpAny_bind (yR hl1 hh fun h1 tk1 kp1 => ?_)
 rw [if_pos (by decide)]
 refine wpAny_bind (wpAny_rule ?_)
 have hl2:h1.IsList l its:=⟨_,kp1 _ _ hl1,rfl,c,rfl⟩
 refine wpAny_bind (wpAny_pyIter_list hl2 ?_)
 have hD1:Heap.DictOf knd h1 s.heap.objs.size []:=lV hnew fun o e=>kp1 _ _ e
 refine wpAny_pure ⟨plainId_quiet ie _,?_⟩
 have lS:s.heap.objs.size<h1.objs.size:=by obtain ⟨o,_,_,ho,_⟩:=hD1;exact zct ho
 have ll:l<s.heap.objs.size:=zct hl
 have kp2:∀ b o,s.heap.get? b=some o→h1.get? b=some o:=fun b o e=>kp1 b o (zaq _ e)
 refine yO (ps:=ps) (Walks.list (A:=A.in1.in1) hh h1.objs.size l (zcl (Nat.lt_trans ll lS)) its) (fun i h z o e => ?_) (zcl lS) (Nat.ne_of_gt ll) hlen hn its.size 0 _ rfl (zcy _) ?_ ?_ ?_ fun h' tk hD' kp'=>⟨rfl,h h' tk hD' fun b o e => ?_⟩
 ·obtain ⟨o',ho',hc',_⟩:=z.1
  rw [e] at ho';cases ho'
  rw [hc']
  intro z
  injection z with z
  exact absurd z (by decide)
 ·exact ⟨⟨_,zaQ _ rfl,rfl,rfl⟩,hl2.at fun o e=>zaq _ e⟩
 ·exact lV hD1 fun o e=>zaq _ e
 ·exact fun i v p h2 h3=>(hp i v p h2 h3).at fun b o _ e=>zaq _ (kp2 b o e)
 ·have lb:=zct e
  exact kp' b o (zcl lb) (zcl (Nat.lt_trans lb lS)) (zaq _ (kp2 b o e))
end
end M6
namespace L2
open PySem PySem.Spec PyProof.Rows M6
noncomputable def putAll (kvs:List (Key×V)):List (Key×V):=kvs.foldl (fun acc p=>putK acc p.1 p.2) []
theorem mV:∀ {kvs:List (Key×V)}{vs:List (Key×Value)},KV kvs vs→∀ {a:List (Key×V)}{b:List (Key×Value)},KV a b→KV (kvs.foldl (fun acc p=>putK acc p.1 p.2) a) (vs.foldl (fun acc p=>stored acc p.1 p.2) b)
 | [],_,h,a,b,g=>by cases h;exact g
 | p::kvs,_,h,a,b,g=>by
  cases h with
  | @cons _ q _ vs r t =>
   show KV (kvs.foldl _ (putK a p.1 p.2)) (vs.foldl _ (stored b q.1 q.2))
   rw [← r.1]
   exact mV t (g.put p.1 r.2)
theorem uO (kvs:List (Key×V)):(putAll kvs).length≤kvs.length:=by
 have:∀ (l acc:List (Key×V)),(l.foldl (fun acc p=>putK acc p.1 p.2) acc).length≤acc.length+l.length:=by
  intro l
  induction l with
  | nil=>intro acc;simp
  | cons a r ih=>intro acc;rw [zbP,zbu];have:=ih (putK acc a.1 a.2);have:=fh acc a.1 a.2;omega
 have:=this kvs []
 simpa [putAll] using this
noncomputable def Jo (H:Hp) (ts:List Addr) (kvs:List (Key×V)):Prop:=Paired (fun t (p:Key×V)=>H t=some (.tup [kV p.1,p.2])) ts kvs
noncomputable def Hv:List V→Hp→VK→Prop:=fun xs H Q=>∃ (a:Addr) (ts:List Addr) (kvs:List (Key×V)),xs=[.ref a]∧H a=some (.lst (ts.map V.ref))∧Jo H ts kvs∧kvs.length≤1000∧∀ p,H p=none→Q (.ref p) (upd H p (.dK (putAll kvs)))
theorem oM:∀ {ts:List Addr}{us:List Value},Vals (ts.map V.ref) us→us=ts.map Value.ref
 | [],us,h=>by cases h;rfl
 | t::ts,us,h=>by
  cases h with
  | cons r g =>
   obtain rfl:_=Value.ref t:=r
   rw [oM g];rfl
section
variable {X:Cx}
theorem A5 {pins:List (Addr×Obj)}{σ:St}{H:Hp}{s:Shared} (I:Inv X pins σ H s):∀ {ts:List Addr}{kvs:List (Key×V)},Jo H ts kvs→∃ ps:List (Key×Value),KV kvs ps∧ps.length=ts.length∧∀ (i:Nat) (v:Value) (p:Key×Value),(ts.map Value.ref)[i]? = some v→ps[i]? = some p→i8 (bx X.prog X.w) s.heap v p
 | [],_,h=>by cases h;exact ⟨[],.nil,rfl,fun i v p h=>by simp at h⟩
 | t::ts,_,h=>by
  cases h with
  | @cons _ q _ kvs r g =>
   obtain ⟨ps,h1,h2,h3⟩:=A5 I g
   obtain ⟨_,its,rv,o,ho,hc,n,hd⟩:=(show bw X.prog X.w H s.heap t (.tup [kV q.1,q.2]) from I.hok t _ r)
   cases rv with
   | @cons _ ku _ its' g1 rv =>
    cases rv with
    | @cons _ u _ its'' g2 rv =>
     cases rv
     refine ⟨(q.1,u)::ps,.cons ⟨rfl,g2⟩ h1,by simp [h2],fun i v p e1 e2 => ?_⟩
     cases i with
     | zero =>
      simp only [zcb,List.getElem?_cons_zero,zcB.injEq] at e1 e2
      subst e1;subst e2
      exact ⟨t,ku,o,n,rfl,ho,hc,hd,kO g1⟩
     | succ i =>
      simp only [zcb,List.getElem?_cons_succ] at e1 e2
      exact h3 i v p e1 e2
theorem vF {k:Nat} (hr:bf k X.A):bV X (.type "dict") Hv:=by
 intro pins s σ H xs us Q I r h
 obtain ⟨a,ts,kvs,rfl,e,hp,hl,q⟩:=h
 obtain ⟨u,rfl,ru⟩:=vals1 r
 cases ru
 obtain ⟨hz,its,c,rv,g⟩:=(show bw X.prog X.w H s.heap a (.lst (ts.map V.ref)) from I.hok a _ e)
 have ei:=oM rv
 obtain ⟨ps,p1,p2,p3⟩:=A5 I hp
 have p4:=Paired.length p1
 refine vE (knd:=bx X.prog X.w) (its:=its.toArray) (ps:=ps) hr.hd g (by rw [zbd,ei,zbJ];exact p2.symm) (fun i v p h1 h2=>p3 i v p (by rw [← ei];simpa using h1) h2) (by omega) fun h' tk dd kp => ?_
 have dd':h'.DictOf (bx X.prog X.w) s.heap.objs.size (bQ ps):=dd
 refine ⟨.ref s.heap.objs.size,_,I.laid (a:=s.heap.objs.size) (t':=tk) (o:=.dK (putAll kvs)) kp (zcx _) ⟨by have:=uO kvs;rw [sizeLine_eq];omega,beq_eq_false_iff_ne.mpr (Ne.symm (zcl I.big)),_,mV p1 .nil,dd'⟩,rfl,q _ (I.hok.fresh (zcx _))⟩
end
end L2
namespace M
open PySem PySem.Spec PyProof.Rows L2 M6
noncomputable def keyOf:D→Option Key
 | .int i=>some (.inl i)
 | .str x=>some (.inr x)
 | _=>none
noncomputable def kD:Key→D
 | .inl i=>.int i
 | .inr x=>.str x
noncomputable def nJ (ks:List Key) (k:Key):Bool:=ks.any fun j=>decide (j=k)
section
variable {K:PySem.W.Frag}
theorem lR {w:Wd}{d:D}{v:V}{k:Key} (h:Rep K w d v) (e:keyOf d=some k):v=kV k:=by
 cases d <;> simp only [keyOf] at e <;> cases e
 ·simpa [Rep,kV] using h
 ·simpa [Rep,kV] using h
theorem DI {w:Wd}{S:au}{d:D}{v:V}{k:Key} (h:Rep K w d v) (e:keyOf (bD S d)=some k):v=kV k:=by
 cases z:bD S d <;> rw [z] at e <;> simp only [keyOf] at e <;> cases e
 ·exact cR h z
 ·exact bP h z
noncomputable def CB:AE:=fun _ S Q=>Q (.new (.dct [] [])) S
theorem DU:∀ σ H Q,bB K CB σ H Q→Ah σ H Q:=by
 rintro σ H Q ⟨w,δ,S,Qa,ok,env,q,bk⟩ p hp
 exact bk (.new (.dct [] [])) S _ w _ .refl (ok.alloc hp) (ok.fresh hp ⟨[],rfl,rfl,.nil⟩) q
noncomputable def vJ (a b:AE):AE:=fun δ S Q=>a δ S fun r1 S1=>b δ S1 fun r2 S2=>∃ ks ds k d,bD S2 r1.d = .dct ks ds∧keyOf r2.d=some k∧i0 ks ds k=some d∧Q (.dat d) S2
theorem DV {a b:AE}:∀ σ H Q,bB K (vJ a b) σ H Q→Ai (bB K a) (bB K b) σ H Q:=by
 rintro σ H Q ⟨w,δ,S,Qa,ok,env,q,bk⟩
 refine ⟨w,δ,S,_,ok,env,q,.go fun r1 S1 v1 w1 H1 le1 ok1 rep1 q1 => ?_⟩
 refine ⟨w1,δ,S1,_,ok1,env.le le1,q1,.go fun r2 S2 v2 w2 H2 le2 ok2 rep2 ⟨ks,ds,k,d,z1,z2,z3,q2⟩ => ?_⟩
 obtain ⟨a,kvs,rfl,h1,rfl,h3⟩:=gZ ok2 (rep1.le le2) z1
 obtain ⟨v,g1,g2⟩:=qQ h3 z3
 rw [lR rep2 z2]
 refine ⟨a,v,rfl,?_,bk.dat (le1.trans le2) ok2 g2 q2⟩
 rw [← g1]
 exact iJ.k h1
noncomputable def vI (a b c:AE):AS:=fun D δ S=>c δ S fun r3 S1=>a δ S1 fun r1 S2=>b δ S2 fun r2 S3=>∃ n ks ds k,r1.d = .loc n∧keyOf r2.d=some k∧S3[n]? = some (some (.dct ks ds))∧ds.length<1000∧D.nx δ (S3.set n (some (jL ks ds k r3.d)))
theorem DS {a b c:AE}:∀ D σ H,f7 K (vI a b c) D σ H→AJ (bB K a) (bB K b) (bB K c) D σ H:=by
 rintro D σ H ⟨w,δ,S,Da,ok,env,q,bk⟩
 refine ⟨w,δ,S,_,ok,env,q,.go fun r3 S1 v3 w1 H1 le1 ok1 rep3 q1 => ?_⟩
 refine ⟨w1,δ,S1,_,ok1,env.le le1,q1,.go fun r1 S2 v1 w2 H2 le2 ok2 rep1 q2 => ?_⟩
 refine ⟨w2,δ,S2,_,ok2,(env.le le1).le le2,q2,.go fun r2 S3 v2 w3 H3 le3 jw rep2 ⟨n,ks,ds,k,z1,z2,z3,hl,q3⟩ => ?_⟩
 rw [z1] at rep1
 obtain ⟨a,kvs,rfl,h0,h1,rfl,h3⟩:=vz jw (rep1.le le3) z3
 rw [lR rep2 z2]
 have hlen:kvs.length=ds.length:=by have:=h3.length;rw [zbJ] at this;exact this
 refine ⟨a,_,rfl,vU.k h1 (by rw [hlen,sizeLine_eq];omega),?_⟩
 have ok4:=jw.put z3 h0 (r6 (k:=k) (rep3.le (le2.trans le3)) h3)
 exact bk.nx δ _ σ w3 _ ((le1.trans le2).trans le3) ok4 (((env.le le1).le le2).le le3) q3
noncomputable def tS (neg:Bool):A2:=fun x y S Q=>match bD S y with
 | .dct ks _=>∃ k,keyOf (bD S x)=some k∧Q (.dat (.bl (neg != nJ ks k))) S
 | _=>False
theorem F7 {neg:Bool}:∀ x y H Q,zh K (tS neg) x y H Q→Hq neg x y H Q:=by
 intro x y H Q h
 obtain ⟨w,d,e,S,Qa,ok,r1,r2,q,bk⟩:=h
 unfold tS at q
 cases z:bD S e <;> rw [z] at q <;> first | exact q.elim | skip
 obtain ⟨k,z1,q⟩:=q
 obtain ⟨a,kvs,rfl,h1,rfl,h3⟩:=gZ ok r2 z
 refine ⟨a,kvs,k,rfl,DI r1 z1,h1,bk.dat .refl ok .bl ?_⟩
 have e2:nJ (kvs.map (·.1)) k=(eW kvs k).isSome:=by
  unfold nJ
  rw [zch]
  exact l6 k kvs
 rw [← e2];exact q
noncomputable def zS (a:List Key×List D) (p:Key×D):List Key×List D:=if nJ a.1 p.1=true then (a.1,(a.1.zip a.2).map fun x=>if x.1=p.1 then p.2 else x.2) else (a.1++[p.1],a.2++[p.2])
noncomputable def qT (ps:List (Key×D)):List Key×List D:=ps.foldl zS ([],[])
noncomputable def Ji:AN:=fun ds S Q=>∃ d,∃ ps:List (Key×D),ds=[d]∧bD S d = .lst (ps.map fun p=>.tup [kD p.1,p.2])∧ps.length≤1000∧Q (.new (.dct (qT ps).1 (qT ps).2)) S
theorem ET (a:List Key×List D) (p:Key×D):jL a.1 a.2 p.1 p.2 = .dct (zS a p).1 (zS a p).2:=by
 unfold jL zS nJ
 split <;> rfl
theorem sX {w:Wd}:∀ {ps:List (Key×D)}{kvs:List (Key×V)},Paired (fun (p:Key×D) (q:Key×V)=>p.1=q.1∧Rep K w p.2 q.2) ps kvs→∀ {a:List Key×List D}{b:List (Key×V)},b.map (·.1)=a.1→ak K w a.2 (b.map (·.2)) →
  (kvs.foldl (fun acc p=>putK acc p.1 p.2) b).map (·.1)=(ps.foldl zS a).1∧ak K w (ps.foldl zS a).2 ((kvs.foldl (fun acc p=>putK acc p.1 p.2) b).map (·.2))
 | [],_,h,a,b,g1,g2=>by cases h;exact ⟨g1,g2⟩
 | p::ps,_,h,a,b,g1,g2=>by
  cases h with
  | @cons _ q _ kvs r t =>
   have hr:=r6 (K:=K) (k:=p.1) r.2 g2
   rw [g1] at hr
   rw [show jL a.1 a.2 p.1 p.2=_ from ET a p] at hr
   obtain ⟨kvs',e1,e2,e3⟩:=hr
   injection e1 with e1
   subst e1
   rw [r.1] at e2 e3
   exact sX t e2 e3
theorem oS {w:Wd}{H:Hp}{S:au} (ok:Ok K w H S):∀ {ps:List (Key×D)}{xs:List V},ak K w (ps.map fun p=>D.tup [kD p.1,p.2]) xs→∃ ts kvs,xs=ts.map V.ref∧Jo H ts kvs∧Paired (fun (p:Key×D) (q:Key×V)=>p.1=q.1∧Rep K w p.2 q.2) ps kvs
 | [],xs,h=>⟨[],[],by simpa [ak] using h,.nil,.nil⟩
 | p::ps,xs,h=>by
  simp only [zcb,ak] at h
  obtain ⟨x,r,rfl,h1,h2⟩:=h
  obtain ⟨ts,kvs,rfl,g1,g2⟩:=oS ok h2
  simp only [Rep] at h1
  obtain ⟨t,ys,rfl,hB,hy⟩:=h1
  simp only [ak] at hy
  obtain ⟨y1,r1,rfl,k1,y2,r2,rfl,k2,rfl⟩:=hy
  have e1:y1=kV p.1:=lR k1 (by cases p.1 <;> rfl)
  subst e1
  exact ⟨t::ts,(p.1,y2)::kvs,rfl,.cons (ok.base _ _ hB) g1,.cons ⟨rfl,k2⟩ g2⟩
end
section
variable {X:Cx}{o i value:Expr}{pos pos':Pos}
theorem jt:GE X (.Dict [] [] pos) CB:=⟨mE L2.jt DU⟩
theorem cz {ta tb:AE} (hu:X.A.units+1<cLine) (ho:GE X o ta) (hi:GE X i tb) (hs:Ft i):GE X (.Subscript o i pos) (vJ ta tb):=⟨mE (L2.c6 hu ho.p hi.p hs) DV⟩
theorem mZ {ta tb tc:AE} (hu:X.A.units+1<cLine) (ho:GE X o ta) (hi:GE X i tb) (hv:GE X value tc) (hs:swapsWith value (some (.Subscript o i pos')) pos.line X.env=pure false):GS X (.Assign [.Subscript o i pos'] value pos) (vI ta tb tc) :=
 ⟨mS (L2.jm hu ho.p hi.p hv.p hs) DS⟩
theorem FQ {k:Nat} (hr:bf k X.A):vM X (compareOp .In) (tS false):=⟨m2 (HH (dW hr)) F7⟩
theorem sq {k:Nat} (hr:bf k X.A):vM X (compareOp .NotIn) (tS true):=⟨m2 (yG (dW hr)) F7⟩
theorem Ed {k:Nat} (hr:bf k X.A):zL X (.type "dict") Ji:=⟨mC (vF hr) fun xs H Q h=>by
 obtain ⟨w,ds,S,Qa,ok,rep,⟨d,ps,rfl,z,hl,q⟩,bk⟩:=h
 obtain ⟨v,rfl,r1⟩:=fJ rep
 obtain ⟨a,xs,rfl,h1,h2⟩:=bX ok r1 z
 obtain ⟨ts,kvs,rfl,g1,g2⟩:=oS ok h2
 have hlen:=Paired.length g2
 obtain ⟨e1,e2⟩:=sX g2 (a:=([],[])) (b:=[]) rfl .nil
 exact ⟨a,ts,kvs,rfl,h1,g1,by omega,fun p hp=>bk (.new (.dct (qT ps).1 (qT ps).2)) S _ w _ .refl (ok.alloc hp) (ok.fresh hp ⟨_,rfl,e1,e2⟩) q⟩⟩
end
noncomputable def nF (W:World) (ks:List D):Addr→List Addr→Heap→Prop:=fun a bs=>ig W a ((ks.map py).zip bs)
noncomputable def nO (W:World) (ks:List D):MO:=.Di (nF W ks) ks
noncomputable def fm (d:D):Prop:=b6 d=true∧b8 (py d)=true∧(py d).depth≤6∧∃ es,d = .tup es
noncomputable def putN (ks:List D) (k:D):List D:=if (ks.any fun j=>decide (py j=py k))=true then ks else ks++[k]
section
variable {K:PySem.W.Frag}
theorem jD {w:Wd}{H:Hp}{S:au}{d:D}{v:V} (ok:Ok K w H S) (h:Rep K w d v) (g:fm d):∃ b,v = .ref b∧bC K H (py d) (.ref b):=by
 obtain ⟨g1,g2,g3,es,rfl⟩:=g
 have h2:=h
 simp only [Rep] at h2
 obtain ⟨b,ys,rfl,_⟩:=h2
 have:=p9 ok h (by simpa [bD] using g1)
 exact ⟨b,rfl,by simpa [bD] using this⟩
theorem fN {w:Wd}{H:Hp}{S:au} (ok:Ok K w H S):∀ {ks:List D}{bs:List Addr},ak K w ks (bs.map V.ref)→(∀ k∈ks,fm k)→kX K H ((ks.map py).zip bs)
 | [],bs,_,_=>fun x hx=>by simp at hx
 | k::ks,[],h,_=>by simp only [zcg,ak] at h;obtain ⟨_,_,z,_⟩:=h;cases z
 | k::ks,b::bs,h,g=>by
  simp only [zcb,ak] at h
  obtain ⟨x,r,e,h1,h2⟩:=h
  injection e with e1 e2
  subst e1;subst e2
  intro y hy
  rw [zcb,zaT] at hy
  rcases zca.mp hy with rfl | hy
  ·obtain ⟨b',e,hd⟩:=jD ok h1 (g k (by simp))
   cases e
   exact ⟨(g k (by simp)).2.1,(g k (by simp)).2.2.1,hd⟩
  ·exact fN ok h2 (fun k hk=>g k (zaA _ hk)) y hy
noncomputable def CA (W:World):AE:=fun _ S Q=>Q (.new (nO W [])) S
theorem DT {W:World}:∀ σ H Q,bB K (CA W) σ H Q→Ag W σ H Q:=by
 rintro σ H Q ⟨w,δ,S,Qa,ok,env,q,bk⟩ p hp
 exact bk (.new (nO W [])) S _ w _ .refl (ok.alloc hp) (ok.fresh hp ⟨p,[],rfl,.nil⟩) q
noncomputable def Ct (W:World) (a b c:AE):AS:=fun D δ S=>c δ S fun r3 S1=>a δ S1 fun r1 S2=>b δ S2 fun r2 S3=>∃ n ks,r3.d = .bl true∧r1.d = .loc n∧S3[n]? = some (some (nO W ks))∧fm r2.d∧(∀ k∈ks,fm k)∧ks.length<1000∧D.nx δ (S3.set n (some (nO W (putN ks r2.d))))
theorem A0 {ks:List D}{bs:List Addr}{k:D}{b:Addr} (h:ks.length=bs.length):∃ bs',uP ((ks.map py).zip bs) (py k) b=((putN ks k).map py).zip bs'∧(bs'=bs∧putN ks k=ks∨bs'=bs++[b]∧putN ks k=ks++[k]):=by
 have e:(((ks.map py).zip bs).any fun x=>decide (x.1=py k))=(ks.any fun j=>decide (py j=py k)):=by
  have:((ks.map py).zip bs).map (·.1)=ks.map py:=List.map_fst_zip (by rw [zbJ];omega)
  have h1:(((ks.map py).zip bs).any fun x=>decide (x.1=py k))=((((ks.map py).zip bs).map (·.1)).any fun d=>decide (d=py k)):=by rw [zch];rfl
  rw [h1,this,zch];rfl
 unfold uP putN
 rw [e]
 by_cases hc:(ks.any fun j=>decide (py j=py k))=true
 ·rw [if_pos hc,if_pos hc]
  exact ⟨bs,rfl,.inl ⟨rfl,rfl⟩⟩
 ·rw [if_neg hc,if_neg hc]
  refine ⟨bs++[b],?_,.inr ⟨rfl,rfl⟩⟩
  rw [zbR,List.zip_append (by rw [zbJ];exact h)];rfl
theorem GU {W:World}{a b c:AE}:∀ D σ H,f7 K (Ct W a b c) D σ H→FG K W (bB K a) (bB K b) (bB K c) D σ H:=by
 rintro D σ H ⟨w,δ,S,Da,ok,env,q,bk⟩
 refine ⟨w,δ,S,_,ok,env,q,.go fun r3 S1 v3 w1 H1 le1 ok1 rep3 q1 => ?_⟩
 refine ⟨w1,δ,S1,_,ok1,env.le le1,q1,.go fun r1 S2 v1 w2 H2 le2 ok2 rep1 q2 => ?_⟩
 refine ⟨w2,δ,S2,_,ok2,(env.le le1).le le2,q2,.go fun r2 S3 v2 w3 H3 le3 jw rep2 ⟨n,ks,z0,z1,z2,g1,g2,hl,q3⟩ => ?_⟩
 rw [z1] at rep1
 have rep1:=rep1.le le3
 simp only [Rep] at rep1
 obtain ⟨a,h0,rfl⟩:=rep1
 obtain ⟨a1,u,k1,k2,k3,a',bs,rfl,k5⟩:=jw.live n _ z2
 rw [h0] at k1;cases k1
 obtain ⟨b,rfl,hb⟩:=jD jw rep2 g1
 have hlen:ks.length=bs.length:=by have:=k5.length;rw [zbJ] at this;exact this.symm
 refine ⟨a,a',b,_,py r2.d,?_,rfl,rfl,k3,fN jw k5 g2,g1.2.1,g1.2.2.1,hb,?_,fun e => ?_⟩
 ·rw [uM rep3 z0]
 ·rw [zbS,zbJ];omega
 ·subst e
  obtain ⟨bs',e1,e2⟩:=A0 (k:=r2.d) (b:=b) hlen
  rw [e1]
  refine bk.nx δ _ σ w3 _ ((le1.trans le2).trans le3) (jw.put z2 h0 (o':=nO W (putN ks r2.d)) ⟨a',bs',rfl,?_⟩) (((env.le le1).le le2).le le3) q3
  rcases e2 with ⟨rfl,e⟩ | ⟨rfl,e⟩
  ·rw [e];exact k5
  ·rw [e,zbR];exact k5.snoc rep2
theorem vV {w:Wd}:∀ {ks:List D}{bs:List Addr},ak K w ks (bs.map V.ref)→∀ x∈ks.zip bs,Rep K w x.1 (.ref x.2)
 | [],_,_,x,hx=>by simp at hx
 | _::_,[],_,x,hx=>by simp at hx
 | k::ks,b::bs,h,x,hx=>by
  simp only [zcb,ak] at h
  obtain ⟨y,r,e,h1,h2⟩:=h
  injection e with e1 e2
  subst e1;subst e2
  rw [zaT] at hx
  rcases zca.mp hx with rfl | hx
  ·exact h1
  ·exact vV h2 x hx
theorem iM {w:Wd}:∀ {o:List (D×Addr)},(∀ x∈o,Rep K w x.1 (.ref x.2))→ak K w (o.map (·.1)) (o.map fun x=>V.ref x.2)
 | [],_=>.nil
 | x::o,h=>.cons (h x (by simp)) (iM fun y hy=>h y (zaA _ hy))
end
section
variable {X:Cx}{o i value:Expr}{pos pos':Pos}
theorem jr:GE X (.Dict [] [] pos) (CA X.w):=⟨mE L2.jr DT⟩
theorem jj {k:Nat} (hr:bf k X.A) {ta tb tc:AE} (ho:GE X o ta) (hi:GE X i tb) (hv:GE X value tc) (hs:swapsWith value (some (.Subscript o i pos')) pos.line X.env=pure false):GS X (.Assign [.Subscript o i pos'] value pos) (Ct X.w ta tb tc) :=
 ⟨mS (L2.jj (by have:=hr.units;omega) ho.p hi.p hv.p hs) GU⟩
end
section
variable {K:PySem.W.Frag}
theorem zW {H:Hp}{a:Addr}{u:HO} (h:H a=some u):upd H a u=H:=by
 funext b
 by_cases hb:b=a
 ·subst hb;rw [aM,h]
 ·rw [aJ hb]
end
end M
namespace M8
open PySem PySem.Spec PyProof.Rows
open PySem.SetTable (Probe bits runEnd leap turns)
noncomputable def MX (m:Nat) (p:Probe):Probe :=
 if p.more > 0 then { p with j:=p.j+1,more:=p.more - 1 } else
 { p with j:=(leap m p.i p.perturb).1,more:=runEnd m (leap m p.i p.perturb).1 - (leap m p.i p.perturb).1,i:=(leap m p.i p.perturb).1,perturb:=(leap m p.i p.perturb).2 }
theorem My (t:SetTable) (p:Probe):t.advance p=MX t.mask p:=rfl
noncomputable def at0 (m:Nat) (q:Nat×Nat):Probe:={ j:=q.1,more:=runEnd m q.1 - q.1,i:=q.1,perturb:=q.2,dummy:=none }
noncomputable def ru (m:Nat) (h:Int):Nat→Nat×Nat
 | 0=>(bits h % (m+1),bits h)
 | k+1=>leap m (ru m h k).1 (ru m h k).2
noncomputable def road (m:Nat) (h:Int):Nat→Probe
 | 0=>at0 m (ru m h 0)
 | n+1=>MX m (road m h n)
theorem JF (t:SetTable) (h:Int):t.probeStart h=road t.mask h 0:=rfl
noncomputable def lcg (m i:Nat):Nat:=(i*5+1) % (m+1)
noncomputable def it (m:Nat):Nat→Nat→Nat
 | 0,i=>i
 | k+1,i=>it m k (lcg m i)
noncomputable abbrev Ent:=Nat×(Int×Value)
noncomputable def fs (l:List Ent):List Nat:=l.map (·.1)
section
variable {t:SetTable}{es:Array (Int×Value)}{l:List Ent}
noncomputable def more (l:List Ent) (p:Nat) (e:Ent):List Ent:=l.take p++e::l.drop p
end
end M8
namespace L2
open PySem PySem.Spec PyProof.Rows M6 M8
section
variable {X:Cx}{e:Expr}{ta:TE}{p p2 pos pos2:Pos}
theorem iK {α:Type} (f:α→Addr):∀ {l:List α}{us:List Value},Vals (l.map fun x=>V.ref (f x)) us→us=l.map fun x=>Value.ref (f x)
 | [],us,h=>by cases h;rfl
 | x::l,us,h=>by
  cases h with
  | cons h1 h2=>cases h1;rw [iK f h2];rfl
end
end L2
namespace M
open PySem PySem.Spec PyProof.Rows L2 M6
section
variable {K:PySem.W.Frag}
theorem oJ {w:Wd}:∀ {ks:List D}{xs:List V},ak K w ks xs→(∀ k∈ks,∃ es,k = .tup es)→∃ bs:List Addr,xs=bs.map V.ref
 | [],xs,h,_=>by simp only [ak] at h;exact ⟨[],h⟩
 | k::ks,xs,h,g=>by
  simp only [ak] at h
  obtain ⟨x,r,rfl,h1,h2⟩:=h
  obtain ⟨es,rfl⟩:=g k (by simp)
  simp only [Rep] at h1
  obtain ⟨b,ys,rfl,_⟩:=h1
  obtain ⟨bs,rfl⟩:=oJ h2 fun k hk=>g k (zaA _ hk)
  exact ⟨b::bs,rfl⟩
end
end M
namespace M9
open PySem PySem.Spec PyProof.Rows
section
variable {prog:Program}{w:World}{A:Around}{E:Value→Shared→Prop}{s:Shared}
noncomputable abbrev LL (l:Addr):Obj:={ cls:=.type "tuple_iterator",data:=.fields #[.ref l,.int 0 0] }
noncomputable abbrev MP (a b:Value):Obj:={ cls:=.type "tuple",data:=.seq #[a,b] }
noncomputable abbrev zO (a b:Addr):Obj:={ cls:=.type "zip",data:=.fields #[.none,.bool false,.bool false,.ref a,.ref b] }
noncomputable abbrev q2 (h:Heap) (l1 l2:Addr):Heap:=(h.push (LL l1)).push (LL l2)
noncomputable abbrev q3 (h:Heap) (l1 l2:Addr):Heap:=(q2 h l1 l2).push (MP (.ref h.objs.size) (.ref (h.push (LL l1)).objs.size))
noncomputable abbrev q4 (h:Heap) (l1 l2:Addr):Heap:=(q3 h l1 l2).push (MP .none .none)
noncomputable abbrev q5 (h:Heap) (l1 l2:Addr):Heap:=(q4 h l1 l2).push (zO (q2 h l1 l2).objs.size (q3 h l1 l2).objs.size)
end
end M9
namespace M10
open PySem PyProof.Rows
noncomputable def qR:Bool→Keyed→Array Keyed→Nat→Nat→Nat→StateT SortSt Sem (Option Nat):=sortPriv% PySem.Builtin.gallop
noncomputable def Br:Array Keyed→Array Keyed→StateT SortSt Sem (Array Keyed):=sortPriv% PySem.Builtin.mergeLo
noncomputable def Bs:Array Keyed→Array Keyed→StateT SortSt Sem (Array Keyed):=sortPriv% PySem.Builtin.mergeHi
noncomputable def beyond (left:Bool) (key:Keyed) (arr:Array Keyed) (base i:Nat):StateT SortSt Sem (Option Bool):=do
 let x ← elem' arr (base+i)
 if left then lt' x key else return (← lt' key x).map (!·)
noncomputable def xO (left:Bool) (key:Keyed) (arr:Array Keyed) (base n lo hi:Nat):StateT SortSt Sem (Option Nat):=do
 let mut lo:=lo
 let mut hi:=hi
 for _ in [0:n] do
  if lo≥hi then break
  let m:=lo+(hi - lo) / 2
  let some more ← beyond left key arr base m | return none
  if more then lo:=m+1 else hi:=m
 return some hi
section
variable {prog:Program}{w:World}{A:Around}{E:Value→Shared→Prop}{s:Shared}
theorem sP {left:Bool}{key:Keyed}{arr:Array Keyed}{base n lo hi:Nat}{st:SortSt}{Q:Option Nat→SortSt→Prop}{P:Nat→Bool} (hP:∀ i j,i≤j→j<n→P j=true→P i=true)
  (hb:∀ i,i<n→∀ Q:Option Bool→SortSt→Prop,Q (some (P i)) st→wpS (model prog w) A E s (beyond left key arr base i) Q st)
  (h1:lo≤hi) (h2:hi≤n) (h3:∀ i,i<lo→P i=true) (h4:∀ i,hi≤i→i<n→P i=false)
  (h:∀ k,k≤n→(∀ i,i<k→P i=true)→(∀ i,k≤i→i<n→P i=false)→Q (some k) st):wpS (model prog w) A E s (xO left key arr base n lo hi) Q st:=by
 unfold xO
 dsimp only
 refine wpS_bind (wpS_mono (wpS_forRange
  (I:=fun x c st'=>st'=st∧∃ l r,c=(none,l,r)∧l≤r∧r≤n∧r - l≤n - x∧(∀ i,i<l→P i=true)∧∀ i,r≤i→i<n→P i=false)
  (Q:=fun c st'=>st'=st∧∃ k,c=(none,k,k)∧k≤n∧(∀ i,i<k→P i=true)∧∀ i,k≤i→i<n→P i=false) ?step ?fin ⟨rfl,lo,hi,rfl,h1,h2,by omega,h3,h4⟩) ?post)
 case post =>
  rintro c st' ⟨rfl,k,rfl,k1,k2,k3⟩
  exact wpS_pure (h k k1 k2 k3)
 case fin =>
  rintro c st' ⟨rfl,l,r,rfl,a1,a2,a3,a4,a5⟩
  obtain rfl:l=r:=by omega
  exact ⟨rfl,l,rfl,a2,a4,a5⟩
 case step =>
  rintro x c st' _ hx ⟨rfl,l,r,rfl,a1,a2,a3,a4,a5⟩
  dsimp only
  by_cases hge:l≥r
  ·rw [if_pos hge]
   obtain rfl:l=r:=by omega
   exact wpS_pure ⟨rfl,l,rfl,a2,a4,a5⟩
  ·rw [if_neg hge]
   refine wpS_bind (hb _ (by omega) _ ?_)
   dsimp only
   cases hm:P (l+(r - l) / 2) with
   | true =>
    rw [if_pos rfl]
    refine wpS_pure ⟨rfl,_,_,rfl,by omega,a2,by omega,fun i hi => ?_,a5⟩
    exact hP i _ (by omega) (by omega) hm
   | false =>
    rw [if_neg (by decide)]
    refine wpS_pure ⟨rfl,_,_,rfl,by omega,by omega,by omega,a4,fun i h1 h2 => ?_⟩
    cases hi:P i with
    | false=>rfl
    | true=>rw [hP _ i h1 h2 hi] at hm;cases hm
theorem MV {left:Bool}{key:Keyed}{arr:Array Keyed}{base n hint:Nat}{st:SortSt}{Q:Option Nat→SortSt→Prop}{P:Nat→Bool} (hh:hint<n) (hP:∀ i j,i≤j→j<n→P j=true→P i=true)
  (hb:∀ i,i<n→∀ Q:Option Bool→SortSt→Prop,Q (some (P i)) st→wpS (model prog w) A E s (beyond left key arr base i) Q st)
  (h:∀ k,k≤n→(∀ i,i<k→P i=true)→(∀ i,k≤i→i<n→P i=false)→Q (some k) st):wpS (model prog w) A E s (qR left key arr base n hint) Q st:=by
 have hN:∀ i j,i≤j→j<n→P i=false→P j=false:=fun i j h1 h2 h3=>by
  cases hj:P j with
  | false=>rfl
  | true=>rw [hP i j h1 h2 hj] at h3;cases h3
 refine wpS_bind (hb hint hh _ ?_)
 dsimp only
 cases hr:P hint with
 | true =>
  rw [if_pos rfl]
  refine wpS_bind (wpS_mono (wpS_forRange
   (I:=fun x c st'=>st'=st∧∃ l o,c=(none,l,o)∧l<o∧hint+l<n∧P (hint+l)=true∧x+1≤o)
   (Q:=fun c st'=>st'=st∧∃ l o,c=(none,l,o)∧l<o∧hint+l<n∧P (hint+l)=true∧(n - hint≤o∨(hint+o<n∧P (hint+o)=false))) ?step ?fin ⟨rfl,0,1,rfl,by omega,by omega,hr,by omega⟩) ?post)
  case fin =>
   rintro c st' ⟨rfl,l,o,rfl,a1,a2,a3,a4⟩
   exact ⟨rfl,l,o,rfl,a1,a2,a3,.inl (by omega)⟩
  case step =>
   rintro x c st' _ hx ⟨rfl,l,o,rfl,a1,a2,a3,a4⟩
   dsimp only
   by_cases hge:o≥n - hint
   ·rw [if_pos hge]
    exact wpS_pure ⟨rfl,l,o,rfl,a1,a2,a3,.inl hge⟩
   ·rw [if_neg hge]
    refine wpS_bind (hb _ (by omega) _ ?_)
    dsimp only
    cases hm:P (hint+o) with
    | true =>
     rw [if_neg (by decide)]
     exact wpS_pure ⟨rfl,o,2*o+1,rfl,by omega,by omega,hm,by omega⟩
    | false =>
     rw [if_pos (by decide)]
     exact wpS_pure ⟨rfl,l,o,rfl,a1,a2,a3,.inr ⟨by omega,hm⟩⟩
  case post =>
   rintro c st' ⟨rfl,l,o,rfl,a1,a2,a3,a4⟩
   show wpS _ _ _ _ (xO left key arr base n (hint+l+1) (hint+min o (n - hint))) _ _
   refine sP hP hb (by omega) (by omega) (fun i hi=>hP i _ (by omega) (by omega) a3) (fun i h1 h2 => ?_) h
   rcases a4 with a4 | ⟨a4,a5⟩
   ·omega
   ·exact hN _ i (by omega) h2 a5
 | false =>
  rw [if_neg (by decide)]
  refine wpS_bind (wpS_mono (wpS_forRange
   (I:=fun x c st'=>st'=st∧∃ l o,c=(none,l,o)∧l<o∧l≤hint∧P (hint - l)=false∧x+1≤o)
   (Q:=fun c st'=>st'=st∧∃ l o,c=(none,l,o)∧l<o∧l≤hint∧P (hint - l)=false∧(hint+1≤o∨(o≤hint∧P (hint - o)=true))) ?step ?fin ⟨rfl,0,1,rfl,by omega,by omega,hr,by omega⟩) ?post)
  case fin =>
   rintro c st' ⟨rfl,l,o,rfl,a1,a2,a3,a4⟩
   exact ⟨rfl,l,o,rfl,a1,a2,a3,.inl (by omega)⟩
  case step =>
   rintro x c st' _ hx ⟨rfl,l,o,rfl,a1,a2,a3,a4⟩
   dsimp only
   by_cases hge:o≥hint+1
   ·rw [if_pos hge]
    exact wpS_pure ⟨rfl,l,o,rfl,a1,a2,a3,.inl hge⟩
   ·rw [if_neg hge]
    refine wpS_bind (hb _ (by omega) _ ?_)
    dsimp only
    cases hm:P (hint - o) with
    | true =>
     rw [if_pos rfl]
     exact wpS_pure ⟨rfl,l,o,rfl,a1,a2,a3,.inr ⟨by omega,hm⟩⟩
    | false =>
     rw [if_neg (by decide)]
     exact wpS_pure ⟨rfl,o,2*o+1,rfl,by omega,by omega,hm,by omega⟩
  case post =>
   rintro c st' ⟨rfl,l,o,rfl,a1,a2,a3,a4⟩
   show wpS _ _ _ _ (xO left key arr base n (hint+1 - min o (hint+1)) (hint - l)) _ _
   refine sP hP hb (by omega) (by omega) (fun i hi => ?_) (fun i h1 h2=>hN _ i h1 h2 a3) h
   rcases a4 with a4 | ⟨a4,a5⟩
   ·omega
   ·exact hP i _ (by omega) (by omega) a5
end
noncomputable def Gz:Nat→StateT SortSt Sem Unit:=sortPriv% PySem.Builtin.setMinGallop
section
variable {R:Keyed→Int}
noncomputable def bu (R:Keyed→Int) (l:List Keyed):Prop:=l.Pairwise fun a b=>R a≤R b
structure MI (R:Keyed→Int) (X Y o:List Keyed) (i j:Nat):Prop where
 perm:(o++(X.drop i++Y.drop j)).Perm (X++Y)
 so:bu R o
 le:∀ a∈o,∀ b∈X.drop i++Y.drop j,R a≤R b
theorem bu.drop {l:List Keyed} (h:bu R l) (n:Nat):bu R (l.drop n):=h.sublist (List.drop_sublist n l)
theorem bu.take {l:List Keyed} (h:bu R l) (n:Nat):bu R (l.take n):=h.sublist (zbg n l)
theorem bu.app {l m:List Keyed} (h:bu R l) (g:bu R m) (c:∀ a∈l,∀ b∈m,R a≤R b):bu R (l++m):=zaE.mpr ⟨h,g,c⟩
theorem bu.at {l:List Keyed} (h:bu R l) {i j:Nat} (hij:i≤j) (hj:j<l.length) (hi:i<l.length):R l[i]≤R l[j]:=by
 rcases Nat.eq_or_lt_of_le hij with e | e
 ·subst e;exact zcA _
 ·exact (zah.mp h) i j hi hj e
theorem bu.ge {l:List Keyed} (h:bu R l) {i:Nat} (hi:i<l.length):∀ b∈l.drop i,R l[i]≤R b:=fun b hb=>by
 obtain ⟨k,hk,rfl⟩:=zaL hb
 rw [zbx] at hk
 rw [zbk]
 exact h.at (by omega) (by omega) hi
theorem MI.xs {X Y o:List Keyed}{i j:Nat} (M:MI R X Y o i j) (hX:bu R X) (k:Nat) (h:∀ a∈(X.drop i).take k,∀ b∈Y.drop j,R a≤R b):MI R X Y (o++(X.drop i).take k) (i+k) j:=by
 have e:X.drop i=(X.drop i).take k++X.drop (i+k):=by rw [← List.drop_drop];exact (zaw k _).symm
 refine ⟨?_,M.so.app ((hX.drop i).take k) fun a ha b hb=>M.le a ha b (zaB _ (zaF hb)),fun a ha b hb => ?_⟩
 ·refine List.Perm.trans ?_ M.perm
  rw [zbi,← zbi ((X.drop i).take k),← e]
 ·rcases zbI.mp ha with ha | ha
  ·refine M.le a ha b ?_
   rcases zbI.mp hb with hb | hb
   ·exact zaB _ (by rw [e];exact zat _ hb)
   ·exact zat _ hb
  ·rcases zbI.mp hb with hb | hb
   ·have:=hX.drop i
    rw [e] at this
    exact (zaE.mp this).2.2 a ha b hb
   ·exact h a ha b hb
theorem MI.ys {X Y o:List Keyed}{i j:Nat} (M:MI R X Y o i j) (hY:bu R Y) (k:Nat) (h:∀ a∈(Y.drop j).take k,∀ b∈X.drop i,R a≤R b):MI R X Y (o++(Y.drop j).take k) i (j+k):=by
 have e:Y.drop j=(Y.drop j).take k++Y.drop (j+k):=by rw [← List.drop_drop];exact (zaw k _).symm
 refine ⟨?_,M.so.app ((hY.drop j).take k) fun a ha b hb=>M.le a ha b (zat _ (zaF hb)),fun a ha b hb => ?_⟩
 ·refine List.Perm.trans ?_ M.perm
  rw [zbi]
  refine List.Perm.append_left o ?_
  conv=>rhs;rw [e]
  rw [← zbi,← zbi]
  exact List.Perm.append_right _ zax
 ·rcases zbI.mp ha with ha | ha
  ·refine M.le a ha b ?_
   rcases zbI.mp hb with hb | hb
   ·exact zaB _ hb
   ·exact zat _ (by rw [e];exact zat _ hb)
  ·rcases zbI.mp hb with hb | hb
   ·exact h a ha b hb
   ·have:=hY.drop j
    rw [e] at this
    exact (zaE.mp this).2.2 a ha b hb
theorem take1 {l:List Keyed}{i:Nat} (hi:i<l.length):(l.drop i).take 1=[l[i]]:=by
 rw [zag hi];rfl
theorem MI.x1 {X Y o:List Keyed}{i j:Nat} (M:MI R X Y o i j) (hX:bu R X) (hi:i<X.length) (h:∀ b∈Y.drop j,R X[i]≤R b):MI R X Y (o++[X[i]]) (i+1) j:=by
 have:=M.xs hX 1 fun a ha b hb=>by rw [take1 hi] at ha;rw [zaU.mp ha];exact h b hb
 rw [take1 hi] at this;exact this
theorem MI.y1 {X Y o:List Keyed}{i j:Nat} (M:MI R X Y o i j) (hY:bu R Y) (hj:j<Y.length) (h:∀ b∈X.drop i,R Y[j]≤R b):MI R X Y (o++[Y[j]]) i (j+1):=by
 have:=M.ys hY 1 fun a ha b hb=>by rw [take1 hj] at ha;rw [zaU.mp ha];exact h b hb
 rw [take1 hj] at this;exact this
noncomputable def Told (R:Keyed→Int) (X Y:List Keyed) (r:Array Keyed):Prop:=bu R r.toList∧r.toList.Perm (X++Y)
theorem MI.Mp {X Y o:List Keyed}{i j:Nat} (M:MI R X Y o i j) (hX:bu R X) (hj:Y.length≤j):bu R (o++X.drop i)∧(o++X.drop i).Perm (X++Y):=by
 have e:Y.drop j=[]:=zao hj
 refine ⟨M.so.app (hX.drop i) fun a ha b hb=>M.le a ha b (zaB _ hb),?_⟩
 have:=M.perm
 rw [e,zbK] at this;exact this
theorem MI.Mn {X Y o:List Keyed}{i j:Nat} (M:MI R X Y o i j) (hY:bu R Y) (hi:X.length≤i):bu R (o++Y.drop j)∧(o++Y.drop j).Perm (X++Y):=by
 have e:X.drop i=[]:=zao hi
 refine ⟨M.so.app (hY.drop j) fun a ha b hb=>M.le a ha b (zat _ hb),?_⟩
 have:=M.perm
 rw [e,zbQ] at this;exact this
theorem MI.last {X Y o:List Keyed}{i j:Nat} (M:MI R X Y o i j) (hX:bu R X) (hY:bu R Y) (h:∀ a∈Y.drop j,∀ b∈X.drop i,R a≤R b):bu R (o++Y.drop j++X.drop i)∧(o++Y.drop j++X.drop i).Perm (X++Y):=by
 refine ⟨(M.so.app (hY.drop j) fun a ha b hb=>M.le a ha b (zat _ hb)).app (hX.drop i) fun a ha b hb => ?_,?_⟩
 ·rcases zbI.mp ha with ha | ha
  ·exact M.le a ha b (zaB _ hb)
  ·exact h a ha b hb
 ·rw [zbi]
  exact (List.Perm.append_left o zax).trans M.perm
end
section
variable {prog:Program}{w:World}{A:Around}{E:Value→Shared→Prop}{s:Shared}{R:Keyed→Int}{κ:SortKind}{T:Keyed→Prop}
noncomputable def uf (prog:Program) (w:World) (A:Around) (s:Shared) (κ:SortKind) (R:Keyed→Int) (T:Keyed→Prop):Prop :=
 ∀ x y,T x→T y→∀ (E:Value→Shared→Prop) (Q:Bool→Shared→Prop),Q (decide (R x<R y)) s→wpAny (model prog w) A (keyLt' κ x.1 y.1) Q E s
theorem sF (C:uf prog w A s κ R T) {x y:Keyed}{st:SortSt}{Q:Option Bool→SortSt→Prop} (hk:kindOf st=κ) (hx:T x) (hy:T y) (h:Q (some (decide (R x<R y))) st):wpS (model prog w) A E s (lt' x y) Q st:=by
 rw [lt'_eq]
 refine wpS_bind (wpS_get ?_)
 rw [hk]
 refine wpS_bind (wpS_lift (wpAny_attempt (C x y hx hy _ _ ⟨rfl,?_⟩)))
 exact wpS_pure h
theorem lI {g:Nat}{st:SortSt}{Q:Unit→SortSt→Prop} (h:Q () (SortSt.mk' (kindOf st) (arrOf st) (pendingOf st) g (failedOf st))):wpS (model prog w) A E s (Gz g) Q st:=wpS_modify h
theorem bg {arr:Array Keyed}{i:Nat}{st:SortSt}{Q:Keyed→SortSt→Prop} (hi:i<arr.toList.length) (h:Q arr.toList[i] st):wpS (model prog w) A E s (elem' arr i) Q st:=by
 rw [elem'_eq,← zay,zak hi]
 exact wpS_pure h
theorem BP (C:uf prog w A s κ R T) {key:Keyed}{arr:Array Keyed}{base n hint:Nat}{st:SortSt}{Q:Option Nat→SortSt→Prop} (hk:kindOf st=κ) (hT:∀ x∈arr.toList,T x) (hkey:T key) (hs:∀ i j (hi:base+i<arr.toList.length) (hj:base+j<arr.toList.length),i≤j→j<n→R arr.toList[base+i]≤R arr.toList[base+j]) (hh:hint<n) (hn:base+n≤arr.toList.length)
  (h:∀ k,k≤n→(∀ i (hi:base+i<arr.toList.length),i<k→R arr.toList[base+i]≤R key)→(∀ i (hi:base+i<arr.toList.length),k≤i→i<n→R key<R arr.toList[base+i])→Q (some k) st) :
  wpS (model prog w) A E s (qR false key arr base n hint) Q st:=by
 refine MV (P:=fun i => !decide (R key<R (arr.toList.getD (base+i) (.none,.none)))) hh (fun i j hij hj hp => ?_) (fun i hi Q q => ?_) (fun k k1 k2 k3=>h k k1 (fun i hi hik => ?_) fun i hi hik hin => ?_)
 ·have hi':base+i<arr.toList.length:=by omega
  have hj':base+j<arr.toList.length:=by omega
  simp only [zcE,zak hi',zak hj',zbG,Bool.not_eq_true',decide_eq_false_iff_not] at hp ⊢
  have:=hs i j hi' hj' hij hj
  omega
 ·have hi':base+i<arr.toList.length:=by omega
  unfold beyond
  refine wpS_bind (bg hi' ?_)
  rw [if_neg (by decide)]
  refine wpS_bind (sF C hk hkey (hT _ (zbC hi')) (wpS_pure ?_))
  simp only [zcE,zak hi',zbG] at q
  exact q
 ·have:=k2 i hik
  simp only [zcE,zak hi,zbG,Bool.not_eq_true',decide_eq_false_iff_not] at this
  omega
 ·have:=k3 i hik hin
  simp only [zcE,zak hi,zbG,Bool.not_eq_false',decide_eq_true_eq] at this
  exact this
theorem BQ (C:uf prog w A s κ R T) {key:Keyed}{arr:Array Keyed}{base n hint:Nat}{st:SortSt}{Q:Option Nat→SortSt→Prop} (hk:kindOf st=κ) (hT:∀ x∈arr.toList,T x) (hkey:T key) (hs:∀ i j (hi:base+i<arr.toList.length) (hj:base+j<arr.toList.length),i≤j→j<n→R arr.toList[base+i]≤R arr.toList[base+j]) (hh:hint<n) (hn:base+n≤arr.toList.length)
  (h:∀ k,k≤n→(∀ i (hi:base+i<arr.toList.length),i<k→R arr.toList[base+i]<R key)→(∀ i (hi:base+i<arr.toList.length),k≤i→i<n→R key≤R arr.toList[base+i])→Q (some k) st) :
  wpS (model prog w) A E s (qR true key arr base n hint) Q st:=by
 refine MV (P:=fun i=>decide (R (arr.toList.getD (base+i) (.none,.none))<R key)) hh (fun i j hij hj hp => ?_) (fun i hi Q q => ?_) (fun k k1 k2 k3=>h k k1 (fun i hi hik => ?_) fun i hi hik hin => ?_)
 ·have hi':base+i<arr.toList.length:=by omega
  have hj':base+j<arr.toList.length:=by omega
  simp only [zcE,zak hi',zak hj',zbG,decide_eq_true_eq] at hp ⊢
  have:=hs i j hi' hj' hij hj
  omega
 ·have hi':base+i<arr.toList.length:=by omega
  unfold beyond
  refine wpS_bind (bg hi' ?_)
  rw [if_pos rfl]
  refine sF C hk (hT _ (zbC hi')) hkey ?_
  simp only [zcE,zak hi',zbG] at q
  exact q
 ·have:=k2 i hik
  simp only [zcE,zak hi,zbG,decide_eq_true_eq] at this
  exact this
 ·have:=k3 i hik hin
  simp only [zcE,zak hi,zbG,decide_eq_false_iff_not] at this
  omega
end
noncomputable abbrev eZ (st:SortSt) (g:Nat):SortSt:=SortSt.mk' (kindOf st) (arrOf st) (pendingOf st) g (failedOf st)
theorem lU (x:Array Keyed) (i:Nat):(x.extract i x.size).toList=x.toList.drop i:=by
 rw [zaI]
 exact zap (by simp)
theorem xS (x:Array Keyed) (i k:Nat):(x.extract i (i+k)).toList=(x.toList.drop i).take k:=by
 rw [zaI,zai]
 have:i+k - i=k:=by omega
 rw [this]
section
variable {prog:Program}{w:World}{A:Around}{E:Value→Shared→Prop}{s:Shared}{R:Keyed→Int}{κ:SortKind}{T:Keyed→Prop}
noncomputable def MB (R:Keyed→Int) (x y o:Array Keyed) (i j:Nat):Prop:=MI R x.toList y.toList o.toList i j∧i+1<x.size∧j<y.size
theorem gm {x y o:Array Keyed}{i j:Nat} (M:MI R x.toList y.toList o.toList i j) (hX:bu R x.toList) (hY:bu R y.toList) (h:y.size≤j∨x.size≤i):Told R x.toList y.toList (o++x.extract i x.size++y.extract j y.size):=by
 unfold Told
 rw [zaP,zaP,lU,lU]
 rcases h with h | h
 ·have e:y.toList.drop j=[]:=zao (by simpa using h)
  rw [e,zbK]
  exact M.Mp hX (by simpa using h)
 ·have e:x.toList.drop i=[]:=zao (by simpa using h)
  rw [e,zbK]
  exact M.Mn hY (by simpa using h)
theorem jc {x y o:Array Keyed}{i j:Nat} (M:MI R x.toList y.toList o.toList i j) (hX:bu R x.toList) (hY:bu R y.toList) (hl:∀ a∈y.toList,∀ b∈x.toList.drop (x.size - 1),R a≤R b) (h:i+1=x.size):Told R x.toList y.toList (o++y.extract j y.size++x.extract i x.size):=by
 unfold Told
 rw [zaP,zaP,lU,lU]
 have e:i=x.size - 1:=by omega
 exact M.last hX hY fun a ha b hb=>hl a (zaG ha) b (by rw [← e];exact hb)
theorem lX {l:List Keyed}{i:Nat}{P:Keyed→Prop} (h:∀ u (hu:i≤u∧u<l.length),P (l[u]'hu.2)):∀ b∈l.drop i,P b:=fun b hb=>by
 obtain ⟨k,hk,rfl⟩:=zaL hb
 rw [zbx] at hk
 rw [zbk]
 exact h (i+k) ⟨by omega,by omega⟩
theorem lW {l:List Keyed}{i k:Nat}{P:Keyed→Prop} (h:∀ u (hu:i+u<l.length),u<k→P l[i+u]):∀ b∈(l.drop i).take k,P b:=fun b hb=>by
 obtain ⟨v,hv,rfl⟩:=zaL hb
 rw [zbv,zbx] at hv
 rw [zbl,zbk]
 exact h v (by omega) (by omega)
theorem MS {α γ:Type}{c:Prop} [Decidable c] {Q:α→SortSt→Prop}{st:SortSt}{n m:γ} (F:Unit→γ→StateT SortSt Sem α) (h:∀ k,wpS (model prog w) A E s (F () k) Q st):wpS (model prog w) A E s (if c then F () n else F () m) Q st:=by
 split <;> exact h _
theorem Ls {α γ δ:Type}{c:Prop} [Decidable c] {p:StateT SortSt Sem α}{Q:α→SortSt→Prop}{st:SortSt}{n:γ}{m:δ} (F:Unit→γ→δ→StateT SortSt Sem α) (P:γ→δ→Prop) (J:∀ b g,P b g→wpS (model prog w) A E s (F () b g) Q st)
  (hp:c→(∀ b g,P b g→wpS (model prog w) A E s (F () b g) Q st)→wpS (model prog w) A E s p Q st) (hq : ¬ c→P n m):wpS (model prog w) A E s (if c then p else F () n m) Q st:=by
 split
 ·next h=>exact hp h J
 ·next h=>exact J _ _ (hq h)
theorem uW (C:uf prog w A s κ R T) {x y:Array Keyed}{st:SortSt}{Q:Array Keyed→SortSt→Prop} (hk:kindOf st=κ) (hTx:∀ a∈x.toList,T a) (hTy:∀ a∈y.toList,T a) (hX:bu R x.toList) (hY:bu R y.toList) (hx:0<x.size) (hy:0<y.size)
  (h0:∀ b∈x.toList,R (y.toList[0]'(by simpa using hy))≤R b) (hl:∀ a∈y.toList,∀ b∈x.toList.drop (x.size - 1),R a≤R b)
  (h:∀ r g,Told R x.toList y.toList r→Q r (eZ st g)):wpS (model prog w) A E s (Br x y) Q st:=by
 have lx:x.toList.length=x.size:=by simp
 have ly:y.toList.length=y.size:=by simp
 have M0:MI R x.toList y.toList [] 0 0:=⟨by simp,.nil,fun a ha=>by simp at ha⟩
 have M1:=M0.y1 hY (by omega) (fun b hb=>h0 b (by simpa using hb))
 refine wpS_bind (wpS_lift (wpAny_rule ⟨rfl,?_⟩))
 refine wpS_bind (bg (by omega) ?_)
 show wpS (model prog w) A E s (ite _ _ _) _ _
 have M1':MI R x.toList y.toList (#[y.toList[0]'(by omega)]:Array Keyed).toList 0 1:=M1
 by_cases c1:1=y.size
 ·rw [if_pos (by simpa using c1)]
  exact wpS_pure (h _ (gallopOf st) (gm M1' hX hY (.inl (by omega))))
 rw [if_neg (by simpa using c1)]
 by_cases c2:0+1=x.size
 ·rw [if_pos (by simpa using c2)]
  exact wpS_pure (h _ (gallopOf st) (jc M1' hX hY hl c2))
 rw [if_neg (by simpa using c2)]
 refine wpS_bind (wpS_get ?_)
 refine wpS_bind (wpS_mono (wpS_forRange
  (I:=fun n c st'=>(∃ g,st'=eZ st g)∧∃ o i j mg,c=(none,o,i,j,mg)∧MB R x y o i j∧1+n≤i+j)
  (Q:=fun c st'=>(∃ g,st'=eZ st g)∧((∃ r o i j mg,c=(some r,o,i,j,mg)∧Told R x.toList y.toList r)∨∃ o i j mg,c=(none,o,i,j,mg)∧MB R x y o i j∧1+(x.size+y.size)≤i+j)) ?step ?fin ⟨⟨gallopOf st,rfl⟩,_,0,1,_,rfl,⟨M1',by omega,by omega⟩,by omega⟩) ?post)
 case fin =>
  rintro c st' ⟨hg,o,i,j,mg,rfl,M,hn⟩
  exact ⟨hg,.inr ⟨o,i,j,mg,rfl,M,by omega⟩⟩
 case post =>
  rintro c st' ⟨⟨g,rfl⟩,⟨r,o,i,j,mg,rfl,ht⟩ | ⟨o,i,j,mg,rfl,M,hn⟩⟩
  ·exact wpS_pure (h r g ht)
  ·have:=M.2.1
   have:=M.2.2
   omega
 case step =>
  rintro n c st' _ hn ⟨⟨g,rfl⟩,o,i,j,mg,rfl,M,hp⟩
  refine wpS_bind (wpS_mono (wpS_forRange
   (I:=fun n' c st'=>st'=eZ st g∧∃ o' i' j' p q,c=(none,o',i',j',p,q)∧MB R x y o' i' j'∧i+j+n'≤i'+j')
   (Q:=fun c st'=>st'=eZ st g∧((∃ r o' i' j' p q,c=(some r,o',i',j',p,q)∧Told R x.toList y.toList r)∨∃ o' i' j' p q,c=(none,o',i',j',p,q)∧MB R x y o' i' j'∧i+j+1≤i'+j')) ?oB ?fin1 ⟨rfl,o,i,j,0,0,rfl,M,by omega⟩) ?post1)
  case fin1 =>
   rintro c st' ⟨rfl,o',i',j',p,q,rfl,M',hn'⟩
   exact ⟨rfl,.inr ⟨o',i',j',p,q,rfl,M',by omega⟩⟩
  case oB =>
   rintro n' c st' _ hn' ⟨rfl,o',i',j',p,q,rfl,⟨M',b1,b2⟩,hp'⟩
   dsimp only
   refine wpS_bind (bg (by omega) (wpS_bind (bg (by omega) (wpS_bind (sF C hk (hTy _ (zbC _)) (hTx _ (zbC _)) ?_)))))
   dsimp only
   by_cases hlt:R (y.toList[j']'(by omega))<R (x.toList[i']'(by omega))
   ·rw [decide_eq_true hlt,if_pos rfl]
    refine wpS_bind (bg (by omega) ?_)
    have N:=M'.y1 hY (by omega) (fun b hb=>zco (zcp hlt) (hX.ge (by omega) b hb))
    rw [← zbq] at N
    by_cases e:j'+1=y.size
    ·rw [if_pos (by simpa using e)]
     exact wpS_pure ⟨rfl,.inl ⟨_,_,_,_,_,_,rfl,gm N hX hY (.inl (by omega))⟩⟩
    ·rw [if_neg (by simpa using e)]
     split
     ·exact wpS_pure ⟨rfl,.inr ⟨_,_,_,_,_,rfl,⟨N,b1,by omega⟩,by omega⟩⟩
     ·exact wpS_pure ⟨rfl,_,_,_,_,_,rfl,⟨N,b1,by omega⟩,by omega⟩
   ·rw [decide_eq_false hlt,if_neg (by decide)]
    refine wpS_bind (bg (by omega) ?_)
    have N:=M'.x1 hX (by omega) (fun b hb=>zco (Int.not_lt.mp hlt) (hY.ge (by omega) b hb))
    rw [← zbq] at N
    by_cases e:i'+1+1=x.size
    ·rw [if_pos (by simpa using e)]
     exact wpS_pure ⟨rfl,.inl ⟨_,_,_,_,_,_,rfl,jc N hX hY hl e⟩⟩
    ·rw [if_neg (by simpa using e)]
     split
     ·exact wpS_pure ⟨rfl,.inr ⟨_,_,_,_,_,rfl,⟨N,by omega,b2⟩,by omega⟩⟩
     ·exact wpS_pure ⟨rfl,_,_,_,_,_,rfl,⟨N,by omega,b2⟩,by omega⟩
  case post1 =>
   rintro c st' ⟨rfl,⟨r,o',i',j',p,q,rfl,ht⟩ | ⟨o',i',j',p,q,rfl,M',hp'⟩⟩
   ·exact wpS_pure ⟨⟨g,rfl⟩,.inl ⟨r,_,_,_,_,rfl,ht⟩⟩
   ·refine wpS_bind (wpS_lift (wpAny_rule ⟨rfl,?_⟩))
    refine wpS_bind (wpS_mono (wpS_forRange
     (I:=fun _ c st'=>(∃ g,st'=eZ st g)∧∃ o2 i2 j2 mg p q,c=(none,o2,i2,j2,mg,p,q)∧MB R x y o2 i2 j2∧i'+j'≤i2+j2)
     (Q:=fun c st'=>(∃ g,st'=eZ st g)∧((∃ r o2 i2 j2 mg p q,c=(some r,o2,i2,j2,mg,p,q)∧Told R x.toList y.toList r)∨∃ o2 i2 j2 mg p q,c=(none,o2,i2,j2,mg,p,q)∧MB R x y o2 i2 j2∧i'+j'≤i2+j2)) ?step2 ?fin2 ⟨⟨g,rfl⟩,o',i',j',_,_,_,rfl,M',by omega⟩) ?post2)
    case fin2 =>
     rintro c st' ⟨hg,o2,i2,j2,mg,p,q,rfl,M2,hp2⟩
     exact ⟨hg,.inr ⟨o2,i2,j2,mg,p,q,rfl,M2,hp2⟩⟩
    case post2 =>
     rintro c st' ⟨⟨g2,rfl⟩,⟨r,o2,i2,j2,mg2,p,q,rfl,ht⟩ | ⟨o2,i2,j2,mg2,p,q,rfl,M2,hp2⟩⟩
     ·exact wpS_pure ⟨⟨g2,rfl⟩,.inl ⟨r,_,_,_,_,rfl,ht⟩⟩
     ·dsimp only
      refine wpS_bind (lI (wpS_pure ⟨⟨mg2+1,rfl⟩,_,_,_,_,rfl,M2,by omega⟩))
    case step2 =>
     rintro n2 c st' _ hn2 ⟨⟨g2,rfl⟩,o2,i2,j2,mg2,p,q,rfl,⟨M2,b1,b2⟩,hp2⟩
     dsimp -zeta only
     extract_lets s1 out s2 ia s3 ib s4 mg s5 ac bc ib1 jp mg1
     refine MS jp fun m => ?_
     dsimp -zeta only [jp,out,ia,ib,ib1,ac,bc,s1,s2,s3,s4,s5]
     clear jp
     refine wpS_bind (lI (wpS_bind (bg (by omega) (wpS_bind (BP C hk hTx (hTy _ (zbC _)) (fun a b ha hb h1 h2=>hX.at (by omega) hb ha) (by omega) (by omega) fun k k1 k2 k3 => ?_)))))
     dsimp -zeta only
     extract_lets ac2 jp o9 i9
     have gtn:k=0∨0<k:=by omega
     refine Ls jp (fun o3 i3=>MI R x.toList y.toList o3.toList i3 j2∧(∀ b∈x.toList.drop i3,R (y.toList[j2]'(by omega))≤R b)∧i3+1<x.size∧i2≤i3) (fun o3 i3 hP => ?_) (fun kp J => ?_) (fun kp=>⟨M2,lX fun u hu=>zcp ?_,b1,zcx _⟩)
     ·obtain ⟨N,gt,b3,l3⟩:=hP
      dsimp -zeta only [jp,ac2]
      clear jp
      refine wpS_bind (bg (by omega) ?_)
      have N2:=N.y1 hY (by omega) gt
      rw [← zbq] at N2
      show wpS (model prog w) A E s (ite _ _ _) _ _
      by_cases e3:j2+1=y.size
      ·rw [if_pos (by simpa using e3)]
       exact wpS_pure ⟨⟨_,rfl⟩,.inl ⟨_,_,_,_,_,_,_,rfl,gm N2 hX hY (.inl (by omega))⟩⟩
      rw [if_neg (by simpa using e3)]
      refine wpS_bind (bg (by omega) (wpS_bind (BQ C hk hTy (hTx _ (zbC _)) (fun a b ha hb h1 h2=>hY.at (by omega) hb ha) (by omega) (by omega) fun k' q1 q2 q3 => ?_)))
      dsimp -zeta only
      extract_lets bc2 ia1 jp o9 j9
      refine Ls jp (fun o4 j4=>MI R x.toList y.toList o4.toList i3 j4∧(∀ b∈y.toList.drop j4,R (x.toList[i3]'(by omega))≤R b)∧j4<y.size∧j2+1≤j4) (fun o4 j4 hP => ?_) (fun kp' J => ?_) (fun kp'=>⟨N2,lX fun u hu => ?_,by omega,zcx _⟩)
      ·obtain ⟨N3,gt3,b4,l4⟩:=hP
       dsimp -zeta only [jp,bc2,ia1]
       clear jp
       refine wpS_bind (bg (by omega) ?_)
       have N4:=N3.x1 hX (by omega) gt3
       rw [← zbq] at N4
       dsimp only
       by_cases e5:i3+1+1=x.size
       ·rw [if_pos (by simpa using e5)]
        exact wpS_pure ⟨⟨_,rfl⟩,.inl ⟨_,_,_,_,_,_,_,rfl,jc N4 hX hY hl e5⟩⟩
       rw [if_neg (by simpa using e5)]
       split
       ·exact wpS_pure ⟨⟨_,rfl⟩,.inr ⟨_,_,_,_,_,_,rfl,⟨N4,by omega,by omega⟩,by omega⟩⟩
       ·exact wpS_pure ⟨⟨_,rfl⟩,_,_,_,_,_,_,rfl,⟨N4,by omega,by omega⟩,by omega⟩
      ·have N3:=N2.ys hY k' (fun a ha b hb=>zco (zcp (lW (P:=fun a=>R a<R (x.toList[i3]'(by omega))) (fun u hu huk=>q2 u hu huk) a ha)) (hX.ge (by omega) b hb))
       rw [← xS,← zaP] at N3
       show wpS (model prog w) A E s (ite _ _ _) _ _
       by_cases e4:j2+1+k'=y.size
       ·rw [if_pos (by simpa using e4)]
        exact wpS_pure ⟨⟨_,rfl⟩,.inl ⟨_,_,_,_,_,_,_,rfl,gm N3 hX hY (.inl (by omega))⟩⟩
       rw [if_neg (by simpa using e4)]
       refine J _ _ ⟨N3,lX (P:=fun b=>R (x.toList[i3]'(by omega))≤R b) fun u (hu:j2+1+k'≤u∧u<y.toList.length) => ?_,by omega,by omega⟩
       obtain ⟨v,rfl⟩:∃ v,u=j2+1+v:=⟨u - (j2+1),by omega⟩
       exact q3 v (by omega) (by omega) (by omega)
      ·obtain ⟨v,rfl⟩:∃ v,u=j2+1+v:=⟨u - (j2+1),by omega⟩
       exact q3 v (by omega) (by omega) (by omega)
     ·have N:=M2.xs hX k (fun a ha b hb=>zco (lW (P:=fun a=>R a≤R (y.toList[j2]'(by omega))) (fun u hu huk=>k2 u hu huk) a ha) (hY.ge (by omega) b hb))
      rw [← xS,← zaP] at N
      show wpS (model prog w) A E s (ite _ _ _) _ _
      by_cases e1:i2+k+1=x.size
      ·rw [if_pos (by simpa using e1)]
       exact wpS_pure ⟨⟨_,rfl⟩,.inl ⟨_,_,_,_,_,_,_,rfl,jc N hX hY hl e1⟩⟩
      rw [if_neg (by simpa using e1)]
      by_cases e2:i2+k=x.size
      ·rw [if_pos (by simpa using e2)]
       exact wpS_pure ⟨⟨_,rfl⟩,.inl ⟨_,_,_,_,_,_,_,rfl,gm N hX hY (.inr (by omega))⟩⟩
      rw [if_neg (by simpa using e2)]
      refine J _ _ ⟨N,lX fun u hu=>zcp ?_,by omega,by omega⟩
      obtain ⟨v,rfl⟩:∃ v,u=i2+v:=⟨u - i2,by omega⟩
      exact k3 v (by omega) (by omega) (by omega)
     ·obtain ⟨v,rfl⟩:∃ v,u=i2+v:=⟨u - i2,by omega⟩
      exact k3 v (by omega) (by omega) (by omega)
end
section
variable {R:Keyed→Int}
structure MH (R:Keyed→Int) (X Y O:List Keyed) (p q:Nat):Prop where
 perm:(X.take p++Y.take q++O).Perm (X++Y)
 so:bu R O
 le:∀ a∈X.take p++Y.take q,∀ b∈O,R a≤R b
theorem tk {X:List Keyed}{m p:Nat} (h:m≤p):X.take p=X.take m++(X.take p).drop m:=by
 have:=(zaw m (X.take p)).symm
 rwa [List.take_take,Nat.min_eq_left h] at this
theorem MH.xs {X Y O:List Keyed}{p q:Nat} (M:MH R X Y O p q) (hX:bu R X) {m:Nat} (hm:m≤p) (h:∀ a∈(X.take p).drop m,∀ b∈Y.take q,R b≤R a):MH R X Y ((X.take p).drop m++O) m q:=by
 have e:=tk (X:=X) hm
 refine ⟨?_,(((hX.take p).drop m).app M.so fun a ha b hb=>M.le a (zaB _ (zaG ha)) b hb),fun a ha b hb => ?_⟩
 ·refine List.Perm.trans ?_ M.perm
  conv=>rhs;rw [e]
  rw [← zbi]
  refine List.Perm.append_right O ?_
  rw [zbi,zbi]
  exact List.Perm.append_left _ zax
 ·rcases zbI.mp hb with hb | hb
  ·rcases zbI.mp ha with ha | ha
   ·have:=hX.take p
    rw [e] at this
    exact (zaE.mp this).2.2 a ha b hb
   ·exact h b hb a ha
  ·refine M.le a ?_ b hb
   rcases zbI.mp ha with ha | ha
   ·exact zaB _ (by rw [e];exact zaB _ ha)
   ·exact zat _ ha
theorem MH.ys {X Y O:List Keyed}{p q:Nat} (M:MH R X Y O p q) (hY:bu R Y) {m:Nat} (hm:m≤q) (h:∀ a∈(Y.take q).drop m,∀ b∈X.take p,R b≤R a):MH R X Y ((Y.take q).drop m++O) p m:=by
 have e:=tk (X:=Y) hm
 refine ⟨?_,(((hY.take q).drop m).app M.so fun a ha b hb=>M.le a (zat _ (zaG ha)) b hb),fun a ha b hb => ?_⟩
 ·refine List.Perm.trans ?_ M.perm
  conv=>rhs;rw [e]
  rw [zbi,zbi,zbi]
 ·rcases zbI.mp hb with hb | hb
  ·rcases zbI.mp ha with ha | ha
   ·exact h b hb a ha
   ·have:=hY.take q
    rw [e] at this
    exact (zaE.mp this).2.2 a ha b hb
  ·refine M.le a ?_ b hb
   rcases zbI.mp ha with ha | ha
   ·exact zaB _ ha
   ·exact zat _ (by rw [e];exact zaB _ ha)
theorem Lw {X:List Keyed}{p:Nat} (h1:0<p) (h2:p≤X.length):(X.take p).drop (p - 1)=[X[p - 1]'(by omega)]:=by
 apply List.ext_getElem
 ·simp;omega
 ·intro i h3 h4
  simp at h4
  subst h4
  simp
theorem MH.x1 {X Y O:List Keyed}{p q:Nat} (M:MH R X Y O p q) (hX:bu R X) (h1:0<p) (h2:p≤X.length) (h:∀ b∈Y.take q,R b≤R (X[p - 1]'(by omega))):MH R X Y (X[p - 1]'(by omega)::O) (p - 1) q:=by
 have:=M.xs hX (m:=p - 1) (by omega) fun a ha b hb=>by rw [Lw h1 h2] at ha;rw [zaU.mp ha];exact h b hb
 rw [Lw h1 h2] at this;exact this
theorem MH.y1 {X Y O:List Keyed}{p q:Nat} (M:MH R X Y O p q) (hY:bu R Y) (h1:0<q) (h2:q≤Y.length) (h:∀ b∈X.take p,R b≤R (Y[q - 1]'(by omega))):MH R X Y (Y[q - 1]'(by omega)::O) p (q - 1):=by
 have:=M.ys hY (m:=q - 1) (by omega) fun a ha b hb=>by rw [Lw h1 h2] at ha;rw [zaU.mp ha];exact h b hb
 rw [Lw h1 h2] at this;exact this
theorem bu.le {l:List Keyed} (h:bu R l) {i:Nat} (h1:0<i) (hi:i≤l.length):∀ b∈l.take i,R b≤R (l[i - 1]'(by omega)):=fun b hb=>by
 obtain ⟨k,hk,rfl⟩:=zaL hb
 rw [zbv] at hk
 rw [zbl]
 exact h.at (by omega) (by omega) (by omega)
theorem xT (x:Array Keyed) (p:Nat):(x.extract 0 p).toList=x.toList.take p:=by
 rw [zaI,zai];simp
theorem F3 (x:Array Keyed) (m p:Nat):(x.extract m p).toList=(x.toList.take p).drop m:=by
 rw [zaI,zai,List.drop_take]
theorem jg (o:Array Keyed) (a:Keyed):(o.push a).toList.reverse=a::o.toList.reverse:=by simp
theorem xm (o:Array Keyed) (a:Array Keyed):(o++a.reverse).toList.reverse=a.toList++o.toList.reverse:=by simp
theorem rH {x y o:Array Keyed}{p q:Nat} (M:MH R x.toList y.toList o.toList.reverse p q) (hX:bu R x.toList) (hY:bu R y.toList) (h:p=0∨q=0):Told R x.toList y.toList (x.extract 0 p++y.extract 0 q++o.reverse):=by
 unfold Told
 rw [zaP,zaP,xT,xT,Array.toList_reverse]
 refine ⟨bu.app (bu.app (hX.take p) (hY.take q) fun a ha b hb => ?_) M.so M.le,M.perm⟩
 rcases h with rfl | rfl
 ·simp at ha
 ·simp at hb
theorem vW {x y o:Array Keyed}{p q:Nat} (M:MH R x.toList y.toList o.toList.reverse p q) (hX:bu R x.toList) (hY:bu R y.toList) (h0:∀ a∈y.toList.take 1,∀ b∈x.toList,R a≤R b) (h:q=1):Told R x.toList y.toList (y.extract 0 q++x.extract 0 p++o.reverse):=by
 unfold Told
 rw [zaP,zaP,xT,xT,Array.toList_reverse]
 refine ⟨bu.app (bu.app (hY.take q) (hX.take p) fun a ha b hb=>h0 a (by rw [← h];exact ha) b (zaF hb)) M.so fun a ha b hb=>M.le a ?_ b hb,?_⟩
 ·rcases zbI.mp ha with ha | ha
  ·exact zat _ ha
  ·exact zaB _ ha
 ·exact (List.Perm.append_right _ zax).trans M.perm
theorem F8 {l:List Keyed}{i:Nat}{P:Keyed→Prop} (h:∀ u (hu:u<l.length),u<i→P l[u]):∀ b∈l.take i,P b:=fun b hb=>by
 obtain ⟨v,hv,rfl⟩:=zaL hb
 rw [zbv] at hv
 rw [zbl]
 exact h v (by omega) (by omega)
theorem Ce {l:List Keyed}{m p:Nat}{P:Keyed→Prop} (h:∀ u (hu:u<l.length),m≤u→u<p→P l[u]):∀ b∈(l.take p).drop m,P b:=fun b hb=>by
 obtain ⟨v,hv,rfl⟩:=zaL hb
 rw [zbx,zbv] at hv
 rw [zbk,zbl]
 exact h (m+v) (by omega) (by omega) (by omega)
end
section
variable {prog:Program}{w:World}{A:Around}{E:Value→Shared→Prop}{s:Shared}{R:Keyed→Int}{κ:SortKind}{T:Keyed→Prop}
noncomputable def Jy (R:Keyed→Int) (x y o:Array Keyed) (p q:Nat):Prop:=MH R x.toList y.toList o.toList.reverse p q∧(0<p∧p≤x.size)∧(1<q∧q≤y.size)
theorem uX (C:uf prog w A s κ R T) {x y:Array Keyed}{st:SortSt}{Q:Array Keyed→SortSt→Prop} (hk:kindOf st=κ) (hTx:∀ a∈x.toList,T a) (hTy:∀ a∈y.toList,T a) (hX:bu R x.toList) (hY:bu R y.toList) (hx:0<x.size) (hy:0<y.size)
  (h0:∀ a∈y.toList.take 1,∀ b∈x.toList,R a≤R b) (hl:∀ a∈y.toList,R a≤R (x.toList[x.size - 1]'(by rw [zaO];omega)))
  (h:∀ r g,Told R x.toList y.toList r→Q r (eZ st g)):wpS (model prog w) A E s (Bs x y) Q st:=by
 have lx:x.toList.length=x.size:=by simp
 have ly:y.toList.length=y.size:=by simp
 have M0:MH R x.toList y.toList [] x.size y.size:=⟨by rw [zap (by omega),zap (by omega),zbK],.nil,fun a ha b hb=>by simp at hb⟩
 have M1:=M0.x1 hX (by omega) (by omega) (fun b hb=>hl b (zaF hb))
 refine wpS_bind (wpS_lift (wpAny_rule ⟨rfl,?_⟩))
 refine wpS_bind (bg (i:=x.size - 1) (by omega) ?_)
 show wpS (model prog w) A E s (ite _ _ _) _ _
 have M1':MH R x.toList y.toList (#[x.toList[x.size - 1]'(by omega)]:Array Keyed).toList.reverse (x.size - 1) y.size:=M1
 by_cases c1:x.size - 1=0
 ·rw [if_pos (by simpa using c1)]
  exact wpS_pure (h _ (gallopOf st) (rH M1' hX hY (.inl c1)))
 rw [if_neg (by simpa using c1)]
 by_cases c2:y.size=1
 ·rw [if_pos (by simpa using c2)]
  exact wpS_pure (h _ (gallopOf st) (vW M1' hX hY h0 c2))
 rw [if_neg (by simpa using c2)]
 refine wpS_bind (wpS_get ?_)
 refine wpS_bind (wpS_mono (wpS_forRange
  (I:=fun n c st'=>(∃ g,st'=eZ st g)∧∃ p q o mg,c=(none,p,q,o,mg)∧Jy R x y o p q∧n+p+q≤x.size+y.size)
  (Q:=fun c st'=>(∃ g,st'=eZ st g)∧((∃ r p q o mg,c=(some r,p,q,o,mg)∧Told R x.toList y.toList r)∨∃ p q o mg,c=(none,p,q,o,mg)∧Jy R x y o p q∧x.size+y.size+p+q≤x.size+y.size)) ?step ?fin ⟨⟨gallopOf st,rfl⟩,_,_,_,_,rfl,⟨M1',⟨by omega,by omega⟩,by omega,by omega⟩,by omega⟩) ?post)
 case fin =>
  rintro c st' ⟨hg,p,q,o,mg,rfl,M,hn⟩
  exact ⟨hg,.inr ⟨p,q,o,mg,rfl,M,by omega⟩⟩
 case post =>
  rintro c st' ⟨⟨g,rfl⟩,⟨r,p,q,o,mg,rfl,ht⟩ | ⟨p,q,o,mg,rfl,M,hn⟩⟩
  ·exact wpS_pure (h r g ht)
  ·have:=M.2.1
   have:=M.2.2
   omega
 case step =>
  rintro n c st' _ hn ⟨⟨g,rfl⟩,p,q,o,mg,rfl,M,hp⟩
  refine wpS_bind (wpS_mono (wpS_forRange
   (I:=fun n' c st'=>st'=eZ st g∧∃ p' q' o' u v,c=(none,p',q',o',u,v)∧Jy R x y o' p' q'∧n'+p'+q'≤p+q)
   (Q:=fun c st'=>st'=eZ st g∧((∃ r p' q' o' u v,c=(some r,p',q',o',u,v)∧Told R x.toList y.toList r)∨∃ p' q' o' u v,c=(none,p',q',o',u,v)∧Jy R x y o' p' q'∧p'+q'+1≤p+q)) ?oB ?fin1 ⟨rfl,p,q,o,0,0,rfl,M,by omega⟩) ?post1)
  case fin1 =>
   rintro c st' ⟨rfl,p',q',o',u,v,rfl,M',hn'⟩
   exact ⟨rfl,.inr ⟨p',q',o',u,v,rfl,M',by omega⟩⟩
  case oB =>
   rintro n' c st' _ hn' ⟨rfl,p',q',o',u,v,rfl,⟨M',b1,b2⟩,hp'⟩
   dsimp only
   refine wpS_bind (bg (by omega) (wpS_bind (bg (by omega) (wpS_bind (sF C hk (hTy _ (zbC _)) (hTx _ (zbC _)) ?_)))))
   dsimp only
   by_cases hlt:R (y.toList[q' - 1]'(by omega))<R (x.toList[p' - 1]'(by omega))
   ·rw [decide_eq_true hlt,if_pos rfl]
    refine wpS_bind (bg (by omega) ?_)
    have N:=M'.x1 hX (by omega) (by omega) (fun b hb=>zco (hY.le (by omega) (by omega) b hb) (zcp hlt))
    rw [← jg] at N
    by_cases e:p' - 1=0
    ·rw [if_pos (by simpa using e)]
     exact wpS_pure ⟨rfl,.inl ⟨_,_,_,_,_,_,rfl,rH N hX hY (.inl e)⟩⟩
    ·rw [if_neg (by simpa using e)]
     split
     ·exact wpS_pure ⟨rfl,.inr ⟨_,_,_,_,_,rfl,⟨N,⟨by omega,by omega⟩,b2⟩,by omega⟩⟩
     ·exact wpS_pure ⟨rfl,_,_,_,_,_,rfl,⟨N,⟨by omega,by omega⟩,b2⟩,by omega⟩
   ·rw [decide_eq_false hlt,if_neg (by decide)]
    refine wpS_bind (bg (by omega) ?_)
    have N:=M'.y1 hY (by omega) (by omega) (fun b hb=>zco (hX.le (by omega) (by omega) b hb) (Int.not_lt.mp hlt))
    rw [← jg] at N
    by_cases e:q' - 1=1
    ·rw [if_pos (by simpa using e)]
     exact wpS_pure ⟨rfl,.inl ⟨_,_,_,_,_,_,rfl,vW N hX hY h0 e⟩⟩
    ·rw [if_neg (by simpa using e)]
     split
     ·exact wpS_pure ⟨rfl,.inr ⟨_,_,_,_,_,rfl,⟨N,b1,by omega,by omega⟩,by omega⟩⟩
     ·exact wpS_pure ⟨rfl,_,_,_,_,_,rfl,⟨N,b1,by omega,by omega⟩,by omega⟩
  case post1 =>
   rintro c st' ⟨rfl,⟨r,p',q',o',u,v,rfl,ht⟩ | ⟨p',q',o',u,v,rfl,M',hp'⟩⟩
   ·exact wpS_pure ⟨⟨g,rfl⟩,.inl ⟨r,_,_,_,_,rfl,ht⟩⟩
   ·refine wpS_bind (wpS_lift (wpAny_rule ⟨rfl,?_⟩))
    refine wpS_bind (wpS_mono (wpS_forRange
     (I:=fun _ c st'=>(∃ g,st'=eZ st g)∧∃ p2 q2 o2 mg u v,c=(none,p2,q2,o2,mg,u,v)∧Jy R x y o2 p2 q2∧p2+q2≤p'+q')
     (Q:=fun c st'=>(∃ g,st'=eZ st g)∧((∃ r p2 q2 o2 mg u v,c=(some r,p2,q2,o2,mg,u,v)∧Told R x.toList y.toList r)∨∃ p2 q2 o2 mg u v,c=(none,p2,q2,o2,mg,u,v)∧Jy R x y o2 p2 q2∧p2+q2≤p'+q')) ?step2 ?fin2 ⟨⟨g,rfl⟩,p',q',o',_,_,_,rfl,M',by omega⟩) ?post2)
    case fin2 =>
     rintro c st' ⟨hg,p2,q2,o2,mg,u,v,rfl,M2,hp2⟩
     exact ⟨hg,.inr ⟨p2,q2,o2,mg,u,v,rfl,M2,hp2⟩⟩
    case post2 =>
     rintro c st' ⟨⟨g2,rfl⟩,⟨r,p2,q2,o2,mg2,u,v,rfl,ht⟩ | ⟨p2,q2,o2,mg2,u,v,rfl,M2,hp2⟩⟩
     ·exact wpS_pure ⟨⟨g2,rfl⟩,.inl ⟨r,_,_,_,_,rfl,ht⟩⟩
     ·dsimp only
      refine wpS_bind (lI (wpS_pure ⟨⟨mg2+1,rfl⟩,_,_,_,_,rfl,M2,by omega⟩))
    case step2 =>
     rintro n2 c st' _ hn2 ⟨⟨g2,rfl⟩,p2,q2,o2,mg2,u,v,rfl,⟨M2,b1,b2⟩,hp2⟩
     dsimp -zeta only
     extract_lets s1 na s2 nb s3 out s4 mg s5 ac bc nb1 jp mg1
     refine MS jp fun m => ?_
     dsimp -zeta only [jp,out,na,nb,nb1,ac,bc,s1,s2,s3,s4,s5]
     clear jp
     refine wpS_bind (lI (wpS_bind (bg (by omega) (wpS_bind (BP C hk hTx (hTy _ (zbC _)) (fun a b ha hb h1 h2=>hX.at (by omega) hb ha) (by omega) (by omega) fun k k1 k2 k3 => ?_)))))
     simp only [Nat.zero_add] at k2 k3
     dsimp -zeta only
     extract_lets k9 ac2 jp o9 i9
     have gt:∀ b∈x.toList.take k,R b≤R (y.toList[q2 - 1]'(by omega)):=F8 fun u hu huk=>k2 u hu huk
     refine Ls jp (fun p3 o3=>MH R x.toList y.toList o3.toList.reverse p3 q2∧(∀ b∈x.toList.take p3,R b≤R (y.toList[q2 - 1]'(by omega)))∧0<p3∧p3≤p2) (fun p3 o3 hP => ?_) (fun kp J => ?_) (fun kp => ?_)
     ·obtain ⟨N,gt,b3,l3⟩:=hP
      dsimp -zeta only [jp,ac2,k9]
      clear jp
      refine wpS_bind (bg (by omega) ?_)
      have N2:=N.y1 hY (q:=q2) (by omega) (by omega) gt
      rw [← jg] at N2
      show wpS (model prog w) A E s (ite _ _ _) _ _
      by_cases e3:q2 - 1=1
      ·rw [if_pos (by simpa using e3)]
       exact wpS_pure ⟨⟨_,rfl⟩,.inl ⟨_,_,_,_,_,_,_,rfl,vW N2 hX hY h0 e3⟩⟩
      rw [if_neg (by simpa using e3)]
      refine wpS_bind (bg (by omega) (wpS_bind (BQ C hk hTy (hTx _ (zbC _)) (fun a b ha hb h1 h2=>hY.at (by omega) hb ha) (by omega) (by omega) fun k' q1 q2' q3 => ?_)))
      simp only [Nat.zero_add] at q2' q3
      dsimp -zeta only
      extract_lets k8 bc2 p8 jp o9 j9
      have gt3:∀ b∈y.toList.take k',R b≤R (x.toList[p3 - 1]'(by omega)):=F8 fun u hu huk=>zcp (q2' u hu huk)
      refine Ls jp (fun q4 o4=>MH R x.toList y.toList o4.toList.reverse p3 q4∧(∀ b∈y.toList.take q4,R b≤R (x.toList[p3 - 1]'(by omega)))∧1<q4∧q4≤q2 - 1) (fun q4 o4 hP => ?_) (fun kp' J => ?_) (fun kp' => ?_)
      ·obtain ⟨N3,gt4,b4,l4⟩:=hP
       dsimp -zeta only [jp,bc2,k8,p8]
       clear jp
       refine wpS_bind (bg (by omega) ?_)
       have N4:=N3.x1 hX (p:=p3) (by omega) (by omega) gt4
       rw [← jg] at N4
       dsimp only
       by_cases e5:p3 - 1=0
       ·rw [if_pos (by simpa using e5)]
        exact wpS_pure ⟨⟨_,rfl⟩,.inl ⟨_,_,_,_,_,_,_,rfl,rH N4 hX hY (.inl e5)⟩⟩
       rw [if_neg (by simpa using e5)]
       split
       ·exact wpS_pure ⟨⟨_,rfl⟩,.inr ⟨_,_,_,_,_,_,rfl,⟨N4,⟨by omega,by omega⟩,⟨by omega,by omega⟩⟩,by omega⟩⟩
       ·exact wpS_pure ⟨⟨_,rfl⟩,_,_,_,_,_,_,rfl,⟨N4,⟨by omega,by omega⟩,⟨by omega,by omega⟩⟩,by omega⟩
      ·have N3:=N2.ys hY (m:=k') (by omega) (fun a ha b hb=>zco (hX.le (by omega) (by omega) b hb) (Ce (P:=fun a=>R (x.toList[p3 - 1]'(by omega))≤R a) (fun u hu h1 h2=>q3 u hu h1 h2) a ha))
       rw [← F3,← xm] at N3
       show wpS (model prog w) A E s (ite _ _ _) _ _
       by_cases e4:k'=1
       ·rw [if_pos (by simpa using e4)]
        exact wpS_pure ⟨⟨_,rfl⟩,.inl ⟨_,_,_,_,_,_,_,rfl,vW N3 hX hY h0 e4⟩⟩
       rw [if_neg (by simpa using e4)]
       by_cases e6:k'=0
       ·rw [if_pos (by simpa using e6)]
        exact wpS_pure ⟨⟨_,rfl⟩,.inl ⟨_,_,_,_,_,_,_,rfl,rH N3 hX hY (.inr e6)⟩⟩
       rw [if_neg (by simpa using e6)]
       exact J _ _ ⟨N3,gt3,by omega,by omega⟩
      ·obtain rfl:k'=q2 - 1:=by omega
       exact ⟨N2,gt3,by omega,zcx _⟩
     ·have N:=M2.xs hX (m:=k) (by omega) (fun a ha b hb=>zco (hY.le (by omega) (by omega) b hb) (zcp (Ce (P:=fun a=>R (y.toList[q2 - 1]'(by omega))<R a) (fun u hu h1 h2=>k3 u hu h1 h2) a ha)))
      rw [← F3,← xm] at N
      show wpS (model prog w) A E s (ite _ _ _) _ _
      by_cases e1:k=0
      ·rw [if_pos (by simpa using e1)]
       exact wpS_pure ⟨⟨_,rfl⟩,.inl ⟨_,_,_,_,_,_,_,rfl,rH N hX hY (.inl e1)⟩⟩
      rw [if_neg (by simpa using e1)]
      exact J _ _ ⟨N,gt,by omega,by omega⟩
     ·obtain rfl:k=p2:=by omega
      exact ⟨M2,gt,b1.1,zcx _⟩
end
noncomputable def KR (R:Keyed→Int) (xs:Array Keyed) (i:Nat):Int:=(xs[i]?.map R).getD 0
theorem cO {R:Keyed→Int}{xs ys:Array Keyed}{i j:Nat} (h:xs[i]? = ys[j]?):KR R xs i=KR R ys j:=by unfold KR;rw [h]
noncomputable def Up (R:Keyed→Int) (xs:Array Keyed) (lo m:Nat):Prop:=∀ i j,lo≤i→i≤j→j<lo+m→KR R xs i≤KR R xs j
noncomputable def Dn (R:Keyed→Int) (xs:Array Keyed) (lo m:Nat):Prop:=∀ i j,lo≤i→i≤j→j<lo+m→KR R xs j≤KR R xs i
structure G (a₀:Array Keyed) (κ:SortKind) (p:Array (Nat×Nat×Nat)) (lo:Nat) (b:Array Keyed) (st:SortSt):Prop where
 perm:(arrOf st).Perm a₀
 kind:kindOf st=κ
 failed:failedOf st=none
 pend:pendingOf st=p
 below:∀ k,k<lo→(arrOf st)[k]? = b[k]?
theorem G.size {a₀ κ p lo b}{st:SortSt} (h:G a₀ κ p lo b st):(arrOf st).size=a₀.size:=h.perm.size_eq
theorem G.arr {a₀ κ p lo b}{st:SortSt} (h:G a₀ κ p lo b st) {xs:Array Keyed} (hp:xs.Perm (arrOf st)) (hb:∀ k,k<lo→xs[k]? = (arrOf st)[k]?):G a₀ κ p lo b (setArr st xs) :=
 ⟨hp.trans h.perm,h.kind,h.failed,h.pend,fun k hk=>(hb k hk).trans (h.below k hk)⟩
theorem G.Lp {a₀ κ p lo b}{st:SortSt} (h:G a₀ κ p lo b st) {i j:Nat} (hi:lo≤i) (hj:j≤a₀.size):G a₀ κ p lo b (setArr st (mirror (arrOf st) i j ((j - i) / 2))) :=
 h.arr (mirror_perm _ _ _ _) fun k hk=>by
  rw [getElem?_mirror_all (by rw [h.size];exact hj),if_neg (by omega)]
theorem vQ {R:Keyed→Int}{xs:Array Keyed}{i j:Nat} (hj:j≤xs.size) (k:Nat):KR R (mirror xs i j ((j - i) / 2)) k=if i≤k∧k<j then KR R xs (i+j - 1 - k) else KR R xs k:=by
 have e:=getElem?_mirror_all (i:=i) hj k
 by_cases h1:i≤k∧k<j
 ·rw [if_pos h1] at e ⊢;exact cO e
 ·rw [if_neg h1] at e ⊢;exact cO e
theorem jX {R:Keyed→Int}{xs:Array Keyed}{i j:Nat} (hj:j≤xs.size) (he:∀ k,i≤k→k<j→KR R xs k=KR R xs (j - 1)) (k:Nat):KR R (mirror xs i j ((j - i) / 2)) k=KR R xs k:=by
 rw [vQ hj]
 split
 ·rw [he _ (by omega) (by omega),he k (by omega) (by omega)]
 ·rfl
theorem C1 {R:Keyed→Int}{xs:Array Keyed}{src d:Nat} (hs:src<xs.size) (hd:d≤src) (k:Nat) :
  KR R (bubble xs src d) k=if k=src - d then KR R xs src else if src - d<k∧k≤src then KR R xs (k - 1) else KR R xs k:=by
 have e:=getElem?_bubble hs d hd k
 by_cases h1:k=src - d
 ·rw [if_pos h1] at e ⊢;exact cO e
 ·rw [if_neg h1] at e ⊢
  by_cases h2:src - d<k∧k≤src
  ·rw [if_pos h2] at e ⊢;exact cO e
  ·rw [if_neg h2] at e ⊢;exact cO e
section
variable {prog:Program}{w:World}{A:Around}{E:Value→Shared→Prop}{s:Shared}{R:Keyed→Int}{κ:SortKind}{T:Keyed→Prop}{a₀ b:Array Keyed}{p:Array (Nat×Nat×Nat)}{lo:Nat}
theorem G.at {st:SortSt} (h:G a₀ κ p lo b st) (hT:∀ a∈a₀.toList,T a) {i:Nat} (hi:i<a₀.size):∃ hi':i<(arrOf st).toList.length,T ((arrOf st).toList[i])∧KR R (arrOf st) i=R ((arrOf st).toList[i]):=by
 have hi':i<(arrOf st).toList.length:=by rw [zaO,h.size];exact hi
 refine ⟨hi',hT _ ((zac.mp h.perm).mem_iff.mp (zbC _)),?_⟩
 unfold KR
 rw [← zay,zak hi']
 rfl
theorem Km (C:uf prog w A s κ R T) (hT:∀ a∈a₀.toList,T a) {st:SortSt}{i j:Nat}{Q:Option Bool→SortSt→Prop} (hB:G a₀ κ p lo b st) (hi:i<a₀.size) (hj:j<a₀.size)
  (h:Q (some (decide (KR R (arrOf st) i<KR R (arrOf st) j))) st):wpS (model prog w) A E s (ltAt' i j) Q st:=by
 obtain ⟨e1,t1,r1⟩:=hB.at (R:=R) hT hi
 obtain ⟨e2,t2,r2⟩:=hB.at (R:=R) hT hj
 rw [r1,r2] at h
 rw [ltAt'_eq]
 exact wpS_bind (wpS_get (wpS_bind (bg e1 (wpS_bind (bg e2 (sF C hB.kind t1 t2 h))))))
noncomputable def t3 (lo n nrem:Nat):StateT SortSt Sem (Option Nat):=do
 let mut n:=n
 reverseSlice' lo (lo+n)
 for _ in [n:nrem] do
  let some sm ← ltAt' (lo+n) (lo+n - 1) | return none
  if sm then break
  n:=n+1
 return some n
noncomputable def dP (lo n nrem:Nat):StateT SortSt Sem (Option Nat):=do
 let mut n:=n
 rule "list.sort.descending-run"
 n:=n+1
 let mut neq:=0
 for _ in [n:nrem] do
  let some sm ← ltAt' (lo+n) (lo+n - 1) | return none
  if sm then
   if neq > 0 then reverseSlice' (lo+n - (neq+1)) (lo+n)
   neq:=0
  else
   let some la ← ltAt' (lo+n - 1) (lo+n) | return none
   if la then break
   neq:=neq+1
  n:=n+1
 if neq > 0 then reverseSlice' (lo+n - (neq+1)) (lo+n)
 t3 lo n nrem
noncomputable def KW (lo n nrem:Nat):StateT SortSt Sem (Option (Option Nat)×Nat) :=
 forIn [n:nrem] ((none,n):Option (Option Nat)×Nat) fun _ c=>do
  let x ← ltAt' (lo+c.2) (lo+c.2 - 1)
  match x with
  | some sm=>if sm=true then pure (ForInStep.done (none,c.2)) else pure (ForInStep.yield (none,c.2+1))
  | _=>pure (ForInStep.done (some none,c.2))
theorem Cg (C:uf prog w A s κ R T) (hT:∀ a∈a₀.toList,T a) {st:SortSt}{n nrem:Nat}{Q:Option (Option Nat)×Nat→SortSt→Prop} (hB:G a₀ κ p lo b st) (hn:lo+nrem≤a₀.size) (h1:1≤n) (hnn:n≤nrem) (hs:Up R (arrOf st) lo n)
  (h:∀ m,n≤m→m≤nrem→Up R (arrOf st) lo m→(m=nrem∨KR R (arrOf st) (lo+m)<KR R (arrOf st) (lo+m - 1))→Q (none,m) st):wpS (model prog w) A E s (KW lo n nrem) Q st:=by
 unfold KW
 refine wpS_forRange (I:=fun x c st'=>st'=st∧c=(none,x)∧Up R (arrOf st) lo x) ?step ?fin ⟨rfl,rfl,hs⟩
 case fin =>
  rintro c st' ⟨rfl,rfl,hs'⟩
  rw [show max n nrem=nrem by omega] at hs' ⊢
  exact h nrem hnn (zcx _) hs' (.inl rfl)
 case step =>
  rintro x c st' hax hxn ⟨rfl,rfl,hs'⟩
  dsimp only
  refine wpS_bind (Km C hT hB (by omega) (by omega) ?_)
  by_cases hl:KR R (arrOf st') (lo+x)<KR R (arrOf st') (lo+x - 1)
  ·simp only [hl,decide_true,if_true]
   exact wpS_pure (h x hax (by omega) hs' (.inr hl))
  ·simp only [hl,decide_false,zba,if_false]
   refine wpS_pure ⟨rfl,rfl,fun i j hi hij hj => ?_⟩
   by_cases hjx:j<lo+x
   ·exact hs' i j hi hij hjx
   ·obtain rfl:j=lo+x:=by omega
    by_cases hi':i=lo+x
    ·subst hi';exact zcA _
    ·exact zco (hs' i (lo+x - 1) hi (by omega) (by omega)) (Int.not_lt.mp hl)
theorem FD (C:uf prog w A s κ R T) (hT:∀ a∈a₀.toList,T a) {st:SortSt}{n nrem:Nat}{Q:Option Nat→SortSt→Prop} (hB:G a₀ κ p lo b st) (hn:lo+nrem≤a₀.size) (h1:1≤n) (hnn:n≤nrem) (hs:Dn R (arrOf st) lo n)
  (h:∀ m st',G a₀ κ p lo b st'→1≤m→m≤nrem→Up R (arrOf st') lo m→Q (some m) st'):wpS (model prog w) A E s (t3 lo n nrem) Q st:=by
 unfold t3
 dsimp only
 have hz:lo+n≤(arrOf st).size:=by rw [hB.size];omega
 rw [reverseSlice'_eq]
 refine wpS_bind (wpS_modify ?_)
 have hB':=hB.Lp (i:=lo) (j:=lo+n) (by omega) (by omega)
 have hs':Up R (arrOf (setArr st (mirror (arrOf st) lo (lo+n) ((lo+n - lo) / 2)))) lo n:=by
  intro i j hi hij hj
  show KR R (mirror (arrOf st) lo (lo+n) ((lo+n - lo) / 2)) i≤KR R (mirror (arrOf st) lo (lo+n) ((lo+n - lo) / 2)) j
  rw [vQ hz,vQ hz,if_pos (by omega),if_pos (by omega)]
  exact hs _ _ (by omega) (by omega) (by omega)
 generalize setArr st (mirror (arrOf st) lo (lo+n) ((lo+n - lo) / 2))=st1 at hB' hs' ⊢
 refine wpS_bind (Cg C hT hB' hn h1 hnn hs' fun m m1 m2 m3 _=>wpS_pure (h m _ hB' (by omega) m2 m3))
noncomputable def KI (lo n nrem:Nat):StateT SortSt Sem (Option (Option Nat)×Nat×Nat) :=
 forIn [n:nrem] ((none,n,0):Option (Option Nat)×Nat×Nat) fun _ c=>do
  let x ← ltAt' (lo+c.2.1) (lo+c.2.1 - 1)
  match x with
  | some sm =>
   if sm=true then
    if c.2.2 > 0 then do
     reverseSlice' (lo+c.2.1 - (c.2.2+1)) (lo+c.2.1)
     pure (ForInStep.yield (none,c.2.1+1,0))
    else pure (ForInStep.yield (none,c.2.1+1,0))
   else do
    let x ← ltAt' (lo+c.2.1 - 1) (lo+c.2.1)
    match x with
    | some la=>if la=true then pure (ForInStep.done (none,c.2.1,c.2.2)) else pure (ForInStep.yield (none,c.2.1+1,c.2.2+1))
    | _=>pure (ForInStep.done (some none,c.2.1,c.2.2))
  | _=>pure (ForInStep.done (some none,c.2.1,c.2.2))
theorem Io (C:uf prog w A s κ R T) (hT:∀ a∈a₀.toList,T a) {st:SortSt}{n nrem:Nat}{Q:Option (Option Nat)×Nat×Nat→SortSt→Prop} (hB:G a₀ κ p lo b st) (hn:lo+nrem≤a₀.size) (h1:1≤n) (hnn:n≤nrem) (hs:Dn R (arrOf st) lo n)
  (h:∀ m neq st',G a₀ κ p lo b st'→n≤m→m≤nrem→Dn R (arrOf st') lo m→neq+1≤m→(∀ i,lo+m - (neq+1)≤i→i<lo+m→KR R (arrOf st') i=KR R (arrOf st') (lo+m - 1))→Q (none,m,neq) st'):wpS (model prog w) A E s (KI lo n nrem) Q st:=by
 unfold KI
 refine wpS_forRange (I:=fun x c st'=>∃ neq,c=(none,x,neq)∧G a₀ κ p lo b st'∧Dn R (arrOf st') lo x∧neq+1≤x ∧
   (∀ i,lo+x - (neq+1)≤i→i<lo+x→KR R (arrOf st') i=KR R (arrOf st') (lo+x - 1))) ?step ?fin ⟨0,rfl,hB,hs,by omega,fun i h1 h2=>by congr 1;omega⟩
 case fin =>
  rintro c st' ⟨neq,rfl,hB',hs',hq,he⟩
  rw [show max n nrem=nrem by omega] at hs' hq he ⊢
  exact h nrem neq st' hB' hnn (zcx _) hs' hq he
 case step =>
  rintro x c st' hax hxn ⟨neq,rfl,hB',hs',hq,he⟩
  dsimp only
  have hz:lo+x≤(arrOf st').size:=by rw [hB'.size];omega
  refine wpS_bind (Km C hT hB' (by omega) (by omega) ?_)
  by_cases hl:KR R (arrOf st') (lo+x)<KR R (arrOf st') (lo+x - 1)
  ·simp only [hl,decide_true,if_true]
   have oB:∀ xs:Array Keyed,(∀ k,KR R xs k=KR R (arrOf st') k)→Dn R xs lo (x+1):=by
    intro xs hk i j hi hij hj
    rw [hk,hk]
    by_cases hjx:j<lo+x
    ·exact hs' i j hi hij hjx
    ·obtain rfl:j=lo+x:=by omega
     by_cases hi':i=lo+x
     ·subst hi';exact zcA _
     ·exact zco (zcp hl) (hs' i (lo+x - 1) hi (by omega) (by omega))
   by_cases hneq:neq > 0
   ·rw [if_pos hneq,reverseSlice'_eq]
    exact wpS_bind (wpS_modify (wpS_pure ⟨0,rfl,hB'.Lp (by omega) (by omega),oB _ (jX hz he),by omega,fun i h1 h2=>by congr 1;omega⟩))
   ·rw [if_neg hneq]
    exact wpS_pure ⟨0,rfl,hB',oB _ (fun _=>rfl),by omega,fun i h1 h2=>by congr 1;omega⟩
  ·simp only [hl,decide_false,zba,if_false]
   refine wpS_bind (Km C hT hB' (by omega) (by omega) ?_)
   by_cases hg:KR R (arrOf st') (lo+x - 1)<KR R (arrOf st') (lo+x)
   ·simp only [hg,decide_true,if_true]
    exact wpS_pure (h x neq st' hB' hax (by omega) hs' hq he)
   ·simp only [hg,decide_false,zba,if_false]
    have hx:KR R (arrOf st') (lo+x)=KR R (arrOf st') (lo+x - 1):=by omega
    refine wpS_pure ⟨neq+1,rfl,hB',fun i j hi hij hj => ?_,by omega,fun i h1 h2 => ?_⟩
    ·by_cases hjx:j<lo+x
     ·exact hs' i j hi hij hjx
     ·obtain rfl:j=lo+x:=by omega
      by_cases hi':i=lo+x
      ·subst hi';exact zcA _
      ·rw [hx];exact hs' i (lo+x - 1) hi (by omega) (by omega)
    ·rw [show lo+(x+1) - 1=lo+x by omega]
     by_cases hix:i=lo+x
     ·subst hix;rfl
     ·rw [hx];exact he i (by omega) (by omega)
theorem F5 (C:uf prog w A s κ R T) (hT:∀ a∈a₀.toList,T a) {st:SortSt}{n nrem:Nat}{Q:Option Nat→SortSt→Prop} (hB:G a₀ κ p lo b st) (hn:lo+nrem≤a₀.size) (hnn:n+1≤nrem) (hs:Dn R (arrOf st) lo (n+1))
  (h:∀ m st',G a₀ κ p lo b st'→1≤m→m≤nrem→Up R (arrOf st') lo m→Q (some m) st'):wpS (model prog w) A E s (dP lo n nrem) Q st:=by
 unfold dP
 refine wpS_bind (wpS_lift (wpAny_rule ⟨rfl,?_⟩))
 refine wpS_bind (Io C hT hB hn (by omega) hnn hs fun m neq st' hB' m1 m2 hs' hq he => ?_)
 dsimp only
 have hz:lo+m≤(arrOf st').size:=by rw [hB'.size];omega
 by_cases hneq:neq > 0
 ·rw [if_pos hneq,reverseSlice'_eq]
  refine wpS_bind (wpS_modify (FD C hT (hB'.Lp (by omega) (by omega)) hn (by omega) m2 ?_ h))
  intro i j hi hij hj
  show KR R (mirror (arrOf st') _ _ _) j≤KR R (mirror (arrOf st') _ _ _) i
  rw [jX hz he,jX hz he]
  exact hs' i j hi hij hj
 ·rw [if_neg hneq]
  exact FD C hT hB' hn (by omega) m2 hs' h
theorem G9 (C:uf prog w A s κ R T) (hT:∀ a∈a₀.toList,T a) {st:SortSt}{nrem:Nat}{Q:Option Nat→SortSt→Prop} (hB:G a₀ κ p lo b st) (hn:lo+nrem≤a₀.size) (h1:1≤nrem)
  (h:∀ m st',G a₀ κ p lo b st'→1≤m→m≤nrem→Up R (arrOf st') lo m→Q (some m) st'):wpS (model prog w) A E s (countRun' lo nrem) Q st:=by
 rw [countRun'_eq]
 refine wpS_bind (Cg C hT hB hn (zcx 1) h1 (fun i j hi hij hj=>by
  obtain rfl:i=j:=by omega
  exact zcA _) fun n hn1 hn2 hsn hor => ?_)
 dsimp only
 by_cases hnn:n=nrem
 ·rw [if_pos (by simpa using hnn)]
  exact wpS_pure (h n st hB hn1 hn2 hsn)
 ·rw [if_neg (by simpa using hnn)]
  have hlt:KR R (arrOf st) (lo+n)<KR R (arrOf st) (lo+n - 1):=hor.resolve_left hnn
  have hz:lo+n≤(arrOf st).size:=by rw [hB.size];omega
  by_cases hgt:n > 1
  ·rw [if_pos hgt]
   refine wpS_bind (Km C hT hB (by omega) (by omega) ?_)
   by_cases hr:KR R (arrOf st) lo<KR R (arrOf st) (lo+n - 1)
   ·simp only [hr,decide_true,if_true]
    exact wpS_pure (h n st hB hn1 hn2 hsn)
   ·rw [decide_eq_false hr]
    dsimp only
    rw [if_neg (by decide),reverseSlice'_eq]
    have hall:∀ k,lo≤k→k<lo+n→KR R (arrOf st) k=KR R (arrOf st) (lo+n - 1):=by
     intro k k1 hk
     have a1:=hsn lo k (by omega) k1 hk
     have a2:=hsn k (lo+n - 1) k1 (by omega) (by omega)
     omega
    refine wpS_bind (wpS_modify ?_)
    show wpS _ _ _ _ (dP lo n nrem) _ _
    refine F5 C hT (hB.Lp (by omega) (by omega)) hn (by omega) ?_ h
    intro i j hi hij hj
    show KR R (mirror (arrOf st) _ _ _) j≤KR R (mirror (arrOf st) _ _ _) i
    rw [jX hz hall,jX hz hall]
    by_cases hjn:j<lo+n
    ·rw [hall i (by omega) (by omega),hall j (by omega) hjn];exact zcA _
    ·obtain rfl:j=lo+n:=by omega
     by_cases hi':i=lo+n
     ·subst hi';exact zcA _
     ·rw [hall i (by omega) (by omega)];exact zcp hlt
  ·rw [if_neg hgt]
   obtain rfl:n=1:=by omega
   show wpS _ _ _ _ (dP lo 1 nrem) _ _
   refine F5 C hT hB hn (by omega) ?_ h
   intro i j hi hij hj
   by_cases hi':i=j
   ·subst hi';exact zcA _
   ·obtain rfl:i=lo:=by omega
    obtain rfl:j=i+1:=by omega
    exact zcp hlt
theorem IU (C:uf prog w A s κ R T) (hT:∀ a∈a₀.toList,T a) {st:SortSt}{n ok:Nat}{Q:Bool→SortSt→Prop} (hB:G a₀ κ p lo b st) (hn:lo+n≤a₀.size) (hok:ok≤n) (hs:Up R (arrOf st) lo ok)
  (h:∀ st',G a₀ κ p lo b st'→Up R (arrOf st') lo n→Q true st'):wpS (model prog w) A E s (binarySort' lo n ok) Q st:=by
 rw [binarySort'_eq]
 refine wpS_bind (wpS_mono (wpS_forRange (I:=fun k c st'=>c=(none,())∧G a₀ κ p lo b st'∧Up R (arrOf st') lo (min k n))
  (Q:=fun c st'=>c=(none,())∧G a₀ κ p lo b st'∧Up R (arrOf st') lo n) ?step ?fin ?init) ?post)
 case post =>
  rintro c st' ⟨rfl,hB',hs'⟩
  exact wpS_pure (h st' hB' hs')
 case init =>
  refine ⟨rfl,hB,fun i j hi hij hj => ?_⟩
  by_cases h1:ok=0
  ·obtain rfl:i=j:=by omega
   exact zcA _
  ·exact hs i j hi hij (by omega)
 case fin =>
  rintro c st' ⟨hc,hB',hs'⟩
  refine ⟨hc,hB',?_⟩
  rwa [show min (max (max ok 1) n) n=n by omega] at hs'
 case step =>
  rintro k c st' hak hkn ⟨rfl,hB',hs'⟩
  rw [show min k n=k by omega] at hs'
  refine wpS_bind (wpS_mono (wpS_forRange (I:=fun x c st2=>st2=st'∧∃ l r,c=(none,l,r)∧l≤r∧r≤k∧r - l≤k - x ∧
    (∀ i,lo≤i→i<lo+l→KR R (arrOf st') i≤KR R (arrOf st') (lo+k))∧(∀ i,lo+r≤i→i<lo+k→KR R (arrOf st') (lo+k)<KR R (arrOf st') i))
   (Q:=fun c st2=>st2=st'∧∃ l r,c=(none,l,r)∧l≤k ∧
    (∀ i,lo≤i→i<lo+l→KR R (arrOf st') i≤KR R (arrOf st') (lo+k))∧(∀ i,lo+l≤i→i<lo+k→KR R (arrOf st') (lo+k)<KR R (arrOf st') i)) ?istep ?ifin ?iinit) ?ipost)
  case iinit=>exact ⟨rfl,0,k,rfl,by omega,by omega,by omega,fun i _ hi=>by omega,fun i h1 h2=>by omega⟩
  case ifin =>
   rintro c st2 ⟨rfl,l,r,rfl,hlr,hrk,hm,hlo,hhi⟩
   obtain rfl:l=r:=by omega
   exact ⟨rfl,l,l,rfl,hrk,hlo,hhi⟩
  case istep =>
   rintro x c st2 _ hxk ⟨rfl,l,r,rfl,hlr,hrk,hm,hlo,hhi⟩
   dsimp only
   by_cases hge:l≥r
   ·rw [if_pos hge]
    obtain rfl:l=r:=by omega
    exact wpS_pure ⟨rfl,l,l,rfl,hrk,hlo,hhi⟩
   ·rw [if_neg hge]
    refine wpS_bind (Km C hT hB' (by omega) (by omega) ?_)
    by_cases hl:KR R (arrOf st2) (lo+k)<KR R (arrOf st2) (lo+(l+r) / 2)
    ·simp only [hl,decide_true,if_true]
     refine wpS_pure ⟨rfl,l,(l+r) / 2,rfl,by omega,by omega,by omega,hlo,fun i h1 h2 => ?_⟩
     exact Int.lt_of_lt_of_le hl (hs' _ _ (by omega) h1 h2)
    ·simp only [hl,decide_false,zba,if_false]
     refine wpS_pure ⟨rfl,(l+r) / 2+1,r,rfl,by omega,by omega,by omega,fun i h0 h1 => ?_,hhi⟩
     exact zco (hs' i (lo+(l+r) / 2) h0 (by omega) (by omega)) (Int.not_lt.mp hl)
  case ipost =>
   rintro c st2 ⟨rfl,l,r,rfl,hlk,hlo,hhi⟩
   show wpS _ _ _ _ (do moveDown' (lo+k) (lo+l);pure (ForInStep.yield (none,()))) _ _
   rw [moveDown'_eq]
   have hks:lo+k<(arrOf st2).size:=by rw [hB'.size];omega
   refine wpS_bind (wpS_modify (wpS_pure ⟨rfl,hB'.arr (bubble_perm _ _ _) (fun i hi => ?_),?_⟩))
   ·rw [getElem?_bubble hks _ (by omega),if_neg (by omega),if_neg (by omega)]
   rw [show min (k+1) n=k+1 by omega]
   intro i j hi hij hj
   show KR R (bubble (arrOf st2) (lo+k) (lo+k - (lo+l))) i≤KR R (bubble (arrOf st2) (lo+k) (lo+k - (lo+l))) j
   rw [C1 hks (by omega),C1 hks (by omega),show lo+k - (lo+k - (lo+l))=lo+l by omega]
   repeat' split
   all_goals first
    | (exfalso;omega)
    | exact zcA _
    | exact hlo _ (by omega) (by omega)
    | exact zcp (hhi _ (by omega) (by omega))
    | exact hs' _ _ (by omega) (by omega) (by omega)
end
theorem Dp {σ:Type}{M:Model}{A:Around}{E:Value→Shared→Prop}{s:Shared}{st st':σ}{Q:PUnit→σ→Prop} (h:Q ⟨⟩ st'):wpS M A E s (set st':StateT σ Sem PUnit) Q st:=by
 unfold wpS;rw [StateT.run_set];exact wpAny_pure ⟨rfl,h⟩
theorem wr (c:Nat):∀ (l:List Keyed) (n:Nat) (xs:Array Keyed),c+n+l.length≤xs.size→((l.zipIdx n).foldl (fun a (p,j)=>a.setIfInBounds (c+j) p) xs).toList=xs.toList.take (c+n)++(l++xs.toList.drop (c+n+l.length))
 | [],n,xs,h=>by simp
 | p::l,n,xs,h=>by
  have h':c+n<xs.toList.length:=by simp at h ⊢;omega
  rw [List.zipIdx_cons,zbP,wr c l (n+1) _ (by simp at h ⊢;omega)]
  simp only [zad]
  rw [List.drop_set_of_lt (by omega),show c+(n+1)=(c+n)+1 by omega,List.take_succ_eq_append_getElem (by rw [zbO];exact h'),List.getElem_set_self,List.take_set_of_le (zcx _),zbi]
  simp only [List.cons_append,zbQ,zbu]
  rw [show c+n+1+l.length=c+n+(l.length+1) by omega]
noncomputable def Runs (R:Keyed→Int) (xs:Array Keyed):List (Nat×Nat×Nat)→Nat→Nat→Prop
 | [],a,b=>a=b
 | (s,n,_)::t,a,b=>s=a∧1≤n∧Up R xs a n∧Runs R xs t (a+n) b
section
variable {R:Keyed→Int}{xs ys:Array Keyed}
theorem Runs.le:∀ {t:List (Nat×Nat×Nat)}{a b:Nat},Runs R xs t a b→a+t.length≤b
 | [],a,b,h=>by
  have:a=b:=h
  simp;omega
 | (s,n,q)::t,a,b,h=>by
  have:=Runs.le h.2.2.2
  have:=h.2.1
  rw [zbu];omega
theorem Up.of {lo m:Nat} (h:Up R xs lo m) (e:∀ k,lo≤k→k<lo+m→KR R ys k=KR R xs k):Up R ys lo m:=fun i j hi hij hj=>by
 rw [e i hi (by omega),e j (by omega) hj];exact h i j hi hij hj
theorem Runs.of:∀ {t:List (Nat×Nat×Nat)}{a b:Nat},Runs R xs t a b→(∀ k,a≤k→k<b→KR R ys k=KR R xs k)→Runs R ys t a b
 | [],a,b,h,e=>h
 | (s,n,q)::t,a,b,h,e=>by
  have:=h.2.2.2.le
  exact ⟨h.1,h.2.1,h.2.2.1.of fun k h1 h2=>e k h1 (by omega),h.2.2.2.of fun k h1 h2=>e k (by omega) h2⟩
theorem Runs.app:∀ {t u:List (Nat×Nat×Nat)}{a b c:Nat},Runs R xs t a b→Runs R xs u b c→Runs R xs (t++u) a c
 | [],u,a,b,c,h,g=>by
  have:a=b:=h
  subst this;exact g
 | (s,n,q)::t,u,a,b,c,h,g=>⟨h.1,h.2.1,h.2.2.1,h.2.2.2.app g⟩
theorem Runs.MN:∀ {t u:List (Nat×Nat×Nat)}{a c:Nat},Runs R xs (t++u) a c→∃ b,Runs R xs t a b∧Runs R xs u b c
 | [],u,a,c,h=>⟨a,rfl,h⟩
 | (s,n,q)::t,u,a,c,h=>by
  obtain ⟨b,h1,h2⟩:=Runs.MN h.2.2.2
  exact ⟨b,⟨h.1,h.2.1,h.2.2.1,h1⟩,h2⟩
theorem cP {k:Nat} (h:k<xs.toList.length):KR R xs k=R xs.toList[k]:=by
 unfold KR
 rw [← zay,zak h];rfl
theorem Up.dD {lo m:Nat} (h:Up R xs lo m) (hm:lo+m≤xs.size):bu R ((xs.toList.drop lo).take m):=by
 refine zah.mpr fun i j hi hj hij => ?_
 have ll:xs.toList.length=xs.size:=by simp
 rw [zbv,zbx] at hi hj
 rw [zbl,zbl,zbk,zbk,← cP (R:=R) (xs:=xs),← cP (R:=R) (xs:=xs)]
 exact h _ _ (by omega) (by omega) (by omega)
theorem Up.ofL {lo m:Nat}{P M S:List Keyed} (e:xs.toList=P++(M++S)) (hP:P.length=lo) (hM:M.length=m) (h:bu R M):Up R xs lo m:=by
 intro i j hi hij hj
 have ll:xs.toList.length=P.length+(M.length+S.length):=by rw [e];simp
 have g:∀ u (hu:u<xs.toList.length),lo≤u→(hm:u<lo+m)→xs.toList[u]=M[u - lo]'(by omega):=fun u hu h1 h2=>by
  simp only [e]
  rw [List.getElem_append_right (by omega),List.getElem_append_left (by omega)]
  congr 1;omega
 rw [cP (by omega),cP (by omega),g i (by omega) hi (by omega),g j (by omega) (by omega) hj]
 exact h.at (by omega) (by omega) (by omega)
theorem Lb {zs:Array Keyed}{P M M' S:List Keyed} (e:xs.toList=P++(M++S)) (e':zs.toList=P++(M'++S)) (hM:M'.length=M.length) {k:Nat} (hk:k<P.length∨P.length+M.length≤k):zs[k]? = xs[k]? := by
 rw [← zay,← zay,e,e']
 rcases hk with hk | hk
 ·rw [zaf hk,zaf hk]
 ·rw [zab (by omega),zab (by omega),zab (by omega),zab (by omega),hM]
end
section
variable {prog:Program}{w:World}{A:Around}{E:Value→Shared→Prop}{s:Shared}{R:Keyed→Int}{κ:SortKind}{T:Keyed→Prop}{a₀:Array Keyed}
theorem HS (C:uf prog w A s κ R T) {xs:Array Keyed}{p:Array (Nat×Nat×Nat)}{g:Nat} (hT:∀ a∈xs.toList,T a) {i sa na pw sb nb q:Nat}{Q:Bool→SortSt→Prop} (h1:p[i]? = some (sa,na,pw)) (h2:p[i+1]? = some (sb,nb,q))
  (hsb:sb=sa+na) (na1:1≤na) (nb1:1≤nb) (hz:sb+nb≤xs.size) (ua:Up R xs sa na) (ub:Up R xs sb nb)
  (h:∀ ys g',ys.Perm xs→Up R ys sa (na+nb)→(∀ k,k<sa∨sb+nb≤k→ys[k]? = xs[k]?)→Q true (SortSt.mk' κ ys ((p.setIfInBounds i (sa,na+nb,pw)).eraseIdxIfInBounds (i+1)) g' none)) :
  wpS (model prog w) A E s (mergeAt' i) Q (SortSt.mk' κ xs p g none):=by
 have ll:xs.toList.length=xs.size:=zaO
 refine wpS_bind (wpS_get ?_)
 dsimp only
 rw [h1,h2]
 dsimp only
 refine wpS_bind (Dp ?_)
 generalize (p.setIfInBounds i (sa,na+nb,pw)).eraseIdxIfInBounds (i+1)=p' at h ⊢
 have hU:∀ {lo m:Nat},Up R xs lo m→lo+m≤xs.size→∀ (i j:Nat) (hi:lo+i<xs.toList.length) (hj:lo+j<xs.toList.length),i≤j→j<m→R xs.toList[lo+i]≤R xs.toList[lo+j]:=by
  intro lo m u um i j hi hj hij hjm
  rw [← cP (R:=R) hi,← cP (R:=R) hj]
  exact u _ _ (by omega) (by omega) (by omega)
 refine wpS_bind (bg (by omega) (wpS_bind (BP C rfl hT (hT _ (zbC _)) (hU ua (by omega)) (by omega) (by omega) fun k k1 k2 k3 => ?_)))
 dsimp only
 by_cases c1:na - k=0
 ·rw [if_pos (by simpa using c1)]
  refine wpS_pure (h xs g (Array.Perm.refl _) ?_ (fun _ _=>rfl))
  intro i j hi hij hj
  by_cases c2:j<sb
  ·exact ua i j hi hij (by omega)
  by_cases c3:sb≤i
  ·exact ub i j c3 hij (by omega)
  refine zco ?_ (ub sb j (by omega) (by omega) (by omega))
  rw [cP (by omega),cP (by omega)]
  have:=k2 (i - sa) (by omega) (by omega)
  simpa only [show sa+(i - sa)=i by omega] using this
 rw [if_neg (by simpa using c1)]
 refine wpS_bind (bg (by omega) (wpS_bind (BQ C rfl hT (hT _ (zbC _)) (hU ub (by omega)) (by omega) (by omega) fun m m1 m2 m3 => ?_)))
 have el:sa+k+(na - k) - 1=sb - 1:=by omega
 simp only [el] at m2 m3
 dsimp only
 by_cases c2:m=0
 ·rw [if_pos (by simpa using c2)]
  refine wpS_pure (h xs g (Array.Perm.refl _) ?_ (fun _ _=>rfl))
  intro i j hi hij hj
  by_cases c2:j<sb
  ·exact ua i j hi hij (by omega)
  by_cases c3:sb≤i
  ·exact ub i j c3 hij (by omega)
  refine zco (ua i (sb - 1) (by omega) (by omega) (by omega)) ?_
  rw [cP (by omega),cP (by omega)]
  have:=m3 (j - sb) (by omega) (by omega) (by omega)
  simpa only [show sb+(j - sb)=j by omega] using this
 rw [if_neg (by simpa using c2)]
 have ex:(xs.extract (sa+k) sb).toList=(xs.toList.drop (sa+k)).take (na - k):=by
  rw [show sb=sa+k+(na - k) by omega];exact xS _ _ _
 have ey:(xs.extract sb (sb+m)).toList=(xs.toList.drop sb).take m:=xS _ _ _
 have zx:(xs.extract (sa+k) sb).size=na - k:=by rw [Array.size_extract];omega
 have zy:(xs.extract sb (sb+m)).size=m:=by rw [Array.size_extract];omega
 generalize hx:xs.extract (sa+k) sb=x at *
 generalize hy:xs.extract sb (sb+m)=y at *
 have tx:∀ (P:Keyed→Prop),(∀ u (hu:u<xs.toList.length),sa+k≤u→u<sb→P xs.toList[u])→∀ a∈x.toList,P a:=fun P hP a ha=>by
  rw [ex] at ha
  exact lW (fun u hu huk=>hP _ hu (by omega) (by omega)) a ha
 have ty:∀ (P:Keyed→Prop),(∀ u (hu:u<xs.toList.length),sb≤u→u<sb+m→P xs.toList[u])→∀ a∈y.toList,P a:=fun P hP a ha=>by
  rw [ey] at ha
  exact lW (fun u hu huk=>hP _ hu (by omega) (by omega)) a ha
 have sx:bu R x.toList:=by
  rw [ex];exact Up.dD (fun i j hi hij hj=>ua i j (by omega) hij (by omega)) (by omega)
 have sy:bu R y.toList:=by
  rw [ey];exact Up.dD (fun i j hi hij hj=>ub i j (by omega) hij (by omega)) (by omega)
 have low:∀ b∈x.toList,R (xs.toList[sb]'(by omega))<R b:=tx _ fun u hu h1 h2=>by
  have:=k3 (u - sa) (by omega) (by omega) (by omega)
  simpa only [show sa+(u - sa)=u by omega] using this
 have hgh:∀ a∈y.toList,R a<R (xs.toList[sb - 1]'(by omega)):=ty _ fun u hu h1 h2=>by
  have:=m2 (u - sb) (by omega) (by omega)
  simpa only [show sb+(u - sb)=u by omega] using this
 have y0:∀ hh,y.toList[0]'hh=xs.toList[sb]'(by omega):=fun hh=>by
  simp only [ey,zbl,zbk,Nat.add_zero]
 have xl:∀ hh,x.toList[x.size - 1]'hh=xs.toList[sb - 1]'(by omega):=fun hh=>by
  simp only [ex,zbl,zbk,zx]
  congr 1;omega
 have lxx:x.toList.length=na - k:=by rw [zaO,zx]
 have lyy:y.toList.length=m:=by rw [zaO,zy]
 have tail:∀ r g',Told R x.toList y.toList r→wpS (model prog w) A E s (do
   modify fun st:SortSt=>SortSt.mk' (kindOf st) (r.toList.zipIdx.foldl (fun a (p,j)=>a.setIfInBounds (sa+k+j) p) (arrOf st)) (pendingOf st) (gallopOf st) (failedOf st)
   let st ← get
   return (failedOf st).isNone) Q (SortSt.mk' κ xs p' g' none):=by
  intro r g' ht
  have rl:r.toList.length=na - k+m:=by rw [ht.2.length_eq,zaS,lxx,lyy]
  refine wpS_bind (wpS_modify (wpS_bind (wpS_get (wpS_pure ?_))))
  have e:xs.toList=xs.toList.take (sa+k)++((x.toList++y.toList)++xs.toList.drop (sb+m)):=by
   rw [ex,ey]
   have e1:=(zaw (sa+k) xs.toList).symm
   have e2:=(zaw (na - k) (xs.toList.drop (sa+k))).symm
   have e3:=(zaw m (xs.toList.drop sb)).symm
   rw [List.drop_drop] at e2 e3
   rw [show sa+k+(na - k)=sb by omega] at e2
   rw [zbi,← e3,← e2,← e1]
  have e':=wr (sa+k) r.toList 0 xs (by rw [rl];omega)
  rw [Nat.add_zero,rl,show sa+k+(na - k+m)=sb+m by omega] at e'
  generalize r.toList.zipIdx.foldl (fun a (p,j)=>a.setIfInBounds (sa+k+j) p) xs=ys at e' ⊢
  have lM:r.toList.length=(x.toList++y.toList).length:=ht.2.length_eq
  have lP:(xs.toList.take (sa+k)).length=sa+k:=by rw [zbv];omega
  refine h ys g' ?_ ?_ fun u hu=>Lb e e' lM (by rw [lP,← lM,rl];omega)
  ·rw [zac,e']
   conv=>rhs;rw [e]
   exact List.Perm.append_left _ (List.Perm.append_right _ ht.2)
  ·have same:∀ u,u<sa+k∨sb+m≤u→KR R ys u=KR R xs u:=fun u hu=>cO (Lb e e' lM (by rw [lP,← lM,rl];omega))
   have um:Up R ys (sa+k) (na - k+m):=Up.ofL e' lP rl ht.1
   have inn:∀ u,sa+k≤u→u<sb+m→∃ a∈x.toList++y.toList,KR R ys u=R a:=by
    intro u h1 h2
    have hh:u<ys.toList.length:=by rw [e',zaS,zaS,lP,rl];omega
    refine ⟨ys.toList[u],ht.2.mem_iff.mp ?_,cP hh⟩
    simp only [e']
    rw [List.getElem_append_right (by omega),List.getElem_append_left (by omega)]
    exact zbC _
   have A1:∀ u,sa≤u→u<sa+k→∀ a∈x.toList++y.toList,KR R xs u≤R a:=by
    intro u h1 h2 a ha
    rcases zbI.mp ha with ha | ha
    ·refine tx (fun a=>KR R xs u≤R a) (fun v hv q1 q2 => ?_) a ha
     rw [← cP (R:=R) hv];exact ua u v h1 (by omega) (by omega)
    ·refine ty (fun a=>KR R xs u≤R a) (fun v hv q1 q2 => ?_) a ha
     rw [← cP (R:=R) hv]
     refine zco ?_ (ub sb v (by omega) (by omega) (by omega))
     rw [cP (by omega),cP (by omega)]
     have:=k2 (u - sa) (by omega) (by omega)
     simpa only [show sa+(u - sa)=u by omega] using this
   have A2:∀ u,sb+m≤u→u<sb+nb→∀ a∈x.toList++y.toList,R a≤KR R xs u:=by
    intro u h1 h2 a ha
    rcases zbI.mp ha with ha | ha
    ·refine tx (fun a=>R a≤KR R xs u) (fun v hv q1 q2 => ?_) a ha
     rw [← cP (R:=R) hv]
     refine zco (ua v (sb - 1) (by omega) (by omega) (by omega)) ?_
     rw [cP (by omega),cP (by omega)]
     have:=m3 (u - sb) (by omega) (by omega) (by omega)
     simpa only [show sb+(u - sb)=u by omega] using this
    ·refine ty (fun a=>R a≤KR R xs u) (fun v hv q1 q2 => ?_) a ha
     rw [← cP (R:=R) hv];exact ub v u (by omega) (by omega) (by omega)
   have A3:∀ u v,sa≤u→u<sa+k→sb+m≤v→v<sb+nb→KR R xs u≤KR R xs v:=by
    intro u v h1 h2 h3 h4
    refine zco ?_ (ub sb v (by omega) (by omega) (by omega))
    rw [cP (by omega),cP (by omega)]
    have:=k2 (u - sa) (by omega) (by omega)
    simpa only [show sa+(u - sa)=u by omega] using this
   intro i j hi hij hj
   by_cases q1:i<sa+k
   ·rw [same i (.inl q1)]
    by_cases q2:j<sa+k
    ·rw [same j (.inl q2)];exact ua i j hi hij (by omega)
    by_cases q3:j<sb+m
    ·obtain ⟨a,ha,he⟩:=inn j (by omega) q3
     rw [he];exact A1 i hi q1 a ha
    ·rw [same j (.inr (by omega))];exact A3 i j hi q1 (by omega) (by omega)
   by_cases q2:i<sb+m
   ·by_cases q3:j<sb+m
    ·exact um i j (by omega) hij (by omega)
    ·obtain ⟨a,ha,he⟩:=inn i (by omega) q2
     rw [he,same j (.inr (by omega))];exact A2 j (by omega) (by omega) a ha
   ·rw [same i (.inr (by omega)),same j (.inr (by omega))]
    exact ub i j (by omega) hij (by omega)
 have TX:∀ a∈x.toList,T a:=tx T fun u hu _ _=>hT _ (zbC _)
 have TY:∀ a∈y.toList,T a:=ty T fun u hu _ _=>hT _ (zbC _)
 by_cases c3:na - k≤m
 ·rw [if_pos c3]
  refine wpS_bind (uW C rfl TX TY sx sy (by omega) (by omega) (fun b hb => ?_) (fun a ha b hb => ?_) fun r g' ht=>tail r g' ht)
  ·rw [y0];exact zcp (low b hb)
  ·obtain ⟨v,hv,rfl⟩:=zaL hb
   rw [zbx,lxx] at hv
   rw [zbk]
   have:v=0:=by omega
   subst this
   have:=xl (by omega)
   simp only [Nat.add_zero]
   rw [this];exact zcp (hgh a ha)
 ·rw [if_neg c3]
  refine wpS_bind (uX C rfl TX TY sx sy (by omega) (by omega) (fun a ha b hb => ?_) (fun a ha => ?_) fun r g' ht=>tail r g' ht)
  ·obtain ⟨v,hv,rfl⟩:=zaL ha
   rw [zbv] at hv
   obtain rfl:v=0:=by omega
   rw [zbl,y0]
   exact zcp (low b hb)
  ·rw [xl];exact zcp (hgh a ha)
theorem o8 {α:Type} (P:List α) (x y v:α) (S:List α):((P++x::y::S).set P.length v).eraseIdx (P.length+1)=P++v::S:=by
 induction P with
 | nil=>rfl
 | cons a P ih=>simpa using ih
theorem yU (c:Prop) [Decidable c] {n:Nat} (h : ¬ n≤1):(if c then n - 2 - 1 else n - 2)+1<n:=by split <;> omega
theorem Bp (C:uf prog w A s κ R T) {xs:Array Keyed}{p:Array (Nat×Nat×Nat)}{g lo i:Nat} (hT:∀ a∈xs.toList,T a) {Q:Bool→SortSt→Prop} (hr:Runs R xs p.toList 0 lo) (hlo:lo≤xs.size) (hi:i+1<p.size)
  (h:∀ ys p' g',ys.Perm xs→Runs R ys p'.toList 0 lo→p'.size+1=p.size→(∀ k,lo≤k→ys[k]? = xs[k]?)→Q true (SortSt.mk' κ ys p' g' none)) :
  wpS (model prog w) A E s (mergeAt' i) Q (SortSt.mk' κ xs p g none):=by
 have lp:p.toList.length=p.size:=zaO
 have e:p.toList=p.toList.take i++p.toList[i]'(by omega)::p.toList[i+1]'(by omega)::p.toList.drop (i+2):=by
  conv=>lhs;rw [← zaw i p.toList,zag (by omega:i<p.toList.length),zag (by omega:i+1<p.toList.length)]
 have lP:(p.toList.take i).length=i:=by rw [zbv];omega
 have g1:p[i]? = some (p.toList[i]'(by omega)):=by rw [← zay];exact zak _
 have g2:p[i+1]? = some (p.toList[i+1]'(by omega)):=by rw [← zay];exact zak _
 generalize p.toList[i]'(by omega)=x at e g1
 generalize p.toList[i+1]'(by omega)=y at e g2
 generalize p.toList.take i=P at e lP
 generalize p.toList.drop (i+2)=S at e
 obtain ⟨sa,na,pw⟩:=x
 obtain ⟨sb,nb,q⟩:=y
 rw [e] at hr
 obtain ⟨b,r1,r2⟩:=hr.MN
 obtain ⟨rfl,n1,u1,rfl,n2,u2,r3⟩:=r2
 have l1:=r1.le
 have l3:=r3.le
 refine HS C hT g1 g2 rfl n1 n2 (by omega) u1 u2 fun ys g' hp hu hk => ?_
 refine h ys _ g' hp ?_ ?_ fun k hk'=>hk k (.inr (by omega))
 ·rw [Array.toList_eraseIdxIfInBounds,zad,e]
  subst lP
  rw [o8]
  refine (r1.of fun k h1 h2=>cO (hk k (.inl h2))).app ⟨rfl,by omega,hu,?_⟩
  rw [← Nat.add_assoc]
  exact r3.of fun k h1 h2=>cO (hk k (.inr h1))
 ·rw [← zaO,Array.toList_eraseIdxIfInBounds,zad,← zaO,e]
  subst lP
  rw [o8]
  simp only [zaS,zbu]
  omega
theorem Runs.pow:∀ {t u:List (Nat×Nat×Nat)}{xs:Array Keyed}{a b:Nat},t.map (fun x=>(x.1,x.2.1))=u.map (fun x=>(x.1,x.2.1))→Runs R xs t a b→Runs R xs u a b
 | [],[],_,_,_,_,h=>h
 | [],_::_,_,_,_,e,_=>by simp at e
 | _::_,[],_,_,_,e,_=>by simp at e
 | (s,n,q)::t,(s',n',q')::u,xs,a,b,e,h=>by
  simp only [zcb,zcD.injEq,Prod.mk.injEq] at e
  obtain ⟨⟨rfl,rfl⟩,e⟩:=e
  exact ⟨h.1,h.2.1,h.2.2.1,h.2.2.2.pow e⟩
theorem Ei (l:List (Nat×Nat×Nat)) (i pw:Nat):l.map (fun x=>(x.1,x.2.1))=(l.modify i fun (a,b,_)=>(a,b,pw)).map (fun x=>(x.1,x.2.1)):=by
 apply List.ext_getElem?
 intro j
 rw [zbf,zbf,List.getElem?_modify]
 cases l[j]? with
 | none=>rfl
 | some x =>
  obtain ⟨a,b,c⟩:=x
  show some _=some _
  congr 1
  by_cases h:i=j <;> simp [h]
noncomputable def RI (R:Keyed→Int) (κ:SortKind) (a₀:Array Keyed) (lo:Nat) (st:SortSt):Prop:=∃ xs p g,st=SortSt.mk' κ xs p g none∧xs.Perm a₀∧Runs R xs p.toList 0 lo
theorem G.ri {st:SortSt}{p:Array (Nat×Nat×Nat)}{lo:Nat}{b:Array Keyed} (B:G a₀ κ p lo b st) (hr:Runs R b p.toList 0 lo):∃ ys g,st=SortSt.mk' κ ys p g none∧ys.Perm a₀∧Runs R ys p.toList 0 lo:=by
 obtain ⟨k,ys,p',g,f⟩:=st
 obtain ⟨h1,h2,h3,h4,h5⟩:=B
 obtain rfl:k=κ:=h2
 obtain rfl:f=none:=h3
 obtain rfl:p'=p:=h4
 exact ⟨ys,g,rfl,h1,hr.of fun k _ hk=>cO (h5 k hk)⟩
set_option hygiene false in
local macro_rules | `(tactic| exact_mod_cast ⟨1,$N⟩) => `(tactic| (
 obtain ⟨ys,g3,rfl,hp3,hr3⟩:=B3.ri hr
 refine wpS_bind (wpS_get ?_)
 have fin:∀ (zs:Array Keyed) (p':Array (Nat×Nat×Nat)) (g':Nat),zs.Perm a₀→Runs R zs p'.toList 0 lo→(∀ k,lo≤k→zs[k]? = ys[k]?)→RI R κ a₀ (lo + $N) (SortSt.mk' κ zs (p'.push (lo,$N,0)) g' none):=fun zs p' g' q1 q2 q3 =>
  ⟨zs,_,g',rfl,q1,by
   rw [zbq]
   exact q2.app ⟨rfl,n1,hu3.of fun k k1 k2=>cO (q3 k k1),rfl⟩⟩
 split
 ·rename_i s1 n1' q' hb
  refine wpS_bind (wpS_mono (wpS_forRange
   (I:=fun x c st'=>c=(none,())∧∃ zs p g,st'=SortSt.mk' κ zs p g none∧zs.Perm a₀∧Runs R zs p.toList 0 lo∧∀ k,lo≤k→zs[k]? = ys[k]?)
   (Q:=fun c st'=>c=(none,())∧∃ zs p g,st'=SortSt.mk' κ zs p g none∧zs.Perm a₀∧Runs R zs p.toList 0 lo∧∀ k,lo≤k→zs[k]? = ys[k]?) ?step3 (fun _ _ h=>h) ⟨rfl,ys,p,g3,rfl,hp3,hr3,fun _ _=>rfl⟩) ?post3)
  case step3 =>
   rintro x3 c st' _ _ ⟨rfl,zs,p4,g4,rfl,hp4,hr4,hk4⟩
   refine wpS_bind (wpS_get ?_)
   split
   ·rename_i o1 o2 o3 ho
    split
    ·exact wpS_pure ⟨rfl,zs,p4,g4,rfl,hp4,hr4,hk4⟩
    ·have hs4:p4.size > 1:=by
      by_cases hc:p4.size > 1
      ·exact hc
      ·rw [if_neg hc] at ho;cases ho
     refine wpS_bind (Bp C (tp hp4) hr4 (by rw [hp4.size_eq];omega) (show p4.size - 2+1<p4.size by omega) fun z5 p5 g5 q1 q2 q3 q4 => ?_)
     rw [if_neg (by decide)]
     exact wpS_pure ⟨rfl,z5,p5,g5,rfl,q1.trans hp4,q2,fun k hk=>(q4 k hk).trans (hk4 k hk)⟩
   ·exact wpS_pure ⟨rfl,zs,p4,g4,rfl,hp4,hr4,hk4⟩
  case post3 =>
   rintro c st' ⟨rfl,zs,p4,g4,rfl,hp4,hr4,hk4⟩
   refine wpS_bind (wpS_modify (wpS_bind (wpS_modify (wpS_pure ⟨_,rfl,by omega,n2,fin zs _ g4 hp4 ?_ hk4⟩))))
   refine hr4.pow ?_
   rw [Array.toList_modify]
   exact Ei _ _ _
 ·exact wpS_bind (wpS_modify (wpS_pure ⟨_,rfl,by omega,n2,fin ys p g3 hp3 hr3 fun _ _=>rfl⟩))))
theorem Gs (C:uf prog w A s κ R T) {g:Nat} (hT:∀ a∈a₀.toList,T a) {Q:Unit→SortSt→Prop} (h:∀ ys p g',ys.Perm a₀→Up R ys 0 a₀.size→Q () (SortSt.mk' κ ys p g' none)):wpS (model prog w) A E s sortRuns' Q (SortSt.mk' κ a₀ #[] g none):=by
 have tp:∀ {xs:Array Keyed},xs.Perm a₀→∀ a∈xs.toList,T a:=fun hp a ha=>hT a ((zac.mp hp).mem_iff.mp ha)
 rw [sortRuns'_eq]
 refine wpS_bind (wpS_get ?_)
 dsimp only
 generalize hz:(arrOf (SortSt.mk' κ a₀ #[] g none)).size=z
 obtain rfl:a₀.size=z:=hz
 generalize minRun' a₀.size a₀.size 0=mr
 refine wpS_bind (wpS_mono (wpS_forRange
  (I:=fun x c st'=>∃ lo,c=(none,lo)∧x≤lo∧lo≤a₀.size∧RI R κ a₀ lo st')
  (Q:=fun c st'=>c=(none,a₀.size)∧RI R κ a₀ a₀.size st') ?step ?fin ⟨0,rfl,zcx _,zcy _,a₀,#[],g,rfl,Array.Perm.refl _,rfl⟩) ?post)
 case fin =>
  rintro c st' ⟨lo,rfl,h1,h2,hR⟩
  obtain rfl:lo=a₀.size:=by omega
  exact ⟨rfl,hR⟩
 case post =>
  rintro c st' ⟨rfl,xs,p,g1,rfl,hp,hr⟩
  dsimp only
  have zz:=hr.le
  rw [zaO] at zz
  refine wpS_bind (wpS_mono (wpS_forRange
   (I:=fun x c st'=>c=(none,())∧∃ xs p g,st'=SortSt.mk' κ xs p g none∧xs.Perm a₀∧Runs R xs p.toList 0 a₀.size∧p.size+x≤max 1 a₀.size+1)
   (Q:=fun c st'=>c=(none,())∧∃ xs p g,st'=SortSt.mk' κ xs p g none∧xs.Perm a₀∧Runs R xs p.toList 0 a₀.size∧p.size≤1) ?step2 ?fin2 ⟨rfl,xs,p,g1,rfl,hp,hr,by omega⟩) ?post2)
  case fin2 =>
   rintro c st' ⟨rfl,xs,p,g,rfl,hp,hr,hn⟩
   have:=hr.le
   rw [zaO] at this
   exact ⟨rfl,xs,p,g,rfl,hp,hr,by omega⟩
  case post2 =>
   rintro c st' ⟨rfl,xs,p,g,rfl,hp,hr,hn⟩
   refine wpS_pure (h xs p g hp ?_)
   obtain ⟨p⟩:=p
   match p,hr,hn with
   | [],hr,_ =>
    have:0=a₀.size:=hr
    intro i j _ _ hj
    omega
   | [(a,n,q)],hr,_ =>
    obtain ⟨rfl,h1,h2,h3⟩:=hr
    have:0+n=a₀.size:=h3
    rw [show a₀.size=n by omega];exact h2
   | _::_::_,_,hn=>simp at hn
  case step2 =>
   rintro x c st' _ hx ⟨rfl,xs,p,g,rfl,hp,hr,hn⟩
   refine wpS_bind (wpS_get ?_)
   change wpS _ _ _ _ (if p.size≤1 then _ else _) _ _
   by_cases c1:p.size≤1
   ·rw [if_pos c1]
    exact wpS_pure ⟨rfl,xs,p,g,rfl,hp,hr,c1⟩
   ·rw [if_neg c1]
    have key:∀ i,i+1<p.size→wpS (model prog w) A E s (mergeAt' i) (fun b st'=>b=true∧∃ xs p g,st'=SortSt.mk' κ xs p g none∧xs.Perm a₀∧Runs R xs p.toList 0 a₀.size∧p.size+(x+1)≤max 1 a₀.size+1) (SortSt.mk' κ xs p g none):=fun i hi =>
     Bp C (tp hp) hr (by rw [hp.size_eq];exact zcx _) hi fun ys p' g' q1 q2 q3 q4=>⟨rfl,ys,p',g',rfl,q1.trans hp,q2,by omega⟩
    refine wpS_bind (wpS_mono (key _ ?_) ?_)
    ·exact yU _ c1
    ·rintro b st' ⟨rfl,hq⟩
     rw [if_neg (by decide)]
     exact wpS_pure ⟨rfl,hq⟩
 case step =>
  rintro x c st' _ hx ⟨lo,rfl,hxl,hlo,xs,p,g1,rfl,hp,hr⟩
  dsimp only
  by_cases c0:lo≥a₀.size
  ·rw [if_pos c0]
   obtain rfl:lo=a₀.size:=by omega
   exact wpS_pure ⟨rfl,xs,p,g1,rfl,hp,hr⟩
  rw [if_neg c0]
  have B:G a₀ κ p lo xs (SortSt.mk' κ xs p g1 none):=⟨hp,rfl,rfl,rfl,fun _ _=>rfl⟩
  refine wpS_bind (G9 C hT B (by omega) (by omega) fun m st2 B2 m1 m2 hu => ?_)
  dsimp only
  by_cases c1:m<mr
  ·rw [if_pos c1]
   refine wpS_bind (wpS_lift (wpAny_rule ⟨rfl,?_⟩))
   have n1:1≤min (a₀.size - lo) mr:=by omega
   have n2:lo+min (a₀.size - lo) mr≤a₀.size:=by omega
   have n3:m≤min (a₀.size - lo) mr:=by omega
   generalize min (a₀.size - lo) mr=n at n1 n2 n3 ⊢
   refine wpS_bind (IU C hT B2 n2 n3 hu fun st3 B3 hu3 => ?_)
   rw [if_neg (by decide)]
   exact_mod_cast ⟨1,n⟩
  ·rw [if_neg c1]
   have n1:=m1
   have n2:lo+m≤a₀.size:=by omega
   have B3:=B2
   have hu3:=hu
   exact_mod_cast ⟨1,m⟩
end
end M10
namespace M10
open PySem PySem.Spec PyProof.Rows
section
variable {prog:Program}{w:World}{A:Around}{E:Value→Shared→Prop}{s:Shared}{R:Keyed→Int}{T:Keyed→Prop}
theorem LO {vs:List Value}{ys:Array Keyed} (hp:ys.Perm (pairsOf vs)) (hu:Up R ys 0 (pairsOf vs).size):(ys.map (·.2)).toList.Perm vs∧(ys.map (·.2)).toList.Pairwise (fun x y=>R (x,x)≤R (y,y)):=by
 have hl:ys.toList.Perm (vs.zip vs):=by rw [← pairsOf_toList];exact zac.mp hp
 have hm:∀ p∈ys.toList,p=(p.2,p.2):=fun p h=>by
  have:=(mem_zip_self (hl.mem_iff.mp h)).1
  exact Prod.ext this rfl
 rw [Array.toList_map]
 constructor
 ·have:=hl.map (·.2)
  rwa [List.map_snd_zip (zcx _)] at this
 ·rw [zbm]
  have h2:bu R ys.toList:=by
   have:=hu.dD (by rw [hp.size_eq];omega)
   rw [List.drop_zero,zap (by rw [zaO,hp.size_eq];exact zcx _)] at this
   exact this
  refine List.Pairwise.imp_of_mem (fun {a b} ha hb h => ?_) h2
  rw [← hm a ha,← hm b hb];exact h
theorem ve {a:Addr}{vs:List Value}{n:Nat}{P:PySem.Fin→Shared→Prop} (ho:s.heap.get? a=some (seqObj "list" vs.toArray n)) (hz:vs.length≤sizeLine)
  (hk:2≤vs.length→∃ κ,(∀ (Q:SortKind→Shared→Prop),Q κ { s with heap:=M6.ef s.heap a vs }→wpAny (model prog w) A (keyKind' vs.toArray) Q (fun _ _=>False) { s with heap:=M6.ef s.heap a vs }) ∧
   uf prog w A { s with heap:=M6.ef s.heap a vs } κ R T) (hT:∀ v∈vs,T (v,v))
  (h:∀ out:Array Value,out.toList.Perm vs→out.toList.Pairwise (fun x y=>R (x,x)≤R (y,y))→P (.done (.ret .none)) { s with heap:=sortedHeap s.heap a vs out }) :
  wpAny (model prog w) A (Builtin.«list.sort» ⟨[.ref a],[]⟩) P E s:=by
 obtain ⟨e1,ho1⟩:∃ e1,(s.heap.update a (Obj.mapSeq fun _ => #[])).get? a=some (seqObj "list" #[] e1):=⟨_,get?_update_seq ho fun _ => #[]⟩
 have ho2:(M6.ef s.heap a vs).get? a=some (seqObj "list" #[] e1):=zaq _ (zaq _ ho1)
 have hz':vs.toArray.size≤sizeLine:=by rw [zbd];exact hz
 rw [list_sort_plain a]
 refine wpAny_bind (listItems_at ho rfl (wpAny_bind (listUpdate_at ho rfl ?_ hz' (zcy _))))
 refine wpAny_bind (seqEpoch_at ho1 rfl (wpAny_bind (wpAny_newTuple ?_ (by simpa using hz))))
 refine wpAny_bind (wpAny_newList (wpAny_holding ?_) (zcy _))
 show wpAny (model prog w) A (if vs.toArray.size<2 then _ else _) P E { s with heap:=M6.ef s.heap a vs }
 by_cases h2:vs.length<2
 ·rw [if_pos (by rw [zbd];exact h2)]
  refine wpAny_bind (wpAny_pure ?_)
  dsimp only
  rw [if_pos (by rw [zbd];exact h2)]
  refine wpAny_bind (wpAny_pure ?_)
  have e2:((vs.toArray.zip vs.toArray).map (·.2)).toList=vs:=by
   rw [List.zip_toArray,List.map_toArray,List.map_snd_zip (zcx _)]
  refine wpAny_bind (seqEpoch_at ho2 rfl (wpAny_bind (listUpdate_at ho2 rfl ?_ (zcy _) ?_)))
  ·show wpAny (model prog w) A (if (e1 != e1)=true then _ else _) P E _
   rw [if_neg (by simp)]
   refine wpAny_pure (h _ (by rw [e2]) ?_)
   rw [e2]
   match vs,h2 with
   | [],_=>exact .nil
   | [v],_=>exact List.pairwise_singleton ..
   | _::_::_,h2=>simp at h2;omega
  ·show ((vs.toArray.zip vs.toArray).map (·.2)).size≤_
   rw [← zaO,e2];omega
 ·rw [if_neg (by rw [zbd];exact h2)]
  obtain ⟨κ,k1,k2⟩:=hk (by omega)
  refine wpAny_bind (wpAny_mono (k1 (fun κ' s'=>κ'=κ∧s'={ s with heap:=M6.ef s.heap a vs }) ⟨rfl,rfl⟩) (fun κ' s' z => ?_) (fun _ _ z=>z.elim))
  obtain ⟨rfl,rfl⟩:=z
  dsimp only
  rw [if_neg (by rw [zbd];exact h2)]
  have run:wpS (model prog w) A E { s with heap:=M6.ef s.heap a vs } sortRuns' (fun _ st=>∃ ys p g',st=SortSt.mk' κ' ys p g' none∧ys.Perm (pairsOf vs)∧Up R ys 0 (pairsOf vs).size) (SortSt.mk' κ' (pairsOf vs) #[] 7 none):=by
   refine Gs k2 (fun p hp => ?_) fun ys p g' q1 q2=>⟨ys,p,g',rfl,q1,q2⟩
   rw [pairsOf_toList] at hp
   have:=mem_zip_self hp
   have e:p=(p.1,p.1):=Prod.ext rfl this.1.symm
   rw [e];exact hT _ this.2
  unfold wpS at run
  rw [show vs.toArray.zip vs.toArray=pairsOf vs from rfl]
  refine wpAny_bind (wpAny_mono run ?_ (fun _ _ z=>z))
  ·rintro ⟨⟨⟩,st⟩ s' ⟨rfl,ys,p,g',rfl,q1,q2⟩
   dsimp only
   have q3:=LO (R:=R) q1 q2
   refine wpAny_bind (seqEpoch_at ho2 rfl (wpAny_bind (listUpdate_at ho2 rfl ?_ (zcy _) ?_)))
   ·rw [if_neg (by simp)]
    exact wpAny_pure (h _ q3.1 q3.2)
   ·show (ys.map (·.2)).size≤_
    rw [Array.size_map,q1.size_eq,pairsOf_size];omega
theorem B8 {α:Type}{p q:α→Bool}:∀ {l:List α},(∀ x∈l,p x=true→q x=true)→l.countP p≤l.countP q:=fun h=>List.countP_mono_left h
theorem B7 {α:Type}{p q:α→Bool}{y:α}:∀ {l:List α},(∀ x∈l,p x=true→q x=true)→y∈l→p y=false→q y=true→l.countP p<l.countP q
 | [],_,hm,_,_=>by simp at hm
 | x::l,h,hm,h1,h2=>by
  have h':∀ x∈l,p x=true→q x=true:=fun z hz=>h z (zaA _ hz)
  rw [List.countP_cons,List.countP_cons]
  rcases zca.mp hm with rfl | hm
  ·have:=B8 h'
   rw [h1,h2,if_pos rfl,if_neg (by decide)];omega
  ·have:=B7 h' hm h1 h2
   by_cases c:p x=true
   ·rw [if_pos c,if_pos (h x (by simp) c)];omega
   ·rw [if_neg c];split <;> omega
noncomputable def TS (ss:List Str) (p:Keyed):Prop:=∃ x t,p.1 = .str x t∧x∈ss
end
end M10
namespace L2
open PySem PySem.Spec PyProof.Rows
section
variable {X:Cx}{e:Expr}{ta:TE}{p p2 pos pos2:Pos}
theorem kh {α:Type} [DecidableEq α]:∀ {l m:List α},l.Nodup→(∀ y∈l,y∈m)→l.length≤m.length
 | [],_,_,_=>zcy _
 | x::l,m,h,hs=>by
  rw [zbL] at h
  have hx:=hs x (by simp)
  have:=kh (l:=l) (m:=m.erase x) h.2 fun y hy=>(List.mem_erase_of_ne (fun e:y=x=>h.1 (by rw [← e];exact hy))).mpr (hs y (by simp [hy]))
  rw [List.length_erase_of_mem hx] at this
  have:0<m.length:=List.length_pos_of_mem hx
  rw [zbu];omega
end
end L2
namespace M6
open PySem PySem.Spec PyProof.Rows
section
variable {prog:Program}{w:World}
theorem Eb {A:Around}{E:Value→Shared→Prop}{s:Shared}{i j:Str}{t u:Tok}{Q:Bool→Shared→Prop} (h:Q (decide (i.cps.toList<j.cps.toList)) s):wpAny (model prog w) A (PyProof.Rows.oneLt' true (.str i t) (.str j u)) Q E s:=PyProof.Rows.oneLt_str h
theorem oW {A:Around}{Q:Bool→Shared→Prop}{s:Shared}{m1 m2:Nat}:∀ (lx ly:List PyData) {lu lv:List Value}{as bs:List Addr} (i:Nat),(∀ z∈lx,z.depth≤6)→(∀ z∈ly,z.depth≤6)→dz lx=true→dz ly=true→dc lx ly=true→ReadsAll s.heap lu lx as→ReadsAll s.heap lv ly bs→A.units+6<cLine →
  (i=0→∃ p q lx' ly',lx = .str p::lx'∧ly = .str q::ly')→m1+ly.length=m2+lx.length→Q (cJ lx ly) s→W.KatLex prog w A true (decide (m1<m2)) Q (lu.zip lv) i s
 | [],ly,lu,lv,as,bs,i,d1,d2,k1,k2,hc,h1,h2,hu,h0,hm,h=>by
  cases h1
  show Q (decide (m1<m2)) s
  cases ly with
  | nil=>simp only [cJ,zbN] at hm h;rw [decide_eq_false (by omega)];exact h
  | cons _ _=>simp only [cJ,zbN,zbu] at hm h;rw [decide_eq_true (by omega)];exact h
 | x::lx,[],lu,lv,as,bs,i,d1,d2,k1,k2,hc,h1,h2,hu,h0,hm,h=>by
  cases h2
  rw [List.zip_nil_right]
  show Q (decide (m1<m2)) s
  simp only [cJ,zbN,zbu] at hm h
  rw [decide_eq_false (by omega)];exact h
 | x::lx,y::ly,lu,lv,as,bs,i,d1,d2,k1,k2,hc,h1,h2,hu,h0,hm,h=>by
  simp only [dz,zbE] at k1 k2
  simp only [dc,zbE] at hc
  have dx:=d1 x (by simp)
  have dy:=d2 y (by simp)
  cases h1 with
  | @cons u us _ _ a1 b1 g1 t1 =>
   cases h2 with
   | @cons v vs _ _ a2 b2 g2 t2 =>
    rw [zaT,W.KatLex.eq_2]
    refine SeqAt.eqBoolOverData prog w _ _ _ _ _ _ _ _ _ _ g1 g2 (iY _ k1.1) (iY _ k2.1) (by omega) ?_
    rw [fZ _ _ k1.1 k2.1]
    simp only [cJ] at h
    by_cases he:x=y
    ·rw [decide_eq_true he,if_pos rfl]
     rw [if_pos he] at h
     exact oW lx ly (i+1) (fun z hz=>d1 z (zaA _ hz)) (fun z hz=>d2 z (zaA _ hz)) k1.2 k2.2 hc.2 t1 t2 hu (fun z=>by omega) (by simp only [zbu] at hm;omega) h
    ·rw [decide_eq_false he,if_neg (by decide)]
     rw [if_neg he] at h
     by_cases hi:i=0
     ·obtain ⟨p,q,lx',ly',e1,e2⟩:=h0 hi
      injection e1 with e1 _
      injection e2 with e2 _
      subst e1;subst e2;subst hi
      cases g1
      cases g2
      exact Eb h
     ·have:(true&&i==0)=false:=by simp [hi]
      rw [this]
      exact Bg 6 dx dy k1.1 k2.1 hc.1 g1 g2 hu h
end
section
variable {prog:Program}{w:World}{A:Around}{E:Value→Shared→Prop}{s:Shared}
noncomputable def jY (h:Heap) (k:PyData×Addr):Prop:=isKey h k.1 k.2∧∃ p r,k.1 = .tuple (.str p::r)
theorem oX {h:Heap}:∀ {ks:List (PyData×Addr)},(∀ k∈ks,jY h k)→∃ fs,W.KatTups h (ks.map fun k=>.ref k.2) fs∧fs.length=ks.length∧∀ f∈fs,∃ i t,f=Value.str i t
 | [],_=>⟨[],.nil,rfl,by simp⟩
 | (d,a)::ks,hk=>by
  obtain ⟨fs,h1,h2,h3⟩:=oX fun k hk'=>hk k (zaA _ hk')
  obtain ⟨⟨k1,k2,as,hr⟩,p,r,e⟩:=hk (d,a) (by simp)
  have e:d = .tuple (.str p::r):=e
  subst e
  cases hr with
  | @tuple _ o vs m _ _ ho hc hdat hall =>
   generalize hvs:vs.toList=l at hall
   cases hall with
   | @cons v l' _ _ a1 b1 g1 t1 =>
    cases g1 with
    | str _ t =>
     refine ⟨.str p t::fs,.cons ho hc hdat ?_ h1,by simp [h2],fun f hf => ?_⟩
     ·rw [← zay,hvs];rfl
     ·rcases zca.mp hf with rfl | hf
      ·exact ⟨p,t,rfl⟩
      ·exact h3 f hf
theorem Cf {ks:List (PyData×Addr)} (hk:∀ k∈ks,jY s.heap k) (hc:∀ k∈ks,∀ l∈ks,aN k.1 l.1=true) (hu:A.units+6<cLine) (i j:Nat) (C:Bool→Shared→Prop) (hi:i<ks.length) (hj:j<ks.length) (h:C (dY ks[i].1 ks[j].1) s) :
  W.kas_ask prog w A (tuples' true) (ks.map fun k=>.ref k.2) i j C s:=by
 have hx:=hk ks[i] (zbC hi)
 have hy:=hk ks[j] (zbC hj)
 have hxy:=hc ks[i] (zbC hi) ks[j] (zbC hj)
 have e:∀ n (hn:n<ks.length),(ks.map fun k=>Value.ref k.2).getD n Value.none = .ref ks[n].2:=fun n hn=>by simp [zcE,hn]
 unfold W.kas_ask
 rw [e i hi,e j hj]
 generalize ks[i]=x at hx hxy h
 generalize ks[j]=y at hy hxy h
 obtain ⟨⟨k1,k2,as,hr⟩,p,r,e1⟩:=hx
 obtain ⟨⟨l1,l2,bs,gr⟩,q,t,e2⟩:=hy
 obtain ⟨dx,ax⟩:=x
 obtain ⟨dy,ay⟩:=y
 have e1:dx = .tuple (.str p::r):=e1
 have e2:dy = .tuple (.str q::t):=e2
 subst e1;subst e2
 have k2:(PyData.tuple (.str p::r)).depth≤6:=k2
 have l2:(PyData.tuple (.str q::t)).depth≤6:=l2
 rw [cC] at k2 l2
 cases hr with
 | @tuple _ o us m _ _ ho hcl hdat hall =>
  cases gr with
  | @tuple _ o2 vs m2 _ _ ho2 hcl2 hdat2 hall2 =>
   have n1:=fK hall
   have n2:=fK hall2
   rw [zaO] at n1 n2
   exact W.kat_lt ho hdat ho2 hdat2 (oW _ _ 0 (fun z hz=>by have:=dJ hz;omega) (fun z hz=>by have:=dJ hz;omega) k1 l1 hxy hall hall2 hu (fun _=>⟨p,q,r,t,rfl,rfl⟩) (by omega) h)
end
end M6
namespace M5
open PySem PySem.Spec PyProof.Rows
section
variable {prog:Program}{w:World}{A:Around}{E:Value→Shared→Prop}{s:Shared}
theorem uY {d:Addr} (hd:(d==sysModules)=false) :
  MeetsIn prog w (Builtin.«dict.__len__» ⟨[.ref d],[]⟩) (fun _ R s=>∃ es ep,M6.i7 s.heap d es ep∧R (.ok (.ret (.int es.size s.toks))) { s with toks:=s.toks+1 }) :=
 .of_wp fun A R s ⟨es,ep,⟨o,ho,hx,hdat⟩,h⟩=>by
  show wpAny _ _ (dictSize d >>= _) _ _ s
  unfold dictSize
  refine wpAny_bind (wpAny_bind (wpAny_dictEntries ho hdat (wpAny_pure ?_)))
  show wpAny _ _ (Builtin.Dict.pendingCount d >>= _) _ _ s
  refine wpAny_bind (wpAny_pendingCount_other hd ?_)
  refine wpAny_ret_mkInt ?_
  rw [Nat.add_zero];exact h
theorem yQ {d:Addr}{es:Array DictEntry}{ep:Nat}{Q:Value→Shared→Prop} (hd:(d==sysModules)=false) (hm:M6.i7 s.heap d es ep) (hfit:(es.size:Int)<2 ^ 63)
  (h:Q (.int es.size (s.toks+1)) { s with toks:=s.toks+1+1 }):wpAny (model prog w) A (Builtin.«len» ⟨[.ref d],[]⟩) (fun fin s'=>∃ r,fin = .done (.ret r)∧Q r s') E s:=by
 unfold Builtin.«len»
 refine wpAny_bind (m:=oneArg "len" _) (wpAny_pure ?_)
 refine wpAny_bind (m:=callSpecial? (.ref d) (Str.ofString "__len__")) (wpAny_callSpecial?_slot (name:=Str.ofString "__len__") hm.typeIs PySem.F.slot_dict_len
  (call_meetsIn PySem.F.slot_dict_len hm.typeIs PySem.F.entry_dict_len (PySem.F.args_dict_len_1 _) (uY hd) ⟨es,ep,hm,?_⟩))
 show wpAny _ _ _ _ _ { s with toks:=s.toks+1 }
 refine wpAny_bind (wpAny_holding (wpAny_pure ?_))
 refine wpAny_bind (wpAny_letGo ?_)
 show wpAny _ _ (if ((es.size:Nat):Int)<0 then _ else _) _ _ _
 rw [if_neg (by omega)]
 show wpAny _ _ (if ((es.size:Nat):Int)≥2 ^ 63 then _ else _) _ _ _
 rw [if_neg (by omega)]
 exact wpAny_bind (wpAny_mkInt (wpAny_pure ⟨_,rfl,h⟩))
theorem rO {d:Addr}{es:Array DictEntry}{ep:Nat}{ss:List Str}{Q:Value→Shared→Prop} (hh:A.handled=none) (lo:(d==sysModules)=false) (hD:M6.i7 s.heap d es ep) (hes:StrsAre (es.toList.map (·.key)) ss) (h64:es.size<64)
  (h:∀ (h1 h2:Heap) (tk:Nat) (out:List Value) (ss':List Str) (c:Nat),(∀ b o,s.heap.get? b=some o→h1.get? b=some o)→(∀ b o,h1.get? b=some o→h2.get? b=some o)→h2.get? h1.objs.size=some (seqObj "list" out.toArray c)→StrsAre out ss'→ss'.Perm ss→sortedS ss'=true→Q (.ref h1.objs.size) { s with heap:=h2,toks:=tk }) :
  wpAny (model prog w) A (call (.builtin "sorted") [.ref d]) Q E s:=by
 refine zaj kind_sorted plain_sorted entry_sorted (args_sorted1 _) ?_
 unfold Builtin.«sorted»
 refine wpAny_bind (m:=checkCount "sorted" 1 1 _) (wpAny_pure ?_)
 refine wpAny_bind (M6.tE lo ?_ hD (by rw [sizeLine_eq];omega) fun h1 tk kp => ?_)
 ·exact hh
 have hvl:(es.toList.map (·.key)).length=es.size:=by rw [zbJ,zaO]
 generalize (es.toList.map (·.key))=vs at hes hvl
 refine wpAny_bind (wpAny_newList ?_ (by first | (rw [sizeLine_eq];omega) | (rw [zbd,sizeLine_eq];omega)))
 have gL:(h1.push (seqObj "list" vs.toArray 0)).get? h1.objs.size=some (seqObj "list" vs.toArray 0):=zaQ _ rfl
 refine wpAny_bind (wpAny_holding (wpAny_call_entry slot_list_sort ⟨_,gL,rfl⟩ entry_list_sort (list_sort_treeK (κ:=PyProof.Rows.strKind) strKind_oneLt gL hes.keysOf (fun v₁ v₂ rest e=>keyKind_strs (by rw [← e];exact hes)) (by omega) fun st' a1 a2=>⟨_,rfl,?_⟩) (args_list_sort _)))
 obtain ⟨ss',b1,b2,b3⟩:=sorted_out_str hes a1 a2
 obtain ⟨c,hcc⟩:=sortedHeap_at (out:=(arrOf st').map (·.2)) gL
 refine wpAny_pure ⟨_,rfl,h h1 _ tk ((arrOf st').map (·.2)).toList ss' c kp (fun b o e => ?_) (by rw [Array.toArray_toList];exact hcc) b1 b2 b3⟩
 have lb:=zct e
 show (sortedHeap _ _ _ _).get? b=some o
 rw [sortedHeap_old (zcl lb) (by rw [size_push'];exact Nat.lt_succ_of_lt lb)]
 exact zaq _ e
end
end M5
namespace L2
open PySem PySem.Spec PyProof.Rows M6
noncomputable def D5:List V→Hp→VK→Prop:=fun xs H Q=>∃ (a:Addr) (kvs:List (Key×V)) (ss:List Str),xs=[.ref a]∧H a=some (.dK kvs)∧(kvs.map fun x=>kV x.1)=ss.map V.str∧ss.length<64∧∀ p (ss':List Str),H p=none→ss'.Perm ss→sortedS ss'=true→Q (.ref p) (upd H p (.lst (ss'.map V.str)))
noncomputable def JZ (W:World):List V→Hp→VK→Prop:=fun vs H Q=>∃ (a a':Addr) (ks:List (PyData×Addr)),vs=[.ref a]∧H a=some (.ext (ig W a' ks))∧ks.length≤1000∧Q (.int ks.length) H
noncomputable def L5 (K:PySem.W.Frag) (W:World) (neg:Bool):R2:=fun y x H Q=>∃ (a a' b:Addr) (ks:List (PyData×Addr)) (d:PyData),x = .ref a∧y = .ref b∧H a=some (.ext (ig W a' ks))∧kX K H ks∧b8 d=true∧d.depth≤6∧bC K H d (.ref b)∧Q (.bl (neg != (ks.any fun x=>decide (x.1=d)))) H
section
variable {X:Cx}
theorem tO {k:Nat} (hr:bf k X.A):bV X (.builtin "sorted") D5:=by
 intro pins s σ H xs us Q I r h
 obtain ⟨a,kvs,ss,rfl,e,hi,h64,q⟩:=h
 obtain ⟨u,rfl,ru⟩:=vals1 r
 cases ru
 obtain ⟨lo,hz,es,ep,hD,hv⟩:=Hh I e
 have hl:es.size=kvs.length:=by have:=hv.length;simpa using this.symm
 rw [hi] at hv
 have hl2:es.size=ss.length:=by have:=hv.length;simpa using this.symm
 refine M5.rO hr.hd lo hD (lF hv) (by omega) fun h1 h2 tk out ss' c kp1 kp2 g a1 a2 a3 => ?_
 have I1:Inv X pins σ H { s with heap:=h1,toks:=tk }:=I.kept (t':=tk) kp1
 refine ⟨.ref h1.objs.size,_,I1.laid (a:=h1.objs.size) (t':=tk) (o:=.lst (ss'.map V.str)) kp2 (zcx _) ⟨by rw [zbJ,a2.length_eq];omega,out,c,M.jZ a1,g⟩,rfl,q _ ss' (I1.hok.fresh (zcx _)) a2 a3⟩
theorem pH (d:PyData):∀ ks:List (PyData×Addr),(atKey (ks.map fun x=>(x.1,x.2,Value.bool true)) d).isSome=(ks.any fun x=>decide (x.1=d))
 | []=>rfl
 | x::xs=>by
  have ih:=pH d xs
  unfold atKey at ih ⊢
  rw [zbt] at ih ⊢
  rw [zcb,zbM,zcc]
  by_cases h:x.1=d
  ·simp [h]
  ·simp only [h,decide_false,Bool.false_or];exact ih
theorem HG {k:Nat} (hr:bf k X.A):gh X (compareOp .In) (L5 X.K X.w false):=by
 intro pins s σ H y x v u Q I ry rx h
 obtain ⟨a,a',b,ks,d,rfl,rfl,e,hk,h1,h2,h3,q⟩:=h
 obtain rfl:u=Value.ref a:=rx
 obtain rfl:v=Value.ref b:=ry
 have ob:=(show bw X.prog X.w H s.heap a (.ext (ig X.w a' ks)) from I.hok a _ e)
 obtain rfl:=iu ob
 obtain ⟨⟨z,o,es,ep,ho,hx,hd,hes,hn⟩,_,_⟩:=ob
 have dd:Heap.DictOfH (fP X.prog X.w) s.heap a' (ks.map fun x=>(x.1,x.2,Value.bool true)):=by
  refine ⟨o,es,ep,ho,hx,hd,?_,fun x hx' => ?_,?_⟩
  ·rw [hes,zcj];rfl
  ·obtain ⟨y,hy,rfl⟩:=zck.mp hx'
   obtain ⟨k1,k2,k3⟩:=hk y hy
   exact I.key k1 k2 k3
  ·rw [zcj];exact hn
 have hu:=hr.units
 refine wpAny_in_heap (knd:=fP X.prog X.w) (show X.A.units+1+10<cLine by omega) (I.key h1 h2 h3) z dd ?_
 rw [pH d ks]
 exact ⟨.bl (ks.any fun x=>decide (x.1=d)),H,I.tok _,rfl,by simpa using q⟩
theorem zo:bV X (.builtin "len") (JZ X.w):=by
 intro pins s σ H xs us Q I r h
 obtain ⟨a,a',ks,rfl,e,hl,q⟩:=h
 obtain ⟨u,rfl,ru⟩:=vals1 r
 cases ru
 have ob:=(show bw X.prog X.w H s.heap a (.ext (ig X.w a' ks)) from I.hok a _ e)
 obtain rfl:=iu ob
 obtain ⟨⟨z,o,es,ep,ho,hx,hd,hes,hn⟩,_,_⟩:=ob
 have hsz:es.size=ks.length:=by have:=congrArg zcv hes;simpa using this
 refine zaj kind_len plain_len entry_len (args_len1 _) (M5.yQ z ⟨o,ho,hx,hd⟩ (by omega) ?_)
 rw [hsz]
 exact ⟨.int ks.length,H,I.tok _,⟨_,rfl⟩,q⟩
end
end L2
namespace M
open PySem PySem.Spec PyProof.Rows L2 M6
section
variable {P:Program}{w:World}{K:PySem.W.Frag}{mg:Str→Option Value}{base:Heap}{C:Addr}
theorem Ma {x qual:Str}{st:Stmt}{f:Addr}{fd:FuncData}{N ps:List Str}{k:Nat}{sp:AN} (F:Dk K x qual st f fd) (S:aG N ps (ai st)) (len:∀ ds S Q,sp ds S Q→ds.length=ps.length)
  (hbody:∀ (f:Addr) (cdv:Value) (A:Around) (outer:List Env) (s:Shared) (H:Hp) (E:XK),bf k (A.deeper (PyProof.Rows.envOfC qual (ai st) s.heap.objs.size f cdv)) →
   ∃ a,zN (jM kY P w K mg base N qual (ai st) f cdv A outer s H E).Df (bE st) a∧∀ ds S Q,sp ds S Q→a { nx:=fun _ S'=>Q (.dat .bN) S',rt:=Q } (aT N ds) S):d8 P w K mg base kY (k+1) f fd ps (aW K sp) :=
 F.ok S (fun vs H Q E h=>by
  obtain ⟨w,ds,S,Qa,ok,rep,q,bk⟩:=h
  rw [rep.length];exact len ds S Qa q) fun cdv A outer s H vs Q E hr h=>by
  obtain ⟨a,ha,hd⟩:=hbody f cdv A outer s H E hr
  obtain ⟨w,ds,S,Qa,ok,rep,q,bk⟩:=h
  refine ⟨_,ha.p,w,aT N ds,S,_,ok,kE rep,hd ds S Qa q,⟨fun δ S' σ w' H' le ok' env q' => ?_,bk,fun _ _ _ _ _ _ _ _ z=>z.elim,fun _ _ _ _ _ _ _ _ z=>z.elim⟩⟩
  exact bk (.dat .bN) S' .bN w' H' le ok' (show Rep K w' .bN .bN from .bN) q'
theorem ee {m qual:Str}{st:Stmt}{N ps:List Str}{k:Nat}{sp:AN} (F:cE K C m qual ps st) (S:aG N ps (ai st)) (len:∀ ds S Q,sp ds S Q→ds.length=ps.length)
  (hbody:∀ (f:Addr) (cdv:Value) (A:Around) (outer:List Env) (s:Shared) (H:Hp) (E:XK),bf k (A.deeper (PyProof.Rows.envOfC qual (ai st) s.heap.objs.size f cdv)) →
   ∃ a,zN (jM kY P w K mg base N qual (ai st) f cdv A outer s H E).Df (bE st) a∧∀ ds S Q,sp ds S Q→a { nx:=fun _ S'=>Q (.dat .bN) S',rt:=Q } (aT N ds) S):bA P w K mg base (k+1) C m ps sp:=by
 obtain ⟨f,fd,F,hm,hb⟩:=F.ex
 exact ⟨f,fd,Ma F S len hbody,hm,hb⟩
theorem BY {x:Str}{st:Stmt}{N ps:List Str}{k:Nat}{sp:AN} (F:Src K mg x ps st) (S:aG N ps (ai st)) (len:∀ ds S Q,sp ds S Q→ds.length=ps.length)
  (hbody:∀ (f:Addr) (cdv:Value) (A:Around) (outer:List Env) (s:Shared) (H:Hp) (E:XK),bf k (A.deeper (PyProof.Rows.envOfC x (ai st) s.heap.objs.size f cdv)) →
   ∃ a,zN (jM kY P w K mg base N x (ai st) f cdv A outer s H E).Df (bE st) a∧∀ ds S Q,sp ds S Q→a { nx:=fun _ S'=>Q (.dat .bN) S',rt:=Q } (aT N ds) S):Def P w K mg base (k+1) x ps (aW K sp) :=
 F.def S (fun vs H Q E h=>by
  obtain ⟨w,ds,S,Qa,ok,rep,q,bk⟩:=h
  rw [rep.length];exact len ds S Qa q) fun f cdv A outer s H vs Q E hr h=>by
  obtain ⟨a,ha,hd⟩:=hbody f cdv A outer s H E hr
  obtain ⟨w,ds,S,Qa,ok,rep,q,bk⟩:=h
  refine ⟨_,ha.p,w,aT N ds,S,_,ok,kE rep,hd ds S Qa q,⟨fun δ S' σ w' H' le ok' env q' => ?_,bk,fun _ _ _ _ _ _ _ _ z=>z.elim,fun _ _ _ _ _ _ _ _ z=>z.elim⟩⟩
  exact bk (.dat .bN) S' .bN w' H' le ok' (show Rep K w' .bN .bN from .bN) q'
end
section
variable {X:Cx}{e o:Expr}{es:List Expr}{p p2 pos pos2:Pos}{C:Addr}{k:Nat}{m:Str}{ps:List Str}{sp:AN}{K:PySem.W.Frag}
theorem jq {x:Str}{f:Addr}{fd:FuncData} (MK:Mk X.K C f) (F:d8 X.prog X.w X.K X.mg X.base kY k f fd ps (aW X.K sp)) (hb:Binds X.K fd ps []) (hr:bf (k+1) X.A) (hg:Gl X x) (hm:X.mg x=some (.ref C))
  (hdb:(x==("__debug__" : Str))=false:=by decide +kernel):GE X (.Call (.Name x p) [] [] pos) (Cv C sp vH):=by
 refine ⟨mE (L2.jq MK F hr hg hm hb .nil jv hdb) fun σ H Q h => ?_⟩
 obtain ⟨w,δ,S,Qa,ok,env,q,bk⟩:=h
 refine fun a dx na nd ne => ?_
 have hax:(upd H dx (HO.own a)) a=none:=by rw [aJ (Ne.symm ne)];exact na
 have ok2:=(ok.alloc (o:=.own a) nd)
 obtain ⟨w2,le2,jw,rep3⟩:=store (ok2.alloc (o:=.ins C dx []) hax) (ok2.fresh hax (m:=.ins C [] []) ⟨dx,[],rfl,rfl,.nil⟩)
 refine ⟨w2,_,_,_,jw,by rw [zbK];exact .cons rep3 .nil,q,fun r S2 v w3 H3 le3 ok4 rep4 ⟨er,q4⟩ => ?_⟩
 subst er
 have ev:=DZ rep4 rfl
 exact ⟨ev,bk.dat (le2.trans le3) ok4 (rep3.le le3) q4⟩
structure yc (ks:List D):Prop where
 good:∀ k∈ks,fm k
 fst:∀ k∈ks,∃ p r,py k=PyData.tuple (.str p::r)
 cmp:∀ k∈ks,∀ l∈ks,aN (py k) (py l)=true
noncomputable def ug (ks:List D):Prop:=ks.Pairwise (fun x y=>dY (py y) (py x)=false)
noncomputable def E9:AN:=fun ds S Q=>∃ d es,∃ ss:List Str,ds=[d]∧bD S d = .dct (ss.map Sum.inr) es∧ss.length<64∧∀ ss':List Str,ss'.Perm ss→sortedS ss'=true→Q (.new (.lst (ss'.map D.str))) S
noncomputable def K3 (W:World):AN:=fun ds S Q=>∃ n ks,ds=[.loc n]∧S[n]? = some (some (nO W ks))∧ks.length≤1000∧Q (.dat (.int ks.length)) S
noncomputable def y9 (ks:List D) (k:D):Bool:=ks.any fun j=>decide (py j=py k)
noncomputable def ME (W:World) (neg:Bool):A2:=fun x y S Q=>∃ n ks,y = .loc n∧S[n]? = some (some (nO W ks))∧fm x∧(∀ k∈ks,fm k)∧Q (.dat (.bl (neg != y9 ks x))) S
theorem gU {ks:List D}{bs:List Addr} (hlen:ks.length=bs.length):(∀ x∈(ks.map py).zip bs,∃ k∈ks,x.1=py k)∧(ks.map py).zip bs=(ks.zip bs).map (fun x=>(py x.1,x.2))∧((ks.map py).zip bs).map (fun k=>V.ref k.2)=bs.map V.ref∧((ks.map py).zip bs).map (·.1)=ks.map py:=by
 refine ⟨fun x hx => ?_,by rw [List.zip_map_left];rfl,?_,List.map_fst_zip (by rw [zbJ];omega)⟩
 ·obtain ⟨k,hk,e⟩:=zck.mp (List.of_mem_zip hx).1
  exact ⟨k,hk,e.symm⟩
 ·have:((ks.map py).zip bs).map (·.2)=bs:=List.map_snd_zip (by rw [zbJ];omega)
  rw [← this,zcj,this];rfl
theorem oF {w:Wd}{H:Hp}{S:au}{ks:List D}{bs:List Addr}{Qa:AK}{Q:VK} (ok:Ok K w H S) (k5:ak K w ks (bs.map V.ref)) (bk:eU K w Qa Q) (q:∀ ks':List D,ks'.Perm ks→ug ks'→Qa (.new (.lst ks')) S) :
  ∀ (p:Addr) (out:List (PyData×Addr)),H p=none→out.Perm ((ks.map py).zip bs)→out.Pairwise (fun x y=>dY y.1 x.1=false)→Q (.ref p) (upd H p (.lst (out.map fun k=>V.ref k.2))):=by
 intro p out hp hperm hso
 have hlen:ks.length=bs.length:=by have:=k5.length;rw [zbJ] at this;exact this.symm
 obtain ⟨_,ez,_,_⟩:=gU hlen
 rw [ez] at hperm
 obtain ⟨o',p1,rfl⟩:=gy hperm
 have e2:(List.map (fun k:PyData×Addr=>V.ref k.2) (o'.map fun x=>(py x.1,x.2)))=o'.map fun x=>V.ref x.2:=by rw [zcj];rfl
 rw [e2]
 refine bk (.new (.lst (o'.map (·.1)))) S _ w _ .refl (ok.alloc hp) (ok.fresh hp ⟨_,rfl,iM fun x hx=>vV k5 x (p1.mem_iff.mp hx)⟩) (q _ ?_ ?_)
 ·have:=p1.map (·.1)
  rw [List.map_fst_zip (by omega)] at this
  exact this
 ·show (o'.map (·.1)).Pairwise _
  rw [zbm] at hso ⊢
  exact hso
theorem HR {w:Wd}{H:Hp}{S:au}{n:Nat}{v:V}{W:World}{ks:List D} (ok:Ok K w H S) (r:Rep K w (.loc n) v) (z:S[n]? = some (some (nO W ks))) :
  ∃ (a a':Addr) (bs:List Addr),v = .ref a∧H a=some (.ext (ig W a' ((ks.map py).zip bs)))∧ak K w ks (bs.map V.ref)∧ks.length=bs.length:=by
 simp only [Rep] at r
 obtain ⟨a,h0,rfl⟩:=r
 obtain ⟨a1,u,k1,k2,k3,a',bs,rfl,k5⟩:=ok.live n _ z
 rw [h0] at k1;cases k1
 exact ⟨a,a',bs,rfl,k3,k5,by have:=k5.length;rw [zbJ] at this;exact this.symm⟩
theorem sj {j:Nat} (hr:bf j X.A):zL X (.builtin "sorted") E9:=⟨mC (tO hr) fun xs H Q h=>by
 obtain ⟨w,ds,S,Qa,ok,rep,⟨d,es,ss,rfl,z,hl,q⟩,bk⟩:=h
 obtain ⟨v,rfl,r1⟩:=fJ rep
 obtain ⟨a,kvs,rfl,h1,h2,h3⟩:=gZ ok r1 z
 refine ⟨a,kvs,ss,rfl,h1,?_,hl,fun p ss' hp g1 g2=>bk (.new (.lst _)) S _ w _ .refl (ok.alloc hp) (ok.fresh hp ⟨_,rfl,fU ss'⟩) (q ss' g1 g2)⟩
 have:(kvs.map fun x=>kV x.1)=(kvs.map (·.1)).map kV:=by rw [zcj];rfl
 rw [this,h2,zcj];rfl⟩
theorem HN:zL X (.builtin "len") (K3 X.w):=⟨mC zo fun xs H Q h=>by
 obtain ⟨w,ds,S,Qa,ok,rep,⟨n,ks,rfl,z,hl,q⟩,bk⟩:=h
 obtain ⟨v,rfl,r1⟩:=fJ rep
 obtain ⟨a,a',bs,rfl,k3,k5,hlen⟩:=HR ok r1 z
 have e:((ks.map py).zip bs).length=ks.length:=by rw [zbS,zbJ];omega
 refine ⟨a,a',_,rfl,k3,by omega,?_⟩
 rw [e]
 exact bk.dat .refl ok .int q⟩
theorem J9 {j:Nat} (hr:bf j X.A):vM X (compareOp .In) (ME X.w false):=⟨m2 (HG hr) fun x y H Q h=>by
 obtain ⟨w,d,e,S,Qa,ok,r1,r2,⟨n,ks,rfl,z,g1,g2,q⟩,bk⟩:=h
 obtain ⟨a,a',bs,rfl,k3,k5,hlen⟩:=HR ok r2 z
 obtain ⟨b,rfl,hb⟩:=jD ok r1 g1
 obtain ⟨mem1,ez,e1,e2⟩:=gU hlen
 refine ⟨a,a',b,_,py d,rfl,rfl,k3,fN ok k5 g2,g1.2.1,g1.2.2.1,hb,bk.dat .refl ok .bl ?_⟩
 have:(((ks.map py).zip bs).any fun x=>decide (x.1=py d))=y9 ks d:=by
  have h1:(((ks.map py).zip bs).any fun x=>decide (x.1=py d))=((((ks.map py).zip bs).map (·.1)).any fun z=>decide (z=py d)):=by rw [zch];rfl
  rw [h1,e2,zch];rfl
 rw [this];exact q⟩
end
end M
namespace L2
open PySem PySem.Spec PyProof.Rows
noncomputable def XN (C:Addr) (d0:Option Addr) (x:Addr):HO:=.ext fun h=>∃ t0:Addr,h.get? x=some (PySem.W.KD C d0 #[.ref t0,.none,.none,.none,.bool false,.none])
noncomputable abbrev Cx.at (X:Cx) (e:Value):Cx:={ X with A:=X.A.mark (some e),calm:=false,xe:=fun _ _=>False }
end L2
namespace M6
open PySem PySem.Spec PyProof.Rows
theorem vt {α β:Type} (f:α→β):∀ (l:List α) (j:Nat),(l.map f).eraseIdx j=(l.eraseIdx j).map f
 | [],j=>by simp
 | a::l,0=>rfl
 | a::l,j+1=>by rw [zcb,zal,zal,zcb,vt f l j]
section
variable {prog:Program}{w:World}{K:Type} [DecidableEq K] {knd:HeapKind prog w K}{A:Around}{E:Value→Shared→Prop}{s:Shared}
theorem z8 {d a:Addr}{xs:List (K×Addr×Value)}{k:K}{Q:Option DictEntry→Shared→Prop} (hu:knd.room A) (hkey:knd.is s.heap k a) (hm:s.heap.DictOfH knd d xs) (hsz:xs.length≤sizeLine)
  (hnone:k ∉ xs.map (·.1)→Q none { s with toks:=s.toks+knd.draws k })
  (hsome:∀ (j:Nat) (x:K×Addr×Value),xs[j]? = some x→x.1=k→∀ h',h'.DictOfH knd d (xs.eraseIdx j)→Heap.SameBut d s.heap h'→Q (some (entryOfKey knd x)) { s with heap:=h',toks:=s.toks+knd.draws k }) :
  wpAny (model prog w) A (Builtin.Dict.takeOut d (.ref a)) Q E s:=by
 obtain ⟨o,es,ep,ho,hc,hd,he,his,hn⟩:=hm
 unfold Builtin.Dict.takeOut
 try with_reducible refine wpAny_holding ?_
 refine wpAny_bind (knd.pyHash hu hkey (wpAny_bind (wpAny_dictFind_heap (s:={ s with toks:=s.toks+knd.draws k }) hu hkey ho hd he his hn ?_ ?_)))
 ·intro hno
  exact wpAny_pure (hnone (not_mem_keys_of_get hno))
 ·intro j p hj
  refine wpAny_bind (wpAny_dictEntries (s:={ s with toks:=s.toks+knd.draws k }) ho hd ?_)
  rw [entry_at he j,hj]
  have hsz2:=size_of_entries he
  refine wpAny_bind (wpAny_updateDictKeys (hz:=by omega) (s:={ s with toks:=s.toks+knd.draws k }) ho hd (wpAny_pure (hsome j (k,p) hj rfl _ ⟨_,_,ep+1,zaz _ ho (Obj.isFreed_of_dict (Obj.data_mapDictKeys hd _)),
   hc.mapDictKeys _,Obj.data_mapDictKeys hd _,?_,?_,?_⟩ (Heap.SameBut.update ..))))
  ·have hjl:j<es.size:=by
    have:=(zae.mp hj).1
    omega
   obtain ⟨l⟩:=es
   have he:l=xs.map (entryOfKey knd):=he
   simp only [Array.eraseIdxIfInBounds,hjl,dif_pos]
   simp [he,vt]
  ·intro x hx
   exact knd.keeps (his x (List.mem_of_mem_eraseIdx hx)) ho hd (Heap.SameBut.update ..)
  ·exact hn.sublist ((List.eraseIdx_sublist xs j).map _)
end
section
variable {prog:Program}{w:World}{A:Around}{E:Value→Shared→Prop}{s:Shared}
theorem L7 {K:Type} [DecidableEq K] {knd:HeapKind prog w K}{d a:Addr}{xs:List (K×Addr×Value)}{k:K}{dflt:Value}{Q:Value→Shared→Prop} (hu:∀ A':Around,A'.units≤A.units+2→knd.room A') (hdm:(d==sysModules)=false) (hkey:knd.is s.heap k a) (hm:s.heap.DictOfH knd d xs) (hsz:xs.length≤sizeLine)
  (hnone:k ∉ xs.map (·.1)→∀ t,Q dflt { s with toks:=t })
  (hsome:∀ (j:Nat) (x:K×Addr×Value),xs[j]? = some x→x.1=k→∀ h' t,h'.DictOfH knd d (xs.eraseIdx j)→Heap.SameBut d s.heap h'→Q x.2.2 { s with heap:=h',toks:=t }) :
  wpAny (model prog w) A (call (.builtin "dict.pop") [.ref d,.ref a,dflt]) Q E s:=by
 refine wpAny_call_entry PySem.F.slot_dict_pop hm.typeIs PySem.F.entry_dict_pop ?_ (PySem.F.args_dict_pop_3 _ _ _)
 unfold Builtin.«dict.pop»
 refine wpAny_bind ?_
 unfold Builtin.Dict.keyAndDefault
 refine wpAny_bind (wpAny_notOrdered_dict hm.typeIs ?_)
 show wpAny _ _ (pure (d,Value.ref a,some dflt)) _ _ s
 refine wpAny_pure ?_
 obtain ⟨o,es,ep,ho,hc,hd,he,his,hn⟩:=id hm
 simp only [show (keyPart (Value.ref a)).isSome=false from rfl,zba,if_false]
 refine wpAny_bind (wpAny_dictEntries ho hd (wpAny_bind (wpAny_pure ?_)))
 cases hz:es.isEmpty with
 | true =>
  have hx:xs=[]:=by
   have:=size_of_entries he
   have h0:es.size=0:=by simpa using hz
   exact List.length_eq_zero_iff.mp (by omega)
  refine wpAny_bind (wpAny_rule (wpAny_bind (wpAny_pure ?_)))
  refine wpAny_bind (wpAny_missedRemoval_other hdm ?_)
  exact wpAny_bind (wpAny_rule (wpAny_pure ⟨dflt,rfl,hnone (by rw [hx];simp) _⟩))
 | false =>
  simp only [zba,if_false]
  refine wpAny_bind (z8 (hu _ (by show _+1≤_;omega)) hkey hm hsz (fun hno => ?_) fun j x hj hx h' dd sb => ?_)
  ·simp only [Option.isNone_none,if_true]
   refine wpAny_bind (wpAny_missedRemoval_other hdm ?_)
   exact wpAny_bind (wpAny_rule (wpAny_pure ⟨dflt,rfl,hnone hno _⟩))
  ·simp only [Option.isNone_some,zba,if_false]
   exact wpAny_bind (wpAny_letGo (wpAny_pure ⟨x.2.2,rfl,hsome j x hj hx h' _ dd sb⟩))
end
end M6
namespace L2
open PySem PySem.Spec PyProof.Rows M6
noncomputable def kR (xs:List (PyData×Addr)) (d:PyData):List (PyData×Addr):=xs.filter fun x=>decide (x.1≠d)
theorem nD {κ α:Type} [DecidableEq κ] (f:α→κ):∀ (xs:List α) (j:Nat) (x:α),xs[j]? = some x→(xs.map f).Nodup→xs.eraseIdx j=xs.filter fun y=>decide (f y≠f x)
 | [],j,x,h,_=>by simp at h
 | a::xs,0,x,h,hn=>by
  have h:a=x:=by simpa using h
  subst h
  rw [zcb,zbL] at hn
  rw [List.eraseIdx_cons_zero,zam (by simp)]
  refine (zaM.mpr fun y hy=>decide_eq_true (show f y≠f a from fun z=>hn.1 ?_)).symm
  rw [← z];exact zck.mpr ⟨y,hy,rfl⟩
 | a::xs,j+1,x,h,hn=>by
  have h:xs[j]? = some x:=by simpa using h
  rw [zcb,zbL] at hn
  rw [zal,zan,nD f xs j x h hn.2]
  exact decide_eq_true (show f a≠f x from fun z=>hn.1 (by rw [z];exact zck.mpr ⟨x,zaD h,rfl⟩))
section
variable {X:Cx}{pins:List (Addr×Obj)}{σ:St}{H:Hp}{s:Shared}{A:Around}{E:Value→Shared→Prop}
theorem Kh {a b:Addr}{xs:List (PyData×Addr)}{d:PyData}{r:Value}{Q:Value→Shared→Prop} (hu:A.units+20<cLine) (I:Inv X pins σ H s) (e:H a=some (.ext (ig X.w a xs))) (hk:kX X.K H xs) (h1:b8 d=true) (h2:d.depth≤6) (h3:bC X.K H d (.ref b)) (hl:xs.length<1000)
  (h:∀ u s',(u=Value.bool true∨u=r)→Inv X pins σ (upd H a (.ext (ig X.w a (kR xs d)))) s'→Q u s'):wpAny (model X.prog X.w) A (call (.builtin "dict.pop") [.ref a,.ref b,r]) Q E s:=by
 obtain ⟨⟨z,o,es,ep,ho,hx,hd,hes,hn⟩,_,_⟩:=(show bw X.prog X.w H s.heap a (.ext (ig X.w a xs)) from I.hok a _ e)
 have dd:Heap.DictOfH (fP X.prog X.w) s.heap a (xs.map fun x=>(x.1,x.2,Value.bool true)):=by
  refine ⟨o,es,ep,ho,hx,hd,?_,fun x hx' => ?_,?_⟩
  ·rw [hes,zcj];rfl
  ·obtain ⟨y,hy,rfl⟩:=zck.mp hx'
   obtain ⟨k1,k2,k3⟩:=hk y hy
   exact I.key k1 k2 k3
  ·rw [zcj];exact hn
 refine L7 (knd:=fP X.prog X.w) (fun A' hA=>show A'.units+10<cLine by omega) z (I.key h1 h2 h3) dd (by rw [zbJ,sizeLine_eq];omega) (fun hno t => ?_) fun j x hj hx h' t dd' hs => ?_
 ·have ed:kR xs d=xs:=zaM.mpr fun y hy=>decide_eq_true (show y.1≠d from fun q=>hno (by rw [zcj];exact zck.mpr ⟨y,hy,q⟩))
  refine h r _ (.inr rfl) ?_
  rw [ed,M.zW e]
  exact I.tok t
 ·rw [zbf] at hj
  obtain ⟨y,hy,rfl⟩:∃ y,xs[j]? = some y∧x=(y.1,y.2,Value.bool true):=by
   cases q:xs[j]? with
   | none=>rw [q] at hj;cases hj
   | some y=>rw [q] at hj;exact ⟨y,rfl,by simpa using hj.symm⟩
  have hx:y.1=d:=hx
  subst hx
  refine h _ _ (.inl rfl) ?_
  have ed:(xs.map fun x=>(x.1,x.2,Value.bool true)).eraseIdx j=(kR xs y.1).map fun x=>(x.1,x.2,Value.bool true):=by
   rw [vt,nD (fun x:PyData×Addr=>x.1) xs j y hy hn];rfl
  rw [ed] at dd'
  obtain ⟨q,es',ep',hq,x1,x2,x3,_,x5⟩:=dd'
  have nn:ig X.w a (kR xs y.1) h':=⟨z,q,es',ep',hq,x1,x2,by rw [x3,zcj];rfl,by rw [zcj] at x5;exact x5⟩
  exact iw I (by rw [e];exact True.intro) hs ⟨q,hq⟩ nn.ok
end
noncomputable def Fz (K:PySem.W.Frag) (W:World) (td ty tx:TE):TE:=fun σ H Q=>td σ H fun x H1=>∃ (a a':Addr) (xs0:List (PyData×Addr)),x = .ref a∧H1 a=some (.ext (ig W a' xs0))∧ty σ H1 fun y H2=>tx σ H2 fun z H3 =>
 ∃ (a2 b:Addr) (xs:List (PyData×Addr)) (d:PyData),y = .ref b∧H3 a=some (.ext (ig W a2 xs))∧kX K H3 xs∧b8 d=true∧d.depth≤6∧bC K H3 d (.ref b)∧xs.length<1000∧∀ v,(v = .bl true∨v=z)→a2=a→Q v (upd H3 a (.ext (ig W a (kR xs d))))
section
variable {X:Cx}{o e f:Expr}{apos cpos:Pos}{td ty tx:TE}
theorem jo (hu:X.A.units+20<cLine) (ho:PE X o td) (he:PE X e ty) (hf:PE X f tx) (m:M2 X o "pop" apos e f cpos):PE X (.Call (.Attribute o "pop" apos) [e,f] [] cpos) (Fz X.K X.w td ty tx):=by
 intro pins s σ H Q I h
 refine wpAny_Call_method m.base m.few m.line PySem.F.plainAttrs_dict PySem.F.slot_dict_pop PySem.F.type_dict_pop (cF (ho pins s σ H _ I h) fun u s1 ⟨x,H1,I1,rx,a,a',xs0,ex,d,q1⟩ => ?_)
 subst ex
 obtain rfl:u=Value.ref a:=rx
 have ob:=(show bw X.prog X.w H1 s1.heap a (.ext (ig X.w a' xs0)) from I1.hok a _ d)
 obtain rfl:=iu ob
 obtain ⟨⟨_,o,es,ep,ho',hx,hd,hes,hn⟩,_,_⟩:=ob
 refine ⟨⟨o,ho',hx.1⟩,fun b q => ?_,?_⟩
 ·cases q
  exact ⟨o,ho',hx.2.1⟩
 rw [m.trees]
 refine zas rfl (Calls.evalArgs_plain (zbc (cF (he pins s1 σ H1 _ I1 q1) fun iv s2 ⟨y,H2,I2,ry,q2⟩ =>
  zbc (cF (hf pins s2 σ H2 _ I2 q2) fun fv s3 ⟨z,H3,I3,rz,a2,b,xs,d,ey,ea,k1,k2,k3,k4,k5,q3⟩=>Calls.spliced_nil ?_))))
 subst ey
 obtain rfl:iv=Value.ref b:=ry
 obtain rfl:=iu (show bw X.prog X.w H3 s3.heap a' (.ext (ig X.w a2 xs)) from I3.hok a' _ ea)
 refine Kh hu I3 ea k1 k2 k3 k4 k5 fun u s4 hv I4 => ?_
 rcases hv with rfl | rfl
 ·exact ⟨.bl true,_,I4,rfl,q3 _ (.inl rfl) rfl⟩
 ·exact ⟨z,_,I4,rz,q3 _ (.inr rfl) rfl⟩
end
end L2
namespace M
open PySem PySem.Spec PyProof.Rows L2 M6
noncomputable def jH (ks:List D) (k:D):List D:=ks.filter fun j=>decide (py j≠py k)
section
variable {K:PySem.W.Frag}
noncomputable def Cu (W:World) (a b c:AE):AE:=fun δ S Q=>a δ S fun r1 S1=>∃ n ks0,r1.d = .loc n∧S1[n]? = some (some (nO W ks0))∧b δ S1 fun r2 S2=>c δ S2 fun r3 S3 =>
 ∃ ks,S3[n]? = some (some (nO W ks))∧fm r2.d∧(∀ k∈ks,fm k)∧ks.length<1000∧∀ d,(d = .bl true∨d=r3.d)→Q (.dat d) (S3.set n (some (nO W (jH ks r2.d))))
theorem pA {w:Wd}{k:D}:∀ {ks:List D}{bs:List Addr},ak K w ks (bs.map V.ref)→∃ bs',kR ((ks.map py).zip bs) (py k)=((jH ks k).map py).zip bs'∧ak K w (jH ks k) (bs'.map V.ref)
 | [],bs,h=>⟨[],by simp [kR,jH],.nil⟩
 | j::ks,[],h=>by simp only [zcg,ak] at h;obtain ⟨_,_,z,_⟩:=h;cases z
 | j::ks,b::bs,h=>by
  simp only [zcb,ak] at h
  obtain ⟨x,r,e,h1,h2⟩:=h
  injection e with e1 e2
  subst e1;subst e2
  obtain ⟨bs',g1,g2⟩:=pA (k:=k) h2
  unfold kR at g1 ⊢
  unfold jH at g1 g2 ⊢
  rw [zcb,zaT,zbw,zbw]
  by_cases hc:py j=py k
  ·rw [if_neg (by simp [hc]),if_neg (by simp [hc])]
   exact ⟨bs',g1,g2⟩
  ·rw [if_pos (by simp [hc]),if_pos (by simp [hc]),g1]
   exact ⟨b::bs',by rw [zcb,zaT],.cons h1 g2⟩
theorem GV {W:World}{a b c:AE}:∀ σ H Q,bB K (Cu W a b c) σ H Q→Fz K W (bB K a) (bB K b) (bB K c) σ H Q:=by
 rintro σ H Q ⟨w,δ,S,Qa,ok,env,q,bk⟩
 refine ⟨w,δ,S,_,ok,env,q,.go fun r1 S1 v1 w1 H1 le1 ok1 rep1 ⟨n,ks0,z1,z2,q1⟩ => ?_⟩
 rw [z1] at rep1
 have rep1':=rep1
 simp only [Rep] at rep1'
 obtain ⟨a,h0,rfl⟩:=rep1'
 obtain ⟨a1,u,k1,k2,k3,a',bs,rfl,k5⟩:=ok1.live n _ z2
 rw [h0] at k1;cases k1
 refine ⟨a,a',_,rfl,k3,?_⟩
 refine ⟨w1,δ,S1,_,ok1,env.le le1,q1,.go fun r2 S2 v2 w2 H2 le2 ok2 rep2 q2 => ?_⟩
 refine ⟨w2,δ,S2,_,ok2,(env.le le1).le le2,q2,.go fun r3 S3 v3 w3 H3 le3 jw rep3 ⟨ks,z3,g1,g2,hl,q3⟩ => ?_⟩
 have h0':w3.r n=some a:=(le2.trans le3).r _ _ h0
 obtain ⟨a4,u,m1,m2,m3,a'',bs',rfl,m5⟩:=jw.live n _ z3
 rw [h0'] at m1;cases m1
 obtain ⟨b,rfl,hb⟩:=jD jw (rep2.le le3) g1
 have hlen:ks.length=bs'.length:=by have:=m5.length;rw [zbJ] at this;exact this.symm
 refine ⟨a'',b,_,py r2.d,rfl,m3,fN jw m5 g2,g1.2.1,g1.2.2.1,hb,by rw [zbS,zbJ];omega,fun v hv e => ?_⟩
 subst e
 obtain ⟨bs2,e1,e2⟩:=pA (k:=r2.d) m5
 rw [e1]
 have ok4:=jw.put z3 h0' (o':=nO W (jH ks r2.d)) ⟨a'',bs2,rfl,e2⟩
 rcases hv with rfl | rfl
 ·exact bk.dat ((le1.trans le2).trans le3) ok4 (.bl (b:=true)) (q3 _ (.inl rfl))
 ·exact bk.dat ((le1.trans le2).trans le3) ok4 rep3 (q3 _ (.inr rfl))
noncomputable def nK (ks:List Key) (ds:List D) (k:Key):MO:=.dct (ks.filter fun j=>decide (j≠k)) (((ks.zip ds).filter fun p=>decide (p.1≠k)).map (·.2))
noncomputable def Cz (a b:AE):AE:=fun δ S Q=>a δ S fun r1 S1=>∃ n ks0 ds0,r1.d = .loc n∧S1[n]? = some (some (.dct ks0 ds0))∧b δ S1 fun r2 S2=>∃ ks ds k d,S2[n]? = some (some (.dct ks ds))∧keyOf r2.d=some k∧i0 ks ds k=some d∧Q (.dat d) (S2.set n (some (nK ks ds k)))
theorem sU {w:Wd}{k:Key}:∀ {kvs:List (Key×V)}{ds:List D},ak K w ds (kvs.map (·.2))→ak K w ((((kvs.map (·.1)).zip ds).filter fun p=>decide (p.1≠k)).map (·.2)) ((kQ kvs k).map (·.2))∧(kQ kvs k).map (·.1)=(kvs.map (·.1)).filter fun j=>decide (j≠k)
 | [],ds,h=>⟨.nil,rfl⟩
 | (j,u)::r,ds,h=>by
  cases ds with
  | nil=>simp only [zcb,ak] at h;cases h
  | cons x ds =>
   simp only [zcb,ak] at h
   obtain ⟨x',r',e',h1,h2⟩:=h
   injection e' with e1 e2
   subst e1;subst e2
   obtain ⟨g1,g2⟩:=sU (k:=k) h2
   unfold kQ at g1 g2 ⊢
   simp only [zcb,zaT]
   rw [zbw,zbw,zbw]
   by_cases hj:j=k
   ·rw [if_neg (by simp [hj]),if_neg (by simp [hj]),if_neg (by simp [hj])]
    exact ⟨g1,g2⟩
   ·rw [if_pos (by simp [hj]),if_pos (by simp [hj]),if_pos (by simp [hj])]
    refine ⟨.cons h1 g1,?_⟩
    rw [zcb,g2]
theorem G6 {a b:AE}:∀ σ H Q,bB K (Cz a b) σ H Q→Af (bB K a) (bB K b) σ H Q:=by
 rintro σ H Q ⟨w,δ,S,Qa,ok,env,q,bk⟩
 refine ⟨w,δ,S,_,ok,env,q,.go fun r1 S1 v1 w1 H1 le1 ok1 rep1 ⟨n,ks0,ds0,z1,z2,q1⟩ => ?_⟩
 rw [z1] at rep1
 obtain ⟨a,kvs0,rfl,h0,h1,_,_⟩:=vz ok1 rep1 z2
 refine ⟨a,rfl,.inl ⟨_,.inl h1⟩,?_⟩
 refine ⟨w1,δ,S1,_,ok1,env.le le1,q1,.go fun r2 S2 v2 w2 H2 le2 ok2 rep2 ⟨ks,ds,k,d,z3,z4,z5,q2⟩ => ?_⟩
 obtain ⟨a',kvs,e,g0,g1,rfl,g3⟩:=vz ok2 (rep1.le le2) z3
 cases e
 obtain ⟨v,m1,m2⟩:=qQ g3 z5
 obtain ⟨p1,p2⟩:=sU (k:=k) g3
 refine ⟨kvs,k,v,g1,lR rep2 z4,m1,?_⟩
 exact bk.dat (le1.trans le2) (ok2.put z3 g0 (o':=nK (kvs.map (·.1)) ds k) ⟨_,rfl,p2,p1⟩) m2 q2
end
section
variable {X:Cx}{o e f:Expr}{apos cpos:Pos}{k:Nat}
theorem jo {ta tb tc:AE} (hr:bf k X.A) (ho:GE X o ta) (he:GE X e tb) (hf:GE X f tc) (m:M2 X o "pop" apos e f cpos):GE X (.Call (.Attribute o "pop" apos) [e,f] [] cpos) (Cu X.w ta tb tc) :=
 ⟨mE (L2.jo (by have:=hr.units;omega) ho.p he.p hf.p m) GV⟩
theorem qu {ta tb:AE} (ho:GE X o ta) (he:GE X e tb) (m:M1 X o "pop" apos e cpos):GE X (.Call (.Attribute o "pop" apos) [e] [] cpos) (Cz ta tb) :=
 ⟨mE (L2.A9 ho.p he.p m) G6⟩
end
end M
namespace M6
open PySem PySem.Spec PyProof.Rows
mutual
theorem oO {h:Heap}:∀ (x y:PyData) {u:Value}{as bs:List Addr},b8 x=true→b8 y=true→Reads h u x as→Reads h u y bs→x=y
 | .int i,y,u,as,bs,hx,hy,r1,r2=>by cases r1;cases r2;rfl
 | .str i,y,u,as,bs,hx,hy,r1,r2=>by cases r1;cases r2;rfl
 | .tuple xs,y,u,as,bs,hx,hy,r1,r2=>by
  cases r1 with
  | @tuple _ o vs n _ _ ho hc hd ha =>
   cases r2 with
   | @tuple _ o2 vs2 n2 ys _ ho2 hc2 hd2 ha2 =>
    rw [ho] at ho2;cases ho2
    rw [hd] at hd2;cases hd2
    rw [mQ xs ys hx hy ha ha2]
   | list _ _ _ _=>simp [b8] at hy
   | dict _ _ _ _ _=>simp [b8] at hy
 | .none,_,_,_,_,hx,_,_,_=>by simp [b8] at hx
 | .bool _,_,_,_,_,hx,_,_,_=>by simp [b8] at hx
 | .list _,_,_,_,_,hx,_,_,_=>by simp [b8] at hx
 | .dict _,_,_,_,_,hx,_,_,_=>by simp [b8] at hx
theorem mQ {h:Heap}:∀ (xs ys:List PyData) {us:List Value}{as bs:List Addr},dz xs=true→dz ys=true→ReadsAll h us xs as→ReadsAll h us ys bs→xs=ys
 | [],ys,us,as,bs,hx,hy,r1,r2=>by cases r1;cases r2;rfl
 | x::xs,ys,us,as,bs,hx,hy,r1,r2=>by
  cases r1 with
  | cons a1 a2 =>
   cases r2 with
   | cons b1 b2 =>
    simp only [dz,zbE] at hx hy
    rw [oO x _ hx.1 hy.1 a1 b1,mQ xs _ hx.2 hy.2 a2 b2]
end
section
variable {prog:Program}{w:World}{A:Around}{E:Value→Shared→Prop}{s:Shared}
noncomputable def ji (ks:List (PyData×Addr)) (d:PyData):Nat:=ks.countP fun z=>dY z.1 d
theorem rY {ks:List (PyData×Addr)} (hc:∀ k∈ks,∀ l∈ks,aN k.1 l.1=true) {x y:PyData×Addr} (hx:x∈ks) (hy:y∈ks):(ji ks x.1<ji ks y.1)↔dY x.1 y.1=true:=by
 constructor
 ·intro h
  by_cases c:dY x.1 y.1=true
  ·exact c
  ·exfalso
   have:ji ks y.1≤ji ks x.1:=M10.B8 fun z hz h1=>by
    by_cases d:dY z.1 x.1=true
    ·exact d
    ·exfalso
     by_cases e:x.1=z.1
     ·rw [← e] at h1;exact c h1
     ·rcases qH x.1 z.1 (hc x hx z hz) e with g | g
      ·exact c (sE _ _ _ (hc x hx z hz) (hc z hz y hy) (hc x hx y hy) g h1)
      ·exact d g
   omega
 ·intro h
  exact M10.B7 (y:=x) (fun z hz h1=>sE _ _ _ (hc z hz x hx) (hc x hx y hy) (hc z hz y hy) h1 h) hx (u9 _) h
noncomputable def F4 (ks:List (PyData×Addr)):Value→PyData
 | .ref a=>match ks.find? fun k=>decide (k.2=a) with
  | some k=>k.1
  | none=>.none
 | _=>.none
theorem jK {h:Heap}{ks:List (PyData×Addr)} (hk:∀ k∈ks,isKey h k.1 k.2) {k:PyData×Addr} (m:k∈ks):F4 ks (.ref k.2)=k.1:=by
 show (match ks.find? fun j=>decide (j.2=k.2) with | some k=>k.1 | none=>PyData.none)=k.1
 cases e:ks.find? fun j=>decide (j.2=k.2) with
 | none=>exact absurd (decide_eq_true rfl) (List.find?_eq_none.mp e k m)
 | some j =>
  have h1:=List.mem_of_find?_eq_some e
  have h2:j.2=k.2:=of_decide_eq_true (by simpa using List.find?_some e)
  obtain ⟨a1,_,as,a3⟩:=hk j h1
  obtain ⟨b1,_,bs,b3⟩:=hk k m
  rw [h2] at a3
  exact oO j.1 k.1 a1 b1 a3 b3
noncomputable def RK (ks:List (PyData×Addr)) (p:Keyed):Int:=ji ks (F4 ks p.1)
noncomputable def TK (ks:List (PyData×Addr)) (p:Keyed):Prop:=∃ k∈ks,p.1 = .ref k.2
theorem Ca {ks:List (PyData×Addr)} (hk:∀ k∈ks,jY s.heap k) (hc:∀ k∈ks,∀ l∈ks,aN k.1 l.1=true) (hu:A.units+6<cLine):M10.uf prog w A s (tuples' true) (RK ks) (TK ks):=by
 rintro ⟨x,x'⟩ ⟨y,y'⟩ ⟨k,mk,ek⟩ ⟨l,ml,el⟩ E Q h
 have ek:x = .ref k.2:=ek
 have el:y = .ref l.2:=el
 subst ek;subst el
 obtain ⟨i,hi,ei⟩:=zaL mk
 obtain ⟨j,hj,ej⟩:=zaL ml
 have d1:=jK (fun k hk'=>(hk k hk').1) mk
 have d2:=jK (fun k hk'=>(hk k hk').1) ml
 have e:decide (RK ks (Value.ref k.2,x')<RK ks (Value.ref l.2,y'))=dY k.1 l.1:=by
  have:=rY hc mk ml
  have e1:RK ks (Value.ref k.2,x')=((ji ks k.1:Nat):Int):=by unfold RK;rw [d1]
  have e2:RK ks (Value.ref l.2,y')=((ji ks l.1:Nat):Int):=by unfold RK;rw [d2]
  rw [e1,e2]
  cases g:dY k.1 l.1 with
  | true=>rw [g] at this;exact decide_eq_true (by have:=this.mpr rfl;omega)
  | false=>exact decide_eq_false fun z=>by have:=this.mp (by omega);rw [g] at this;cases this
 rw [e] at h
 have q:=Cf (prog:=prog) (w:=w) (A:=A) (s:=s) hk hc hu i j Q hi hj (by rw [ei,ej];exact h)
 unfold W.kas_ask at q
 have g:∀ n (hn:n<ks.length),(ks.map fun k=>Value.ref k.2).getD n Value.none = .ref ks[n].2:=fun n hn=>by simp [zcE,hn]
 rw [g i hi,g j hj,ei,ej] at q
 exact wpAny_mono q (fun _ _ z=>z) (fun _ _ z=>z.elim)
theorem kI {d:Addr}{ks:List (PyData×Addr)}{R:Shared→Prop}{Q:Value→Shared→Prop} (hh:A.handled=none) (hk:∀ k∈ks,jY s.heap k) (hc:∀ k∈ks,∀ l∈ks,aN k.1 l.1=true) (h64:ks.length≤1000) (hu:A.units+20<cLine)
  (col:∀ {A':Around}{Q':List Value→Shared→Prop}{E':Value→Shared→Prop},A'.handled=none→(∀ s1 (ord:List (PyData×Addr)),(∀ b o,s.heap.get? b=some o→s1.heap.get? b=some o)→R s1→ord.Perm ks→Q' (ord.map fun k=>Value.ref k.2) s1)→wpAny (model prog w) A' (collect (.ref d)) Q' E' s)
  (h:∀ (s1:Shared) (h2:Heap) (out:List (PyData×Addr)) (c:Nat),R s1→(∀ b o,s.heap.get? b=some o→s1.heap.get? b=some o)→(∀ b o,s1.heap.get? b=some o→h2.get? b=some o)→h2.get? s1.heap.objs.size=some (seqObj "list" (out.map fun k=>Value.ref k.2).toArray c)→out.Perm ks→out.Pairwise (fun x y=>dY y.1 x.1=false)→Q (.ref s1.heap.objs.size) { s1 with heap:=h2 }) :
  wpAny (model prog w) A (call (.builtin "sorted") [.ref d]) Q E s:=by
 refine zaj kind_sorted plain_sorted entry_sorted (args_sorted1 _) ?_
 unfold Builtin.«sorted»
 refine wpAny_bind (m:=checkCount "sorted" 1 1 _) (wpAny_pure ?_)
 refine wpAny_bind (col ?_ fun s1 ord kp hR hp0 => ?_)
 ·exact hh
 have hol:ord.length=ks.length:=hp0.length_eq
 generalize hvs:(ord.map fun k=>Value.ref k.2)=vs
 have hvl:vs.length=ord.length:=by rw [← hvs,zbJ]
 refine wpAny_bind (wpAny_newList ?_ (by first | (rw [sizeLine_eq];omega) | (rw [zbd,sizeLine_eq];omega)))
 have gL:(s1.heap.push (seqObj "list" vs.toArray 0)).get? s1.heap.objs.size=some (seqObj "list" vs.toArray 0):=zaQ _ rfl
 have hk':∀ k∈ord,jY (ef (s1.heap.push (seqObj "list" vs.toArray 0)) s1.heap.objs.size vs) k:=fun k hk1=>by
  obtain ⟨⟨k1,k2,as,hr⟩,r⟩:=hk k (hp0.mem_iff.mp hk1)
  exact ⟨⟨k1,k2,as,oN gL (fun z=>by injection z with z;exact absurd z (by decide)) (fun c o hc1 e=>yN hc1 e) _ k1 (Reads.keeps (fun b o e=>zaq _ (kp b o e)) hr)⟩,r⟩
 have hc':∀ k∈ord,∀ l∈ord,aN k.1 l.1=true:=fun k h1 l h2=>hc k (hp0.mem_iff.mp h1) l (hp0.mem_iff.mp h2)
 have key:∀ (A':Around),A'.units+8<cLine→∀ {P:PySem.Fin→Shared→Prop}{E':Value→Shared→Prop},(∀ out:Array Value,out.toList.Perm vs→out.toList.Pairwise (fun x y=>RK ord (x,x)≤RK ord (y,y))→P (.done (.ret .none)) { s1 with heap:=sortedHeap (s1.heap.push (seqObj "list" vs.toArray 0)) s1.heap.objs.size vs out }) →
   wpAny (model prog w) A' (Builtin.«list.sort» ⟨[.ref s1.heap.objs.size],[]⟩) P E' { s1 with heap:=s1.heap.push (seqObj "list" vs.toArray 0) }:=fun A' hA P E' hP=>by
  refine M10.ve (s:={ s1 with heap:=s1.heap.push (seqObj "list" vs.toArray 0) }) (R:=RK ord) (T:=TK ord) gL (by rw [sizeLine_eq];omega) (fun h2=>⟨tuples' true,fun Q' hQ' => ?_,Ca hk' hc' (by omega)⟩) (fun v hv => ?_) hP
  ·obtain ⟨fs,f1,f2,f3⟩:=oX hk'
   rw [hvs] at f1
   refine W.kat_kind (T:=.type "str") f1 (by omega) (fun v hv => ?_) (by decide) hQ'
   obtain ⟨i,t,rfl⟩:=f3 v hv
   intro A2 Q2 E2 s2 _ q
   exact wpAny_typeOf (typeIs_str s2 i t) q
  ·rw [← hvs] at hv
   obtain ⟨k,mk,rfl⟩:=zck.mp hv
   exact ⟨k,mk,rfl⟩
 refine wpAny_bind (wpAny_holding (wpAny_call_entry slot_list_sort ⟨_,gL,rfl⟩ entry_list_sort (key _ ?_ fun out q1 q2=>⟨_,rfl,?_⟩) (args_list_sort _)))
 ·show A.units+1+1+8<cLine
  omega
 ·obtain ⟨c,hcc⟩:=sortedHeap_at (out:=out) gL
  rw [← hvs] at q1
  obtain ⟨o',p1,p2⟩:=gy q1
  have eo:out=(o'.map fun k=>Value.ref k.2).toArray:=by rw [← p2]
  refine wpAny_pure ⟨_,rfl,h s1 _ o' c hR kp (fun b o e => ?_) (by rw [← eo];exact hcc) (p1.trans hp0) ?_⟩
  ·have lb:=zct e
   show (sortedHeap _ _ _ _).get? b=some o
   rw [sortedHeap_old (zcl lb) (by rw [size_push'];exact Nat.lt_succ_of_lt lb)]
   exact zaq _ e
  ·rw [p2,zbm] at q2
   refine List.Pairwise.imp_of_mem (fun {x y} hx hy hxy => ?_) q2
   have mx:=p1.mem_iff.mp hx
   have my:=p1.mem_iff.mp hy
   have d1:=jK (fun k hk1=>(hk' k hk1).1) mx
   have d2:=jK (fun k hk1=>(hk' k hk1).1) my
   have e1:RK ord (Value.ref x.2,Value.ref x.2)=((ji ord x.1:Nat):Int):=by unfold RK;rw [d1]
   have e2:RK ord (Value.ref y.2,Value.ref y.2)=((ji ord y.1:Nat):Int):=by unfold RK;rw [d2]
   rw [e1,e2] at hxy
   cases g:dY y.1 x.1 with
   | false=>rfl
   | true=>have:=(rY hc' my mx).mpr g;omega
end
end M6
namespace L2
open PySem PySem.Spec PyProof.Rows M6
noncomputable def D3 (K:PySem.W.Frag):List V→Hp→VK→Prop:=fun vs H Q=>∃ (a:Addr) (ks:List (PyData×Addr)),vs=[.ref a]∧dh K H a (ks.map fun k=>V.ref k.2)∧kX K H ks∧(∀ k∈ks,∃ p r,k.1=PyData.tuple (.str p::r))∧(∀ k∈ks,∀ l∈ks,aN k.1 l.1=true)∧ks.length≤1000 ∧
 ∀ (p:Addr) (out:List (PyData×Addr)),H p=none→out.Perm ks→out.Pairwise (fun x y=>dY y.1 x.1=false)→Q (.ref p) (upd H p (.lst (out.map fun k=>V.ref k.2)))
noncomputable def D4 (K:PySem.W.Frag) (W:World):List V→Hp→VK→Prop:=fun vs H Q=>∃ (a a':Addr) (ks:List (PyData×Addr)),vs=[.ref a]∧H a=some (.ext (ig W a' ks))∧kX K H ks∧(∀ k∈ks,∃ p r,k.1=PyData.tuple (.str p::r))∧(∀ k∈ks,∀ l∈ks,aN k.1 l.1=true)∧ks.length≤1000 ∧
 ∀ (p:Addr) (out:List (PyData×Addr)),H p=none→out.Perm ks→out.Pairwise (fun x y=>dY y.1 x.1=false)→Q (.ref p) (upd H p (.lst (out.map fun k=>V.ref k.2)))
section
variable {X:Cx}
theorem tM {k:Nat} (hr:bf k X.A):bV X (.builtin "sorted") (D3 X.K):=by
 intro pins s σ H xs us Q I r h
 obtain ⟨a,ks,rfl,ha,hk,h0,hc,hl,q⟩:=h
 obtain ⟨u,rfl,ru⟩:=vals1 r
 cases ru
 obtain ⟨its,r1,⟨o,n,e,hcl,hd,hda⟩,_⟩:=I.list ha
 have ei:its=ks.map fun k=>Value.ref k.2:=iK (fun k:PyData×Addr=>k.2) r1
 subst ei
 refine kI (R:=fun s1=>∃ h1,s1={ s with heap:=h1 }) hr.hd (fun y hy => ?_) hc hl (by have:=hr.units;omega) (fun hh' hQ=>collect_list (vs:=ks.map fun k=>Value.ref k.2) ⟨o,e,hcl,n,hda⟩ (hQ _ ks (fun b o e => ?_) ⟨_,rfl⟩ (.refl _)) (by rw [zbJ,sizeLine_eq];omega)) fun s1 h2 out c hR k1 k2 g hp hs => ?_
 ·obtain ⟨k1,k2,k3⟩:=hk y hy
  exact ⟨I.key k1 k2 k3,h0 y hy⟩
 ·have lb:=zct e
  exact (zar _ _ (Nat.ne_of_gt lb)).trans (zaq _ e)
 ·obtain ⟨h1,rfl⟩:=hR
  have I1:Inv X pins σ H { s with heap:=h1 }:=I.kept (t':=s.toks) k1
  refine ⟨.ref h1.objs.size,_,I1.laid (a:=h1.objs.size) (t':=s.toks) (o:=.lst (out.map fun k=>V.ref k.2)) k2 (zcx _) ⟨by rw [zbJ,hp.length_eq,sizeLine_eq];omega,_,c,j0 (fun k=>k.2) out,g⟩,rfl,q _ out (I1.hok.fresh (zcx _)) hp hs⟩
theorem tN {k:Nat} (hr:bf k X.A):bV X (.builtin "sorted") (D4 X.K X.w):=by
 intro pins s σ H xs us Q I r h
 obtain ⟨a,a',ks,rfl,e,hk,h0,hc,hl,q⟩:=h
 obtain ⟨u,rfl,ru⟩:=vals1 r
 cases ru
 have ob:=(show bw X.prog X.w H s.heap a (.ext (ig X.w a' ks)) from I.hok a _ e)
 obtain rfl:=iu ob
 obtain ⟨⟨z,o,es,ep,ho,hx,hd,hes,hn⟩,_,_⟩:=ob
 have hsz:es.size=ks.length:=by have:=congrArg zcv hes;simpa using this
 refine kI (R:=fun s1=>∃ h1 tk,s1={ s with heap:=h1,toks:=tk }) hr.hd (fun y hy => ?_) hc hl (by have:=hr.units;omega) (fun hh' hQ=>tE z hh' ⟨o,ho,hx,hd⟩ (by rw [sizeLine_eq];omega) fun h1 tk kp => ?_) fun s1 h2 out c hR k1 k2 g hp hs => ?_
 ·obtain ⟨k1,k2,k3⟩:=hk y hy
  exact ⟨I.key k1 k2 k3,h0 y hy⟩
 ·rw [hes,zcj]
  exact hQ _ ks kp ⟨h1,tk,rfl⟩ (.refl _)
 ·obtain ⟨h1,tk,rfl⟩:=hR
  have I1:Inv X pins σ H { s with heap:=h1,toks:=tk }:=I.kept (t':=tk) k1
  refine ⟨.ref h1.objs.size,_,I1.laid (a:=h1.objs.size) (t':=tk) (o:=.lst (out.map fun k=>V.ref k.2)) k2 (zcx _) ⟨by rw [zbJ,hp.length_eq,sizeLine_eq];omega,_,c,j0 (fun k=>k.2) out,g⟩,rfl,q _ out (I1.hok.fresh (zcx _)) hp hs⟩
end
end L2
namespace M
open PySem PySem.Spec PyProof.Rows L2 M6
noncomputable def E7:AN:=fun ds S Q=>∃ d ks,ds=[d]∧bD S d = .lst ks∧yc ks∧ks.length≤1000∧∀ ks':List D,ks'.Perm ks→ug ks'→Q (.new (.lst ks')) S
noncomputable def E8 (W:World):AN:=fun ds S Q=>∃ n ks,ds=[.loc n]∧S[n]? = some (some (nO W ks))∧yc ks∧ks.length≤1000∧∀ ks':List D,ks'.Perm ks→ug ks'→Q (.new (.lst ks')) S
section
variable {X:Cx}
theorem m9 {j:Nat} (hr:bf j X.A):zL X (.builtin "sorted") E7:=⟨mC (tM hr) fun xs H Q h=>by
 obtain ⟨w,ds,S,Qa,ok,rep,⟨d,ks,rfl,z,g,hl,q⟩,bk⟩:=h
 obtain ⟨v,rfl,r1⟩:=fJ rep
 obtain ⟨a,xs,rfl,h1,h2⟩:=bX ok r1 z
 obtain ⟨bs,rfl⟩:=oJ h2 fun k hk=>(g.good k hk).2.2.2
 have hlen:ks.length=bs.length:=by have:=h2.length;rw [zbJ] at this;exact this.symm
 obtain ⟨mem1,ez,e1,e2⟩:=gU hlen
 refine ⟨a,(ks.map py).zip bs,rfl,by rw [e1];exact dh.of h1,fN ok h2 g.good,fun x hx => ?_,fun x hx y hy => ?_,by rw [zbS,zbJ];omega,oF ok h2 bk q⟩
 ·obtain ⟨k,hk,e⟩:=mem1 x hx
  rw [e];exact g.fst k hk
 ·obtain ⟨k,hk,e⟩:=mem1 x hx
  obtain ⟨k',hk',e'⟩:=mem1 y hy
  rw [e,e'];exact g.cmp k hk k' hk'⟩
theorem sf {j:Nat} (hr:bf j X.A):zL X (.builtin "sorted") (E8 X.w):=⟨mC (tN hr) fun xs H Q h=>by
 obtain ⟨w,ds,S,Qa,ok,rep,⟨n,ks,rfl,z,g,hl,q⟩,bk⟩:=h
 obtain ⟨v,rfl,r1⟩:=fJ rep
 obtain ⟨a,a',bs,rfl,k3,k5,hlen⟩:=HR ok r1 z
 obtain ⟨mem1,ez,e1,e2⟩:=gU hlen
 refine ⟨a,a',_,rfl,k3,fN ok k5 g.good,fun x hx => ?_,fun x hx y hy => ?_,by rw [zbS,zbJ];omega,oF ok k5 bk q⟩
 ·obtain ⟨k,hk,e⟩:=mem1 x hx
  rw [e];exact g.fst k hk
 ·obtain ⟨k,hk,e⟩:=mem1 x hx
  obtain ⟨k',hk',e'⟩:=mem1 y hy
  rw [e,e'];exact g.cmp k hk k' hk'⟩
end
end M
namespace L2
open PySem PySem.Spec PyProof.Rows
section
variable {X:Cx}
noncomputable def xr (K:PySem.W.Frag):V→List V→Hp→VK→Prop:=fun x vs H Q=>∃ (a:Addr) (v:V) (xs:List V) (d:PyData) (ds:List PyData) (j:Nat) (c:PyData),x = .ref a∧vs=[v]∧H a=some (.lst xs)∧dw K H ds xs∧bC K H d v∧PySem.SeqAt.shaped d=true∧PyData.canLayAll0 ds=true∧ds[j]? = some c∧PyData.eqv c d=true∧(∀ m c',m<j→ds[m]? = some c'→PyData.eqv c' d=false)∧Q (.int (j:Nat)) H
theorem yL {k:Nat} (hr:bf k X.A):Fv X "list.index" (xr X.K):=by
 intro pins s σ H x vs v us Q I rx rv h
 obtain ⟨a,v',xs,d,ds,j,c,rfl,rfl,hH,h1,h2,h3,h4,hj,hc,hno,q⟩:=h
 cases rx
 obtain ⟨u,rfl,ru⟩:=vals1 rv
 obtain ⟨its,n,r,e,hz⟩:=I.lst hH
 obtain ⟨as,ra⟩:=I.reads d v' u h2 ru
 obtain ⟨bs,rb⟩:=I.readsAll ds xs its h1 r
 have hu:=hr.un
 have hm:=PySem.SeqAt.readsAll_map ds its bs h4 rb
 have hlen:its.length=ds.length:=by rw [← hm,zbJ]
 have hjl:j<its.length:=by rw [hlen];exact (zae.mp hj).1
 have at_:∀ m (hm':m<its.length),ds[m]? = some (PySem.SeqAt.readOf s.heap its[m]):=fun m hm'=>by
  rw [← hm,zbf,zak hm'];rfl
 have hz2:its.length≤sizeLine:=by rw [← r.length];exact hz
 refine call_meets F.slot_list_index ⟨_,e,rfl⟩ F.entry_list_index (F.args_list_index_2 _ _) (PySem.SeqAt.list_indexAt a its.toArray n _ _ u (fun y=>PyData.eqv (PySem.SeqAt.readOf s.heap y) d) j (by simpa using hjl) (by rw [sizeLine_eq] at hz2;omega) ?_ ?_) ⟨e,?_,?_⟩
 ·have:=at_ j hjl
  rw [hj] at this
  show PyData.eqv (PySem.SeqAt.readOf s.heap its[j]) d=true
  rw [← zcB.inj this];exact hc
 ·intro m hm1 hm2
  exact hno m _ hm2 (at_ m (by simpa using hm1))
 ·exact PySem.SeqAt.items_eqAt (vs:=its.toArray) rb ra h4 (PySem.SeqAt.canLay_of_shaped h3) (PyProof.Rows.room_in_shaped h3 (by omega))
 ·exact ⟨.int _,H,I.tok _,⟨_,rfl⟩,q⟩
end
end L2
namespace M
open PySem PySem.Spec PyProof.Rows L2
noncomputable def yb:AM:=fun x ds S Q=>∃ (n:Nat) (es:List D) (e:D) (j:Nat) (c:D),x = .loc n∧ds=[e]∧S[n]? = some (some (.lst es))∧fit e=true∧fit (.lst es)=true∧es[j]? = some c∧PyData.eqv (py c) (py e)=true∧(∀ m c',m<j→es[m]? = some c'→PyData.eqv (py c') (py e)=false)∧Q (.dat (.int (j:Nat))) S
section
variable {X:Cx}
theorem sD {k:Nat} (hr:bf k X.A):MJ X "list.index" yb:=⟨mM (X:=X) (t:=xr X.K) (yL hr) fun x xs H Q h=>by
 obtain ⟨w,d,ds,S,Qa,ok,r1,r2,⟨n,es,e,j,c,rfl,rfl,hS,f1,f2,hc,h1,h2,q⟩,bk⟩:=h
 obtain ⟨a,ys,rfl,ha,hH,hrp⟩:=vd ok r1 hS
 obtain ⟨v,rfl,r3⟩:=fJ r2
 have hpe:bD S e=e:=lK (by unfold fit at f1;rw [zbE] at f1;exact f1.1)
 obtain ⟨g1,s1⟩:=dR ok r3 (by rw [hpe];exact f1)
 rw [hpe] at g1 s1
 have hp:bU es=true:=by
  unfold fit at f2
  rw [zbE] at f2
  simpa [b6] using f2.1
 have e3:=jJ ok.base es ys hp hrp
 refine ⟨a,v,ys,py e,cY es,j,py c,rfl,rfl,hH,e3,g1,s1,sR f2,?_,h1,fun m c' hm hc' => ?_,bk.dat .refl ok .int q⟩
 ·rw [qm,zbf,hc];rfl
 ·rw [qm,zbf] at hc'
  cases z:es[m]? with
  | none=>rw [z] at hc';cases hc'
  | some c2=>rw [z] at hc';cases hc';exact h2 m c2 hm z⟩
end
noncomputable def Ga (b:AS):AS:=fun D δ S=>∃ m ds,S[m]? = some (some (.lst ds))∧b D (δ.map (Option.map (sb m (.lst ds)))) (S.set m none)
section
variable {K:PySem.W.Frag}
theorem DP {w w':Wd}{m:Nat}{ds:List D} (le:w.le w') (f:∀ v,Rep K w (.loc m) v→Rep K w' (.lst ds) v) {d:D}{x:V} (h1:Rep K w d x):Rep K w' (sb m (.lst ds) d) x:=by
 cases d with
 | loc n =>
  show Rep K w' (if n=m then _ else _) x
  by_cases hn:n=m
  ·rw [if_pos hn];subst hn;exact f x h1
  ·rw [if_neg hn];exact h1.le le
 | _=>exact h1.le le
theorem G4 {b:AS}:∀ D σ H,f7 K (Ga b) D σ H→f7 K b D σ H:=by
 rintro D σ H ⟨w,δ,S,Da,ok,env,⟨m,ds,hS,q⟩,bk⟩
 obtain ⟨w2,le2,ok2,f⟩:=KA ok hS
 refine ⟨w2,_,_,Da,ok2,⟨?_,fun i d e => ?_⟩,q,?_⟩
 ·rw [zbJ];exact env.1
 ·rw [zbf] at e
  cases z:δ[i]? with
  | none=>rw [z] at e;cases e
  | some o =>
   rw [z] at e
   cases o with
   | none=>cases e
   | some d0 =>
    have e:sb m (.lst ds) d0=d:=by simpa using e
    subst e
    obtain ⟨v,h1,h2⟩:=env.2 i d0 z
    exact ⟨v,h1,DP le2 f h2⟩
 ·exact bk.le le2
end
theorem frs {X:Cx}{st:List Stmt}{t:AS} (h:zN X st t):zN X st (Ga t):=⟨Me h.p G4⟩
end M
namespace L2
open PySem
section
variable {K:PySem.W.Frag}{mg:Str→Option Value}{C:Addr}
structure rG (K:PySem.W.Frag) (x:Str) (st:Stmt):Prop where
 ex:∃ f oc od kV doc pm an cdv ct osl,zcs K mainGlobals x=some (some (.ref f))∧K.lookup f=some ⟨oc,od,.func (zcr x x (cK st) (bE st) (ai st) .none kV doc pm an cdv ct),osl⟩∧zbZ K cdv x=true∧zbY K (.ref f)=true
structure nV (K:PySem.W.Frag) (C:Addr) (m q:Str) (st:Stmt):Prop where
 ex:∃ f oc od kV doc pm an cdv ct osl,zbX K (.ref C) m=some (some (.ref f))∧K.lookup f=some ⟨oc,od,.func (zcr m q (cK st) (bE st) (ai st) .none kV doc pm an cdv ct),osl⟩∧zbZ K cdv q=true∧zbY K (.ref f)=true∧zcq K (.ref f)=true
theorem rG.of {x:Str}{st:Stmt}{f:Addr}{oc:Value}{od an:Option Addr}{osl:Array (Option Value)}{kV doc pm cdv ct:Value} (a:zcs K mainGlobals x=some (some (.ref f))) (l:K.lookup f=some ⟨oc,od,.func (zcr x x (cK st) (bE st) (ai st) .none kV doc pm an cdv ct),osl⟩)
  (c:zbZ K cdv x=true) (k:zbY K (.ref f)=true):rG K x st:=⟨_,_,_,_,_,_,_,_,_,_,a,l,c,k⟩
theorem nV.of {m q:Str}{st:Stmt}{f:Addr}{oc:Value}{od an:Option Addr}{osl:Array (Option Value)}{kV doc pm cdv ct:Value} (a:zbX K (.ref C) m=some (some (.ref f))) (l:K.lookup f=some ⟨oc,od,.func (zcr m q (cK st) (bE st) (ai st) .none kV doc pm an cdv ct),osl⟩)
  (c:zbZ K cdv q=true) (k:zbY K (.ref f)=true) (i:zcq K (.ref f)=true):nV K C m q st:=⟨_,_,_,_,_,_,_,_,_,_,a,l,c,k,i⟩
theorem rG.src {x:Str}{st:Stmt}{ps:List Str}{h:Heap} (e:rG K x st) (X:K.In h) (G:h.Ns mainGlobals mg)
  (b:∀ (kV doc pm:Value) (an:Option Addr) (cdv ct:Value) (us:List Value),us.length=ps.length→bindArgs (zcr x x (cK st) (bE st) (ai st) .none kV doc pm an cdv ct) ⟨us,[]⟩=pure (ps.zip us)):Src K mg x ps st:=by
 obtain ⟨f,oc,od,kV,doc,pm,an,cdv,ct,osl,a,l,c,k⟩:=e.ex
 exact J.Gv X G a l c k b
theorem nV.src {m q:Str}{st:Stmt}{ps:List Str} (e:nV K C m q st)
  (b:∀ (kV doc pm:Value) (an:Option Addr) (cdv ct:Value) (us:List Value),us.length=ps.length→bindArgs (zcr m q (cK st) (bE st) (ai st) .none kV doc pm an cdv ct) ⟨us,[]⟩=pure (ps.zip us)):M.cE K C m q ps st:=by
 obtain ⟨f,oc,od,kV,doc,pm,an,cdv,ct,osl,a,l,c,k,i⟩:=e.ex
 exact ⟨f,_,iZ (st:=st) l c k,⟨a,i,k⟩,(iZ (st:=st) l c k).binds b⟩
end
end L2
namespace K04
open PySem PySem.Spec L2 PyProof.Rows
noncomputable def top (i:Nat):Stmt:=PySem.Challenge.pw_pathask_k04_steps_and_webs_alike.main.body.getD i (.Pass ⟨0,0,0,0⟩)
structure Txt (K:PySem.W.Frag) (mg:Str→Option Value) (C fi:Addr):Prop where
 len:mg "len" = none
 isinstance:mg "isinstance" = none
 str:mg "str" = none
 bool:mg "bool" = none
 int:mg "int" = none
 tuple:mg "tuple" = none
 list:mg "list" = none
 dict:mg "dict" = none
 all:mg "all" = none
 max:mg "max" = none
 min:mg "min" = none
 repr:mg "repr" = none
 range:mg "range" = none
 reversed:mg "reversed" = none
 sorted:mg "sorted" = none
 Kp:∃ t,mg "MOST_KNOTS" = some (.int 40 t)
 Dv:∃ t,mg "MOST_TIES" = some (.int 300 t)
 marks:∃ t,mg "MOST_MARKS" = some (.int 5 t)
 Bq:mg "Web" = some (.ref C)
 cl:yr K C
 uV:Mk K C fi
 bS:eS K C "marked"
 n_tied:eS K C "tied"
 n_near:eS K C "near"
section
variable {X:Cx}{pos:Pos}{mg:Str→Option Value}{K:PySem.W.Frag}{C fi:Addr}
theorem BR {x:Str}{i:Int} (e:∃ t,mg x=some (.int i t)) (hg:Gl X x) (hm:X.mg=mg) (hd:(x==("__debug__" : Str))=false):M.GE X (.Name x pos) (M.aC (.int i)):=by
 obtain ⟨t,e⟩:=e
 exact M.qt (v:=.int i) hg (by rw [hm];exact e) ⟨t,rfl⟩ (fun _=>.int) hd
theorem Txt.n5 (T:Txt K mg C fi) (hg:Gl X "MOST_KNOTS" := by rfl) (hm:X.mg=mg:=by rfl):M.GE X (.Name "MOST_KNOTS" pos) (M.aC (.int 40)):=BR T.Kp hg hm (by decide +kernel)
theorem Txt.qw (T:Txt K mg C fi) (hg:Gl X "MOST_TIES" := by rfl) (hm:X.mg=mg:=by rfl):M.GE X (.Name "MOST_TIES" pos) (M.aC (.int 300)):=BR T.Dv hg hm (by decide +kernel)
theorem Txt.nZ (T:Txt K mg C fi) (hg:Gl X "MOST_MARKS" := by rfl) (hm:X.mg=mg:=by rfl):M.GE X (.Name "MOST_MARKS" pos) (M.aC (.int 5)):=BR T.marks hg hm (by decide +kernel)
end
noncomputable def sM (c:Nat):Bool:=decide (97≤c)&&decide (c≤122)
open M M6
noncomputable abbrev Fj (a b:Str):Prop:=a.cps.toList<b.cps.toList
theorem pW (a:Str) : ¬ Fj a a:=List.lt_irrefl _
theorem Gw {a b:Str} (h : ¬ Fj a b) (g : ¬ Fj b a):a=b:=by
 have e:a.cps.toList=b.cps.toList:=List.le_antisymm (zcw.mp g) (zcw.mp h)
 obtain ⟨a⟩:=a
 obtain ⟨b⟩:=b
 have e:a.toList=b.toList:=e
 rw [Array.toList_inj.mp e]
noncomputable def SU (l:List Str):Prop:=l.Pairwise Fj
theorem xj:∀ (l:List Str) (p:Str),risingS p l=true→(p::l).Pairwise fun a b => ¬ Fj b a
 | [],p,_=>List.pairwise_singleton ..
 | x::r,p,h=>by
  have h:(!ltCps x.cps.toList p.cps.toList&&risingS x r)=true:=h
  rw [zbE] at h
  have ih:=xj r x h.2
  have hx : ¬ Fj x p:=by
   have:=h.1
   rw [ltCps_eq] at this
   simpa using this
  refine zaV.mpr ⟨fun y hy => ?_,ih⟩
  rcases zca.mp hy with rfl | hy
  ·exact hx
  ·intro hlt
   have h2 : ¬ Fj y x:=(zaV.mp ih).1 y hy
   exact hx (List.lt_of_le_of_lt (zcw.mp h2) hlt)
theorem yz {l:List Str} (h:sortedS l=true):l.Pairwise fun a b => ¬ Fj b a:=by
 cases l with
 | nil=>exact .nil
 | cons x r=>exact xj r x h
theorem FE {l:List Str} (hn:l.Nodup) (h:sortedS l=true):SU l:=by
 have h2:l.Pairwise fun a b=>a≠b:=hn
 refine ((yz h).and h2).imp fun {a b} ⟨h1,h2⟩ => ?_
 by_cases c:Fj a b
 ·exact c
 ·exact absurd (Gw c h1) h2
theorem FF:∀ {l m:List Str},SU l→SU m→(∀ y,y∈l↔y∈m)→l=m
 | [],[],_,_,_=>rfl
 | [],y::m,_,_,h=>by have:=(h y).mpr (by simp);simp at this
 | x::l,[],_,_,h=>by have:=(h x).mp (by simp);simp at this
 | x::l,y::m,hl,hm,h=>by
  have h1:=zaV.mp hl
  have h2:=zaV.mp hm
  have e:x=y:=by
   have a:=(h x).mp (by simp)
   have b:=(h y).mpr (by simp)
   rcases zca.mp a with a | a
   ·exact a
   ·rcases zca.mp b with b | b
    ·exact b.symm
    ·exact absurd (List.lt_trans (h1.1 y b) (h2.1 x a)) (pW x)
  subst e
  rw [FF (m:=m) h1.2 h2.2 fun z => ?_]
  have:=h z
  simp only [zca] at this
  constructor
  ·intro hz
   rcases this.mp (.inr hz) with e | e
   ·subst e;exact absurd (h1.1 z hz) (pW z)
   ·exact e
  ·intro hz
   rcases this.mpr (.inr hz) with e | e
   ·subst e;exact absurd (h2.1 z hz) (pW z)
   ·exact e
theorem DC {l m n:List Str} (hn:n.Nodup) (h1:l.Perm n) (h2:m.Perm n) (s1:sortedS l=true) (s2:sortedS m=true):l=m :=
 FF (FE (h1.nodup_iff.mpr hn) s1) (FE (h2.nodup_iff.mpr hn) s2) fun y=>h1.mem_iff.trans h2.mem_iff.symm
noncomputable abbrev T3 (t:Str×Str×Str):D:=.tup [.str t.1,.str t.2.1,.str t.2.2]
theorem oR (t:Str×Str×Str):py (T3 t) = .tuple [.str t.1,.str t.2.1,.str t.2.2]:=by simp [T3,py,cY]
theorem fL {a b:Str×Str×Str} (h:py (T3 a)=py (T3 b)):a=b:=by
 obtain ⟨a1,a2,a3⟩:=a
 obtain ⟨b1,b2,b3⟩:=b
 simp only [oR,PyData.tuple.injEq,zcD.injEq,PyData.str.injEq] at h
 rw [h.1,h.2.1,h.2.2.1]
noncomputable def iF (t:Str×Str×Str):Bool:=eV t.1&&eV t.2.1&&eV t.2.2
theorem good3 {t:Str×Str×Str} (h:iF t=true):fm (T3 t):=by
 unfold iF at h
 rw [zbE,zbE] at h
 refine ⟨by simp [T3,b6,bU],?_,?_,_,rfl⟩
 ·rw [oR];simp [b8,dz,PyData.canLay0,iX h.1.1,iX h.1.2,iX h.2]
 ·rw [oR];simp [PyData.depth,PyData.depthAll]
theorem qV (a b:Str×Str×Str):aN (py (T3 a)) (py (T3 b))=true:=by
 rw [oR,oR];simp [aN,dc]
theorem gu {ts:List (Str×Str×Str)} (h:∀ t∈ts,iF t=true):yc (ts.map T3) :=
 ⟨fun k hk=>by obtain ⟨t,ht,rfl⟩:=zck.mp hk;exact good3 (h t ht),fun k hk=>by obtain ⟨t,_,rfl⟩:=zck.mp hk;exact ⟨_,_,oR t⟩,fun k hk l hl=>by obtain ⟨t,_,rfl⟩:=zck.mp hk;obtain ⟨u,_,rfl⟩:=zck.mp hl;exact qV t u⟩
theorem Ii (ts:List (Str×Str×Str)) (t:Str×Str×Str):y9 (ts.map T3) (T3 t)=decide (t∈ts):=by
 unfold y9
 rw [zch]
 by_cases h:t∈ts
 ·rw [decide_eq_true h]
  exact zbD.mpr ⟨t,h,by simp⟩
 ·rw [decide_eq_false h]
  refine zbe.mpr fun x hx z=>h ?_
  have:py (T3 x)=py (T3 t):=of_decide_eq_true z
  rw [← fL this];exact hx
theorem put3 {ts:List (Str×Str×Str)}{t:Str×Str×Str} (h:t ∉ ts):putN (ts.map T3) (T3 t)=(ts++[t]).map T3:=by
 have:=Ii ts t
 rw [decide_eq_false h] at this
 unfold putN
 unfold y9 at this
 rw [this,if_neg (by decide),zbR];rfl
theorem pL:∀ {l m:List (Str×Str×Str)},l.Nodup→ug (l.map T3)→ug (m.map T3)→m.Perm l→l=m
 | [],m,_,_,_,hp=>by rw [hp.eq_nil]
 | a::l,[],_,_,_,hp=>by have:=hp.length_eq;simp at this
 | a::l,b::m,hn,hl,hm,hp=>by
  have Kl:∀ {x y:Str×Str×Str},x≠y→dY (py (T3 y)) (py (T3 x))=false→dY (py (T3 x)) (py (T3 y))=true:=fun {x y} hne h=>by
   rcases qH _ _ (qV x y) (fun e=>hne (fL e)) with z | z
   ·exact z
   ·rw [h] at z;cases z
  have h1:=zaV.mp (show ((a::l).map T3).Pairwise _ from hl)
  have h2:=zaV.mp (show ((b::m).map T3).Pairwise _ from hm)
  have e:a=b:=by
   apply Classical.byContradiction
   intro hne
   have ha:a∈m:=by
    rcases zca.mp (hp.mem_iff.mpr (zaR ..)) with z | z
    ·exact absurd z hne
    ·exact z
   have hb:b∈l:=by
    rcases zca.mp (hp.mem_iff.mp (zaR ..)) with z | z
    ·exact absurd z.symm hne
    ·exact z
   have c1:=h1.1 (T3 b) (zck.mpr ⟨b,hb,rfl⟩)
   have c2:=h2.1 (T3 a) (zck.mpr ⟨a,ha,rfl⟩)
   have:=Kl hne c1
   rw [c2] at this;cases this
  subst e
  rw [pL (zbL.mp hn).2 h1.2 h2.2 hp.cons_inv]
theorem pM {ts:List (Str×Str×Str)}{ks:List D} (hp:ks.Perm (ts.map T3)):∃ us:List (Str×Str×Str),us.Perm ts∧ks=us.map T3:=gy hp
open PySem L2
noncomputable abbrev vq:=M.vq
noncomputable abbrev xg:Stmt:=top 14
noncomputable abbrev Fq:List Str:=["_law_script","_law_k","_law_seed"]
noncomputable abbrev gf:List Str:=["_law_script","_law_k"]
theorem uG:aG Fq gf (ai xg):=⟨rfl,rfl,rfl,by decide +kernel,rfl,by decide +kernel,by decide +kernel⟩
noncomputable abbrev w9:Stmt:=top 15
noncomputable abbrev Fp:List Str:=["_law_cell"]
noncomputable abbrev gc:List Str:=["_law_cell"]
theorem GP:aG Fp gc (ai w9):=⟨rfl,rfl,rfl,by decide +kernel,rfl,by decide +kernel,by decide +kernel⟩
noncomputable abbrev wV:Stmt:=top 16
noncomputable abbrev Fo:List Str:=["_law_feed_here","_law_many","_law_found","_law_one","_law_two"]
noncomputable abbrev di:List Str:=["_law_feed_here","_law_many"]
theorem qa:aG Fo di (ai wV):=⟨rfl,rfl,rfl,by decide +kernel,rfl,by decide +kernel,by decide +kernel⟩
noncomputable abbrev qh:Stmt:=top 17
noncomputable abbrev CY:List Str:=["_law_feed_here","_law_many","_law_letters","_law_word","_law_way","_law_turn","_law_names_here","_law_place","_law_start","_law_k","_law_sign"]
noncomputable abbrev eO:List Str:=["_law_feed_here","_law_many"]
theorem cS:aG CY eO (ai qh):=⟨rfl,rfl,rfl,by decide +kernel,rfl,by decide +kernel,by decide +kernel⟩
noncomputable def dM (H:Hp) (p:Addr) (d:Nat):Prop:=∃ l s:Int,H p=some (.dK (vq l s d))∧0≤l∧0≤s∧s<1000003
theorem Mr {l s d:Int}:eW (vq l s d) (Sum.inr "left")=some (.int l):=rfl
theorem Mq {l s d:Int}:eW (vq l s d) (Sum.inr "seed")=some (.int s):=rfl
theorem Lv {l s d:Int}:eW (vq l s d) (Sum.inr "drawn")=some (.int d):=rfl
theorem D9 {l s d z:Int}:putK (vq l s d) (Sum.inr "drawn") (.int z)=vq l s z:=rfl
theorem Hz {l s d z:Int}:putK (vq l s d) (Sum.inr "left") (.int z)=vq z s d:=rfl
section
variable {P:Program}{w:World}{K:PySem.W.Frag}{mg:Str→Option Value}{base:Heap}{C fi:Addr}
noncomputable def Av (K:PySem.W.Frag):Sp:=fun vs H Q _=>∃ (a:Addr) (ns:List Int) (k:Nat),vs=[.ref a,.int k]∧dh K H a (ns.map V.int)∧k<1000∧∀ z,Q (.int z) H
theorem IM (T:Txt K mg C fi) (F:Src K mg "_law_cell_at" gf xg):Def P w K mg base 1 "_law_cell_at" gf (Av K):=by
 refine J.EF F uG (fun vs H Q E h => ?_) (fun f cdv A outer s H vs Q E hr h => ?_)
 ·obtain ⟨a,ns,k,rfl,_⟩:=h;rfl
 ·obtain ⟨a,ns,k,rfl,hS,hk,q⟩:=h
  refine ⟨_,(J.af (J.bG (J.aA J5 (J.pv 1) (J.fW Cc (by rfl) T.len (by decide +kernel) (J.ao (J.pv 0) J.aa)) (br _))
    (J.aj (J.aV (J.az MT (J.pv 0) (J.pv 1) (fun _ _=>rfl))))
    J.aQ)
   (J.af (J.aD (i:=2) uG.nd rfl (Or.inl rfl) J.ah)
   (J.af (J.bG (J.aA FO (J.fW Cc (by rfl) T.len (by decide +kernel) (J.ao (J.pv 0) J.aa)) J.ah (br _))
    (J.aj (J.aD (i:=2) uG.nd rfl (Or.inl rfl) (J.az MT (J.pv 0) (J.aO fz (J.pv 1) (J.fW Cc (by rfl) T.len (by decide +kernel) (J.ao (J.pv 0) J.aa))) (fun _ _=>rfl))))
    J.aQ)
   (J.aj (J.aV (J.aO dH (J.aO dH (J.aO fy (J.aO fz (J.pv 2) J.ah) J.ah) (J.aO fy J.ah (J.pv 1))) J.ah)))))),?_⟩
  have hl:Jr K (.ref a) H ns.length:=.inl ⟨_,hS,by simp⟩
  refine ⟨_,rfl,_,rfl,_,_,rfl,hl,_,_,rfl,rfl,_,rfl,?_⟩
  refine oh (fun h => ?_) (fun h => ?_)
  ·have hlt:k<ns.length:=by simpa using h
   have e:(ns.map V.int)[k]? = some (V.int ns[k]):=by simp [hlt]
   exact ⟨_,rfl,_,rfl,a,_,_,_,rfl,rfl,hS,dg e,q _⟩
  ·refine ⟨_,rfl,_,_,rfl,hl,_,_,rfl,rfl,_,rfl,?_⟩
   have fin:∀ z:Int,(z9 (vX (De fun i j=>.int (i+j)) (vX (De fun i j=>.int (i+j)) (vX (rI zP fun i j=>.int (i*j)) (vX (rI (fun _ j=>0<j) fun i j=>.int (i % j)) (l7 2) (tC (.int 1000003))) (tC (.int 48271))) (vX (rI zP fun i j=>.int (i*j)) (tC (.int 7919)) (l7 1))) (tC (.int 1)))) { nx:=fun _ H'=>Q .bN H',rt:=Q } [some (.ref a),some (.int k),some (.int z)] H:=fun z=>by
    refine ⟨_,rfl,_,_,rfl,rfl,(by show (0:Int)<1000003;decide),_,_,rfl,rfl,.inr ⟨by decide,by decide⟩,_,rfl,_,_,rfl,rfl,.inl ⟨by decide,by decide⟩,_,_,rfl,rfl,_,_,rfl,rfl,q _⟩
   refine oh (fun h => ?_) (fun h => ?_)
   ·have hp:0<ns.length:=by simpa using h
    have hm:k % ns.length<ns.length:=Nat.mod_lt _ hp
    have e:(ns.map V.int)[k % ns.length]? = some (V.int ns[k % ns.length]):=by simp [hm]
    have e2:((k:Int) % (ns.length:Int))=((k % ns.length:Nat):Int):=by simp
    refine ⟨_,rfl,_,rfl,_,rfl,_,_,rfl,hl,_,_,rfl,rfl,(by show (0:Int)<(ns.length:Int);omega),a,_,_,_,rfl,rfl,hS,(by rw [e2];exact dg e),fin _⟩
   ·exact fin 0
noncomputable def Au:Sp:=fun vs H Q _=>∃ z:Int,vs=[.int z]∧∀ p H',H p=none→dM H' p 0→(∀ b o,H b=some o→H' b=some o)→Q (.ref p) H'
theorem IK (T:Txt K mg C fi) (F:Src K mg "_law_feed" gc w9):Def P w K mg base 1 "_law_feed" gc Au:=by
 refine J.EF F GP (fun vs H Q E h => ?_) (fun f cdv A outer s H vs Q E hr h => ?_)
 ·obtain ⟨z,rfl,_⟩:=h;rfl
 ·obtain ⟨z,rfl,q⟩:=h
  refine ⟨_,(J.aj (J.aV (J.qv (J.gx J.aL (J.fW (zm rfl) (by rfl) T.max (by decide +kernel) (J.ao J.ah (J.ao (J.aO HB (J.pv 0) (J.aO HE J.ah J.ah)) J.aa))) (J.gx J.aL (J.aO fz (J.pv 0) J.ah) (J.gx J.aL J.ah J.qq))) rfl rfl (by simp) (by decide)))),?_⟩
  intro p hp
  refine ⟨_,rfl,_,_,rfl,rfl,⟨by decide,by decide,by decide⟩,_,_,rfl,rfl,_,_,rfl,?_⟩
  refine ⟨_,rfl,_,_,rfl,rfl,(by show (0:Int)<1000003;decide),aM,vq _ _ 0,rfl,(by show 3≤15;decide),?_⟩
  refine q p _ hp ⟨_,_,aM,?_,?_,?_⟩ fun b o e => ?_
  ·split <;> omega
  ·exact zbT _ (by decide)
  ·exact zaY _ (by decide)
  ·rw [aJ (aX e hp),aJ (aX e hp)];exact e
noncomputable def uy:Sp:=fun vs H Q _=>∃ (p:Addr) (n:Int) (d:Nat),vs=[.ref p,.int n]∧dM H p d∧d<1000∧0<n∧n<1000 ∧
 ∀ (z:Int) (H':Hp),0≤z→z<n→dM H' p (d+1)→(∀ b o,H b=some o→b≠p→H' b=some o)→Q (.int z) H'
theorem IB (T:Txt K mg C fi) (F:Src K mg "_law_next" di wV):Def P w K mg base 1 "_law_next" di uy:=by
 refine J.EF F qa (fun vs H Q E h => ?_) (fun f cdv A outer s H vs Q E hr h => ?_)
 ·obtain ⟨p,n,d,rfl,_⟩:=h;rfl
 ·obtain ⟨p,n,d,rfl,⟨l,sd,hp,hl,hs0,hs1⟩,hd,hn0,hn1,q⟩:=h
  have hu:=dW hr
  refine ⟨_,(J.af (J.jm hu (J.pv 0) J.aL (J.aO dH (J.c6 hu (J.pv 0) J.aL (fun _ _=>rfl)) J.ah) rfl)
   (J.af (J.bG (J.aA FO (J.c6 hu (J.pv 0) J.aL (fun _ _=>rfl)) J.ah (br _))
    (J.af (J.aD (i:=2) qa.nd rfl (Or.inl rfl) (J.aO fz (J.c6 hu (J.pv 0) J.aL (fun _ _=>rfl)) (J.pv 1)))
    (J.af (J.jm hu (J.pv 0) J.aL (J.aO xA (J.c6 hu (J.pv 0) J.aL (fun _ _=>rfl)) (J.pv 1)) rfl)
    (J.aj (J.aV (J.pv 2)))))
    J.aQ)
   (J.af (J.aD (i:=3) qa.nd rfl (Or.inl rfl) (J.aO fz (J.aO fy (J.aO dH (J.c6 hu (J.pv 0) J.aL (fun _ _=>rfl)) J.ah) (J.aO dH (J.aO fy (J.c6 hu (J.pv 0) J.aL (fun _ _=>rfl)) (J.c6 hu (J.pv 0) J.aL (fun _ _=>rfl))) J.ah)) J.ah))
   (J.af (J.aD (i:=4) qa.nd rfl (Or.inl rfl) (J.aO fz (J.aO dH (J.aO fy (J.pv 3) (J.pv 3)) (J.aO fy J.ah (J.c6 hu (J.pv 0) J.aL (fun _ _=>rfl)))) J.ah))
   (J.aj (J.aV (J.aO fz (J.aO fz (J.aO dH (J.aO fy (J.pv 4) (J.pv 4)) (J.aO fy J.ah (J.pv 3))) J.ah) (J.pv 1)))))))),?_⟩
  have e1:((d:Int)+1)=((d+1:Nat):Int):=by omega
  refine ⟨_,rfl,p,_,rfl,iJ.k (k:=Sum.inr "drawn") hp,_,_,rfl,rfl,_,rfl,p,_,rfl,vU.k (k:=Sum.inr "drawn") hp (by show 3<sizeLine;decide +kernel),?_⟩
  have h1:(upd H p (.dK (putK (vq l sd d) (Sum.inr "drawn") (.int ((d:Int)+1))))) p=some (.dK (vq l sd (d+1:Nat))):=by rw [aM,D9,e1]
  generalize hH:upd H p (.dK (putK (vq l sd d) (Sum.inr "drawn") (.int ((d:Int)+1))))=H1 at h1
  have k1:∀ b o,H b=some o→b≠p→H1 b=some o:=fun b o e hb=>by rw [← hH,aJ hb];exact e
  refine ⟨_,rfl,p,_,rfl,iJ.k (k:=Sum.inr "left") h1,_,_,rfl,rfl,_,rfl,?_⟩
  refine oh (fun h => ?_) (fun h => ?_)
  ·have hpos:0<l:=by simpa using h
   refine ⟨_,rfl,p,_,rfl,iJ.k (k:=Sum.inr "left") h1,_,rfl,_,_,rfl,rfl,hn0,?_⟩
   refine ⟨_,rfl,p,_,rfl,iJ.k (k:=Sum.inr "left") h1,_,rfl,_,_,rfl,rfl,⟨hn0,by omega⟩,_,rfl,p,_,rfl,vU.k (k:=Sum.inr "left") h1 (by show 3<sizeLine;decide +kernel),_,rfl,?_⟩
   refine q _ _ (zbT _ (by omega)) (zaY _ hn0) ⟨_,_,by rw [aM,Hz],Int.ediv_nonneg hl (by omega),hs0,hs1⟩ fun b o e hb => ?_
   rw [aJ hb];exact k1 b o e hb
  ·have gs:=iJ.k (k:=Sum.inr "seed") h1
   have gd:=iJ.k (k:=Sum.inr "drawn") h1
   have b1:=zbT ((sd+1)*(((d+1:Nat):Int)*((d+1:Nat):Int)+48271)) (show (65537:Int)≠0 by decide)
   have b2:=zaY ((sd+1)*(((d+1:Nat):Int)*((d+1:Nat):Int)+48271)) (show (0:Int)<65537 by decide)
   refine ⟨_,rfl,p,_,rfl,gs,_,_,rfl,rfl,_,rfl,p,_,rfl,gd,_,rfl,p,_,rfl,gd,_,_,rfl,rfl,.inl ⟨by omega,by omega⟩,_,_,rfl,rfl,_,_,rfl,rfl,.inl ⟨by omega,by omega⟩,_,_,rfl,rfl,(by show (0:Int)<65537;decide),?_⟩
   generalize ((sd+1)*(((d+1:Nat):Int)*((d+1:Nat):Int)+48271)) % 65537=one at b1 b2 ⊢
   have c1:=zbT (one*one+30269*((d+1:Nat):Int)) (show (65521:Int)≠0 by decide)
   have c2:=zaY (one*one+30269*((d+1:Nat):Int)) (show (0:Int)<65521 by decide)
   refine ⟨_,rfl,_,rfl,_,_,rfl,rfl,.inl ⟨by omega,by omega⟩,_,rfl,p,_,rfl,gd,_,_,rfl,rfl,.inl ⟨by decide,by decide⟩,_,_,rfl,rfl,_,_,rfl,rfl,(by show (0:Int)<65521;decide),?_⟩
   generalize (one*one+30269*((d+1:Nat):Int)) % 65521=two at c1 c2 ⊢
   refine ⟨_,rfl,_,rfl,_,_,rfl,rfl,.inl ⟨by omega,by omega⟩,_,rfl,_,_,rfl,rfl,.inl ⟨by decide,by decide⟩,_,_,rfl,rfl,_,_,rfl,rfl,(by show (0:Int)<65519;decide),_,rfl,_,_,rfl,rfl,hn0,?_⟩
   exact q _ _ (zbT _ (by omega)) (zaY _ hn0) ⟨l,sd,h1,hl,hs0,hs1⟩ k1
end
theorem alloc {H:Hp}{p:Addr}{o:HO} (h:H p=none):fF H (upd H p o):=fun b u e=>by rw [aJ (aX e h)];exact e
noncomputable def vP (x:Str):Prop:=∀ c∈x.cps.toList,sM c=true
theorem vP.append {x y:Str} (h:vP x) (g:vP y):vP (x++y):=fun c hc=>by
 have e:(x++y).cps.toList=x.cps.toList++y.cps.toList:=by show (x.cps++y.cps).toList=_;simp
 rw [e,zbI] at hc
 exact hc.elim (h c) (g c)
noncomputable def Em (x:Str):Bool:=x.cps.toList.all sM
theorem vc {x:Str} (h:Em x=true):vP x:=fun c hc=>zbz.mp h c hc
theorem uE {y:Str}{l u:Option Int} (h:vP y):vP (Txt.slice y l u):=by
 unfold Txt.slice
 split
 ·exact h
 ·intro c hc
  have hc:c∈(Builtin.Str.strSliceIndices l u 1 y.length).filterMap (y.cps[·]?):=by simpa using hc
  obtain ⟨i,_,e⟩:=List.mem_filterMap.mp hc
  exact h c (by
   have:y.cps.toList[i]? = some c:=by rw [← e];simp
   exact zaD this)
theorem xH:∀ ys:List Str,(∀ y∈ys,y.length=1∧vP y)→(Str.join "" ys).length=ys.length∧vP (Str.join "" ys)
 | [],_=>⟨rfl,fun c hc=>absurd hc (by simp [Str.join,Str.empty])⟩
 | [y],h=>⟨(h y (by simp)).1,(h y (by simp)).2⟩
 | y::z::r,h=>by
  obtain ⟨h1,h2⟩:=xH (z::r) fun x hx=>h x (zaA _ hx)
  obtain ⟨g1,g2⟩:=h y (by simp)
  have e:Str.join "" (y::z::r)=y ++ "" ++ Str.join "" (z::r):=rfl
  rw [e]
  refine ⟨?_,(g2.append (vc (by decide +kernel))).append h2⟩
  rw [strLen_append,strLen_append,h1,g1]
  show 1+0+_=_
  simp;omega
theorem Bf {c:Nat} (h:sM c=true):(⟨#[c]⟩:Str).length=1∧vP ⟨#[c]⟩:=⟨rfl,fun d hd=>by
 have:d=c:=by simpa using hd
 rw [this];exact h⟩
theorem wc:∀ ys:List Str,(∀ y∈ys,y.length=1∧vP y)→(ys.map (·.length)).sum=ys.length
 | [],_=>rfl
 | y::r,h=>by
  rw [zcb,List.sum_cons,wc r fun x hx=>h x (zaA _ hx),(h y (by simp)).1,zbu];omega
theorem dM.same {H H':Hp}{p:Addr}{d:Nat} (h:dM H p d) (e:fF H H'):dM H' p d:=by
 obtain ⟨l,s,h1,h2⟩:=h
 exact ⟨l,s,e _ _ h1,h2⟩
theorem sZ {xs:List V}{k:Nat} (h:k≤xs.length):lz xs (some (k:Int)) none=xs.drop k:=by
 unfold lz
 have e1:HT.bZ xs.length 0 (some (k:Int))=k:=by rw [HT.w6];omega
 have e2:HT.bZ xs.length xs.length none=xs.length:=by simp [HT.bZ]
 rw [e1,e2,zap (by rw [zbx];omega)]
theorem vA {xs:List V}{k:Nat} (h:k≤xs.length):lz xs none (some (k:Int))=xs.take k:=by
 unfold lz
 have e1:HT.bZ xs.length xs.length (some (k:Int))=k:=by rw [HT.w6];omega
 have e2:HT.bZ xs.length 0 none=0:=by simp [HT.bZ]
 rw [e1,e2,List.drop_zero,Nat.sub_zero]
noncomputable abbrev zM:Str := "abcdefghijklmnopqrstuvwxyz"
theorem xE:zM.length=26:=by decide +kernel
theorem Eo:vP zM:=vc (by decide +kernel)
theorem Bw {k:Nat} (h:k<26):∃ c,zM.cps.toList[k]? = some c∧sM c=true:=by
 have hl:zM.cps.toList.length=26:=by rw [zaO];exact xE
 refine ⟨zM.cps.toList[k]'(by omega),zak _,Eo _ (zbC _)⟩
noncomputable def Nm (y:Str):Prop:=1≤y.length∧y.length≤8∧vP y
theorem Nm.asc {y:Str} (h:Nm y):Ge y:=fun c hc=>by
 have:=h.2.2 c hc
 unfold sM at this
 simp at this;omega
theorem p6 {x:Str}{a b:Nat} (hab:a≤b) (hb:b≤x.length):(Txt.slice x (some (a:Int)) (some (b:Int))).length=b - a:=by
 unfold Txt.slice
 have e:=PySem.StrLaws.sliced_plain x hab hb
 have e2:(Builtin.Str.strSliceIndices (some (a:Int)) (some (b:Int)) 1 x.length).length=b - a:=by rw [PySem.StrLaws.strSliceIndices_plain hab hb];simp
 split
 ·rename_i h
  simp only [zbE,beq_iff_eq] at h
  omega
 ·show ((Builtin.Str.strSliceIndices (some (a:Int)) (some (b:Int)) 1 x.length).filterMap (x.cps[·]?)).toArray.size=_
  rw [zbd,e,zbv,zbx,zaO]
  have:x.cps.size=x.length:=rfl
  omega
theorem pZ {x:Str}{u:Int}:Txt.slice x none (some u)=Txt.slice x (some ((0:Nat):Int)) (some u):=by
 have e:Builtin.Str.strSliceIndices none (some u) 1 x.length=Builtin.Str.strSliceIndices (some ((0:Nat):Int)) (some u) 1 x.length:=by
  unfold Builtin.Str.strSliceIndices
  have e0:max (0:Int) (min 0 (x.length:Int))=0:=by omega
  simp [e0]
 unfold Txt.slice
 rw [e]
theorem ki {y:Str} (h:(decide (1≤y.length)&&decide (y.length≤8)&&Em y)=true):Nm y:=by
 rw [zbE,zbE] at h
 exact ⟨of_decide_eq_true h.1.1,of_decide_eq_true h.1.2,vc h.2⟩
theorem FU {α:Type} (f:Str→α) {zs:List Str} (h:(zs.map f).Nodup):zs.Nodup:=(zbm.mp h).imp fun {a b} h e=>h (by rw [e])
noncomputable def sI (z:Int) (i:Nat):Option Nat:=zM.cps.toList[((z+5*(i:Int)) % 26).toNat]?
theorem En:∀ i j,i<26→j<26→zM.cps.toList[i]? = zM.cps.toList[j]? → i=j:=by
 have hl:zM.cps.toList.length=26:=by rw [zaO];exact xE
 have hn:zM.cps.toList.Nodup:=by decide +kernel
 intro i j hi hj e
 exact (List.getElem?_inj (by omega) hn).mp e
theorem HX {z:Int} (h0:0≤z) (h1:z<26):((zcC 8).map (sI z)).Nodup:=by
 refine zbm.mpr (zah.mpr fun i j hi hj hij e => ?_)
 rw [List.getElem_range,List.getElem_range] at e
 rw [zbn] at hi hj
 unfold sI at e
 have:=En _ _ (by omega) (by omega) e
 omega
noncomputable def wz:Sp:=fun vs H Q _=>∃ (p:Addr) (m d:Nat),vs=[.ref p,.int m]∧dM H p d∧d+20<1000∧m≤8 ∧
 ∀ (l:Addr) (ys:List Str) (H':Hp) (d':Nat),H l=none→H' l=some (.lst (ys.map V.str))→ys.length=m→(∀ y∈ys,Nm y)→ys.Nodup→dM H' p d'→d'≤d+20→(∀ b o,H b=some o→b≠p→H' b=some o)→Q (.ref l) H'
section
variable {P:Program}{w:World}{K:PySem.W.Frag}{mg:Str→Option Value}{base:Heap}{C fi:Addr}
theorem EN (T:Txt K mg C fi) (F:Src K mg "_law_names" eO qh) (D_law_next:Def P w K mg base 1 "_law_next" di uy):Def P w K mg base 2 "_law_names" eO wz:=by
 refine J.EF F cS (fun vs H Q E h => ?_) (fun f cdv A outer s H vs Q E hr h => ?_)
 ·obtain ⟨p,m,d,rfl,_⟩:=h;rfl
 ·obtain ⟨p,m,d,rfl,hf,hd,hm,q⟩:=h
  refine ⟨_,(J.af (J.aD (i:=2) cS.nd rfl (Or.inr rfl) J.aL)
   (J.af (J.aD (i:=3) cS.nd rfl (Or.inr rfl) (J.m8 PySem.F.plainAttrs_str PySem.F.slot_str_join PySem.F.type_str_join HV J.aL (J.ao (J.cT (N:=["_law_k","_law_letters","_law_feed_here"]) (caps:=[none,some 2,some 0]) (eK (by decide +kernel)) (by rfl) (by rfl) rfl (J.bK (by rfl) T.range (J.ao J.ah J.aa)) (fun _ _ _ _=>(J.aq (i:=0) (by decide +kernel:List.Nodup (["_law_k","_law_letters","_law_feed_here"]:List Str)) rfl (Or.inl rfl))) (fun _ _ _ _=>J.cH) (fun _ _ _ _=>(J.az vh (J.pv 1) (J.aH D_law_next (hr.mono (by decide)) (by rfl) jv (J.ao (J.pv 2) (J.ao J.ah J.aa))) (fun _ _=>rfl)))) J.aa)))
   (J.af (J.aD (i:=4) cS.nd rfl (Or.inl rfl) (J.aH D_law_next (hr.mono (by decide)) (by rfl) jv (J.ao (J.pv 0) (J.ao J.ah J.aa))))
   (J.af (J.aD (i:=5) cS.nd rfl (Or.inl rfl) (J.aH D_law_next (hr.mono (by decide)) (by rfl) jv (J.ao (J.pv 0) (J.ao J.ah J.aa))))
   (J.af (J.bG (J.aA Bd (J.pv 4) J.ah (br _))
    (J.aj (J.bL (i:=6) cS.nd rfl rfl (N:=["_law_k","_law_word"]) (caps:=[none,some 3]) (eK (by decide +kernel)) (by rfl) (by rfl) rfl (J.bK (by rfl) T.range (J.ao J.ah J.aa)) (fun _ _ _ _=>(J.aq (i:=0) (by decide +kernel:List.Nodup (["_law_k","_law_word"]:List Str)) rfl (Or.inl rfl))) (fun _ _ _ _=>J.cH) (fun _ _ _ _=>(J.b7 pY (J.pv 1) J.c5 (J.cI (J.aO dH (J.pv 0) J.ah))))))
    (J.aj (J.bG (J.aA Bd (J.pv 4) J.ah (br _))
     (J.aj (J.aD (i:=6) cS.nd rfl (Or.inl rfl) (J.cy (J.ao J.aL (J.ao J.aL (J.ao J.aL (J.ao J.aL (J.ao J.aL (J.ao J.aL (J.ao J.aL (J.ao J.aL J.aa)))))))))))
     (J.af (J.aD (i:=7) cS.nd rfl (Or.inl rfl) (J.aH D_law_next (hr.mono (by decide)) (by rfl) jv (J.ao (J.pv 0) (J.ao (J.aO dH (J.pv 5) J.ah) J.aa))))
     (J.af (J.aD (i:=8) cS.nd rfl (Or.inl rfl) (J.aH D_law_next (hr.mono (by decide)) (by rfl) jv (J.ao (J.pv 0) (J.ao J.ah J.aa))))
     (J.af (J.aD (i:=6) cS.nd rfl (Or.inl rfl) (J.cy J.aa))
     (J.aj (J.cV PassesOwn.never rfl (J.bK (by rfl) T.range (J.ao J.ah J.aa)) (J.aq (i:=9) cS.nd rfl (Or.inl rfl))
      (J.af (J.aD (i:=10) cS.nd rfl (Or.inl rfl) (J.az vh (J.pv 2) (J.aO fz (J.aO dH (J.pv 8) (J.aO fy J.ah (J.pv 9))) J.ah) (fun _ _=>rfl)))
      (J.aj (J.aE (J.m8 PySem.F.plainAttrs_list PySem.F.slot_list_append PySem.F.type_list_append oU (J.pv 6) (J.ao (J.aO iW (J.aO iW (J.b7 pY (J.pv 3) J.c5 (J.cI (J.pv 7))) (J.pv 10)) (J.b7 pY (J.pv 3) (J.cI (J.aO dH (J.pv 7) J.ah)) (J.cI (J.aO dH (J.pv 5) J.ah)))) J.aa)))))))))))))
   (J.aj (J.aV (J.b7 LP (J.aO Be (J.b7 LP (J.pv 6) (J.cI (J.pv 5)) J.c5) (J.b7 LP (J.pv 6) J.c5 (J.cI (J.pv 5)))) J.c5 (J.cI (J.pv 1)))))))))),?_⟩
  obtain ⟨l0,s0,hp0,_⟩:=id hf
  have fin:∀ (l:Addr) (ys:List Str) (H2:Hp) (t:Nat) (d2:Nat) (v2 v3 v4 v7 v8 v9 v10:Option V),H l=none→H2 l=some (.lst (ys.map V.str))→ys.length=8→(∀ y∈ys,Nm y)→ys.Nodup→t<8→dM H2 p d2→d2≤d+20→(∀ b o,H b=some o→b≠p→H2 b=some o) →
    (z9 (Jv (AY K) (vX J3 (Jv (AY K) (l7 6) (oA (l7 5)) gW) (Jv (AY K) (l7 6) gW (oA (l7 5)))) gW (oA (l7 1)))) { nx:=fun _ H'=>Q .bN H',rt:=Q }
     [some (.ref p),some (.int m),v2,v3,v4,some (.int t),some (.ref l),v7,v8,v9,v10] H2:=by
   intro l ys H2 t d2 v2 v3 v4 v7 v8 v9 v10 nl hl hlen hnm hnd ht hf2 hd2 k2
   have L8:(ys.map V.str).length=8:=by rw [zbJ];exact hlen
   refine ⟨_,rfl,_,rfl,_,rfl,l,_,rfl,dh.of hl,fun a1 n1 => ?_⟩
   refine ⟨_,rfl,_,rfl,_,rfl,l,_,rfl,dh.of (alloc n1 _ _ hl),fun a2 n2 => ?_⟩
   refine ⟨a1,a2,_,_,rfl,rfl,alloc n2 _ _ aM,aM,?_,fun a3 n3 => ?_⟩
   ·rw [sZ (by omega),vA (by omega),zbx,zbv,sizeLine_eq];omega
   rw [sZ (by omega),vA (by omega),← List.map_drop,← List.map_take,← zbR] at *
   have L3:((ys.drop t++ys.take t).map V.str).length=8:=by rw [zbJ,zaS,zbx,zbv];omega
   refine ⟨_,rfl,_,rfl,a3,_,rfl,dh.of aM,fun a4 n4 => ?_⟩
   rw [vA (by omega),← List.map_take] at *
   have s3:fF H2 (upd (upd (upd H2 a1 (.lst ((ys.drop t).map V.str))) a2 (.lst ((ys.take t).map V.str))) a3 (.lst ((ys.drop t++ys.take t).map V.str))):=(alloc n1).trans ((alloc n2).trans (alloc n3))
   have n40:H a4=none:=by
    cases e:H a4 with
    | none=>rfl
    | some o =>
     by_cases hb:a4=p
     ·obtain ⟨l9,s9,e9,_⟩:=hf2
      have:=s3 _ _ e9
      rw [hb,this] at n4;cases n4
     ·have:=s3 _ _ (k2 _ _ e hb);rw [n4] at this;cases this
   refine q a4 ((ys.drop t++ys.take t).take m) _ d2 n40 aM ?_ ?_ (((zax.trans (List.Perm.of_eq (zaw t ys))).nodup_iff.mpr hnd).sublist (zbg _ _)) (hf2.same (s3.trans (alloc n4))) hd2 fun b o e hb=>alloc n4 _ _ (s3 _ _ (k2 b o e hb))
   ·rw [zbv,zaS,zbx,zbv];omega
   ·intro y hy
    rcases zbI.mp (zaF hy) with hy | hy
    ·exact hnm y (zaG hy)
    ·exact hnm y (zaF hy)
  refine DG fun N0 hN0 => ?_
  refine hN0 _ _ ?_
  refine DG fun N hN => ?_
  refine ⟨rfl,8,rfl,by decide,by decide,nk (fun j xs τ Hj=>∃ ys:List Str,xs=ys.map V.str∧ys.length=j∧(∀ y∈ys,y.length=1∧vP y)∧(∃ t0,τ=[t0,some (.str zM),some (.ref p)])∧dM Hj p (d+j)∧∀ b o,H b=some o→b≠p→Hj b=some o) ⟨[],rfl,rfl,by simp,⟨none,rfl⟩,hf,fun _ _ e _=>e⟩ ?_ ?_⟩
  ·rintro j xs τ Hj hj ⟨ys,rfl,hyl,hys,⟨t0,rfl⟩,hfj,kj⟩
   have hj:j<8:=hj
   refine Kv ?_
   refine ⟨_,rfl,_,rfl,p,26,d+j,rfl,hfj,by omega,by decide,by decide,fun zc Hc c0 c1 hfc kc => ?_⟩
   obtain ⟨k,rfl⟩:∃ k:Nat,zc=k:=⟨zc.toNat,by omega⟩
   obtain ⟨c,hc,hc2⟩:=Bw (k:=k) (by omega)
   refine ⟨_,_,c,rfl,rfl,(by rw [sizeLine_eq];decide +kernel),dg hc,?_,ys++[⟨#[c]⟩],(by simp),(by simp [hyl]),?_,⟨_,rfl⟩,hfc,fun b o e hb=>kc b o (kj b o e hb) hb⟩
   ·rw [zbJ,sizeLine_eq];omega
   ·intro y hy
    rcases zbI.mp hy with hy | hy
    ·exact hys y hy
    ·have:y=⟨#[c]⟩:=by simpa using hy
     subst this
     exact Bf hc2
  ·rintro xs τ Hj ⟨ys,rfl,hyl,hys,⟨t0,rfl⟩,hfj,kj⟩ b2 nb2
   have hyl:ys.length=8:=hyl
   obtain ⟨j1,j2⟩:=xH ys hys
   rw [← PySem.StrLaws.glued_eq_join] at j1 j2
   have j1:(Txt.join "" ys).length=ys.length:=j1
   have j2:vP (Txt.join "" ys):=j2
   refine ⟨"",b2,ys,rfl,rfl,dh.of aM,(by rw [wc ys hys];show _+_*0≤_;omega),?_⟩
   refine hN _ _ ?_
   generalize hW:Txt.join "" ys=W at j1 j2
   have hfa:=hfj.same (alloc (o:=.lst (ys.map V.str)) nb2)
   have ka:∀ b o,H b=some o→b≠p→upd Hj b2 (.lst (ys.map V.str)) b=some o:=fun b o e hb=>alloc nb2 _ _ (kj b o e hb)
   refine DG fun N hN => ?_
   refine ⟨_,rfl,p,3,_,rfl,hfa,by omega,by decide,by decide,fun zw Hw w0 w1 hfw kw => ?_⟩
   refine hN _ _ ?_
   refine DG fun N hN => ?_
   refine ⟨_,rfl,p,8,_,rfl,hfw,by omega,by decide,by decide,fun zt Ht t0 t1 hft kt => ?_⟩
   refine hN _ _ ?_
   obtain ⟨t,rfl⟩:∃ t:Nat,zt=t:=⟨zt.toNat,by omega⟩
   have ht:t<8:=by omega
   have kt2:∀ b o,H b=some o→b≠p→Ht b=some o:=fun b o e hb=>kt b o (kw b o (ka b o e hb) hb) hb
   have free:∀ {H3:Hp}{dd:Nat}{a:Addr},dM H3 p dd→(∀ b o,H b=some o→b≠p→H3 b=some o)→H3 a=none→H a=none:=fun {H3 dd a} hf3 k3 n=>by
    cases e:H a with
    | none=>rfl
    | some o =>
     by_cases hb:a=p
     ·obtain ⟨l9,s9,e9,_⟩:=hf3
      rw [hb,e9] at n;cases n
     ·have:=k3 _ _ e hb;rw [n] at this;cases this
   refine ⟨_,rfl,rfl,_,rfl,?_⟩
   refine oh (fun _ => ?_) (fun _ => ?_)
   ·-- parts of the word
    refine ⟨8,rfl,by decide,by decide,nk (fun j xs τ Hj=>Hj=Ht∧∃ zs:List Str,xs=zs.map V.str∧zs.length=j∧(∀ y∈zs,Nm y)∧zs.map (·.length)=(zcC j).map (· + 1)∧∃ t0,τ=[t0,some (.str W)]) ⟨rfl,[],rfl,rfl,by simp,rfl,none,by rw [← hW];rfl⟩ ?_ ?_⟩
    ·rintro j xs τ Hj hj ⟨rfl,zs,rfl,hzl,hzs,hzd,tt,rfl⟩
     have hj:j<8:=hj
     refine Kv ?_
     have el:(Txt.slice W none (some (0+(j:Int)+1))).length=j+1:=by
      rw [pZ,show (0+(j:Int)+1)=((j+1:Nat):Int) by omega]
      exact p6 (zcy _) (by omega)
     refine ⟨_,rfl,_,rfl,_,_,rfl,rfl,_,rfl,W,rfl,(by rw [j1,sizeLine_eq];omega),?_,rfl,zs++[_],(by rw [zbR];rfl),(by simp [hzl]),fun y hy => ?_,(by rw [zbR,hzd,List.range_succ,zbR,zcb,zcg,zcb,zcg,el]),_,rfl⟩
     ·rw [zbJ,sizeLine_eq];omega
     ·rcases zbI.mp hy with hy | hy
      ·exact hzs y hy
      ·have:y=Txt.slice W none (some (0+(j:Int)+1)):=by simpa using hy
       subst this
       exact ⟨by omega,by omega,uE j2⟩
    ·rintro xs τ Hj ⟨rfl,zs,rfl,hzl,hzs,hzd,tt,rfl⟩ a na
     have hzl:zs.length=8:=hzl
     exact fin a zs _ t _ _ _ _ _ _ _ _ (free hft kt2 na) aM hzl hzs (FU (·.length) (by rw [hzd];show ((zcC 8).map (· + 1)).Nodup;decide)) ht (hft.same (alloc na)) (by omega) fun b o e hb=>alloc na _ _ (kt2 b o e hb)
   ·refine ⟨_,rfl,rfl,_,rfl,?_⟩
    refine oh (fun _ => ?_) (fun _ => ?_)
    ·-- the words of the texts
     refine ⟨(by show 8≤sizeLine;decide),fun a na => ?_⟩
     refine fin a ["on","back","at","off","stay","many","then","either"] _ t _ _ _ _ _ _ _ _ (free hft kt2 na) aM rfl (fun y hy => ?_) (by decide +kernel) ht (hft.same (alloc na)) (by omega) fun b o e hb=>alloc na _ _ (kt2 b o e hb)
     simp only [zca,zbB,or_false] at hy
     rcases hy with rfl | rfl | rfl | rfl | rfl | rfl | rfl | rfl <;> exact ki (by decide +kernel)
    ·-- one sign changed
     refine ⟨_,rfl,_,rfl,_,_,rfl,rfl,p,(t:Int)+1,_,rfl,hft,by omega,by omega,by omega,fun zp Hp p0 p1 hfp kp => ?_⟩
     refine ⟨_,rfl,p,26,_,rfl,hfp,by omega,by decide,by decide,fun zs Hs s0 s1 hfs ks => ?_⟩
     have ks2:∀ b o,H b=some o→b≠p→Hs b=some o:=fun b o e hb=>ks b o (kp b o (kt2 b o e hb) hb) hb
     refine ⟨zcy _,fun a na => ?_⟩
     refine ⟨8,rfl,by decide,by decide,zd (fun j σ Hj=>∃ zl:List Str,Hj a=some (.lst (zl.map V.str))∧zl.length=j∧(∀ y∈zl,Nm y)∧zl.map (fun y=>y.cps.toList[zp.toNat]?)=(zcC j).map (sI zs)∧(∀ b o,Hs b=some o→Hj b=some o)∧∃ v9 v10,σ=[some (.ref p),some (.int m),some (.str zM),some (.str W),some (.int zw),some (.int t),some (.ref a),some (.int zp),some (.int zs),v9,v10])
      ⟨[],aM,rfl,by simp,rfl,alloc na,none,none,by rw [← hW];rfl⟩ ?_ ?_⟩
     ·rintro j σ Hj hj ⟨zl,ha,hzl,hzs,hzd,kj2,v9,v10,rfl⟩
      have hj:j<8:=hj
      obtain ⟨c,hc,hc2⟩:=Bw (k:=((zs+5*(0+(j:Int))) % 26).toNat) (by omega)
      refine ⟨_,rfl,_,rfl,_,rfl,_,_,rfl,rfl,.inl ⟨by decide,by decide⟩,_,_,rfl,rfl,_,_,rfl,rfl,(by show (0:Int)<26;decide),zM,_,c,rfl,rfl,(by rw [sizeLine_eq];decide +kernel),?_,?_⟩
      ·have e:((zs+5*(0+(j:Int))) % 26)=((((zs+5*(0+(j:Int))) % 26).toNat:Nat):Int):=by omega
       rw [e];exact dg hc
      ·have w1:W.length≤sizeLine:=by rw [j1,sizeLine_eq];omega
       have l1:(Txt.slice W none (some zp)).length≤8:=by have:=Txt.slice_le W none (some zp);omega
       have l2:(Txt.slice W (some (zp+1)) (some ((t:Int)+1))).length≤8:=by have:=Txt.slice_le W (some (zp+1)) (some ((t:Int)+1));omega
       have l3:(⟨#[c]⟩:Str).length=1:=rfl
       refine ⟨_,rfl,.inl ⟨rfl,_,dh.of ha⟩,_,rfl,_,rfl,_,rfl,W,rfl,w1,_,rfl,_,_,rfl,rfl,(by rw [l3,sizeLine_eq];omega),_,rfl,_,rfl,_,_,rfl,rfl,_,rfl,_,rfl,_,_,rfl,rfl,_,rfl,W,rfl,w1,_,_,rfl,rfl,(by rw [strLen_append,l3,sizeLine_eq];omega),a,_,_,rfl,rfl,ha,(by rw [zbJ,sizeLine_eq];omega),?_⟩
       refine ⟨zl++[_],by rw [aM,zbR];rfl,by simp [hzl],fun y hy => ?_,?_,fun b o e => ?_,_,_,rfl⟩
       ·rcases zbI.mp hy with hy | hy
        ·exact hzs y hy
        ·have:y=Txt.slice W none (some zp)++⟨#[c]⟩++Txt.slice W (some (zp+1)) (some ((t:Int)+1)):=by simpa using hy
         subst this
         obtain ⟨zp,rfl⟩:∃ z:Nat,zp=z:=⟨zp.toNat,by omega⟩
         have g1:(Txt.slice W none (some (zp:Int))).length=zp:=by rw [pZ];exact p6 (zcy _) (by omega)
         have g2:(Txt.slice W (some ((zp:Int)+1)) (some ((t:Int)+1))).length=(t+1) - (zp+1):=p6 (a:=zp+1) (b:=t+1) (by omega) (by omega)
         refine ⟨by rw [strLen_append,strLen_append,l3];omega,by rw [strLen_append,strLen_append,l3];omega,((uE j2).append (Bf hc2).2).append (uE j2)⟩
       ·rw [zbR,hzd,List.range_succ,zbR,zcb,zcg,zcb,zcg]
        have g1:(Txt.slice W none (some zp)).cps.toList.length=zp.toNat:=by
         obtain ⟨z,rfl⟩:∃ z:Nat,zp=z:=⟨zp.toNat,by omega⟩
         have:(Txt.slice W none (some (z:Int))).length=z:=by rw [pZ];exact p6 (zcy _) (by omega)
         rw [zaO];exact this
        have e9:(Txt.slice W none (some zp)++⟨#[c]⟩++Txt.slice W (some (zp+1)) (some ((t:Int)+1))).cps.toList=(Txt.slice W none (some zp)).cps.toList++[c]++(Txt.slice W (some (zp+1)) (some ((t:Int)+1))).cps.toList:=by
         show ((Txt.slice W none (some zp)).cps ++ #[c]++(Txt.slice W (some (zp+1)) (some ((t:Int)+1))).cps).toList=_
         simp
        have e8:(Txt.slice W none (some zp)++⟨#[c]⟩++Txt.slice W (some (zp+1)) (some ((t:Int)+1))).cps.toList[zp.toNat]? = sI zs j:=by
         rw [e9,zbi,zab (by omega),g1,Nat.sub_self]
         unfold sI
         rw [show zs+5*(j:Int)=zs+5*(0+(j:Int)) by omega,hc];rfl
        rw [e8]
       ·rw [aJ (aX e na)];exact kj2 b o e
     ·rintro σ Hj ⟨zl,ha,hzl,hzs,hzd,kj2,v9,v10,rfl⟩
      have hzl:zl.length=8:=hzl
      exact fin a zl _ t _ _ _ _ _ _ _ _ (free hfs ks2 na) ha hzl hzs (FU (fun y=>y.cps.toList[zp.toNat]?) (by rw [hzd];exact HX s0 s1)) ht (hfs.same kj2) (by omega) fun b o e hb=>kj2 _ _ (ks2 b o e hb)
end
theorem oH {K:PySem.W.Frag}{w:M.Wd}:∀ (ys:List Str),M.ak K w (ys.map M.D.str) (ys.map V.str)
 | []=>.nil
 | y::ys=>.cons .str (oH ys)
open M
section
variable {K:PySem.W.Frag}{w:Wd}{H H':Hp}{S:au}
theorem xx {n:Nat}{a:Addr}{o o':MO}{u':HO} (k:Ok K w H S) (e:S[n]? = some (some o)) (ha:w.r n=some a) (h:jQ K w o' u') (hu:H' a=some u') (hk:∀ b q,H b=some q→b≠a→H' b=some q):Ok K w H' (S.set n (some o')):=by
 have g:=k.put e ha h
 obtain ⟨a0,u0,h1,h2,h3,_⟩:=k.live n o e
 rw [ha] at h1;cases h1
 refine ⟨fun b q z=>hk b q (k.base b q z) (by intro y;subst y;rw [h2] at z;cases z),fun m q z => ?_,g.inj,g.top⟩
 obtain ⟨b,u,g1,g2,g3,g4⟩:=g.live m q z
 by_cases hb:b=a
 ·subst hb
  rw [aM] at g3;cases g3
  exact ⟨b,u',g1,g2,hu,g4⟩
 ·rw [aJ hb] at g3
  exact ⟨b,u,g1,g2,hk b u g3 hb,g4⟩
theorem xR {p n:Nat}{v:V} (ok:Ok K w H S) (h:Rep K w (.loc p) v) (e:S[p]? = some (some (.feed n))):∃ a,v = .ref a∧w.r p=some a∧dM H a n:=by
 simp only [Rep] at h
 obtain ⟨a,h1,rfl⟩:=h
 obtain ⟨a',u,g1,g2,g3,l,s,rfl,g5⟩:=ok.live p _ e
 rw [h1] at g1;cases g1
 exact ⟨a,rfl,h1,l,s,g3,g5⟩
theorem kg {a:Addr}{n:Nat} (h:dM H' a n):∃ u,H' a=some u∧jQ K w (.feed n) u:=by
 obtain ⟨l,s,h1,h2⟩:=h
 exact ⟨_,h1,l,s,rfl,h2⟩
end
noncomputable def gX:AN:=fun ds S Q=>∃ (p:Nat) (m:Int) (n:Nat),ds=[.loc p,.int m]∧S[p]? = some (some (.feed n))∧n<1000∧0<m∧m<1000∧∀ z,0≤z→z<m→Q (.dat (.int z)) (S.set p (some (.feed (n+1))))
noncomputable def wF:AN:=fun ds S Q=>∃ z:Int,ds=[.int z]∧Q (.dat (.loc S.length)) (S++[some (.feed 0)])
noncomputable def wG:AN:=fun ds S Q=>∃ (ns:List Int) (k:Nat),ds=[.k6 ns,.int k]∧k<1000∧∀ z,Q (.dat (.int z)) S
noncomputable def rN:AN:=fun ds S Q=>∃ (p m n:Nat),ds=[.loc p,.int m]∧S[p]? = some (some (.feed n))∧n+20<1000∧m≤8∧∀ (ys:List Str) (n':Nat),ys.length=m→(∀ y∈ys,Nm y)→ys.Nodup→n'≤n+20→Q (.new (.lst (ys.map D.str))) (S.set p (some (.feed n')))
section
variable {P:Program}{w:World}{K:PySem.W.Frag}{mg:Str→Option Value}{base:Heap}{C fi:Addr}
theorem IY (D:Def P w K mg base 1 "_law_next" di uy):Def P w K mg base 1 "_law_next" di (aW K gX):=D.imp fun vs H Q E h=>by
 obtain ⟨w,ds,S,Qa,ok,rep,⟨p,m,n,rfl,hS,hn,h0,h1,q⟩,bk⟩:=h
 obtain ⟨v,u,rfl,r1,r2⟩:=xo rep
 obtain ⟨a,rfl,ha,hf⟩:=xR ok r1 hS
 refine ⟨a,m,n,by rw [bM r2 rfl],hf,hn,h0,h1,fun z H' z0 z1 hf' hk => ?_⟩
 obtain ⟨u',hu,ho⟩:=kg (K:=K) (w:=w) hf'
 exact bk.dat .refl (xx ok hS ha ho hu hk) .int (q z z0 z1)
theorem IZ (D:Def P w K mg base 1 "_law_feed" gc Au):Def P w K mg base 1 "_law_feed" gc (aW K wF):=D.imp fun vs H Q E h=>by
 obtain ⟨w,ds,S,Qa,ok,rep,⟨z,rfl,q⟩,bk⟩:=h
 obtain ⟨v,rfl,r1⟩:=fJ rep
 refine ⟨z,by rw [bM r1 rfl],fun p H' hp hf hk => ?_⟩
 obtain ⟨u',hu,ho⟩:=kg (K:=K) (w:=w) hf
 have ok2:Ok K w H' S:=⟨fun b o e=>hk b o (ok.base b o e),fun n o e=>by
  obtain ⟨a,u,h1,h2,h3,h4⟩:=ok.live n o e
  exact ⟨a,u,h1,h2,hk a u h3,h4⟩,ok.inj,ok.top⟩
 have rr:vL K w H' S (.new (.feed 0)) (.ref p):=⟨p,u',rfl,ok.free hp,hu,ho,fun n o' e z=>by
  obtain ⟨a,u,h1,h2,h3,h4⟩:=ok.live n o' e
  rw [z] at h1;cases h1
  rw [hp] at h3;cases h3⟩
 obtain ⟨w2,le2,jw,rep3⟩:=store ok2 rr
 exact bk.dat le2 jw rep3 q
theorem I0 (D:Def P w K mg base 1 "_law_cell_at" gf (Av K)):Def P w K mg base 1 "_law_cell_at" gf (aW K wG):=D.imp fun vs H Q E h=>by
 obtain ⟨w,ds,S,Qa,ok,rep,⟨ns,k,rfl,hk,q⟩,bk⟩:=h
 obtain ⟨v,u,rfl,r1,r2⟩:=xo rep
 obtain ⟨a,rfl,h1⟩:=gY ok r1 (rQ (S:=S))
 exact ⟨a,ns,k,by rw [bM r2 rfl],h1,hk,fun z=>bk.dat .refl ok .int (q z)⟩
theorem E5 (D:Def P w K mg base 2 "_law_names" eO wz):Def P w K mg base 2 "_law_names" eO (aW K rN):=D.imp fun vs H Q E h=>by
 obtain ⟨w,ds,S,Qa,ok,rep,⟨p,m,n,rfl,hS,hn,hm,q⟩,bk⟩:=h
 obtain ⟨v,u,rfl,r1,r2⟩:=xo rep
 obtain ⟨a,rfl,ha,hf⟩:=xR ok r1 hS
 refine ⟨a,m,n,by rw [bM r2 rfl],hf,hn,hm,fun l ys H' d' hl hl' hlen hnm hnd hf' hd' hk => ?_⟩
 obtain ⟨u',hu,ho⟩:=kg (K:=K) (w:=w) hf'
 have ok2:=xx ok hS ha ho hu hk
 refine bk (.new (.lst (ys.map M.D.str))) _ _ w H' .refl ok2 ⟨l,_,rfl,ok.free hl,hl',⟨_,rfl,oH ys⟩,fun k o' e z => ?_⟩ (q ys d' hlen hnm hnd hd')
 obtain ⟨b,u,g1,g2,g3,g4⟩:=ok.live p _ hS
 by_cases hkp:k=p
 ·subst hkp
  rw [z] at g1;cases g1
  rw [hl] at g3;cases g3
 ·rw [zaC (Ne.symm hkp)] at e
  obtain ⟨b',u',k1,k2,k3,k4⟩:=ok.live k o' e
  rw [z] at k1;cases k1
  rw [hl] at k3;cases k3
end
open PySem PySem.Spec L2 M M6 PyProof.Rows
noncomputable abbrev Kn:=Str×List Str
noncomputable abbrev Ti:=Str×Str×Str
noncomputable abbrev fl:List Str:=["marked","tied","near"]
structure Kc where
 nm:Str
 ml:List Str
 mc:Nat
 nc:Nat
noncomputable def Kc.kn (c:Kc):Kn:=(c.nm,c.ml)
noncomputable def jy (cs:List Kc):List Str:=cs.map (·.nm)
noncomputable def kk (cs:List Kc):List Key:=cs.map fun c=>.inr c.nm
noncomputable def mO (ms:List Str):MO:=.dct (ms.map Sum.inr) (ms.map fun _=>.bl true)
noncomputable def stp (ts:List Ti) (x:Str) (j:Ti):Prop:=(j.1 = "on" ∧ (x,j.2.1,j.2.2)∈ts)∨(j.1 = "back" ∧ (j.2.2,j.2.1,x)∈ts)
noncomputable def cells (n m t e:Nat) (cs:List Kc):List Nat:=n::m::t::e::(cs.map (·.mc)++cs.map (·.nc))
structure bO (C:Addr) (W:World) (S:au) (n m t e:Nat) (cs:List Kc) (ts:List Ti) (N:Str→Ti→Prop):Prop where
 at_:S[n]? = some (some (.ins C fl [.loc m,.loc t,.loc e]))
 rE:S[m]? = some (some (.dct (kk cs) (cs.map fun c=>.loc c.mc)))
 ti:S[t]? = some (some (nO W (ts.map T3)))
 ne:S[e]? = some (some (.dct (kk cs) (cs.map fun c=>.loc c.nc)))
 uV:∀ c∈cs,S[c.mc]? = some (some (mO c.ml))
 uU:∀ c∈cs,∃ js:List Ti,S[c.nc]? = some (some (nO W (js.map T3)))∧js.Nodup∧js.length≤900∧(∀ j∈js,iF j=true)∧∀ j,j∈js↔N c.nm j
 nd:(cells n m t e cs).Nodup
 kn:(jy cs).Nodup
 tn:ts.Nodup
 mn:∀ c∈cs,c.ml.Nodup
 okn:∀ c∈cs,eV c.nm=true∧∀ m∈c.ml,eV m=true
 lT:∀ t∈ts,iF t=true
 tk:∀ t∈ts,t.1∈jy cs∧t.2.2∈jy cs
 kb:cs.length<64
 mb:∀ c∈cs,c.ml.length<64
 tb:ts.length≤302
noncomputable def aZ (C:Addr) (W:World) (S:au) (n:Nat) (own:List Nat) (ks:List Kn) (ts:List Ti):Prop:=∃ m t e cs,own=cells n m t e cs∧cs.map Kc.kn=ks∧bO C W S n m t e cs ts (stp ts)
noncomputable abbrev nms (ks:List Kn):List Str:=ks.map (·.1)
theorem d7 (cs:List Kc):nms (cs.map Kc.kn)=jy cs:=by unfold nms jy Kc.kn;rw [zcj];rfl
structure Fr (S S':au) (own own':List Nat):Prop where
 out:∀ k,k<S.length→k ∉ own→S'[k]? = S[k]?
 len:S.length≤S'.length
 new:∀ c∈own',c∈own∨S.length≤c
theorem Fr.refl {S:au}{own:List Nat}:Fr S S own own:=⟨fun _ _ _=>rfl,zcx _,fun c h=>.inl h⟩
theorem cA {S:au}{n:Nat}{o:Option MO} (h:S[n]? = some o):n<S.length:=by
 rcases zcn n S.length with z | z
 ·exact z
 ·rw [zav z] at h;cases h
theorem cU {S:au}{n:Nat}{o o':Option MO} (h:S[n]? = some o):(S.set n o')[n]? = some o':=by
 rw [zbj,if_pos rfl,if_pos (cA h)]
theorem aU {S:au}{n k:Nat}{o':Option MO} (h:k≠n):(S.set n o')[k]? = S[k]? := zaC (Ne.symm h)
theorem cD {S:au}{n:Nat}{o:Option MO}{X:au} (h:S[n]? = some o):(S++X)[n]? = some o:=by
 rw [zaf (cA h)];exact h
theorem fB {S:au}{n:Nat}{X:au} (h:n<S.length):(S++X)[n]? = S[n]? := zaf h
theorem bF {S:au}{o:Option MO}:(S++[o])[S.length]? = some o:=by
 rw [zab (zcx _),Nat.sub_self];rfl
theorem aS {S:au}{n:Nat}{o:MO} (h:S[n]? = some (some o)):bD S (.loc n)=o.d:=by simp only [bD,h]
theorem vp {C:Addr}{n i:Nat}{ks ks':List Str}{ds ds':List D}{f:Str}{o:MO}{v:AE}{δ:bH}{S:au}{Dx:fR} (hδ:δ[i]? = some (some (.loc n))) (hS:S[n]? = some (some (.ins C ks ds))) (hk:ks.length<1000) (hv:∀ Q:AK,Q (.dat (.loc S.length)) (S++[some o])→v δ S Q)
  (hp:putD f (.loc S.length) ks ds=(ks',ds')) (nx:Dx.nx δ ((S++[some o]).set n (some (.ins C ks' ds')))):FH C (nS i) v f Dx δ S:=by
 refine hv _ ⟨_,hδ,n,ks,ds,rfl,cD hS,hk,?_⟩
 show Dx.nx δ ((S++[some o]).set n (some (.ins C (putD f (.loc S.length) ks ds).1 (putD f (.loc S.length) ks ds).2)))
 rw [hp];exact nx
section
variable {n m t e:Nat}{cs:List Kc}
theorem MW:n∈cells n m t e cs:=by simp [cells]
theorem Ly:m∈cells n m t e cs:=by simp [cells]
theorem Lx:t∈cells n m t e cs:=by simp [cells]
theorem Lz:e∈cells n m t e cs:=by simp [cells]
theorem EX {c:Kc} (h:c∈cs):c.mc∈cells n m t e cs:=by
 simp only [cells,zca,zbI,zck]
 exact .inr (.inr (.inr (.inr (.inl ⟨c,h,rfl⟩))))
theorem zu {c:Kc} (h:c∈cs):c.nc∈cells n m t e cs:=by
 simp only [cells,zca,zbI,zck]
 exact .inr (.inr (.inr (.inr (.inr ⟨c,h,rfl⟩))))
structure Apart (n m t e:Nat) (cs:List Kc):Prop where
 nm:n≠m
 nt:n≠t
 ne:n≠e
 mt:m≠t
 me:m≠e
 te:t≠e
 nc:∀ c∈cs,n≠c.mc∧n≠c.nc
 mc:∀ c∈cs,m≠c.mc∧m≠c.nc
 tc:∀ c∈cs,t≠c.mc∧t≠c.nc
 ec:∀ c∈cs,e≠c.mc∧e≠c.nc
 cc:∀ c∈cs,∀ c'∈cs,c.mc≠c'.nc
 mm:(cs.map (·.mc)).Nodup
 nn:(cs.map (·.nc)).Nodup
theorem apart (h:(cells n m t e cs).Nodup):Apart n m t e cs:=by
 unfold cells at h
 rw [zbL,zbL,zbL,zbL,zbo] at h
 obtain ⟨h1,h2,h3,h4,h5,h6,h7⟩:=h
 have P:∀ {a:Nat},a ∉ (cs.map (·.mc)++cs.map (·.nc))→∀ c∈cs,a≠c.mc∧a≠c.nc:=fun {a} h c hc =>
  ⟨fun z=>h (by rw [z];exact zaB _ (zck.mpr ⟨c,hc,rfl⟩)),fun z=>h (by rw [z];exact zat _ (zck.mpr ⟨c,hc,rfl⟩))⟩
 simp only [zca,not_or] at h1 h2 h3
 exact ⟨h1.1,h1.2.1,h1.2.2.1,h2.1,h2.2.1,h3.1,P h1.2.2.2,P h2.2.2,P h3.2,P h4,fun c hc c' hc' z=>h7 _ (zck.mpr ⟨c,hc,rfl⟩) _ (zck.mpr ⟨c',hc',rfl⟩) z,h5,h6⟩
theorem eG {α β:Type}{f:α→β}:∀ {l:List α},(l.map f).Nodup→∀ a∈l,∀ b∈l,f a=f b→a=b
 | [],_,a,h,_,_,_=>by simp at h
 | x::l,hn,a,ha,b,hb,e=>by
  rw [zcb,zbL] at hn
  rcases zca.mp ha with ea | ha
  ·rcases zca.mp hb with eb | hb
   ·rw [ea,eb]
   ·exact absurd (show f x∈l.map f from zck.mpr ⟨b,hb,by rw [← e,ea]⟩) hn.1
  ·rcases zca.mp hb with eb | hb
   ·exact absurd (show f x∈l.map f from zck.mpr ⟨a,ha,by rw [e,eb]⟩) hn.1
   ·exact eG hn.2 a ha b hb e
end
theorem BK (cs:List Kc) (x:Str):nJ (kk cs) (.inr x)=decide (x∈jy cs):=by
 unfold nJ kk
 rw [zch]
 by_cases h:x∈jy cs
 ·rw [decide_eq_true h]
  obtain ⟨k,hk,rfl⟩:=zck.mp h
  exact zbD.mpr ⟨k,hk,by simp⟩
 ·rw [decide_eq_false h]
  refine zbe.mpr fun k hk z=>h ?_
  have z:(Sum.inr k.nm:Key) = .inr x:=of_decide_eq_true z
  injection z with z
  exact zck.mpr ⟨k,hk,z⟩
theorem BO:∀ {cs:List Kc}{x:Str},x∈jy cs→∃ c∈cs,c.nm=x∧∀ f:Kc→D,i0 (kk cs) (cs.map f) (.inr x)=some (f c)
 | [],x,h=>by simp [jy] at h
 | k::ks,x,h=>by
  by_cases e:k.nm=x
  ·refine ⟨k,zaR ..,e,fun f => ?_⟩
   unfold i0 kk
   rw [zcb,zcb,zaT,zbM,decide_eq_true (show (Sum.inr k.nm:Key) = .inr x by rw [e])];rfl
  ·have hx:x∈jy ks:=by
    rcases zca.mp (show x∈k.nm::jy ks from h) with z | z
    ·exact absurd z.symm e
    ·exact z
   obtain ⟨c,hc,h1,h2⟩:=BO hx
   refine ⟨c,zaA _ hc,h1,fun f => ?_⟩
   have:=h2 f
   unfold i0 kk at this ⊢
   rw [zcb,zcb,zaT,zbM,decide_eq_false (fun z=>e (by injection z))]
   exact this
theorem AZ {cs:List Kc}{c:Kc}{f:Kc→D} (h:c.nm ∉ jy cs):jL (kk cs) (cs.map f) (.inr c.nm) (f c) = .dct (kk (cs++[c])) ((cs++[c]).map f):=by
 have:=BK cs c.nm
 rw [decide_eq_false h] at this
 unfold nJ at this
 unfold jL
 rw [this,if_neg (by decide)]
 unfold kk
 rw [zbR,zbR];rfl
theorem nE {α:Type}{x:Str} (f:α→D) (g:α→Str):∀ cs:List α,((cs.map fun c=>(Sum.inr (g c):Key)).filter fun j=>decide (j ≠ .inr x))=((cs.filter fun c=>decide (g c≠x)).map fun c=>(Sum.inr (g c):Key)) ∧
  ((((cs.map fun c=>(Sum.inr (g c):Key)).zip (cs.map f)).filter fun p=>decide (p.1 ≠ .inr x)).map (·.2))=(cs.filter fun c=>decide (g c≠x)).map f
 | []=>⟨rfl,rfl⟩
 | c::cs=>by
  obtain ⟨h1,h2⟩:=nE (x:=x) f g cs
  by_cases e:g c=x
  ·have e':(decide ((Sum.inr (g c):Key) ≠ .inr x))=false:=by simp [e]
   have e2:(decide (g c≠x))=false:=by simp [e]
   rw [zcb,zcb,zaT,zam (by simp [e]),zam (by simp [e]),zam (by simp [e])]
   exact ⟨h1,h2⟩
  ·have e':(Sum.inr (g c):Key) ≠ .inr x:=fun z=>e (by injection z)
   rw [zcb,zcb,zaT,zan (by simp [e]),zan (by simp [e]),zan (by simp [e]),zcb,zcb,zcb,h1,h2]
   exact ⟨rfl,rfl⟩
theorem xU {cs:List Kc}{x:Str}{f:Kc→D}:nK (kk cs) (cs.map f) (.inr x) = .dct (kk (cs.filter fun c=>decide (c.nm≠x))) ((cs.filter fun c=>decide (c.nm≠x)).map f):=by
 obtain ⟨h1,h2⟩:=nE (x:=x) f (·.nm) cs
 unfold nK kk
 rw [h1,h2]
theorem nI (a:List Str) (m:Str):nJ (a.map Sum.inr) (.inr m)=decide (m∈a):=by
 unfold nJ
 rw [zch]
 by_cases h:m∈a
 ·rw [decide_eq_true h]
  exact zbD.mpr ⟨m,h,by simp⟩
 ·rw [decide_eq_false h]
  refine zbe.mpr fun k hk z=>h ?_
  have z:(Sum.inr k:Key) = .inr m:=of_decide_eq_true z
  injection z with z
  rw [← z];exact hk
theorem Hx {ms:List Str}{x:Str} (h:x ∉ ms):jL (ms.map Sum.inr) (ms.map fun _=>.bl true) (.inr x) (.bl true)=mO (ms++[x]):=by
 have:=nI ms x
 rw [decide_eq_false h] at this
 unfold nJ at this
 unfold jL mO
 rw [this,if_neg (by decide),zbR,zbR];rfl
theorem ED {ms:List Str}{x:Str}:nK (ms.map Sum.inr) (ms.map fun _=>.bl true) (.inr x)=mO (ms.filter fun c=>decide (c≠x)):=by
 obtain ⟨h1,h2⟩:=nE (x:=x) (fun _=>.bl true) (id:Str→Str) ms
 unfold nK mO
 have e:(ms.map fun c=>(Sum.inr (id c):Key))=ms.map Sum.inr:=rfl
 rw [e] at h1 h2
 rw [h1,h2];rfl
theorem BN:∀ {ms:List Str}{x:Str},x∈ms→i0 (ms.map Sum.inr) (ms.map fun _=>.bl true) (.inr x)=some (.bl true)
 | [],x,h=>by simp at h
 | k::ks,x,h=>by
  unfold i0
  rw [zcb,zcb,zaT,zbM]
  by_cases e:k=x
  ·rw [decide_eq_true (show (Sum.inr k:Key) = .inr x by rw [e])];rfl
  ·rw [decide_eq_false (fun z=>e (by injection z))]
   have hx:x∈ks:=by
    rcases zca.mp h with z | z
    ·exact absurd z.symm e
    ·exact z
   exact BN hx
theorem FL (js:List Ti) (j:Ti) (hn:js.Nodup):∃ js':List Ti,putN (js.map T3) (T3 j)=js'.map T3∧js'.Nodup∧js'.length≤js.length+1∧∀ i,i∈js'↔i∈js∨i=j:=by
 by_cases h:j∈js
 ·refine ⟨js,?_,hn,by omega,fun i=>⟨.inl,fun z=>z.elim id fun e=>e ▸ h⟩⟩
  have:=Ii js j
  rw [decide_eq_true h] at this
  unfold putN
  unfold y9 at this
  rw [this,if_pos rfl]
 ·refine ⟨js++[j],put3 h,?_,by simp,fun i=>by simp⟩
  refine zbo.mpr ⟨hn,by simp,fun x hx y hy z=>h ?_⟩
  have:y=j:=by simpa using hy
  rw [← this,← z];exact hx
theorem BX (js:List Ti) (j:Ti):jH (js.map T3) (T3 j)=(js.filter fun i=>decide (i≠j)).map T3:=by
 unfold jH
 rw [List.filter_map]
 congr 1
 refine zbp fun x _ => ?_
 show decide (py (T3 x)≠py (T3 j))=decide (x≠j)
 by_cases h:x=j
 ·rw [h];simp
 ·rw [decide_eq_true (show py (T3 x)≠py (T3 j) from fun z=>h (fL z)),decide_eq_true h]
theorem we {ts js:List Ti}{x:Str} (hn:js.Nodup) (h:∀ j∈js,stp ts x j):js.length≤2*ts.length:=by
 have:=L2.kh (l:=js) (m:=(ts.map fun t=>(("on",t.2.1,t.2.2):Ti))++(ts.map fun t=>(("back",t.2.1,t.1):Ti))) hn fun j hj=>by
  obtain ⟨a,b,c⟩:=j
  rcases h _ hj with ⟨e,g⟩ | ⟨e,g⟩
  ·have e:a = "on" := e
   subst e
   exact zaB _ (zck.mpr ⟨_,g,rfl⟩)
  ·have e:a = "back" := e
   subst e
   exact zat _ (zck.mpr ⟨_,g,rfl⟩)
 rw [zaS,zbJ,zbJ] at this
 omega
section
variable {C:Addr}{W:World}{S S':au}{n m t e:Nat}{cs:List Kc}{ts:List Ti}{N N':Str→Ti→Prop}
theorem bO.frame (X:bO C W S n m t e cs ts N) (h:∀ c∈cells n m t e cs,S'[c]? = S[c]?):bO C W S' n m t e cs ts N :=
 ⟨by rw [h _ MW];exact X.at_,by rw [h _ Ly];exact X.rE,by rw [h _ Lx];exact X.ti,by rw [h _ Lz];exact X.ne,fun c hc=>by rw [h _ (EX hc)];exact X.uV c hc,fun c hc=>by rw [h _ (zu hc)];exact X.uU c hc,X.nd,X.kn,X.tn,X.mn,X.okn,X.lT,X.tk,X.kb,X.mb,X.tb⟩
theorem bO.near (X:bO C W S n m t e cs ts N) {c:Kc} (hc:c∈cs) {js:List Ti} (h1:js.Nodup) (h2:js.length≤900) (h3:∀ j∈js,iF j=true) (h4:∀ j,j∈js↔N' c.nm j) (h5:∀ x,x≠c.nm→∀ j,N x j↔N' x j) :
  bO C W (S.set c.nc (some (nO W (js.map T3)))) n m t e cs ts N':=by
 have A:=apart X.nd
 obtain ⟨js0,g0,_⟩:=X.uU c hc
 refine ⟨by rw [aU (A.nc c hc).2];exact X.at_,by rw [aU (A.mc c hc).2];exact X.rE,by rw [aU (A.tc c hc).2];exact X.ti,by rw [aU (A.ec c hc).2];exact X.ne,fun c' hc'=>by rw [aU (A.cc c' hc' c hc)];exact X.uV c' hc',fun c' hc' => ?_,X.nd,X.kn,X.tn,X.mn,X.okn,X.lT,X.tk,X.kb,X.mb,X.tb⟩
 by_cases z:c'.nc=c.nc
 ·have:c'=c:=eG A.nn c' hc' c hc z
  subst this
  exact ⟨js,cU g0,h1,h2,h3,h4⟩
 ·obtain ⟨js',k1,k2,k3,k4,k5⟩:=X.uU c' hc'
  refine ⟨js',by rw [aU z];exact k1,k2,k3,k4,fun j=>(k5 j).trans (h5 c'.nm (fun y=>z ?_) j)⟩
  rw [eG X.kn c' hc' c hc y]
theorem bO.Dv (X:bO C W S n m t e cs ts N) {ts':List Ti} (h1:ts'.Nodup) (h2:∀ t∈ts',iF t=true) (h3:∀ t∈ts',t.1∈jy cs∧t.2.2∈jy cs) (h4:ts'.length≤302) :
  bO C W (S.set t (some (nO W (ts'.map T3)))) n m t e cs ts' N:=by
 have A:=apart X.nd
 exact ⟨by rw [aU A.nt];exact X.at_,by rw [aU A.mt];exact X.rE,cU X.ti,by rw [aU (Ne.symm A.te)];exact X.ne,fun c hc=>by rw [aU (Ne.symm (A.tc c hc).1)];exact X.uV c hc,
  fun c hc=>by rw [aU (Ne.symm (A.tc c hc).2)];exact X.uU c hc,X.nd,X.kn,h1,X.mn,X.okn,h2,h3,X.kb,X.mb,h4⟩
noncomputable def setC (x:Str) (ms:List Str) (c:Kc):Kc:=if c.nm=x then { c with ml:=ms } else c
theorem lJ {x:Str}{ms:List Str}{c:Kc}:(setC x ms c).nm=c.nm∧(setC x ms c).mc=c.mc∧(setC x ms c).nc=c.nc:=by
 unfold setC
 split <;> exact ⟨rfl,rfl,rfl⟩
theorem yC {x:Str}{ms:List Str}:jy (cs.map (setC x ms))=jy cs∧kk (cs.map (setC x ms))=kk cs∧(cs.map (setC x ms)).map (·.mc)=cs.map (·.mc)∧(cs.map (setC x ms)).map (·.nc)=cs.map (·.nc):=by
 unfold jy kk
 refine ⟨?_,?_,?_,?_⟩ <;> rw [zcj] <;> refine zaK fun c _ => ?_
 ·exact lJ.1
 ·show (Sum.inr (setC x ms c).nm:Key)=_
  rw [lJ.1]
 ·exact lJ.2.1
 ·exact lJ.2.2
theorem bO.marks (X:bO C W S n m t e cs ts N) {c:Kc} (hc:c∈cs) {ms:List Str} (h1:ms.Nodup) (h2:∀ m∈ms,eV m=true) (h3:ms.length<64) :
  bO C W (S.set c.mc (some (mO ms))) n m t e (cs.map (setC c.nm ms)) ts N∧cells n m t e (cs.map (setC c.nm ms))=cells n m t e cs:=by
 have A:=apart X.nd
 obtain ⟨e1,e2,e3,e4⟩:=yC (cs:=cs) (x:=c.nm) (ms:=ms)
 have ec:cells n m t e (cs.map (setC c.nm ms))=cells n m t e cs:=by unfold cells;rw [e3,e4]
 have el:∀ f:Kc→Nat,(∀ c,f (setC c.nm ms c)=f c)→True:=fun _ _=>trivial
 have em:((cs.map (setC c.nm ms)).map fun c=>D.loc c.mc)=cs.map fun c=>.loc c.mc:=by
  have:=congrArg (List.map D.loc) e3
  simp only [zcj] at this ⊢
  exact this
 have en:((cs.map (setC c.nm ms)).map fun c=>D.loc c.nc)=cs.map fun c=>.loc c.nc:=by
  have:=congrArg (List.map D.loc) e4
  simp only [zcj] at this ⊢
  exact this
 have back:∀ c'∈cs.map (setC c.nm ms),(c'={ c with ml:=ms })∨(c'∈cs∧c'.mc≠c.mc):=fun c' hc'=>by
  obtain ⟨d,hd,rfl⟩:=zck.mp hc'
  unfold setC
  by_cases z:d.nm=c.nm
  ·rw [if_pos z,eG X.kn d hd c hc z]
   exact .inl rfl
  ·rw [if_neg z]
   exact .inr ⟨hd,fun y=>z (by rw [eG A.mm d hd c hc y])⟩
 refine ⟨⟨by rw [aU (A.nc c hc).1];exact X.at_,by rw [aU (A.mc c hc).1,e2,em];exact X.rE,by rw [aU (A.tc c hc).1];exact X.ti,by rw [aU (A.ec c hc).1,e2,en];exact X.ne,fun c' hc' => ?_,fun c' hc' => ?_,by rw [ec];exact X.nd,by rw [e1];exact X.kn,X.tn,
  fun c' hc' => ?_,fun c' hc' => ?_,X.lT,by rw [e1];exact X.tk,by rw [zbJ];exact X.kb,fun c' hc' => ?_,X.tb⟩,ec⟩
 ·rcases back c' hc' with rfl | ⟨h,hne⟩
  ·exact cU (X.uV c hc)
  ·rw [aU hne];exact X.uV c' h
 ·rcases back c' hc' with rfl | ⟨h,hne⟩
  ·rw [aU (Ne.symm (A.cc c hc c hc))];exact X.uU c hc
  ·rw [aU (Ne.symm (A.cc c hc c' h))];exact X.uU c' h
 ·rcases back c' hc' with rfl | ⟨h,hne⟩
  ·exact h1
  ·exact X.mn c' h
 ·rcases back c' hc' with rfl | ⟨h,hne⟩
  ·exact ⟨(X.okn c hc).1,h2⟩
  ·exact X.okn c' h
 ·rcases back c' hc' with rfl | ⟨h,hne⟩
  ·exact h3
  ·exact X.mb c' h
theorem Fr.set {own:List Nat}{k:Nat}{o:Option MO} (h:k∈own):Fr S (S.set k o) own own :=
 ⟨fun i _ hi=>aU fun z=>hi (z ▸ h),by rw [zbO];exact zcx _,fun c h=>.inl h⟩
theorem Fr.trans {S1 S2:au}{o1 o2 o3:List Nat} (a:Fr S S1 o1 o2) (b:Fr S1 S2 o2 o3):Fr S S2 o1 o3:=by
 refine ⟨fun k hk hn => ?_,zcm a.len b.len,fun c hc => ?_⟩
 ·rw [b.out k (zaX hk a.len) fun z => ?_,a.out k hk hn]
  rcases a.new k z with h | h
  ·exact hn h
  ·omega
 ·rcases b.new c hc with h | h
  ·exact a.new c h
  ·exact .inr (zcm a.len h)
end
open PySem PySem.Spec L2 M M6 PyProof.Rows
noncomputable abbrev oG:Stmt:=inClass (top 11) 0
noncomputable abbrev yp:List Str:=["self"]
noncomputable abbrev fk:List Str:=["self"]
theorem GN:aG yp fk (ai oG):=⟨rfl,rfl,rfl,by decide +kernel,rfl,by decide +kernel,by decide +kernel⟩
noncomputable abbrev wU:Stmt:=inClass (top 11) 1
noncomputable abbrev yj:List Str:=["self","name","marks"]
noncomputable abbrev jV:List Str:=["self","name","marks"]
theorem GD:aG yj jV (ai wU):=⟨rfl,rfl,rfl,by decide +kernel,rfl,by decide +kernel,by decide +kernel⟩
noncomputable abbrev wQ:Stmt:=inClass (top 11) 3
noncomputable abbrev yh:List Str:=["self","one","word","other"]
noncomputable abbrev iA:List Str:=["self","one","word","other"]
theorem GB:aG yh iA (ai wQ):=⟨rfl,rfl,rfl,by decide +kernel,rfl,by decide +kernel,by decide +kernel⟩
noncomputable abbrev wR:Stmt:=inClass (top 11) 5
noncomputable abbrev yi:List Str:=["self","knot","mark"]
noncomputable abbrev jU:List Str:=["self","knot","mark"]
theorem GC:aG yi jU (ai wR):=⟨rfl,rfl,rfl,by decide +kernel,rfl,by decide +kernel,by decide +kernel⟩
noncomputable abbrev qd:Stmt:=inClass (top 11) 4
noncomputable abbrev tW:List Str:=["self","one","word","other"]
noncomputable abbrev fQ:List Str:=["self","one","word","other"]
theorem DK:aG tW fQ (ai qd):=⟨rfl,rfl,rfl,by decide +kernel,rfl,by decide +kernel,by decide +kernel⟩
noncomputable abbrev qe:Stmt:=inClass (top 11) 6
noncomputable abbrev tX:List Str:=["self","knot","mark"]
noncomputable abbrev gO:List Str:=["self","knot","mark"]
theorem DL:aG tX gO (ai qe):=⟨rfl,rfl,rfl,by decide +kernel,rfl,by decide +kernel,by decide +kernel⟩
noncomputable abbrev DW:Stmt:=inClass (top 11) 9
noncomputable abbrev C0:List Str:=["self","one","word","other"]
noncomputable abbrev kG:List Str:=["self","one","word","other"]
theorem JH:aG C0 kG (ai DW):=⟨rfl,rfl,rfl,by decide +kernel,rfl,by decide +kernel,by decide +kernel⟩
noncomputable abbrev wW:Stmt:=inClass (top 11) 13
noncomputable abbrev yk:List Str:=["self","name"]
noncomputable abbrev dm:List Str:=["self","name"]
theorem GF:aG yk dm (ai wW):=⟨rfl,rfl,rfl,by decide +kernel,rfl,by decide +kernel,by decide +kernel⟩
noncomputable abbrev wY:Stmt:=inClass (top 11) 14
noncomputable abbrev ym:List Str:=["self","name","marks"]
noncomputable abbrev iD:List Str:=["self","name","marks"]
theorem GK:aG ym iD (ai wY):=⟨rfl,rfl,rfl,by decide +kernel,rfl,by decide +kernel,by decide +kernel⟩
noncomputable abbrev rR:Stmt:=inClass (top 11) 15
noncomputable abbrev rm:List Str:=["self","one","word","other"]
noncomputable abbrev iC:List Str:=["self","one","word","other"]
theorem GJ:aG rm iC (ai rR):=⟨rfl,rfl,rfl,by decide +kernel,rfl,by decide +kernel,by decide +kernel⟩
noncomputable abbrev rS:Stmt:=inClass (top 11) 16
noncomputable abbrev rq:List Str:=["self","one","word","other"]
noncomputable abbrev iE:List Str:=["self","one","word","other"]
theorem GQ:aG rq iE (ai rS):=⟨rfl,rfl,rfl,by decide +kernel,rfl,by decide +kernel,by decide +kernel⟩
section
variable {C:Addr}{W:World}{S S':au}{n m t e:Nat}{cs:List Kc}{ts:List Ti}{N N':Str→Ti→Prop}
theorem bO.lt (X:bO C W S n m t e cs ts N):∀ c∈cells n m t e cs,c<S.length:=fun c hc=>by
 simp only [cells,zca,zbI,zck] at hc
 rcases hc with rfl | rfl | rfl | rfl | ⟨d,hd,rfl⟩ | ⟨d,hd,rfl⟩
 ·exact cA X.at_
 ·exact cA X.rE
 ·exact cA X.ti
 ·exact cA X.ne
 ·exact cA (X.uV d hd)
 ·obtain ⟨js,h,_⟩:=X.uU d hd
  exact cA h
theorem bO.app (X:bO C W S n m t e cs ts N) {Y:au}:bO C W (S++Y) n m t e cs ts N:=X.frame fun c hc=>fB (X.lt c hc)
theorem bO.FT (X:bO C W S n m t e cs ts N) (h:∀ x j,N x j↔N' x j):bO C W S n m t e cs ts N' :=
 ⟨X.at_,X.rE,X.ti,X.ne,X.uV,fun c hc=>by
  obtain ⟨js,k1,k2,k3,k4,k5⟩:=X.uU c hc
  exact ⟨js,k1,k2,k3,k4,fun j=>(k5 j).trans (h _ _)⟩,X.nd,X.kn,X.tn,X.mn,X.okn,X.lT,X.tk,X.kb,X.mb,X.tb⟩
theorem aZ.lt {own:List Nat}{ks:List Kn} (h:aZ C W S n own ks ts):∀ c∈own,c<S.length:=by
 obtain ⟨m,t,e,cs,rfl,rfl,X⟩:=h
 exact X.lt
theorem aZ.frame {own:List Nat}{ks:List Kn} (h:aZ C W S n own ks ts) (hf:∀ c∈own,S'[c]? = S[c]?):aZ C W S' n own ks ts:=by
 obtain ⟨m,t,e,cs,rfl,rfl,X⟩:=h
 exact ⟨m,t,e,cs,rfl,rfl,X.frame hf⟩
theorem gE (X:bO C W S n m t e cs ts N) {i:Nat}{δ:bH}{Q:AK} (hδ:δ[i]? = some (some (.loc n))) (q:Q (.dat (.loc m)) S):Cw C (nS i) "marked" δ S Q:=⟨_,hδ,n,_,_,_,rfl,X.at_,rfl,q⟩
theorem sQ (X:bO C W S n m t e cs ts N) {i:Nat}{δ:bH}{Q:AK} (hδ:δ[i]? = some (some (.loc n))) (q:Q (.dat (.loc t)) S):Cw C (nS i) "tied" δ S Q:=⟨_,hδ,n,_,_,_,rfl,X.at_,rfl,q⟩
theorem oZ (X:bO C W S n m t e cs ts N) {i:Nat}{δ:bH}{Q:AK} (hδ:δ[i]? = some (some (.loc n))) (q:Q (.dat (.loc e)) S):Cw C (nS i) "near" δ S Q:=⟨_,hδ,n,_,_,_,rfl,X.at_,rfl,q⟩
theorem Kr (X:bO C W S n m t e cs ts N) {neg:Bool}{x:Str}{Q:AK} (q:Q (.dat (.bl (neg != decide (x∈jy cs)))) S):tS neg (.str x) (.loc m) S Q:=by
 unfold tS
 rw [aS X.rE]
 refine ⟨.inr x,rfl,?_⟩
 rw [BK];exact q
theorem cB {a b:AE}{Q:AK}{δ:bH}{S:au} (h:a δ S fun r1 S1=>b δ S1 fun r2 S2=>∃ ks ds k d,bD S2 r1.d = .dct ks ds∧keyOf r2.d=some k∧i0 ks ds k=some d∧Q (.dat d) S2):vJ a b δ S Q:=h
theorem qB {W:World}{a b:AE}{Dx:fR}{δ:bH}{S:au} (h:a δ S fun r1 S2=>b δ S2 fun r2 S3=>∃ n ks,r1.d = .loc n∧S3[n]? = some (some (nO W ks))∧fm r2.d∧(∀ k∈ks,fm k)∧ks.length<1000∧Dx.nx δ (S3.set n (some (nO W (putN ks r2.d))))) :
  Ct W a b (aC (.bl true)) Dx δ S:=by
 refine cast (congrArg (fun z=>a δ S z) ?_) h
 funext r1 S2
 refine congrArg (fun z=>b δ S2 z) ?_
 funext r2 S3
 refine propext ⟨?_,?_⟩
 ·rintro ⟨n,ks,h1,h2⟩
  exact ⟨n,ks,rfl,h1,h2⟩
 ·rintro ⟨n,ks,_,h1,h2⟩
  exact ⟨n,ks,h1,h2⟩
theorem qC {W:World}{a b c:AE}{δ:bH}{S:au}{Q:AK} (h:a δ S fun r1 S1=>∃ n ks0,r1.d = .loc n∧S1[n]? = some (some (nO W ks0))∧b δ S1 fun r2 S2=>c δ S2 fun r3 S3 =>
 ∃ ks,S3[n]? = some (some (nO W ks))∧fm r2.d∧(∀ k∈ks,fm k)∧ks.length<1000∧∀ d,(d = .bl true∨d=r3.d)→Q (.dat d) (S3.set n (some (nO W (jH ks r2.d))))):Cu W a b c δ S Q:=h
theorem EE {a b:AE}{v:D}{Dx:fR}{δ:bH}{S:au} (h:a δ S fun r1 S2=>b δ S2 fun r2 S3=>∃ n ks ds k,r1.d = .loc n∧keyOf r2.d=some k∧S3[n]? = some (some (.dct ks ds))∧ds.length<1000∧Dx.nx δ (S3.set n (some (jL ks ds k v)))):vI a b (aC v) Dx δ S:=h
theorem qS {a b:AE}{δ:bH}{S:au}{Q:AK} (h:a δ S fun r1 S1=>∃ n ks0 ds0,r1.d = .loc n∧S1[n]? = some (some (.dct ks0 ds0))∧b δ S1 fun r2 S2=>∃ ks ds k d,S2[n]? = some (some (.dct ks ds))∧keyOf r2.d=some k∧i0 ks ds k=some d∧Q (.dat d) (S2.set n (some (nK ks ds k)))):Cz a b δ S Q:=h
theorem nP (c:Kc):(cells n m t e (cs++[c])).Perm (c.mc::c.nc::cells n m t e cs):=by
 refine List.perm_iff_count.mpr fun z => ?_
 simp only [cells,zbR,zcb,zcg,List.count_append,List.count_cons,List.count_nil]
 omega
theorem tK (p:Kc→Bool):(cells n m t e (cs.filter p)).Sublist (cells n m t e cs):=by
 unfold cells
 refine .cons₂ _ (.cons₂ _ (.cons₂ _ (.cons₂ _ (List.Sublist.append ?_ ?_))))
 ·exact (zaN).map _
 ·exact (zaN).map _
noncomputable def Dg (ms:List Str):List (Key×D):=ms.map fun m=>(.inr m,.bl true)
theorem xZ:∀ (ms a:List Str),(a++ms).Nodup→(Dg ms).foldl zS (a.map Sum.inr,a.map fun _=>.bl true)=((a++ms).map Sum.inr,(a++ms).map fun _=>.bl true)
 | [],a,_=>by rw [zbK];rfl
 | m::ms,a,h=>by
  show (Dg ms).foldl zS (zS (a.map Sum.inr,a.map fun _=>.bl true) (.inr m,.bl true))=_
  have hm:m ∉ a:=fun z=>by
   rw [zbo] at h
   exact h.2.2 m z m (by simp) rfl
  have e:zS (a.map Sum.inr,a.map fun _=>D.bl true) (.inr m,.bl true)=((a++[m]).map Sum.inr,(a++[m]).map fun _=>.bl true):=by
   unfold zS
   rw [nI,decide_eq_false hm,if_neg (by decide),zbR,zbR];rfl
  rw [e,xZ ms (a++[m]) (by simpa using h)]
  simp
theorem EU {ms:List Str} (h:ms.Nodup):MO.dct (qT (Dg ms)).1 (qT (Dg ms)).2=mO ms:=by
 have:=xZ ms [] (by simpa using h)
 unfold qT mO
 have this:(Dg ms).foldl zS ([],[])=_:=this
 rw [this];rfl
end
local macro_rules
 | `(tactic| push_cast [$xs,*]) => `(tactic| simp only [$xs,*,Jb,KZ,K5,MC,K0,aCall,pJ,vH,nS,aC,Jc,aUn,aB,Ja,aIf,lC,Jg,Jd,Jl,aOr,zA,bI,Cs,Jj,MA,Cr,rf,Cy,Cq,Jf,mU,Hg,Eh,Ep,Ej,Jh,Co,Cn,EC,EB,Gi,Dt,Dr,true_and,MD,K4,AB,Ax,DJ,Az,rP,eE,Ay,rQ,List.getElem?_cons_zero,List.getElem?_cons_succ,zaW,List.set_cons_succ,zcB.injEq,exists_eq_left',zcD.injEq,and_true,D.ty.injEq,D.bl.injEq,D.int.injEq,D.str.injEq,and_assoc,exists_and_left,exists_eq_left,exists_and_right,Hf,DX,zba,if_true,if_false,Bool.not_true,Bool.not_false])
section
variable {P:Program}{w:World}{K:PySem.W.Frag}{mg:Str→Option Value}{base:Heap}{C fi:Addr}
theorem aF {m:Str}{sp:AN}{t:AA}{δ:bH}{S:au}{Q:AK}{n i:Nat}{ds:List D} (hδ:δ[i]? = some (some (.loc n))) (hS:S[n]? = some (some (.ins C fl ds))) (hm:m ∉ fl) (h:t δ S fun es S2=>sp (.loc n::es) S2 Q):tR C m sp (nS i) t δ S Q:=⟨_,hδ,n,_,_,rfl,hS,hm,h⟩
noncomputable def gq (C:Addr) (W:World):AN:=fun ds S Q=>∃ n x own ks ts,ds=[.loc n,.str x]∧aZ C W S n own ks ts∧x∈nms ks∧Q (.dat .bN) S
theorem IC (T:Txt K mg C fi) (F:cE K C "need_knot" "Web.need_knot" dm wW):bA P w K mg base 1 C "need_knot" dm (gq C w):=by
 refine ee F GF (fun ds S Q h => ?_) (fun f cdv A outer s H E hr => ?_)
 ·obtain ⟨n,x,own,ks,ts,rfl,_⟩:=h;rfl
 ·refine ⟨_,(M.aj (M.bG (M.aA (M.sq hr) (M.pv 1) (M.bz (M.pv 0) T.cl T.bS) rfl)
    (M.aj M.cj)
    M.aQ)),fun ds S Q h => ?_⟩
  obtain ⟨n,x,own,ks,ts,rfl,⟨m,t,e,cs,rfl,rfl,X⟩,hx,q⟩:=h
  have e0:aT yk [.loc n,.str x]=[some (.loc n),some (.str x)]:=rfl
  rw [e0]
  push_cast [true_and]
  rw [d7] at hx
  refine gE X rfl (Kr X ⟨_,rfl,?_⟩)
  rw [decide_eq_true hx,if_neg (by decide)]
  exact q
noncomputable def As (C:Addr) (W:World):AN:=fun ds S Q=>∃ n x own ks ts,ds=[.loc n,.str x.1,.str x.2.1,.str x.2.2]∧aZ C W S n own ks ts∧iF x=true∧Q (.dat (.bl (decide (x∈ts)))) S
theorem KN (T:Txt K mg C fi) (F:cE K C "has_tie" "Web.has_tie" kG DW):bA P w K mg base 1 C "has_tie" kG (As C w):=by
 refine ee F JH (fun ds S Q h => ?_) (fun f cdv A outer s H E hr => ?_)
 ·obtain ⟨n,x,own,ks,ts,rfl,_⟩:=h;rfl
 ·refine ⟨_,(M.aj (M.aV (M.ju (M.J9 hr) (M.aR (M.ao (M.pv 1) (M.ao (M.pv 2) (M.ao (M.pv 3) M.aa)))) (M.bz (M.pv 0) T.cl T.n_tied) rfl))),fun ds S Q h => ?_⟩
  obtain ⟨n,x,own,ks,ts,rfl,⟨m,t,e,cs,rfl,rfl,X⟩,hx,q⟩:=h
  have e0:aT C0 [.loc n,.str x.1,.str x.2.1,.str x.2.2]=[some (.loc n),some (.str x.1),some (.str x.2.1),some (.str x.2.2)]:=rfl
  rw [e0]
  push_cast [true_and]
  refine ⟨by show 3≤sizeLine;decide,sQ X rfl ⟨t,_,rfl,X.ti,good3 hx,(gu X.lT).good,?_⟩⟩
  rw [Ii,show (false != decide (x∈ts))=decide (x∈ts) by cases decide (x∈ts) <;> rfl]
  exact q
noncomputable def uC (C:Addr) (W:World):AN:=fun ds S Q=>∃ n,ds=[.loc n]∧S.length=n+1∧S[n]? = some (some (.ins C [] []))∧∀ S',aZ C W S' n [n,n+1,n+2,n+3] [] []→(∀ k,k<n→S'[k]? = S[k]?)→S'.length=n+4→Q (.dat .bN) S'
theorem IJ {f:Addr}{fd:FuncData} (T:Txt K mg C fi) (F:Dk K "__init__" "Web.__init__" oG f fd):d8 P w K mg base kY 1 f fd fk (aW K (uC C w)):=by
 refine Ma F GN (fun ds S Q h => ?_) (fun f cdv A outer s H E hr => ?_)
 ·obtain ⟨n,rfl,_⟩:=h;rfl
 ·refine ⟨_,(M.af (M.mY (M.pv 0) (M.zT M.jt) T.cl T.bS)
   (M.af (M.mY (M.pv 0) (M.zT M.jr) T.cl T.n_tied)
   (M.aj (M.mY (M.pv 0) (M.zT M.jt) T.cl T.n_near)))),fun ds S Q h => ?_⟩
  obtain ⟨n,rfl,hl,hn,q⟩:=h
  have e0:aT yp [.loc n]=[some (.loc n)]:=rfl
  rw [e0]
  push_cast [true_and]
  have p2:∀ a c:D,putD "tied" c ["marked"] [a]=((["marked","tied"]:List Str),[a,c]):=fun a c=>by
   unfold putD;rw [if_neg (by decide +kernel)];rfl
  have p3:∀ a c d:D,putD "near" d ["marked","tied"] [a,c]=((["marked","tied","near"]:List Str),[a,c,d]):=fun a c d=>by
   unfold putD;rw [if_neg (by decide +kernel)];unfold putD;rw [if_neg (by decide +kernel)];rfl
  refine vp (o:=.dct [] []) rfl hn (by decide) (fun _ q=>q) rfl ?_
  generalize e1:(S++[some (MO.dct [] [])]).set n _=S1
  have l1:S1.length=n+2:=by rw [← e1,zbO,zaS];simp;omega
  have a1:S1[n]? = some (some (.ins C ["marked"] [.loc S.length])):=by rw [← e1];exact cU (cD hn)
  simp only [lC]
  refine vp (o:=nO w []) rfl a1 (by decide) (fun _ q=>q) (p2 _ _) ?_
  generalize e2:(S1++[some (nO w [])]).set n _=S2
  have l2:S2.length=n+3:=by rw [← e2,zbO,zaS];simp;omega
  have a2:S2[n]? = some (some (.ins C ["marked","tied"] [.loc S.length,.loc S1.length])):=by rw [← e2];exact cU (cD a1)
  try simp only [lC]
  refine vp (o:=.dct [] []) rfl a2 (by decide) (fun _ q=>q) (p3 _ _ _) ?_
  generalize e3:(S2++[some (MO.dct [] [])]).set n _=S3
  have l3:S3.length=n+4:=by rw [← e3,zbO,zaS];simp;omega
  refine q S3 ⟨n+1,n+2,n+3,[],rfl,rfl,⟨?_,?_,?_,?_,by simp,by simp,?_,.nil,.nil,by simp,by simp,by simp,by simp,by decide,by simp,by decide⟩⟩ (fun k hk => ?_) l3
  ·rw [← e3]
   have:=cU (o':=some (.ins C ["marked","tied","near"] [.loc S.length,.loc S1.length,.loc S2.length])) (cD (X:=[some (.dct [] [])]) a2)
   rw [this,hl,l1,l2]
  ·rw [← e3,aU (by omega),fB (by omega),← e2,aU (by omega),fB (by omega),← e1,aU (by omega),show n+1=S.length by omega]
   exact bF
  ·rw [← e3,aU (by omega),fB (by omega),← e2,aU (by omega),show n+2=S1.length by omega]
   exact bF
  ·rw [← e3,aU (by omega),show n+3=S2.length by omega]
   exact bF
  ·simp only [cells,zcg,zbK,zbL,zca,zbB,or_false]
   refine ⟨by omega,by omega,by omega,by simp,.nil⟩
  ·rw [← e3,aU (by omega),fB (by omega),← e2,aU (by omega),fB (by omega),← e1,aU (by omega),fB (by omega)]
noncomputable def iN (C:Addr) (W:World) (S:au) (n:Nat) (own:List Nat) (ks:List Kn) (ts:List Ti) (Q:AK):Prop:=∀ S' own',aZ C W S' n own' ks ts→Fr S S' own own'→Q (.dat .bN) S'
noncomputable def Fw (mk:D) (ms:List Str):Prop:=mk = .lst (ms.map D.str)∨mk = .tup (ms.map D.str)
theorem Fw.walk {mk:D}{ms:List Str} (h:Fw mk ms) {S:au}{Q:List D→(au→Prop)→au→Prop} (q:Q (ms.map D.str) (fun _=>True) S):BF S Q mk:=by
 rcases h with rfl | rfl <;> exact q
noncomputable def uB (C:Addr) (W:World):AN:=fun ds S Q=>∃ n x mk ms own ks ts,ds=[.loc n,.str x,mk]∧Fw mk ms∧aZ C W S n own ks ts∧x ∉ nms ks∧ks.length<63∧ms.length<64∧ms.Nodup∧eV x=true∧(∀ m∈ms,eV m=true) ∧
 iN C W S n own (ks++[(x,ms)]) ts Q
theorem IF (T:Txt K mg C fi) (F:cE K C "lay_knot" "Web.lay_knot" iD wY):bA P w K mg base 1 C "lay_knot" iD (uB C w):=by
 refine ee F GK (fun ds S Q h => ?_) (fun f cdv A outer s H E hr => ?_)
 ·obtain ⟨n,x,mk,ms,own,ks,ts,rfl,_⟩:=h;rfl
 ·refine ⟨_,(M.af (M.mZ (dW hr) (M.bz (M.pv 0) T.cl T.bS) (M.pv 1) (M.zT (M.Bb (M.Ed hr) (by rfl) T.dict (by decide +kernel) (M.ao (M.cT (N:=["mark"]) (caps:=[none]) (eK (by decide +kernel)) (by rfl) (by rfl) rfl (M.ck (M.pv 2)) (fun _ _ _ _=>(M.aq (i:=0) (by decide +kernel:List.Nodup (["mark"]:List Str)) rfl (Or.inl rfl))) (fun _ _ _ _=>M.cH) (fun _ _ _ _=>(M.aR (M.ao (M.pv 0) (M.ao M.d9 M.aa))))) M.aa))) rfl)
   (M.aj (M.mZ (dW hr) (M.bz (M.pv 0) T.cl T.n_near) (M.pv 1) (M.zT M.jr) rfl))),fun ds S Q h => ?_⟩
  obtain ⟨n,x,mk,ms,own,ks,ts,rfl,hmk,⟨m,t,e,cs,rfl,rfl,X⟩,hx,hkl,hml,hmn,ox,oms,q⟩:=h
  have e0:aT ym [.loc n,.str x,mk]=[some (.loc n),some (.str x),some mk]:=rfl
  rw [e0]
  rw [d7] at hx
  rw [zbJ] at hkl
  push_cast [true_and]
  have A':=apart X.nd
  refine ⟨_,rfl,hmk.walk ?_⟩
  show cM (fun _=>True) (bI 0) ow _ (ms.map D.str) [] _ S _
  refine comp_map (δ:=nR [none] [some (.loc n),some (.str x),some mk]) (fun d=>.tup [d,.bl true]) trivial (ms.map D.str) [] _ rfl (fun y hy Q' q'=>⟨_,rfl,by show 2≤sizeLine;decide,q'⟩) (by rw [zbJ,sizeLine_eq];simp;omega) ?_
  refine ⟨_,Dg ms,rfl,?_,by unfold Dg;rw [zbJ];omega,?_⟩
  ·show D.lst _=D.lst _
   rw [zbQ,zcj]
   unfold Dg
   rw [zcj];rfl
  show Cw _ _ _ _ (S++[some (MO.dct (qT (Dg ms)).1 (qT (Dg ms)).2)]) _
  rw [EU hmn]
  have X1:=X.app (Y:=[some (mO ms)])
  have lS:(S++[some (mO ms)]).length=S.length+1:=by simp
  let c:Kc:=⟨x,ms,S.length,S.length+1⟩
  refine gE X1 rfl ⟨_,rfl,m,_,_,.inr x,rfl,rfl,X1.rE,by rw [zbJ];omega,?_⟩
  have p1:jL (kk cs) (cs.map fun c=>D.loc c.mc) (.inr x) (.loc S.length) = .dct (kk (cs++[c])) ((cs++[c]).map fun c=>.loc c.mc):=AZ (c:=c) (f:=fun c=>.loc c.mc) hx
  have p2:jL (kk cs) (cs.map fun c=>D.loc c.nc) (.inr x) (.loc (S.length+1)) = .dct (kk (cs++[c])) ((cs++[c]).map fun c=>.loc c.nc):=AZ (c:=c) (f:=fun c=>.loc c.nc) hx
  dsimp only
  rw [show (R.dat (D.loc S.length)).d=D.loc S.length from rfl,p1]
  generalize e1:(S++[some (mO ms)]).set m _=S1
  have l1:S1.length=S.length+1:=by rw [← e1,zbO,lS]
  have o1:∀ k,k≠m→S1[k]? = (S++[some (mO ms)])[k]? := fun k hk=>by rw [← e1,aU hk]
  have m1:S1[m]? = some (some (.dct (kk (cs++[c])) ((cs++[c]).map fun c=>.loc c.mc))):=by rw [← e1];exact cU X1.rE
  refine ⟨_,rfl,n,_,_,_,rfl,cD (by rw [o1 n A'.nm];exact X1.at_),rfl,_,rfl,e,_,_,.inr x,rfl,rfl,cD (by rw [o1 e (Ne.symm A'.me)];exact X1.ne),by rw [zbJ];omega,?_⟩
  show Q (.dat .bN) ((S1++[some (nO w [])]).set e (some (jL (kk cs) (cs.map fun c=>D.loc c.nc) (.inr x) (.loc S1.length))))
  rw [l1,p2]
  generalize e2:(S1++[some (nO w [])]).set e _=S2
  have l2:S2.length=S.length+2:=by rw [← e2,zbO,zaS,l1];rfl
  have el:=X.lt e Lz
  have ml:=X.lt m Ly
  have o2:∀ k,k<S.length→k≠m→k≠e→S2[k]? = S[k]? := fun k hk h1 h2=>by rw [← e2,aU h2,fB (by omega),o1 k h1,fB hk]
  have m2:S2[m]? = some (some (.dct (kk (cs++[c])) ((cs++[c]).map fun c=>.loc c.mc))):=by rw [← e2,aU A'.me];exact cD m1
  have n2:S2[e]? = some (some (.dct (kk (cs++[c])) ((cs++[c]).map fun c=>.loc c.nc))):=by rw [← e2];exact cU (cD (by rw [o1 e (Ne.symm A'.me)];exact X1.ne))
  have c1:S2[S.length]? = some (some (mO ms)):=by rw [← e2,aU (by omega),fB (by omega),o1 _ (by omega)];exact bF
  have c2:S2[S.length+1]? = some (some (nO w [])):=by rw [← e2,aU (by omega),← l1];exact bF
  have hxx:∀ j,¬ stp ts x j:=fun j z=>by
   rcases z with ⟨_,z⟩ | ⟨_,z⟩
   ·exact hx (X.tk _ z).1
   ·exact hx (X.tk _ z).2
  have mem:∀ c'∈cs++[c],c'∈cs∨c'=c:=fun c' h=>by simpa using h
  have Kf:jy (cs++[c])=jy cs++[x]:=by unfold jy;rw [zbR];rfl
  refine q S2 _ ⟨m,t,e,cs++[c],rfl,by rw [zbR];rfl,⟨?_,m2,?_,n2,fun c' hc' => ?_,fun c' hc' => ?_,?_,?_,X.tn,fun c' hc' => ?_,fun c' hc' => ?_,X.lT,fun t' ht' => ?_,by rw [zaS];simp;omega,fun c' hc' => ?_,X.tb⟩⟩ ⟨fun k hk hn => ?_,by omega,fun c' hc' => ?_⟩
  ·rw [o2 n (X.lt n MW) A'.nm A'.ne];exact X.at_
  ·rw [o2 t (X.lt t Lx) (Ne.symm A'.mt) A'.te];exact X.ti
  ·rcases mem c' hc' with h | rfl
   ·rw [o2 _ (X.lt _ (EX h)) (Ne.symm (A'.mc c' h).1) (Ne.symm (A'.ec c' h).1)];exact X.uV c' h
   ·exact c1
  ·rcases mem c' hc' with h | rfl
   ·rw [o2 _ (X.lt _ (zu h)) (Ne.symm (A'.mc c' h).2) (Ne.symm (A'.ec c' h).2)];exact X.uU c' h
   ·exact ⟨[],c2,.nil,by simp,by simp,fun j=>⟨fun z=>by simp at z,fun z=>(hxx j z).elim⟩⟩
  ·refine (nP c).nodup_iff.mpr ?_
   have b1:S.length ∉ cells n m t e cs:=fun z=>by have:=X.lt _ z;omega
   have b2:S.length+1 ∉ cells n m t e cs:=fun z=>by have:=X.lt _ z;omega
   refine zbL.mpr ⟨fun z => ?_,zbL.mpr ⟨b2,X.nd⟩⟩
   rcases zca.mp z with z | z
   ·have z:S.length=S.length+1:=z
    omega
   ·exact b1 z
  ·rw [Kf]
   refine zbo.mpr ⟨X.kn,by simp,fun a ha b hb z=>hx ?_⟩
   have:b=x:=by simpa using hb
   rw [← this,← z];exact ha
  ·rcases mem c' hc' with h | rfl
   ·exact X.mn c' h
   ·exact hmn
  ·rcases mem c' hc' with h | rfl
   ·exact X.okn c' h
   ·exact ⟨ox,oms⟩
  ·rw [Kf]
   exact ⟨zaB _ (X.tk t' ht').1,zaB _ (X.tk t' ht').2⟩
  ·rcases mem c' hc' with h | rfl
   ·exact X.mb c' h
   ·exact hml
  ·exact o2 k hk (fun z=>hn (z ▸ Ly)) fun z=>hn (z ▸ Lz)
  ·have:=(nP c).mem_iff.mp hc'
   rcases zca.mp this with z | z
   ·exact .inr (by rw [z];exact zcx _)
   ·rcases zca.mp z with z | z
    ·exact .inr (by rw [z];exact zcz _)
    ·exact .inl z
noncomputable def Ao (C:Addr) (W:World):AN:=fun ds S Q=>∃ n x mk ms own ks ts,ds=[.loc n,.str x,mk]∧Fw mk ms∧aZ C W S n own ks ts∧x ∉ nms ks∧ks.length<40∧ms.length<64∧ms.Nodup∧eV x=true∧(∀ m∈ms,eV m=true) ∧
 iN C W S n own (ks++[(x,ms)]) ts Q
theorem IA (T:Txt K mg C fi) (F:cE K C "put_knot" "Web.put_knot" jV wU) (D_lay_knot:bA P w K mg base 1 C "lay_knot" iD (uB C w)):bA P w K mg base 2 C "put_knot" jV (Ao C w):=by
 refine ee F GD (fun ds S Q h => ?_) (fun f cdv A outer s H E hr => ?_)
 ·obtain ⟨n,x,mk,ms,own,ks,ts,rfl,_⟩:=h;rfl
 ·refine ⟨_,(M.af (M.bG (M.aA (M.FQ hr) (M.pv 1) (M.bz (M.pv 0) T.cl T.bS) rfl)
    (M.aj M.cj)
    M.aQ)
   (M.af (M.bG (M.aA M.HP (M.fW M.kL (by rfl) T.len (by decide +kernel) (M.ao (M.bz (M.pv 0) T.cl T.bS) M.aa)) T.n5 (br _))
    (M.aj M.cj)
    M.aQ)
   (M.aj (M.aE (M.aP (M.pv 0) T.cl D_lay_knot (hr.mono (by decide)) (M.ao (M.pv 1) (M.ao (M.pv 2) M.aa))))))),fun ds S Q h => ?_⟩
  obtain ⟨n,x,mk,ms,own,ks,ts,rfl,hmk,⟨m,t,e,cs,rfl,rfl,X⟩,hx,hkl,hml,hmn,ox,oms,q⟩:=h
  have e0:aT yj [.loc n,.str x,mk]=[some (.loc n),some (.str x),some mk]:=rfl
  rw [e0]
  have hx':=hx
  rw [d7] at hx'
  rw [zbJ] at hkl
  push_cast [true_and]
  refine gE X rfl (Kr X ⟨_,rfl,?_⟩)
  rw [decide_eq_false hx',if_neg (by decide)]
  refine gE X rfl ⟨cs.length,?_,?_⟩
  ·rw [mU,aS X.rE]
   show some (kk cs).length=_
   unfold kk
   rw [zbJ]
  rw [decide_eq_false (by omega),if_neg (by decide)]
  exact aF rfl X.at_ (by decide +kernel) ⟨_,rfl,_,rfl,n,x,mk,ms,_,_,ts,rfl,hmk,⟨m,t,e,cs,rfl,rfl,X⟩,hx,by rw [zbJ];omega,hml,hmn,ox,oms,q⟩
theorem jw {x:Ti} (h:iF x=true):eV x.1=true∧eV x.2.1=true∧eV x.2.2=true:=by
 unfold iF at h
 rw [zbE,zbE] at h
 exact ⟨h.1.1,h.1.2,h.2⟩
theorem bO.jE {W:World}{S:au}{n m t e:Nat}{cs:List Kc}{ts:List Ti}{N:Str→Ti→Prop} (X:bO C W S n m t e cs ts N) {x:Str} (hx:x∈jy cs):∃ c∈cs,c.nm=x∧i0 (kk cs) (cs.map fun c=>D.loc c.nc) (.inr x)=some (.loc c.nc)∧i0 (kk cs) (cs.map fun c=>D.loc c.mc) (.inr x)=some (.loc c.mc):=by
 obtain ⟨c,hc,h1,h2⟩:=BO hx
 exact ⟨c,hc,h1,h2 _,h2 _⟩
noncomputable def uA (C:Addr) (W:World):AN:=fun ds S Q=>∃ n x own ks ts,ds=[.loc n,.str x.1,.str x.2.1,.str x.2.2]∧aZ C W S n own ks ts∧x.1∈nms ks∧x.2.2∈nms ks∧x ∉ ts∧ts.length<302∧iF x=true∧iN C W S n own ks (ts++[x]) Q
noncomputable abbrev yI (b c:Str):Ti:=("on",b,c)
noncomputable abbrev gI (b c:Str):Ti:=("back",b,c)
theorem DA {ts:List Ti}{x1 x2 x3 y:Str}{j:Ti}:((stp ts y j∨(y=x1∧j=yI x2 x3))∨(y=x3∧j=gI x2 x1))↔stp (ts++[(x1,x2,x3)]) y j:=by
 obtain ⟨a,b,g⟩:=j
 simp only [stp,zbI,zaU,Prod.mk.injEq]
 constructor
 ·rintro (((⟨rfl,h⟩ | ⟨rfl,h⟩) | ⟨rfl,rfl,rfl,rfl⟩) | ⟨rfl,rfl,rfl,rfl⟩)
  ·exact .inl ⟨rfl,.inl h⟩
  ·exact .inr ⟨rfl,.inl h⟩
  ·exact .inl ⟨rfl,.inr ⟨rfl,rfl,rfl⟩⟩
  ·exact .inr ⟨rfl,.inr ⟨rfl,rfl,rfl⟩⟩
 ·rintro (⟨rfl,h | ⟨rfl,rfl,rfl⟩⟩ | ⟨rfl,h | ⟨rfl,rfl,rfl⟩⟩)
  ·exact .inl (.inl (.inl ⟨rfl,h⟩))
  ·exact .inl (.inr ⟨rfl,rfl,rfl,rfl⟩)
  ·exact .inl (.inl (.inr ⟨rfl,h⟩))
  ·exact .inr ⟨rfl,rfl,rfl,rfl⟩
noncomputable def eF (ts:List Ti) (x:Ti):List Ti:=ts.filter fun y=>decide (y≠x)
theorem ni {ts:List Ti}{x y:Ti}:y∈eF ts x↔y∈ts∧y≠x:=by unfold eF;rw [zbH];simp
theorem DB {ts:List Ti}{x1 x2 x3 y:Str}{j:Ti}:((stp ts y j ∧ ¬ (y=x1∧j=yI x2 x3)) ∧ ¬ (y=x3∧j=gI x2 x1))↔stp (eF ts (x1,x2,x3)) y j:=by
 obtain ⟨a,b,g⟩:=j
 simp only [stp,ni,ne_eq,Prod.mk.injEq]
 have nb:(Str.ofString "on")≠Str.ofString "back" := by decide +kernel
 constructor
 ·rintro ⟨⟨⟨rfl,h⟩ | ⟨rfl,h⟩,h1⟩,h2⟩
  ·exact .inl ⟨rfl,h,fun z=>h1 ⟨z.1,rfl,z.2.1,z.2.2⟩⟩
  ·exact .inr ⟨rfl,h,fun z=>h2 ⟨z.2.2,rfl,z.2.1,z.1⟩⟩
 ·rintro (⟨rfl,h,h1⟩ | ⟨rfl,h,h1⟩)
  ·exact ⟨⟨.inl ⟨rfl,h⟩,fun z=>h1 ⟨z.1,z.2.2.1,z.2.2.2⟩⟩,fun z=>nb z.2.1⟩
  ·exact ⟨⟨.inr ⟨rfl,h⟩,fun z=>nb z.2.1.symm⟩,fun z=>h1 ⟨z.2.2.2,z.2.2.1,z.1⟩⟩
theorem qy {a b c:Str} (ha:eV a=true) (h1:eV b=true) (h2:eV c=true):iF (a,b,c)=true:=by unfold iF;rw [ha,h1,h2];rfl
theorem IE (T:Txt K mg C fi) (F:cE K C "lay_tie" "Web.lay_tie" iC rR):bA P w K mg base 1 C "lay_tie" iC (uA C w):=by
 refine ee F GJ (fun ds S Q h => ?_) (fun f cdv A outer s H E hr => ?_)
 ·obtain ⟨n,x,own,ks,ts,rfl,_⟩:=h;rfl
 ·refine ⟨_,(M.af (M.jj hr (M.bz (M.pv 0) T.cl T.n_tied) (M.aR (M.ao (M.pv 1) (M.ao (M.pv 2) (M.ao (M.pv 3) M.aa)))) M.d9 rfl)
   (M.af (M.jj hr (M.cz (dW hr) (M.bz (M.pv 0) T.cl T.n_near) (M.pv 1) (fun _ _=>rfl)) (M.aR (M.ao M.aL (M.ao (M.pv 2) (M.ao (M.pv 3) M.aa)))) M.d9 rfl)
   (M.aj (M.jj hr (M.cz (dW hr) (M.bz (M.pv 0) T.cl T.n_near) (M.pv 3) (fun _ _=>rfl)) (M.aR (M.ao M.aL (M.ao (M.pv 2) (M.ao (M.pv 1) M.aa)))) M.d9 rfl)))),fun ds S Q h => ?_⟩
  obtain ⟨n,x,own,ks,ts,rfl,⟨m,t,e,cs,rfl,rfl,X⟩,hx1,hx2,hx,hkl,ox,q⟩:=h
  have e0:aT rm [.loc n,.str x.1,.str x.2.1,.str x.2.2]=[some (.loc n),some (.str x.1),some (.str x.2.1),some (.str x.2.2)]:=rfl
  rw [e0]
  rw [d7] at hx1 hx2
  push_cast [true_and]
  obtain ⟨x1,x2,x3⟩:=x
  obtain ⟨k1,k2,k3⟩:=jw ox
  have hw:(jM kY P w K mg base rm "Web.lay_tie" (ai rR) f cdv A outer s H E).w=w:=rfl
  simp only [hw]
  refine qB (sQ X rfl ⟨_,rfl,_,rfl,_,rfl,by show 3≤sizeLine;decide,t,ts.map T3,rfl,X.ti,good3 ox,(gu X.lT).good,by rw [zbJ];omega,?_⟩)
  show fR.nx _ _ (S.set t (some (nO w (putN (ts.map T3) (T3 (x1,x2,x3))))))
  rw [put3 hx]
  have X1:=X.Dv (ts':=ts++[(x1,x2,x3)]) (by
   refine zbo.mpr ⟨X.tn,by simp,fun a ha b hb z=>hx ?_⟩
   have:b=(x1,x2,x3):=by simpa using hb
   rw [← this,← z];exact ha) (fun t' ht'=>by
   rcases zbI.mp ht' with h | h
   ·exact X.lT t' h
   ·have:t'=(x1,x2,x3):=by simpa using h
    rw [this];exact ox) (fun t' ht'=>by
   rcases zbI.mp ht' with h | h
   ·exact X.tk t' h
   ·have:t'=(x1,x2,x3):=by simpa using h
    rw [this];exact ⟨hx1,hx2⟩) (by rw [zaS];simp;omega)
  generalize e1:S.set t _=S1 at X1
  have f1:Fr S S1 (cells n m t e cs) (cells n m t e cs):=by rw [← e1];exact .set Lx
  obtain ⟨c,hc,hcn,g1,_⟩:=X1.jE hx1
  have hcn:c.nm=x1:=hcn
  obtain ⟨js,j1,j2,j3,j4,j5⟩:=X1.uU c hc
  have jl:=we j2 fun j hj=>hcn ▸ (j5 j).mp hj
  have on_:iF (yI x2 x3)=true:=qy (by decide +kernel) k2 k3
  have ya:iF (gI x2 x1)=true:=qy (by decide +kernel) k2 k1
  simp only [lC]
  refine qB (cB (oZ X1 rfl ⟨_,rfl,_,_,_,_,aS X1.ne,rfl,g1,_,rfl,_,rfl,by show 3≤sizeLine;decide,c.nc,js.map T3,rfl,j1,good3 on_,(gu j4).good,by rw [zbJ];omega,?_⟩))
  show fR.nx _ _ (S1.set c.nc (some (nO w (putN (js.map T3) (T3 (yI x2 x3))))))
  obtain ⟨js',p1,p2,p3,p4⟩:=FL js (yI x2 x3) j2
  rw [p1]
  have X2:=X1.near (N':=fun y j=>stp ts y j∨(y=x1∧j=(yI x2 x3))) hc p2 (by omega) (fun j hj=>by
   rcases (p4 j).mp hj with h | h
   ·exact j4 j h
   ·rw [h];exact on_) (fun j=>(p4 j).trans ⟨fun h=>h.imp (j5 j).mp fun h=>⟨hcn,h⟩,fun h=>h.imp (j5 j).mpr fun h=>h.2⟩) (fun y hy j=>⟨.inl,fun h=>h.elim id fun h=>absurd (h.1.trans hcn.symm) hy⟩)
  generalize e2:S1.set c.nc _=S2 at X2
  have f2:Fr S S2 (cells n m t e cs) (cells n m t e cs):=by rw [← e2];exact f1.trans (.set (zu hc))
  obtain ⟨d,hd,hdn,g2,_⟩:=X2.jE hx2
  have hdn:d.nm=x3:=hdn
  obtain ⟨is,i1,i2,i3,i4,i5⟩:=X2.uU d hd
  have il:is.length≤899:=by
   by_cases hcd:d.nc=c.nc
   ·have hdc:d=c:=eG (apart X.nd).nn d hd c hc hcd
    subst hdc
    have:is.length≤js'.length:=L2.kh i2 fun j hj=>by
     rcases (i5 j).mp hj with h | h
     ·exact (p4 j).mpr (.inl ((j5 j).mpr h))
     ·exact (p4 j).mpr (.inr h.2)
    omega
   ·have:=we (ts:=ts) (x:=x3) (js:=is) i2 fun j hj=>by
     rcases (i5 j).mp hj with h | h
     ·exact hdn ▸ h
     ·exact absurd (by rw [eG X.kn d hd c hc (h.1.trans hcn.symm)]) hcd
    omega
  try simp only [lC]
  refine qB (cB (oZ X2 rfl ⟨_,rfl,_,_,_,_,aS X2.ne,rfl,g2,_,rfl,_,rfl,by show 3≤sizeLine;decide,d.nc,is.map T3,rfl,i1,good3 ya,(gu i4).good,by rw [zbJ];omega,?_⟩))
  show fR.nx _ _ (S2.set d.nc (some (nO w (putN (is.map T3) (T3 (gI x2 x1))))))
  obtain ⟨is',r1,r2,r3,r4⟩:=FL is (gI x2 x1) i2
  rw [r1]
  have X3:=X2.near (N':=fun y j=>(stp ts y j∨(y=x1∧j=(yI x2 x3)))∨(y=x3∧j=(gI x2 x1))) hd r2 (by omega) (fun j hj=>by
   rcases (r4 j).mp hj with h | h
   ·exact i4 j h
   ·rw [h];exact ya) (fun j=>(r4 j).trans ⟨fun h=>h.imp (i5 j).mp fun h=>⟨hdn,h⟩,fun h=>h.imp (i5 j).mpr fun h=>h.2⟩) (fun y hy j=>⟨.inl,fun h=>h.elim id fun h=>absurd (h.1.trans hdn.symm) hy⟩)
  refine q _ _ ⟨m,t,e,cs,rfl,rfl,X3.FT fun y j => ?_⟩ (f2.trans (.set (zu hd)))
  exact DA
noncomputable def ux (C:Addr) (W:World):AN:=fun ds S Q=>∃ n x own ks ts,ds=[.loc n,.str x.1,.str x.2.1,.str x.2.2]∧aZ C W S n own ks ts∧x.1∈nms ks∧x.2.2∈nms ks∧x ∉ ts∧ts.length<300∧iF x=true∧iN C W S n own ks (ts++[x]) Q
theorem Iw (T:Txt K mg C fi) (F:cE K C "put_tie" "Web.put_tie" iA wQ) (D_need_knot:bA P w K mg base 1 C "need_knot" dm (gq C w)) (D_has_tie:bA P w K mg base 1 C "has_tie" kG (As C w)) (D_lay_tie:bA P w K mg base 1 C "lay_tie" iC (uA C w)):bA P w K mg base 2 C "put_tie" iA (ux C w):=by
 refine ee F GB (fun ds S Q h => ?_) (fun f cdv A outer s H E hr => ?_)
 ·obtain ⟨n,x,own,ks,ts,rfl,_⟩:=h;rfl
 ·refine ⟨_,(M.af (M.aE (M.aP (M.pv 0) T.cl D_need_knot (hr.mono (by decide)) (M.ao (M.pv 1) M.aa)))
   (M.af (M.aE (M.aP (M.pv 0) T.cl D_need_knot (hr.mono (by decide)) (M.ao (M.pv 3) M.aa)))
   (M.af (M.bG (M.uQ (M.aP (M.pv 0) T.cl D_has_tie (hr.mono (by decide)) (M.ao (M.pv 1) (M.ao (M.pv 2) (M.ao (M.pv 3) M.aa)))))
    (M.aj M.cj)
    M.aQ)
   (M.af (M.bG (M.aA M.HP (M.fW M.HN (by rfl) T.len (by decide +kernel) (M.ao (M.bz (M.pv 0) T.cl T.n_tied) M.aa)) T.qw (br _))
    (M.aj M.cj)
    M.aQ)
   (M.aj (M.aE (M.aP (M.pv 0) T.cl D_lay_tie (hr.mono (by decide)) (M.ao (M.pv 1) (M.ao (M.pv 2) (M.ao (M.pv 3) M.aa)))))))))),fun ds S Q h => ?_⟩
  obtain ⟨n,x,own,ks,ts,rfl,X',hx1,hx2,hx,hkl,ox,q⟩:=h
  obtain ⟨m,t,e,cs,rfl,rfl,X⟩:=id X'
  have e0:aT yh [.loc n,.str x.1,.str x.2.1,.str x.2.2]=[some (.loc n),some (.str x.1),some (.str x.2.1),some (.str x.2.2)]:=rfl
  rw [e0]
  push_cast [true_and]
  refine aF rfl X.at_ (by decide +kernel) ⟨_,rfl,n,x.1,_,_,ts,rfl,X',hx1,?_⟩
  refine aF rfl X.at_ (by decide +kernel) ⟨_,rfl,n,x.2.2,_,_,ts,rfl,X',hx2,?_⟩
  refine aF rfl X.at_ (by decide +kernel) ⟨_,rfl,_,rfl,_,rfl,n,x,_,_,ts,rfl,X',ox,?_⟩
  refine ⟨false,by rw [decide_eq_false hx];rfl,?_⟩
  rw [if_neg (by decide)]
  refine sQ X rfl ⟨t,ts.map T3,rfl,X.ti,by rw [zbJ];omega,?_⟩
  refine ⟨_,_,rfl,rfl,trivial,_,rfl,?_⟩
  rw [zbJ,decide_eq_false (by omega),if_neg (by decide)]
  exact aF rfl X.at_ (by decide +kernel) ⟨_,rfl,_,rfl,_,rfl,n,x,_,_,ts,rfl,X',hx1,hx2,hx,by omega,ox,q⟩
noncomputable def uD (C:Addr) (W:World):AN:=fun ds S Q=>∃ n x own ks ts,ds=[.loc n,.str x.1,.str x.2.1,.str x.2.2]∧aZ C W S n own ks ts∧x.1∈nms ks∧x.2.2∈nms ks∧iF x=true∧iN C W S n own ks (eF ts x) Q
theorem IL (T:Txt K mg C fi) (F:cE K C "drop_tie" "Web.drop_tie" iE rS):bA P w K mg base 1 C "drop_tie" iE (uD C w):=by
 refine ee F GQ (fun ds S Q h => ?_) (fun f cdv A outer s H E hr => ?_)
 ·obtain ⟨n,x,own,ks,ts,rfl,_⟩:=h;rfl
 ·refine ⟨_,(M.af (M.aE (M.jo hr (M.bz (M.pv 0) T.cl T.n_tied) (M.aR (M.ao (M.pv 1) (M.ao (M.pv 2) (M.ao (M.pv 3) M.aa)))) M.m7 ⟨rfl,rfl,rfl,rfl⟩))
   (M.af (M.aE (M.jo hr (M.cz (dW hr) (M.bz (M.pv 0) T.cl T.n_near) (M.pv 1) (fun _ _=>rfl)) (M.aR (M.ao M.aL (M.ao (M.pv 2) (M.ao (M.pv 3) M.aa)))) M.m7 ⟨rfl,rfl,rfl,rfl⟩))
   (M.aj (M.aE (M.jo hr (M.cz (dW hr) (M.bz (M.pv 0) T.cl T.n_near) (M.pv 3) (fun _ _=>rfl)) (M.aR (M.ao M.aL (M.ao (M.pv 2) (M.ao (M.pv 1) M.aa)))) M.m7 ⟨rfl,rfl,rfl,rfl⟩))))),fun ds S Q h => ?_⟩
  obtain ⟨n,x,own,ks,ts,rfl,⟨m,t,e,cs,rfl,rfl,X⟩,hx1,hx2,ox,q⟩:=h
  have e0:aT rq [.loc n,.str x.1,.str x.2.1,.str x.2.2]=[some (.loc n),some (.str x.1),some (.str x.2.1),some (.str x.2.2)]:=rfl
  rw [e0]
  rw [d7] at hx1 hx2
  push_cast [true_and]
  obtain ⟨x1,x2,x3⟩:=x
  obtain ⟨k1,k2,k3⟩:=jw ox
  have hw:(jM kY P w K mg base rq "Web.drop_tie" (ai rS) f cdv A outer s H E).w=w:=rfl
  simp only [hw]
  have X1:=X.Dv (ts':=eF ts (x1,x2,x3)) (X.tn.sublist zaN) (fun t' ht'=>X.lT t' (ni.mp ht').1) (fun t' ht'=>X.tk t' (ni.mp ht').1) (zcm (zau ..) X.tb)
  refine qC (sQ X rfl ⟨t,_,rfl,X.ti,_,rfl,_,rfl,_,rfl,by show 3≤sizeLine;decide,ts.map T3,X.ti,good3 ox,(gu X.lT).good,by rw [zbJ];have:=X.tb;omega,fun d0 _ => ?_⟩)
  try dsimp only
  rw [show (R.dat (D.tup [(R.dat (D.str x1)).d,(R.dat (D.str x2)).d,(R.dat (D.str x3)).d])).d=T3 (x1,x2,x3) from rfl,BX]
  change bO C w (S.set t (some (nO w ((ts.filter fun i=>decide (i≠(x1,x2,x3))).map T3)))) _ _ _ _ _ _ _ at X1
  generalize e1:S.set t _=S1 at X1 ⊢
  have f1:Fr S S1 (cells n m t e cs) (cells n m t e cs):=by rw [← e1];exact .set Lx
  obtain ⟨c,hc,hcn,g1,_⟩:=X1.jE hx1
  have hcn:c.nm=x1:=hcn
  obtain ⟨js,j1,j2,j3,j4,j5⟩:=X1.uU c hc
  have on_:iF (yI x2 x3)=true:=qy (by decide +kernel) k2 k3
  have ya:iF (gI x2 x1)=true:=qy (by decide +kernel) k2 k1
  refine qC (cB (oZ X1 rfl ⟨_,rfl,_,_,_,_,aS X1.ne,rfl,g1,c.nc,_,rfl,j1,_,rfl,_,rfl,by show 3≤sizeLine;decide,js.map T3,j1,good3 on_,(gu j4).good,by rw [zbJ];omega,fun d1 _ => ?_⟩))
  try dsimp only
  rw [show (R.dat (D.tup [(R.dat (D.str "on")).d,(R.dat (D.str x2)).d,(R.dat (D.str x3)).d])).d=T3 (yI x2 x3) from rfl,BX]
  have X2:=X1.near (N':=fun y j=>stp ts y j ∧ ¬ (y=x1∧j=yI x2 x3)) hc (js:=js.filter fun i=>decide (i≠yI x2 x3)) (j2.sublist zaN) (zcm (zau ..) j3) (fun j hj=>j4 j (zbH.mp hj).1)
   (fun j=>⟨fun h=>⟨(j5 j).mp (zbH.mp h).1,fun z=>(of_decide_eq_true (zbH.mp h).2) z.2⟩,fun h=>zbH.mpr ⟨(j5 j).mpr h.1,decide_eq_true fun z=>h.2 ⟨hcn,z⟩⟩⟩) (fun y hy j=>⟨fun h=>⟨h,fun z=>hy (z.1.trans hcn.symm)⟩,fun h=>h.1⟩)
  generalize e2:S1.set c.nc _=S2 at X2 ⊢
  have f2:Fr S S2 (cells n m t e cs) (cells n m t e cs):=by rw [← e2];exact f1.trans (.set (zu hc))
  obtain ⟨d,hd,hdn,g2,_⟩:=X2.jE hx2
  have hdn:d.nm=x3:=hdn
  obtain ⟨is,i1,i2,i3,i4,i5⟩:=X2.uU d hd
  refine qC (cB (oZ X2 rfl ⟨_,rfl,_,_,_,_,aS X2.ne,rfl,g2,d.nc,_,rfl,i1,_,rfl,_,rfl,by show 3≤sizeLine;decide,is.map T3,i1,good3 ya,(gu i4).good,by rw [zbJ];omega,fun d2 _ => ?_⟩))
  try dsimp only
  rw [show (R.dat (D.tup [(R.dat (D.str "back")).d,(R.dat (D.str x2)).d,(R.dat (D.str x1)).d])).d=T3 (gI x2 x1) from rfl,BX]
  have X3:=X2.near (N':=fun y j=>(stp ts y j ∧ ¬ (y=x1∧j=yI x2 x3)) ∧ ¬ (y=x3∧j=gI x2 x1)) hd (js:=is.filter fun i=>decide (i≠gI x2 x1)) (i2.sublist zaN) (zcm (zau ..) i3) (fun j hj=>i4 j (zbH.mp hj).1)
   (fun j=>⟨fun h=>⟨(i5 j).mp (zbH.mp h).1,fun z=>(of_decide_eq_true (zbH.mp h).2) z.2⟩,fun h=>zbH.mpr ⟨(i5 j).mpr h.1,decide_eq_true fun z=>h.2 ⟨hdn,z⟩⟩⟩) (fun y hy j=>⟨fun h=>⟨h,fun z=>hy (z.1.trans hdn.symm)⟩,fun h=>h.1⟩)
  exact q _ _ ⟨m,t,e,cs,rfl,rfl,X3.FT fun y j=>DB⟩ (f2.trans (.set (zu hd)))
noncomputable def pV (C:Addr) (W:World):AN:=fun ds S Q=>∃ n x own ks ts,ds=[.loc n,.str x.1,.str x.2.1,.str x.2.2]∧aZ C W S n own ks ts∧x.1∈nms ks∧x.2.2∈nms ks∧x∈ts∧iF x=true∧iN C W S n own ks (eF ts x) Q
theorem EJ (T:Txt K mg C fi) (F:cE K C "take_tie" "Web.take_tie" fQ qd) (D_need_knot:bA P w K mg base 1 C "need_knot" dm (gq C w)) (D_has_tie:bA P w K mg base 1 C "has_tie" kG (As C w)) (D_drop_tie:bA P w K mg base 1 C "drop_tie" iE (uD C w)):bA P w K mg base 2 C "take_tie" fQ (pV C w):=by
 refine ee F DK (fun ds S Q h => ?_) (fun f cdv A outer s H E hr => ?_)
 ·obtain ⟨n,x,own,ks,ts,rfl,_⟩:=h;rfl
 ·refine ⟨_,(M.af (M.aE (M.aP (M.pv 0) T.cl D_need_knot (hr.mono (by decide)) (M.ao (M.pv 1) M.aa)))
   (M.af (M.aE (M.aP (M.pv 0) T.cl D_need_knot (hr.mono (by decide)) (M.ao (M.pv 3) M.aa)))
   (M.af (M.bG (M.qo (M.uQ (M.aP (M.pv 0) T.cl D_has_tie (hr.mono (by decide)) (M.ao (M.pv 1) (M.ao (M.pv 2) (M.ao (M.pv 3) M.aa))))))
    (M.aj M.cj)
    M.aQ)
   (M.aj (M.aE (M.aP (M.pv 0) T.cl D_drop_tie (hr.mono (by decide)) (M.ao (M.pv 1) (M.ao (M.pv 2) (M.ao (M.pv 3) M.aa))))))))),fun ds S Q h => ?_⟩
  obtain ⟨n,x,own,ks,ts,rfl,X',hx1,hx2,hx,ox,q⟩:=h
  obtain ⟨m,t,e,cs,rfl,rfl,X⟩:=id X'
  have e0:aT tW [.loc n,.str x.1,.str x.2.1,.str x.2.2]=[some (.loc n),some (.str x.1),some (.str x.2.1),some (.str x.2.2)]:=rfl
  rw [e0]
  push_cast [true_and]
  refine aF rfl X.at_ (by decide +kernel) ⟨_,rfl,n,x.1,_,_,ts,rfl,X',hx1,?_⟩
  refine aF rfl X.at_ (by decide +kernel) ⟨_,rfl,n,x.2.2,_,_,ts,rfl,X',hx2,?_⟩
  refine aF rfl X.at_ (by decide +kernel) ⟨_,rfl,_,rfl,_,rfl,n,x,_,_,ts,rfl,X',ox,?_⟩
  refine ⟨true,by rw [decide_eq_true hx];rfl,?_⟩
  rw [if_neg (by decide)]
  exact aF rfl X.at_ (by decide +kernel) ⟨_,rfl,_,rfl,_,rfl,n,x,_,_,ts,rfl,X',hx1,hx2,ox,q⟩
noncomputable def setM (ks:List Kn) (x:Str) (ms:List Str):List Kn:=ks.map fun k=>if k.1=x then (k.1,ms) else k
theorem wI {cs:List Kc}{x:Str}{ms:List Str}:(cs.map (setC x ms)).map Kc.kn=setM (cs.map Kc.kn) x ms:=by
 unfold setM
 rw [zcj,zcj]
 refine zaK fun c _ => ?_
 show Kc.kn (setC x ms c)=if c.nm=x then (c.nm,ms) else c.kn
 unfold setC
 split <;> rfl
theorem qK {cs:List Kc} (hn:(jy cs).Nodup) {c:Kc} (hc:c∈cs) {k:Kn} (hk:k∈cs.map Kc.kn) (e:k.1=c.nm):k=c.kn:=by
 obtain ⟨d,hd,rfl⟩:=zck.mp hk
 rw [eG hn d hd c hc e]
noncomputable def An (C:Addr) (W:World):AN:=fun ds S Q=>∃ n x y own ks ts,ds=[.loc n,.str x.1,.str y]∧aZ C W S n own ks ts∧x∈ks∧y ∉ x.2∧x.2.length<5∧eV y=true∧iN C W S n own (setM ks x.1 (x.2++[y])) ts Q
theorem FY {S:au}{a:Nat}{ms:List Str} (h:S[a]? = some (some (mO ms))) {neg:Bool}{x:Str}{Q:AK} (q:Q (.dat (.bl (neg != decide (x∈ms)))) S):tS neg (.str x) (.loc a) S Q:=by
 unfold tS
 rw [aS h]
 refine ⟨.inr x,rfl,?_⟩
 rw [nI];exact q
theorem Iz (T:Txt K mg C fi) (F:cE K C "put_mark" "Web.put_mark" jU wR) (D_need_knot:bA P w K mg base 1 C "need_knot" dm (gq C w)):bA P w K mg base 2 C "put_mark" jU (An C w):=by
 refine ee F GC (fun ds S Q h => ?_) (fun f cdv A outer s H E hr => ?_)
 ·obtain ⟨n,x,y,own,ks,ts,rfl,_⟩:=h;rfl
 ·refine ⟨_,(M.af (M.aE (M.aP (M.pv 0) T.cl D_need_knot (hr.mono (by decide)) (M.ao (M.pv 1) M.aa)))
   (M.af (M.bG (M.aA (M.FQ hr) (M.pv 2) (M.cz (dW hr) (M.bz (M.pv 0) T.cl T.bS) (M.pv 1) (fun _ _=>rfl)) rfl)
    (M.aj M.cj)
    M.aQ)
   (M.af (M.bG (M.aA M.HP (M.fW M.kL (by rfl) T.len (by decide +kernel) (M.ao (M.cz (dW hr) (M.bz (M.pv 0) T.cl T.bS) (M.pv 1) (fun _ _=>rfl)) M.aa)) T.nZ (br _))
    (M.aj M.cj)
    M.aQ)
   (M.aj (M.mZ (dW hr) (M.cz (dW hr) (M.bz (M.pv 0) T.cl T.bS) (M.pv 1) (fun _ _=>rfl)) (M.pv 2) M.d9 rfl))))),fun ds S Q h => ?_⟩
  obtain ⟨n,x,y,own,ks,ts,rfl,X',hx,hy,hl,oy,q⟩:=h
  obtain ⟨m,t,e,cs,rfl,rfl,X⟩:=id X'
  have e0:aT yi [.loc n,.str x.1,.str y]=[some (.loc n),some (.str x.1),some (.str y)]:=rfl
  rw [e0]
  push_cast [true_and]
  have hx1:x.1∈nms (cs.map Kc.kn):=zck.mpr ⟨x,hx,rfl⟩
  have hx2:=hx1
  rw [d7] at hx2
  obtain ⟨c,hc,hcn,_,g1⟩:=X.jE hx2
  have ex:=qK X.kn hc hx hcn.symm
  subst ex
  have hm:=X.uV c hc
  refine aF rfl X.at_ (by decide +kernel) ⟨_,rfl,n,c.nm,_,_,ts,rfl,X',hx1,?_⟩
  refine cB (gE X rfl ⟨_,rfl,_,_,_,_,aS X.rE,rfl,g1,FY hm ⟨_,rfl,?_⟩⟩)
  rw [decide_eq_false (show y ∉ c.ml from hy),if_neg (by decide)]
  refine cB (gE X rfl ⟨_,rfl,_,_,_,_,aS X.rE,rfl,g1,c.ml.length,?_,?_⟩)
  ·rw [mU,aS hm]
   show some (c.ml.map Sum.inr).length=_
   rw [zbJ]
  have hl:c.ml.length<5:=hl
  rw [decide_eq_false (by omega),if_neg (by decide)]
  refine EE (cB (gE X rfl ⟨_,rfl,_,_,_,_,aS X.rE,rfl,g1,_,rfl,c.mc,_,_,.inr y,rfl,rfl,hm,by rw [zbJ];omega,?_⟩))
  rw [Hx (show y ∉ c.ml from hy)]
  obtain ⟨Y,ec⟩:=X.marks hc (ms:=c.ml++[y]) (by
   refine zbo.mpr ⟨X.mn c hc,by simp,fun a ha b hb z=>hy ?_⟩
   have:b=y:=by simpa using hb
   rw [← this,← z];exact ha) (fun m hm=>by
   rcases zbI.mp hm with h | h
   ·exact (X.okn c hc).2 m h
   ·have:m=y:=by simpa using h
    rw [this];exact oy) (by rw [zaS];simp;omega)
  exact q _ (cells n m t e cs) ⟨m,t,e,_,ec.symm,wI,Y⟩ (.set (EX hc))
noncomputable def wo (C:Addr) (W:World):AN:=fun ds S Q=>∃ n x y own ks ts,ds=[.loc n,.str x.1,.str y]∧aZ C W S n own ks ts∧x∈ks∧y∈x.2∧iN C W S n own (setM ks x.1 (x.2.filter fun z=>decide (z≠y))) ts Q
theorem EK (T:Txt K mg C fi) (F:cE K C "take_mark" "Web.take_mark" gO qe) (D_need_knot:bA P w K mg base 1 C "need_knot" dm (gq C w)):bA P w K mg base 2 C "take_mark" gO (wo C w):=by
 refine ee F DL (fun ds S Q h => ?_) (fun f cdv A outer s H E hr => ?_)
 ·obtain ⟨n,x,y,own,ks,ts,rfl,_⟩:=h;rfl
 ·refine ⟨_,(M.af (M.aE (M.aP (M.pv 0) T.cl D_need_knot (hr.mono (by decide)) (M.ao (M.pv 1) M.aa)))
   (M.af (M.bG (M.aA (M.sq hr) (M.pv 2) (M.cz (dW hr) (M.bz (M.pv 0) T.cl T.bS) (M.pv 1) (fun _ _=>rfl)) rfl)
    (M.aj M.cj)
    M.aQ)
   (M.aj (M.aE (M.qu (M.cz (dW hr) (M.bz (M.pv 0) T.cl T.bS) (M.pv 1) (fun _ _=>rfl)) (M.pv 2) ⟨rfl,rfl,rfl,rfl⟩))))),fun ds S Q h => ?_⟩
  obtain ⟨n,x,y,own,ks,ts,rfl,X',hx,hy,q⟩:=h
  obtain ⟨m,t,e,cs,rfl,rfl,X⟩:=id X'
  have e0:aT tX [.loc n,.str x.1,.str y]=[some (.loc n),some (.str x.1),some (.str y)]:=rfl
  rw [e0]
  push_cast [true_and]
  have hx1:x.1∈nms (cs.map Kc.kn):=zck.mpr ⟨x,hx,rfl⟩
  have hx2:=hx1
  rw [d7] at hx2
  obtain ⟨c,hc,hcn,_,g1⟩:=X.jE hx2
  have ex:=qK X.kn hc hx hcn.symm
  subst ex
  have hm:=X.uV c hc
  refine aF rfl X.at_ (by decide +kernel) ⟨_,rfl,n,c.nm,_,_,ts,rfl,X',hx1,?_⟩
  refine cB (gE X rfl ⟨_,rfl,_,_,_,_,aS X.rE,rfl,g1,FY hm ⟨_,rfl,?_⟩⟩)
  rw [decide_eq_true (show y∈c.ml from hy),if_neg (by decide)]
  refine qS (cB (gE X rfl ⟨_,rfl,_,_,_,_,aS X.rE,rfl,g1,c.mc,_,_,rfl,hm,_,rfl,_,_,.inr y,_,hm,rfl,BN hy,?_⟩))
  rw [ED]
  obtain ⟨Y,ec⟩:=X.marks hc (ms:=c.ml.filter fun z=>decide (z≠y)) ((X.mn c hc).sublist zaN) (fun m hm=>(X.okn c hc).2 m (zbH.mp hm).1) (Nat.lt_of_le_of_lt (zau ..) (X.mb c hc))
  exact q _ (cells n m t e cs) ⟨m,t,e,_,ec.symm,wI,Y⟩ (.set (EX hc))
end
open PySem PySem.Spec L2 M M6 PyProof.Rows
noncomputable abbrev qj:Stmt:=inClass (top 11) 7
noncomputable abbrev t7:List Str:=["self"]
noncomputable abbrev gR:List Str:=["self"]
theorem DO:aG t7 gR (ai qj):=⟨rfl,rfl,rfl,by decide +kernel,rfl,by decide +kernel,by decide +kernel⟩
noncomputable abbrev qi:Stmt:=inClass (top 11) 8
noncomputable abbrev t6:List Str:=["self","knot"]
noncomputable abbrev gQ:List Str:=["self","knot"]
theorem DN:aG t6 gQ (ai qi):=⟨rfl,rfl,rfl,by decide +kernel,rfl,by decide +kernel,by decide +kernel⟩
noncomputable abbrev qg:Stmt:=inClass (top 11) 10
noncomputable abbrev tZ:List Str:=["self","knot"]
noncomputable abbrev eN:List Str:=["self","knot"]
theorem DM:aG tZ eN (ai qg):=⟨rfl,rfl,rfl,by decide +kernel,rfl,by decide +kernel,by decide +kernel⟩
noncomputable abbrev qc:Stmt:=inClass (top 11) 11
noncomputable abbrev tV:List Str:=["self","knots"]
noncomputable abbrev dX:List Str:=["self"]
theorem wJ:aG tV dX (ai qc):=⟨rfl,rfl,rfl,by decide +kernel,rfl,by decide +kernel,by decide +kernel⟩
noncomputable abbrev qf:Stmt:=inClass (top 11) 2
noncomputable abbrev tY:List Str:=["self","name","side","word","other"]
noncomputable abbrev gP:List Str:=["self","name"]
theorem lN:aG tY gP (ai qf):=⟨rfl,rfl,rfl,by decide +kernel,rfl,by decide +kernel,by decide +kernel⟩
noncomputable def dD (l:List Str):List Str:=open Classical in if h:∃ s:List Str,s.Perm l∧sortedS s=true then h.choose else []
theorem iT {l s:List Str} (hn:l.Nodup) (hp:s.Perm l) (hs:sortedS s=true):s=dD l:=by
 have h:∃ s:List Str,s.Perm l∧sortedS s=true:=⟨s,hp,hs⟩
 unfold dD
 rw [dif_pos h]
 exact DC hn hp h.choose_spec.1 hs h.choose_spec.2
noncomputable def b5 (l:List Ti):List Ti:=open Classical in if h:∃ s:List Ti,s.Perm l∧ug (s.map T3) then h.choose else []
theorem je {l s:List Ti} (hn:l.Nodup) (hp:s.Perm l) (hs:ug (s.map T3)):s=b5 l:=by
 have h:∃ s:List Ti,s.Perm l∧ug (s.map T3):=⟨s,hp,hs⟩
 unfold b5
 rw [dif_pos h]
 exact pL (hp.nodup_iff.mpr hn) hs h.choose_spec.2 (h.choose_spec.1.trans hp.symm)
noncomputable def aK (ks:List Kn) (x:Str):List Str:=((ks.find? fun k=>decide (k.1=x)).map (·.2)).getD []
theorem ir {x:Str}:∀ {ks:List Kn},x∈nms ks→(x,aK ks x)∈ks
 | [],h=>by simp at h
 | k::ks,h=>by
  unfold aK
  rw [zbM]
  by_cases e:k.1=x
  ·rw [decide_eq_true e]
   subst e
   exact zaR ..
  ·rw [decide_eq_false e]
   rcases zca.mp (show x∈k.1::nms ks from h) with z | z
   ·exact absurd z.symm e
   ·exact zaA _ (ir (ks:=ks) z)
noncomputable def JX (ks:List Kn) (x:Str):D:=.tup [.str x,.tup ((dD (aK ks x)).map D.str)]
noncomputable def kJ (ks:List Kn) (ts:List Ti):D:=.tup [.tup ((dD (nms ks)).map (JX ks)),.tup ((b5 ts).map T3)]
theorem iy {caps:List (Option Nat)}{i:AI}{g:AG}{t:AT}{e:AE}{δ:bH}{S:au}{Q:AK} (h:i δ S fun ds P S1=>cM P g t e ds [] (nR caps δ) S1 fun ds' S2=>Q (.new (.lst ds')) S2):jP caps i g t e δ S Q:=h
theorem gJ {t:AE}{δ:bH}{S:au}{Q:List D→(au→Prop)→au→Prop} (h:t δ S fun r S1=>BF S1 Q r.d):BG t δ S Q:=h
theorem BU {i:AI}{g:AG}{b:AS}{Dx:fR}{δ:bH}{S:au} (h:i δ S fun ds P S1=>fM P g b ds Dx δ S1):nT i g b Dx δ S:=h
section
variable {P:Program}{w:World}{K:PySem.W.Frag}{mg:Str→Option Value}{base:Heap}{C fi:Addr}
noncomputable def wC (C:Addr) (W:World):AN:=fun ds S Q=>∃ n own ks ts,ds=[.loc n]∧aZ C W S n own ks ts∧((dD (nms ks)).Perm (nms ks)→Q (.new (.lst ((dD (nms ks)).map D.str))) S)
theorem ER (T:Txt K mg C fi) (F:cE K C "knots" "Web.knots" gR qj):bA P w K mg base 1 C "knots" gR (wC C w):=by
 refine ee F DO (fun ds S Q h => ?_) (fun f cdv A outer s H E hr => ?_)
 ·obtain ⟨n,own,ks,ts,rfl,_⟩:=h;rfl
 ·refine ⟨_,(M.aj (M.aV (M.fW (M.sj hr) (by rfl) T.sorted (by decide +kernel) (M.ao (M.bz (M.pv 0) T.cl T.bS) M.aa)))),fun ds S Q h => ?_⟩
  obtain ⟨n,own,ks,ts,rfl,⟨m,t,e,cs,rfl,rfl,X⟩,q⟩:=h
  have e0:aT t7 [.loc n]=[some (.loc n)]:=rfl
  rw [e0]
  rw [d7] at q
  push_cast [true_and]
  refine gE X rfl ⟨_,cs.map (fun c=>.loc c.mc),jy cs,rfl,?_,by unfold jy;rw [zbJ];exact X.kb,fun ss hp hs => ?_⟩
  ·rw [mU,aS X.rE]
   show D.dct _ _=_
   unfold kk jy
   rw [zcj];rfl
  ·have e:=iT X.kn hp hs
   subst e
   exact q hp
noncomputable def wA (C:Addr) (W:World):AN:=fun ds S Q=>∃ n own ks ts k,ds=[.loc n,.str k.1]∧aZ C W S n own ks ts∧k∈ks∧((dD k.2).Perm k.2→Q (.new (.lst ((dD k.2).map D.str))) S)
theorem EO (T:Txt K mg C fi) (F:cE K C "marks" "Web.marks" gQ qi) (D_need_knot:bA P w K mg base 1 C "need_knot" dm (gq C w)):bA P w K mg base 2 C "marks" gQ (wA C w):=by
 refine ee F DN (fun ds S Q h => ?_) (fun f cdv A outer s H E hr => ?_)
 ·obtain ⟨n,own,ks,ts,k,rfl,_⟩:=h;rfl
 ·refine ⟨_,(M.af (M.aE (M.aP (M.pv 0) T.cl D_need_knot (hr.mono (by decide)) (M.ao (M.pv 1) M.aa)))
   (M.aj (M.aV (M.fW (M.sj hr) (by rfl) T.sorted (by decide +kernel) (M.ao (M.cz (dW hr) (M.bz (M.pv 0) T.cl T.bS) (M.pv 1) (fun _ _=>rfl)) M.aa))))),fun ds S Q h => ?_⟩
  obtain ⟨n,own,ks,ts,x,rfl,X',hx,q⟩:=h
  obtain ⟨m,t,e,cs,rfl,rfl,X⟩:=id X'
  have e0:aT t6 [.loc n,.str x.1]=[some (.loc n),some (.str x.1)]:=rfl
  rw [e0]
  push_cast [true_and]
  have hx1:x.1∈nms (cs.map Kc.kn):=zck.mpr ⟨x,hx,rfl⟩
  have hx2:=hx1
  rw [d7] at hx2
  obtain ⟨c,hc,hcn,_,g1⟩:=X.jE hx2
  have ex:=qK X.kn hc hx hcn.symm
  subst ex
  have hm:=X.uV c hc
  refine aF rfl X.at_ (by decide +kernel) ⟨_,rfl,n,c.nm,_,_,ts,rfl,X',hx1,?_⟩
  refine cB (gE X rfl ⟨_,rfl,_,_,_,_,aS X.rE,rfl,g1,⟨_,c.ml.map (fun _=>.bl true),c.ml,rfl,by rw [mU,aS hm];rfl,X.mb c hc,fun ss hp hs => ?_⟩⟩)
  have e:=iT (X.mn c hc) hp hs
  subst e
  exact q hp
noncomputable def lH (C:Addr) (W:World):AN:=fun ds S Q=>∃ n own ks ts x,ds=[.loc n,.str x]∧aZ C W S n own ks ts∧x∈nms ks ∧
 ∀ us:List Ti,us.Nodup→(∀ j,j∈us↔stp ts x j)→(∀ j∈us,iF j=true)→ug (us.map T3)→Q (.new (.lst (us.map T3))) S
theorem EM (T:Txt K mg C fi) (F:cE K C "steps" "Web.steps" eN qg) (D_need_knot:bA P w K mg base 1 C "need_knot" dm (gq C w)):bA P w K mg base 2 C "steps" eN (lH C w):=by
 refine ee F DM (fun ds S Q h => ?_) (fun f cdv A outer s H E hr => ?_)
 ·obtain ⟨n,own,ks,ts,x,rfl,_⟩:=h;rfl
 ·refine ⟨_,(M.af (M.aE (M.aP (M.pv 0) T.cl D_need_knot (hr.mono (by decide)) (M.ao (M.pv 1) M.aa)))
   (M.aj (M.aV (M.fW (M.sf hr) (by rfl) T.sorted (by decide +kernel) (M.ao (M.cz (dW hr) (M.bz (M.pv 0) T.cl T.n_near) (M.pv 1) (fun _ _=>rfl)) M.aa))))),fun ds S Q h => ?_⟩
  obtain ⟨n,own,ks,ts,x,rfl,X',hx,q⟩:=h
  obtain ⟨m,t,e,cs,rfl,rfl,X⟩:=id X'
  have e0:aT tZ [.loc n,.str x]=[some (.loc n),some (.str x)]:=rfl
  rw [e0]
  push_cast [true_and]
  have hx2:=hx
  rw [d7] at hx2
  obtain ⟨c,hc,hcn,g1,_⟩:=X.jE hx2
  subst hcn
  obtain ⟨js,j1,j2,j3,j4,j5⟩:=X.uU c hc
  refine aF rfl X.at_ (by decide +kernel) ⟨_,rfl,n,c.nm,_,_,ts,rfl,X',hx,?_⟩
  refine cB (oZ X rfl ⟨_,rfl,_,_,_,_,aS X.ne,rfl,g1,⟨c.nc,js.map T3,rfl,j1,gu j4,by rw [zbJ];omega,fun ks' hp hu => ?_⟩⟩)
  obtain ⟨us,hu1,rfl⟩:=pM hp
  exact q us (hu1.nodup_iff.mpr j2) (fun j=>hu1.mem_iff.trans (j5 j)) (fun j hj=>j4 j (hu1.mem_iff.mp hj)) hu
noncomputable def jf (C:Addr) (W:World):AN:=fun ds S Q=>∃ n own ks ts,ds=[.loc n]∧aZ C W S n own ks ts ∧
 ((dD (nms ks)).Perm (nms ks)→(b5 ts).Perm ts→(∀ x∈nms ks,(dD (aK ks x)).Perm (aK ks x))→Q (.dat (kJ ks ts)) S)
theorem EI (T:Txt K mg C fi) (F:cE K C "rows" "Web.rows" dX qc) (rD:bA P w K mg base 1 C "knots" gR (wC C w)) (rB:bA P w K mg base 2 C "marks" gQ (wA C w)):bA P w K mg base 3 C "rows" dX (jf C w):=by
 refine ee F wJ (fun ds S Q h => ?_) (fun f cdv A outer s H E hr => ?_)
 ·obtain ⟨n,own,ks,ts,rfl,_⟩:=h;rfl
 ·refine ⟨_,(M.af (M.bL (i:=1) wJ.nd rfl rfl (N:=["name","self"]) (caps:=[none,some 0]) (eK (by decide +kernel)) (by rfl) (by rfl) rfl (M.ck (M.cu (M.pv 0) T.cl rD (hr.mono (by decide)))) (fun _ _ _ _=>(M.aq (i:=0) (by decide +kernel:List.Nodup (["name","self"]:List Str)) rfl (Or.inl rfl))) (fun _ _ _ _=>M.cH) (fun _ _ _ _=>(M.aR (M.ao (M.pv 0) (M.ao (M.Bb M.eu (by rfl) T.tuple (by decide +kernel) (M.ao (M.aP (M.pv 1) T.cl rB (hr.mono (by decide)) (M.ao (M.pv 0) M.aa)) M.aa)) M.aa)))))
   (M.aj (M.aV (M.aR (M.ao (M.Bb M.eu (by rfl) T.tuple (by decide +kernel) (M.ao (M.pv 1) M.aa)) (M.ao (M.Bb M.eu (by rfl) T.tuple (by decide +kernel) (M.ao (M.fW (M.sf hr) (by rfl) T.sorted (by decide +kernel) (M.ao (M.bz (M.pv 0) T.cl T.n_tied) M.aa)) M.aa)) M.aa)))))),fun ds S Q h => ?_⟩
  obtain ⟨n,own,ks,ts,rfl,X',q⟩:=h
  have htl:ts.length≤1000:=by obtain ⟨_,_,_,_,_,_,X⟩:=id X';have:=X.tb;omega
  obtain ⟨m,t,e,cs,ro,rk,X⟩:=id X'
  have e0:aT tV [.loc n]=[some (.loc n),none]:=rfl
  rw [e0]
  push_cast [true_and]
  have hkl:ks.length<64:=by rw [← rk,zbJ];exact X.kb
  refine iy (gJ (aF rfl X.at_ (by decide +kernel) ?_))
  refine ⟨n,own,ks,ts,rfl,X',fun hp => ?_⟩
  show cM (fun _=>True) (bI 0) ow _ ((dD (nms ks)).map D.str) [] [none,some (.loc n)] S _
  have hsl:(dD (nms ks)).length=ks.length:=by rw [hp.length_eq,zbJ]
  refine qU (fun rest acc δ S'=>∃ (done rs:List Str) (v:Option D),rest=rs.map D.str∧done++rs=dD (nms ks)∧acc=done.map (JX ks)∧δ=[v,some (.loc n)]∧S'=S∧∀ x∈done,(dD (aK ks x)).Perm (aK ks x)) ?_ ?_ _ _ _ _ ⟨[],_,none,rfl,rfl,rfl,rfl,rfl,by simp⟩
  ·rintro acc δ S' ⟨done,rs,v,e1,e2,rfl,rfl,rfl,hd⟩
   have:rs=[]:=by cases rs with | nil=>rfl | cons _ _=>simp at e1
   subst this
   rw [zbK] at e2
   subst e2
   refine ⟨trivial,?_⟩
   refine ⟨_,rfl,?_⟩
   refine sQ X rfl ⟨t,ts.map T3,rfl,X.ti,gu X.lT,by rw [zbJ];exact htl,fun ks' hp' hu => ?_⟩
   obtain ⟨us,hu1,rfl⟩:=pM hp'
   have e:=je X.tn hu1 hu
   subst e
   refine ⟨_,rfl,by show 2≤sizeLine;decide,?_⟩
   exact q hp hu1 fun x hx=>hd x (hp.mem_iff.mpr hx)
  ·rintro x xs acc δ S' N ⟨done,rs,v,e1,e2,rfl,rfl,rfl,hd⟩ hN
   cases rs with
   | nil=>simp at e1
   | cons r rs =>
    rw [zcb] at e1
    injection e1 with e1 e3
    subst e1;subst e3
    have hr:r∈nms ks:=hp.mem_iff.mp (by rw [← e2];simp)
    refine ⟨trivial,?_⟩
    simp only [bI,ow,if_true,Cq,pJ,aCall,vH,zaW]
    refine ⟨_,rfl,aF (i:=1) rfl X.at_ (by decide +kernel) ⟨_,rfl,n,own,ks,ts,(r,aK ks r),rfl,X',ir hr,fun hpm => ?_⟩⟩
    refine ⟨_,rfl,by show 2≤sizeLine;decide,?_,?_⟩
    ·have:=congrArg zcv e2
     rw [zaS,hsl] at this
     rw [zbJ,sizeLine_eq];omega
    ·refine hN _ _ _ ⟨done++[r],rs,_,rfl,by rw [← e2];simp,by rw [zbR];rfl,rfl,rfl,fun x hx => ?_⟩
     rcases zbI.mp hx with hx | hx
     ·exact hd x hx
     ·have:x=r:=by simpa using hx
      subst this
      exact hpm
noncomputable def cX (x:Str) (j:Ti):Ti:=if j.1 = "on" then (x,j.2.1,j.2.2) else (j.2.2,j.2.1,x)
noncomputable def iQ (ts:List Ti) (x:Str):List Ti:=ts.filter fun t=>decide (t.1≠x)&&decide (t.2.2≠x)
noncomputable def dF (ks:List Kn) (x:Str):List Kn:=ks.filter fun k=>decide (k.1≠x)
theorem Bc:∀ (js:List Ti) (ts:List Ti) (x:Str),js.foldl (fun ts j=>eF ts (cX x j)) ts=ts.filter fun t=>decide (t ∉ js.map (cX x))
 | [],ts,x=>(zaM.mpr fun t _=>decide_eq_true (by simp)).symm
 | j::js,ts,x=>by
  rw [zbP,Bc js _ x]
  unfold eF
  rw [List.filter_filter]
  refine zbp fun t _ => ?_
  by_cases h1:t=cX x j
  ·simp [h1]
  ·by_cases h2:t∈js.map (cX x)
   ·have:t∈(j::js).map (cX x):=by rw [zcb];exact zaA _ h2
    rw [decide_eq_false (not_not_intro h2),decide_eq_false (not_not_intro this)];simp
   ·have:t ∉ (j::js).map (cX x):=by rw [zcb,zca];exact fun z=>z.elim h1 h2
    rw [decide_eq_true h2,decide_eq_true this,decide_eq_true h1];rfl
theorem Ey {js ts:List Ti}{x:Str} (h:∀ j,j∈js↔stp ts x j):js.foldl (fun ts j=>eF ts (cX x j)) ts=iQ ts x:=by
 rw [Bc]
 unfold iQ
 refine zbp fun t ht => ?_
 have nb:(Str.ofString "back")≠Str.ofString "on" := by decide +kernel
 obtain ⟨a,b,c⟩:=t
 by_cases h1:a=x
 ·subst h1
  have:(a,b,c)∈js.map (cX a):=zck.mpr ⟨yI b c,(h _).mpr (.inl ⟨rfl,ht⟩),by unfold cX;rw [if_pos rfl]⟩
  simp [this]
 ·by_cases h2:c=x
  ·subst h2
   have:(a,b,c)∈js.map (cX c):=zck.mpr ⟨gI b a,(h _).mpr (.inr ⟨rfl,ht⟩),by unfold cX;rw [if_neg nb]⟩
   simp [this]
  ·have:(a,b,c) ∉ js.map (cX x):=fun z=>by
    obtain ⟨j,hj,e⟩:=zck.mp z
    unfold cX at e
    split at e
    ·exact h1 (by rw [← (Prod.mk.inj e).1])
    ·exact h2 (by rw [← (Prod.mk.inj (Prod.mk.inj e).2).2])
   simp [this,h1,h2]
noncomputable def wu (C:Addr) (W:World):AN:=fun ds S Q=>∃ n own ks ts x,ds=[.loc n,.str x]∧aZ C W S n own ks ts∧x∈nms ks∧iN C W S n own (dF ks x) (iQ ts x) Q
theorem EL (T:Txt K mg C fi) (F:cE K C "take_knot" "Web.take_knot" gP qf) (D_need_knot:bA P w K mg base 1 C "need_knot" dm (gq C w)) (dS:bA P w K mg base 2 C "steps" eN (lH C w)) (D_drop_tie:bA P w K mg base 1 C "drop_tie" iE (uD C w)):bA P w K mg base 3 C "take_knot" gP (wu C w):=by
 refine ee F lN (fun ds S Q h => ?_) (fun f cdv A outer s H E hr => ?_)
 ·obtain ⟨n,own,ks,ts,x,rfl,_⟩:=h;rfl
 ·refine ⟨_,(M.af (M.aE (M.aP (M.pv 0) T.cl D_need_knot (hr.mono (by decide)) (M.ao (M.pv 1) M.aa)))
   (M.af (M.cV PassesOwn.never rfl (M.ck (M.aP (M.pv 0) T.cl dS (hr.mono (by decide)) (M.ao (M.pv 1) M.aa))) (M.fu (n:=3) rfl (M.aY (M.aq (i:=2) lN.nd rfl (Or.inl rfl)) (M.aY (M.aq (i:=3) lN.nd rfl (Or.inl rfl)) (M.aY (M.aq (i:=4) lN.nd rfl (Or.inl rfl)) M.dQ))))
    (M.aj (M.bG (M.aA (M.ng hr) (M.pv 2) M.aL (br _))
     (M.aj (M.aE (M.aP (M.pv 0) T.cl D_drop_tie (hr.mono (by decide)) (M.ao (M.pv 1) (M.ao (M.pv 3) (M.ao (M.pv 4) M.aa))))))
     (M.aj (M.aE (M.aP (M.pv 0) T.cl D_drop_tie (hr.mono (by decide)) (M.ao (M.pv 4) (M.ao (M.pv 3) (M.ao (M.pv 1) M.aa)))))))))
   (M.af (M.aE (M.qu (M.bz (M.pv 0) T.cl T.n_near) (M.pv 1) ⟨rfl,rfl,rfl,rfl⟩))
   (M.aj (M.aE (M.qu (M.bz (M.pv 0) T.cl T.bS) (M.pv 1) ⟨rfl,rfl,rfl,rfl⟩)))))),fun ds S Q h => ?_⟩
  obtain ⟨n,own,ks,ts,x,rfl,X',hx,q⟩:=h
  obtain ⟨m,t,e,cs,ro,rk,X⟩:=id X'
  have e0:aT tY [.loc n,.str x]=[some (.loc n),some (.str x),none,none,none]:=rfl
  rw [e0]
  push_cast [true_and]
  refine aF rfl X.at_ (by decide +kernel) ⟨_,rfl,n,x,own,ks,ts,rfl,X',hx,?_⟩
  refine BU (gJ (aF rfl X.at_ (by decide +kernel) ⟨_,rfl,n,own,ks,ts,x,rfl,X',hx,fun us un um uo _ => ?_⟩))
  show fM (fun _=>True) _ _ (us.map T3) _ _ S
  refine c8 (fun rest δ S'=>∃ (done rs:List Ti) (own':List Nat) (v2 v3 v4:Option D),rest=rs.map T3∧done++rs=us∧δ=[some (.loc n),some (.str x),v2,v3,v4]∧aZ C w S' n own' ks (done.foldl (fun ts j=>eF ts (cX x j)) ts)∧Fr S S' own own') ?_ ?_ _ _ _ ⟨[],us,own,none,none,none,rfl,rfl,rfl,X',.refl⟩
  ·rintro δ S' ⟨done,rs,own',v2,v3,v4,e1,e2,rfl,X1',f1⟩
   have:rs=[]:=by cases rs with | nil=>rfl | cons _ _=>simp at e1
   subst this
   rw [zbK] at e2
   subst e2
   rw [Ey um] at X1'
   refine ⟨trivial,?_⟩
   obtain ⟨m1,t1,e1,ds,ro1,rk1,X1⟩:=X1'
   have hx1:x∈jy ds:=by rw [← d7,rk1];exact hx
   obtain ⟨c,hc,hcn,g1,g2⟩:=X1.jE hx1
   push_cast [true_and]
   refine qS (oZ X1 rfl ⟨e1,_,_,rfl,X1.ne,_,rfl,_,_,.inr x,_,X1.ne,rfl,g1,?_⟩)
   rw [xU]
   have A':=apart X1.nd
   generalize q1:S'.set e1 _=S1
   have o1:∀ k,k≠e1→S1[k]? = S'[k]? := fun k hk=>by rw [← q1,aU hk]
   have m1':S1[m1]? = some (some (.dct (kk ds) (ds.map fun c=>.loc c.mc))):=by rw [o1 m1 A'.me];exact X1.rE
   refine qS ⟨_,rfl,n,_,_,_,rfl,by rw [o1 n A'.ne];exact X1.at_,rfl,m1,_,_,rfl,m1',_,rfl,_,_,.inr x,_,m1',rfl,g2,?_⟩
   rw [xU]
   generalize q2:S1.set m1 _=S2
   have o2:∀ k,k≠e1→k≠m1→S2[k]? = S'[k]? := fun k h1 h2=>by rw [← q2,aU h2,o1 k h1]
   have hsub:=tK (n:=n) (m:=m1) (t:=t1) (e:=e1) (cs:=ds) fun c=>decide (c.nm≠x)
   have keep:∀ {y:Str},y∈jy ds→y≠x→y∈jy (ds.filter fun c=>decide (c.nm≠x)):=fun {y} h1 h2=>by
    obtain ⟨c,hc,rfl⟩:=zck.mp h1
    exact zck.mpr ⟨c,zbH.mpr ⟨hc,decide_eq_true h2⟩,rfl⟩
   have old:∀ c'∈ds.filter (fun c=>decide (c.nm≠x)),c'∈ds:=fun c' h=>(zbH.mp h).1
   refine q S2 _ ⟨m1,t1,e1,ds.filter fun c=>decide (c.nm≠x),rfl,?_,⟨?_,?_,?_,?_,fun c' hc' => ?_,fun c' hc' => ?_,X1.nd.sublist hsub,?_,X1.tn,fun c' hc'=>X1.mn c' (old c' hc'),fun c' hc'=>X1.okn c' (old c' hc'),X1.lT,fun t' ht' => ?_,Nat.lt_of_le_of_lt (zau ..) X1.kb,fun c' hc'=>X1.mb c' (old c' hc'),X1.tb⟩⟩ (f1.trans ⟨fun k hk hn => ?_,?_,fun c' hc'=>.inl ?_⟩)
   ·unfold dF
    rw [← rk1,List.filter_map];rfl
   ·rw [o2 n A'.ne A'.nm];exact X1.at_
   ·rw [← q2];exact cU m1'
   ·rw [o2 t1 A'.te (Ne.symm A'.mt)];exact X1.ti
   ·rw [← q2,aU (Ne.symm A'.me),← q1];exact cU X1.ne
   ·rw [o2 _ (Ne.symm (A'.ec c' (old c' hc')).1) (Ne.symm (A'.mc c' (old c' hc')).1)];exact X1.uV c' (old c' hc')
   ·rw [o2 _ (Ne.symm (A'.ec c' (old c' hc')).2) (Ne.symm (A'.mc c' (old c' hc')).2)];exact X1.uU c' (old c' hc')
   ·exact X1.kn.sublist (zaN.map _)
   ·obtain ⟨b1,b2⟩:=zbH.mp ht'
    rw [zbE] at b2
    have:=X1.tk t' ht'
    exact ⟨keep this.1 (of_decide_eq_true b2.1),keep this.2 (of_decide_eq_true b2.2)⟩
   ·refine o2 k (fun z=>hn ?_) fun z=>hn ?_
    ·rw [ro1,z];exact Lz
    ·rw [ro1,z];exact Ly
   ·rw [← q2,zbO,← q1,zbO];exact zcx _
   ·rw [ro1];exact hsub.subset hc'
  ·rintro y ys δ S' N ⟨done,rs,own',v2,v3,v4,e1,e2,rfl,X1',f1⟩ hN
   cases rs with
   | nil=>simp at e1
   | cons j rs =>
    rw [zcb] at e1
    injection e1 with e1 e3
    subst e1;subst e3
    refine ⟨trivial,_,rfl,rfl,_,_,rfl,_,_,rfl,_,_,rfl,rfl,?_⟩
    obtain ⟨m1,t1,e1,ds,ro1,rk1,X1⟩:=id X1'
    push_cast [true_and]
    have hst:stp ts x j:=(um j).mp (by rw [← e2];simp)
    have hin:cX x j∈ts:=by
     unfold cX
     rcases hst with ⟨h1,h2⟩ | ⟨h1,h2⟩
     ·rw [if_pos h1];exact h2
     ·rw [if_neg (by rw [h1];decide +kernel)];exact h2
    have hk:=X.tk _ hin
    rw [← d7,rk] at hk
    have hok:=X.lT _ hin
    have go:iN C w S' n own' ks (eF (done.foldl (fun ts j=>eF ts (cX x j)) ts) (cX x j)) fun _ S1=>N [some (.loc n),some (.str x),some (.str j.1),some (.str j.2.1),some (.str j.2.2)] S1:=fun S2 own2 X2 f2 =>
     hN _ _ ⟨done++[j],rs,own2,_,_,_,rfl,by rw [← e2];simp,rfl,by rw [List.foldl_append];exact X2,f1.trans f2⟩
    by_cases h1:j.1 = "on"
    ·rw [decide_eq_true h1,if_pos rfl]
     have et:cX x j=(x,j.2.1,j.2.2):=if_pos h1
     rw [et] at hk hok go
     exact aF rfl X1.at_ (by decide +kernel) ⟨_,rfl,_,rfl,_,rfl,n,_,own',ks,_,rfl,X1',hk.1,hk.2,hok,go⟩
    ·rw [decide_eq_false h1,if_neg (by decide)]
     have et:cX x j=(j.2.2,j.2.1,x):=if_neg h1
     rw [et] at hk hok go
     exact aF rfl X1.at_ (by decide +kernel) ⟨_,rfl,_,rfl,_,rfl,n,_,own',ks,_,rfl,X1',hk.1,hk.2,hok,go⟩
end
open PySem PySem.Spec L2 M M6 PyProof.Rows
noncomputable abbrev wO:Stmt:=top 18
noncomputable abbrev yg:List Str:=["_law_feed_here","_law_names_here","_law_most","_law_knots","_law_k","_law_marks","_law_ties","_law_one","_law_word","_law_tie"]
noncomputable abbrev jT:List Str:=["_law_feed_here","_law_names_here","_law_most"]
theorem fT:aG yg jT (ai wO):=⟨rfl,rfl,rfl,by decide +kernel,rfl,by decide +kernel,by decide +kernel⟩
structure Tm (n m:Nat) (d:D):Prop where
 th:j7 n d=true
 sh:oj (py d)
 wt:L2.wt (py d)≤m
theorem LJ {n m:Nat}:∀ {es:List D},(∀ e∈es,Tm n m e)→es.all (j7 n)=true∧cN (cY es)∧gi (cY es)≤es.length*(m+2)
 | [],_=>⟨rfl,by simp [cY,cN],by simp [cY,gi]⟩
 | e::es,h=>by
  obtain ⟨a,b,c⟩:=LJ (es:=es) fun x hx=>h x (by simp [hx])
  have he:=h e (by simp)
  refine ⟨by simp [he.th];simpa using a,by simp only [cY,cN];exact ⟨he.sh,b⟩,?_⟩
  have:=he.wt
  simp only [cY,gi,zbu]
  rw [Nat.succ_mul];omega
theorem Tm.tup {n m l:Nat}{es:List D} (h:∀ e∈es,Tm n m e) (hl:es.length≤l) (h100:l≤100:=by decide):Tm (n+1) (l*(m+2)+3) (.tup es):=by
 obtain ⟨a,b,c⟩:=LJ h
 refine ⟨by simp only [j7,zbE];exact ⟨decide_eq_true (by omega),a⟩,by simpa [py,oj] using b,?_⟩
 have:es.length*(m+2)≤l*(m+2):=zaH _ hl
 simp only [py,L2.wt];omega
theorem Tm.lst {n m l:Nat}{es:List D} (h:∀ e∈es,Tm n m e) (hl:es.length≤l) (h100:l≤100:=by decide):Tm (n+1) (l*(m+2)+3) (.lst es):=by
 obtain ⟨a,b,c⟩:=LJ h
 refine ⟨by simp only [j7,zbE];exact ⟨decide_eq_true (by omega),a⟩,by simpa [py,oj] using b,?_⟩
 have:es.length*(m+2)≤l*(m+2):=zaH _ hl
 simp only [py,L2.wt];omega
theorem Tm.asc {y:Str} (hl:y.length≤20) (h:Ge y):Tm 0 202 (.str y):=by
 refine ⟨?_,?_,?_⟩
 ·show eV y=true
  unfold eV
  rw [zbE]
  exact ⟨zbz.mpr fun c hc=>decide_eq_true (h c hc),decide_eq_true (by omega)⟩
 ·simp only [py,oj];exact Ge.ok h
 ·simp only [py,L2.wt];omega
theorem Tm.name {y:Str} (h:Nm y):Tm 0 202 (.str y):=.asc (by have:=h.2.1;omega) h.asc
theorem bY {S:au}{p n:Nat}{m:Int}{Q:AK} (hS:S[p]? = some (some (.feed n))) (hn:n<1000) (h0:0<m) (h1:m<1000) (k:∀ z:Nat,(z:Int)<m→Q (.dat (.int z)) (S.set p (some (.feed (n+1))))):gX [.loc p,.int m] S Q :=
 ⟨p,m,n,rfl,hS,hn,h0,h1,fun z z0 z1=>by
  obtain ⟨y,rfl⟩:∃ y:Nat,z=y:=⟨z.toNat,by omega⟩
  exact k y z1⟩
theorem F9 {ds:List D}{z:Nat} (h:z<ds.length):∃ e,nU ds (z:Int)=some e∧e∈ds:=⟨ds[z],dg (zak h),zbC h⟩
theorem cL {y:Str} (h:Nm y):eV y=true:=by
 unfold eV
 rw [zbE]
 exact ⟨zbz.mpr fun c hc=>decide_eq_true (h.asc c hc),decide_eq_true (by have:=h.2.1;omega)⟩
theorem Mi {ds:List D}{i:Int}{S:au}{Q:AK}:rF (.lst ds) (.int i) S Q=∃ e,nU ds i=some e∧Q (.dat e) S:=rfl
theorem BA {ds:List D}{i:Int}{S:au}{Q:AK}:rF (.tup ds) (.int i) S Q=∃ e,nU ds i=some e∧Q (.dat e) S:=rfl
theorem pick {ds:List D}{z:Nat}{S:au}{Q:AK} (h:z<ds.length) (k:∀ e∈ds,Q (.dat e) S):rF (.lst ds) (.int z) S Q:=by
 obtain ⟨e,h1,h2⟩:=F9 h
 exact ⟨e,h1,k e h2⟩
theorem AU {S X:au}{p n:Nat}{d:D}{Q:AK} (h:b6 d=true) (q:Q (.dat d) (S.set p (some (.feed n)))):ret S (S.set p (some (.feed n))++X) (.dat d) Q:=by
 refine ⟨_,qx h,fun k o hk e => ?_,?_⟩
 ·rw [zaf (by rw [zbO];exact hk)] at e
  by_cases hkp:p=k
  ·subst hkp
   rw [zbj,if_pos rfl,if_pos hk] at e
   have e:MO.feed n=o:=by simpa using e
   subst e
   exact .inr rfl
  ·rw [zaC hkp] at e
   exact .inl e
 ·have:(S.set p (some (.feed n))++X).take S.length=S.set p (some (.feed n)):=by
   rw [show S.length=(S.set p (some (MO.feed n))).length by rw [zbO]]
   exact List.take_left' rfl
  rw [this];exact q
noncomputable def bT (k:Kn):D:=.tup [.str k.1,.lst (k.2.map D.str)]
noncomputable def av (ks:List Kn) (ts:List Ti):D:=.tup [.lst (ks.map bT),.lst (ts.map T3)]
noncomputable def vO (A B M:List Str) (x:D):Prop:=x = .lst [.lst (A.map D.str),.lst (B.map D.str),.lst (M.map D.str)]∧A.length=8∧B.length=3∧M.length=3∧A.Nodup∧M.Nodup∧(∀ y∈A,Nm y)∧(∀ y∈B,Nm y)∧∀ y∈M,Nm y
structure RO (ks:List Kn) (ts:List Ti):Prop where
 kl:ks.length≤62
 nd:(nms ks).Nodup
 nm:∀ k∈ks,Nm k.1∧k.2.length≤5∧k.2.Nodup∧∀ m∈k.2,Nm m
 tn:ts.Nodup
 tl:ts.length≤302
 tk:∀ t∈ts,t.1∈nms ks∧t.2.2∈nms ks∧Nm t.2.1
theorem gn {B X:au}{L i:Nat} (h:L=B.length+i):(B++X)[L]? = X[i]? := by
 rw [h,zab (by omega)];congr 1;omega
theorem pS {B X:au}{L i:Nat}{o:Option MO} (h:L=B.length+i):(B++X).set L o=B++X.set i o:=by
 rw [h,List.set_append,if_neg (by omega)];congr 2;omega
theorem e7 {S X:au}{p n:Nat}{a b:Option MO} (hp:p<S.length):(S.set p a++X).set p b=S.set p b++X:=by
 rw [List.set_append,if_pos (by rw [zbO];exact hp),zci]
theorem rK {S X:au}{p n:Nat}{b:Option MO} (hp:p<S.length):(S++X).set p b=S.set p b++X:=by
 rw [List.set_append,if_pos hp]
theorem kH {S X:au}{p n:Nat}{o:Option MO} (h:S[p]? = some o):(S.set p (some (.feed n))++X)[p]? = some (some (.feed n)):=cD (cU h)
theorem rT {m j:Nat}{x:D}{xs:List D} (h:x::xs=(c9 0 m).drop j):j<m∧x = .int (j:Int)∧xs=(c9 0 m).drop (j+1):=by
 have hj:j<(c9 0 m).length:=by
  rcases zcn j (c9 0 m).length with z | z
  ·exact z
  ·rw [zao z] at h;cases h
 rw [zag hj] at h
 injection h with h1 h2
 have hm:j<m:=by simpa [c9] using hj
 refine ⟨hm,?_,h2⟩
 rw [h1]
 simp [c9]
theorem g9 (m:Nat):(c9 0 m).length=m:=by simp [c9]
theorem IW {l:List Str}{j:Nat} (h:j<l.length):nU (l.map D.str) (j:Int)=some (.str l[j]):=dg (by simp [h])
theorem qM {x:D}{ds:List D}{S:au}{z:Nat}{Q:AK} (h:bD S x = .lst ds) (hz:z<ds.length) (k:∀ e∈ds,Q (.dat e) S):rF x (.int z) S Q:=by
 obtain ⟨e,h1,h2⟩:=F9 hz
 unfold rF
 rw [h]
 exact ⟨e,h1,k e h2⟩
theorem CF {t:Ti} (h1:Tm 0 202 (.str t.1)) (h2:Tm 0 202 (.str t.2.1)) (h3:Tm 0 202 (.str t.2.2)):Tm 1 615 (T3 t):=by
 refine Tm.tup (l:=3) (m:=202) ?_ (by simp)
 simp only [zca,zbB,or_false]
 rintro e (rfl | rfl | rfl) <;> assumption
theorem BC {t:Ti}{ts:List Ti} (ht:iF t=true) (hts:∀ u∈ts,iF u=true):inD (T3 t) (ts.map T3)=decide (t∈ts):=by
 unfold inD
 rw [zch]
 by_cases h:t∈ts
 ·rw [decide_eq_true h]
  refine zbD.mpr ⟨t,h,?_⟩
  show PyData.eqv _ _=true
  rw [fZ _ _ (good3 ht).2.1 (good3 ht).2.1];simp
 ·rw [decide_eq_false h]
  refine zbe.mpr fun u hu z=>h ?_
  have z:PyData.eqv (py (T3 u)) (py (T3 t))=true:=z
  rw [fZ _ _ (good3 (hts u hu)).2.1 (good3 ht).2.1] at z
  rw [← fL (of_decide_eq_true z)];exact hu
theorem RO.lT {ks:List Kn}{ts:List Ti} (h:RO ks ts):∀ t∈ts,iF t=true:=fun t ht=>by
 obtain ⟨h1,h2,h3⟩:=h.tk t ht
 obtain ⟨k1,hk1,e1⟩:=zck.mp h1
 obtain ⟨k2,hk2,e2⟩:=zck.mp h2
 unfold iF
 rw [← e1,← e2,cL (h.nm k1 hk1).1,cL (h.nm k2 hk2).1,cL h3];rfl
theorem RO.t3 {ks:List Kn}{ts:List Ti} (h:RO ks ts):∀ t∈ts,Tm 1 615 (T3 t):=fun t ht=>by
 obtain ⟨h1,h2,h3⟩:=h.tk t ht
 obtain ⟨k1,hk1,e1⟩:=zck.mp h1
 obtain ⟨k2,hk2,e2⟩:=zck.mp h2
 exact CF (by rw [← e1];exact .name (h.nm k1 hk1).1) (.name h3) (by rw [← e2];exact .name (h.nm k2 hk2).1)
theorem RO.b6 {ks:List Kn}{ts:List Ti}:M.b6 (av ks ts)=true:=by
 have p1:∀ l:List Str,bU (l.map D.str)=true:=fun l=>by induction l with | nil=>rfl | cons x l ih=>simp only [zcb,bU,M.b6,zbE];exact ⟨trivial,ih⟩
 have p2:bU (ks.map bT)=true:=by
  induction ks with
  | nil=>rfl
  | cons k ks ih=>simp only [zcb,bU,zbE];exact ⟨by simp [bT,M.b6,bU,p1],ih⟩
 have p3:bU (ts.map T3)=true:=by
  induction ts with
  | nil=>rfl
  | cons k ks ih=>simp only [zcb,bU,zbE];exact ⟨by simp [T3,M.b6,bU],ih⟩
 simp [av,M.b6,bU,p2,p3]
section
variable {P:Program}{w:World}{K:PySem.W.Frag}{mg:Str→Option Value}{base:Heap}{C fi:Addr}
noncomputable def Am:AN:=fun ds S Q=>∃ (p n:Nat) (A B M:List Str) (x:D),ds=[.loc p,x,.int 8]∧vO A B M x∧S[p]? = some (some (.feed n))∧n+150<1000∧∀ (ks:List Kn) (ts:List Ti) (n':Nat),RO ks ts→1≤ks.length→ks.length≤8→ts.length≤23→(∀ k∈ks,k.2.length≤3)→n'≤n+150→Q (.dat (av ks ts)) (S.set p (some (.feed n')))
theorem Iv (T:Txt K mg C fi) (F:Src K mg "_law_rows" jT wO) (D_law_next:Def P w K mg base 1 "_law_next" di (aW K gX)):Def P w K mg base 2 "_law_rows" jT (aW K Am):=by
 refine Ip F fT (fun ds S Q h => ?_) (fun f cdv A outer s H E hr => ?_)
 ·obtain ⟨p,n,A,B,M,x,rfl,_⟩:=h;rfl
 ·refine ⟨_,(M.af (M.aD (i:=3) fT.nd rfl (Or.inl rfl) (M.zT (M.cy M.aa)))
   (M.af (M.cV PassesOwn.never rfl (M.bK (by rfl) T.range (M.ao (M.aO M.jx M.ah (M.aH D_law_next (hr.mono (by decide)) (by rfl) (M.ao (M.pv 0) (M.ao (M.pv 2) M.aa)))) M.aa)) (M.aq (i:=4) fT.nd rfl (Or.inl rfl))
    (M.af (M.bL (i:=5) fT.nd rfl rfl (N:=["_law_mark","_law_feed_here"]) (caps:=[none,some 0]) (eK (by decide +kernel)) (by rfl) (by rfl) rfl (M.ck (M.az M.bq (M.pv 1) M.ah (fun _ _=>rfl))) (fun _ _ _ _=>(M.aq (i:=0) (by decide +kernel:List.Nodup (["_law_mark","_law_feed_here"]:List Str)) rfl (Or.inl rfl))) (fun _ _ _ _=>(M.ff (M.aA (M.ng hr) (M.aH D_law_next (hr.mono (by decide)) (by rfl) (M.ao (M.pv 1) (M.ao M.ah M.aa))) M.ah (br _)))) (fun _ _ _ _=>(M.pv 0)))
    (M.aj (M.aE (M.kK PySem.F.plainAttrs_list PySem.F.slot_list_append PySem.F.type_list_append M.jB (M.pv 3) (M.ao (M.aR (M.ao (M.az M.bq (M.az M.bq (M.pv 1) M.ah (fun _ _=>rfl)) (M.pv 4) (fun _ _=>rfl)) (M.ao (M.pv 5) M.aa))) M.aa))))))
   (M.af (M.aD (i:=6) fT.nd rfl (Or.inl rfl) (M.zT (M.cy M.aa)))
   (M.af (M.cV PassesOwn.never rfl (M.bK (by rfl) T.range (M.ao (M.aH D_law_next (hr.mono (by decide)) (by rfl) (M.ao (M.pv 0) (M.ao (M.aO M.J8 M.ah (M.pv 2)) M.aa))) M.aa)) (M.aq (i:=4) fT.nd rfl (Or.inl rfl))
    (M.af (M.aD (i:=7) fT.nd rfl (Or.inl rfl) (M.az M.bq (M.az M.bq (M.pv 3) (M.aH D_law_next (hr.mono (by decide)) (by rfl) (M.ao (M.pv 0) (M.ao (M.fW M.kL (by rfl) T.len (by decide +kernel) (M.ao (M.pv 3) M.aa)) M.aa))) (fun _ _=>rfl)) M.ah (fun _ _=>rfl)))
    (M.af (M.aD (i:=8) fT.nd rfl (Or.inl rfl) (M.az M.bq (M.az M.bq (M.pv 1) M.ah (fun _ _=>rfl)) (M.aH D_law_next (hr.mono (by decide)) (by rfl) (M.ao (M.pv 0) (M.ao (M.fW M.kL (by rfl) T.len (by decide +kernel) (M.ao (M.az M.bq (M.pv 1) M.ah (fun _ _=>rfl)) M.aa)) M.aa))) (fun _ _=>rfl)))
    (M.af (M.aD (i:=9) fT.nd rfl (Or.inl rfl) (M.aR (M.ao (M.pv 7) (M.ao (M.pv 8) (M.ao (M.az M.bq (M.az M.bq (M.pv 3) (M.aH D_law_next (hr.mono (by decide)) (by rfl) (M.ao (M.pv 0) (M.ao (M.fW M.kL (by rfl) T.len (by decide +kernel) (M.ao (M.pv 3) M.aa)) M.aa))) (fun _ _=>rfl)) M.ah (fun _ _=>rfl)) M.aa)))))
    (M.aj (M.bG (M.aA (M.qz hr) (M.pv 9) (M.pv 6) rfl)
     (M.aj (M.aE (M.kK PySem.F.plainAttrs_list PySem.F.slot_list_append PySem.F.type_list_append M.jB (M.pv 6) (M.ao (M.pv 9) M.aa))))
     M.aQ))))))
   (M.aj (M.aV (M.Im (M.Im (M.aR (M.ao (M.pv 3) (M.ao (M.pv 6) M.aa))))))))))),fun ds S Q h => ?_⟩
  obtain ⟨p,n,NA,NB,NM,x,rfl,⟨rfl,lA,lB,lM,ndA,ndM,nA,nB,nM⟩,hp,hn,q⟩:=h
  have e0:aT yg [.loc p,.lst [.lst (NA.map D.str),.lst (NB.map D.str),.lst (NM.map D.str)],.int 8]=[some (.loc p),some (.lst [.lst (NA.map D.str),.lst (NB.map D.str),.lst (NM.map D.str)]),some (.int 8),none,none,none,none,none,none,none]:=rfl
  rw [e0]
  generalize hXN:D.lst [D.lst (NA.map D.str),D.lst (NB.map D.str),D.lst (NM.map D.str)]=XN
  have x00:∀ {S:au}{Q:AK},Q (.dat (.lst (NA.map D.str))) S→rF XN (.int 0) S Q:=fun {S Q} q'=>by rw [← hXN];exact ⟨_,rfl,q'⟩
  have x01:∀ {S:au}{Q:AK},Q (.dat (.lst (NB.map D.str))) S→rF XN (.int 1) S Q:=fun {S Q} q'=>by rw [← hXN];exact ⟨_,rfl,q'⟩
  have x02:∀ {S:au}{Q:AK},Q (.dat (.lst (NM.map D.str))) S→rF XN (.int 2) S Q:=fun {S Q} q'=>by rw [← hXN];exact ⟨_,rfl,q'⟩
  have pl:=cA hp
  push_cast [fE,nT,sN]
  refine ⟨zcy _,bY (cD hp) (by omega) (by decide) (by decide) fun z hz => ?_⟩
  refine ⟨1+(z:Int),rfl,by omega,by omega,?_⟩
  rw [rK (n:=0) pl,show (1+(z:Int)).toNat=z+1 by omega]
  refine c8 (fun rest δ S'=>∃ (j:Nat) (ks:List Kn) (n2:Nat) (v4 v5:Option D),rest=(c9 0 (z+1)).drop j∧j≤z+1∧δ=[some (.loc p),some XN,some (.int 8),some (.loc S.length),v4,v5,none,none,none,none]∧S'=S.set p (some (.feed n2))++[some (.lst (ks.map bT))] ∧
   ks.length=j∧nms ks=NA.take j∧(∀ k∈ks,Nm k.1∧k.2.length≤3∧k.2.Nodup∧∀ m∈k.2,Nm m)∧n2≤n+1+3*j) ?_ ?_ _ _ _ ⟨0,[],n+1,none,none,rfl,zcy _,rfl,rfl,rfl,rfl,by simp,by omega⟩
  ·rintro δ S' ⟨j,ks,n2,v4,v5,hd,hj,rfl,rfl,hkl,hkn,hkk,hn2⟩
   refine ⟨trivial,?_⟩
   have hj:j=z+1:=by
    have:=congrArg zcv hd
    rw [zbx,g9] at this
    simp at this;omega
   subst hj
   have hkl0:0<ks.length:=by omega
   have hk8:ks.length≤8:=by omega
   have kl:(S.set p (some (.feed n2))++[some (MO.lst (ks.map bT))]).length=S.length+1:=by rw [zaS,zbO];rfl
   push_cast [fE,nT,sN,kl]
   refine ⟨zcy _,.inl ⟨by decide,by decide⟩,?_⟩
   rw [zbi]
   refine bY (m:=24) (kH hp) (by omega) (by decide) (by decide) fun z2 hz2 => ?_
   rw [e7 (n:=0) pl]
   refine ⟨(z2:Int),rfl,by omega,by omega,?_⟩
   rw [show (z2:Int).toNat=z2 by omega]
   refine c8 (fun rest δ S'=>∃ (ts:List Ti) (n3:Nat) (v4 v7 v8 v9:Option D),(∀ e∈rest,∃ i:Int,e = .int i)∧δ=[some (.loc p),some XN,some (.int 8),some (.loc S.length),v4,v5,some (.loc (S.length+1)),v7,v8,v9]∧S'=S.set p (some (.feed n3))++[some (.lst (ks.map bT)),some (.lst (ts.map T3))] ∧
    ts.length+rest.length≤23∧ts.Nodup∧(∀ t∈ts,t.1∈nms ks∧t.2.2∈nms ks∧Nm t.2.1)∧n3+3*rest.length≤n+100) ?_ ?_ _ _ _ ⟨[],n2+1,_,none,none,none,fun e he => ?_,rfl,rfl,by rw [g9];simp;omega,.nil,by simp,by rw [g9];omega⟩
   ·rintro δ S' ⟨ts,n3,v4,v7,v8,v9,_,rfl,rfl,tl,tn,tk,hn3⟩
    refine ⟨trivial,?_⟩
    push_cast [Fd]
    have LK:ts.length≤23:=by simpa using tl
    have hRO:RO ks ts:=⟨by omega,by rw [hkn];exact ndA.sublist (zbg _ _),fun k hk=>⟨(hkk k hk).1,by have:=(hkk k hk).2.1;omega,(hkk k hk).2.2⟩,tn,by omega,tk⟩
    refine ⟨by show 2≤sizeLine;decide,S.length,ks.map bT,_,rfl,gn (i:=0) (by rw [zbO];rfl),S.length+1,ts.map T3,_,rfl,?_,?_⟩
    ·rw [zaC (by omega)]
     exact gn (i:=1) (by rw [zbO])
    ·rw [pS (i:=0) (by rw [zbO];rfl),pS (i:=1) (by rw [zbO])]
     have ev:(([D.loc S.length,D.loc (S.length+1)].map (sb S.length (.lst (ks.map bT)))).map (sb (S.length+1) (.lst (ts.map T3))))=[.lst (ks.map bT),.lst (ts.map T3)]:=by
      simp [sb]
     rw [ev]
     exact AU RO.b6 (q ks ts n3 hRO (by omega) hk8 LK (fun k hk=>(hkk k hk).2.1) (by omega))
   ·rintro x xs δ S' N ⟨ts,n3,v4,v7,v8,v9,hx,rfl,rfl,tl,tn,tk,hn3⟩ hN
    obtain ⟨i,rfl⟩:=hx x (by simp)
    refine ⟨trivial,?_⟩
    have e3:∀ m,bD (S.set p (some (.feed m))++[some (MO.lst (ks.map bT)),some (.lst (ts.map T3))]) (.loc S.length) = .lst (ks.map bT):=fun m=>(aS (o:=.lst (ks.map bT)) (gn (i:=0) (by rw [zbO];rfl)))
    have e4:∀ m,bD (S.set p (some (.feed m))++[some (MO.lst (ks.map bT)),some (.lst (ts.map T3))]) (.loc (S.length+1)) = .lst (ts.map T3):=fun m=>(aS (o:=.lst (ts.map T3)) (gn (i:=1) (by rw [zbO])))
    push_cast [e3]
    simp only [zbu] at tl hn3
    refine ⟨ks.length,by show some _=_;rw [zbJ],?_⟩
    refine bY (kH hp) (by omega) (by omega) (by omega) fun a ha => ?_
    rw [e7 (n:=0) pl]
    refine qM (e3 _) (by rw [zbJ];omega) (fun y hy => ?_)
    obtain ⟨k,hk,rfl⟩:=zck.mp hy
    refine ⟨.str k.1,rfl,x01 (x01 ⟨3,by show some _=_;rw [zbJ,lB],?_⟩)⟩
    refine bY (kH hp) (by omega) (by decide) (by decide) fun b hb => ?_
    rw [e7 (n:=0) pl]
    refine pick (by rw [zbJ,lB];omega) (fun y hy => ?_)
    obtain ⟨v,hv,rfl⟩:=zck.mp hy
    refine ⟨ks.length,by rw [e3];show some _=_;rw [zbJ],?_⟩
    refine bY (kH hp) (by omega) (by omega) (by omega) fun c hc => ?_
    rw [e7 (n:=0) pl]
    refine qM (e3 _) (by rw [zbJ];omega) (fun y hy => ?_)
    obtain ⟨k',hk',rfl⟩:=zck.mp hy
    refine ⟨.str k'.1,rfl,by show 3≤sizeLine;decide,?_⟩
    have t1:Tm 1 615 (T3 (k.1,v,k'.1)):=CF (.name (hkk k hk).1) (.name (nB v hv)) (.name (hkk k' hk').1)
    have ot:iF (k.1,v,k'.1)=true:=by unfold iF;rw [cL (hkk k hk).1,cL (nB v hv),cL (hkk k' hk').1];rfl
    have hRO:RO ks ts:=⟨by omega,by rw [hkn];exact ndA.sublist (zbg _ _),fun k hk=>⟨(hkk k hk).1,by have:=(hkk k hk).2.1;omega,(hkk k hk).2.2⟩,tn,by omega,tk⟩
    have tts:Tm 2 14194 (.lst (ts.map T3)):=Tm.lst (n:=1) (l:=23) (m:=615) (fun e he=>by obtain ⟨t,ht,rfl⟩:=zck.mp he;exact hRO.t3 t ht) (by rw [zbJ];omega)
    show zv true (T3 (k.1,v,k'.1)) _ _ _
    unfold zv
    rw [e4]
    refine ⟨fq t1.th (by decide),fq tts.th (by decide),_,rfl,?_⟩
    rw [show bD _ (T3 (k.1,v,k'.1))=T3 (k.1,v,k'.1) from rfl,BC ot hRO.lT]
    by_cases hin:(k.1,v,k'.1)∈ts
    ·rw [decide_eq_true hin,if_neg (by decide)]
     exact hN _ _ ⟨ts,_,_,_,_,_,fun e he=>hx e (zaA _ he),rfl,rfl,by omega,tn,tk,by omega⟩
    ·rw [decide_eq_false hin,if_pos (by decide)]
     push_cast [Jk,e4,yV,true_and]
     refine ⟨_,_,_,rfl,rfl,gn (i:=1) (by rw [zbO]),by rw [zbJ,sizeLine_eq];omega,?_⟩
     rw [pS (i:=1) (by rw [zbO])]
     refine hN _ _ ⟨ts++[(k.1,v,k'.1)],_,_,_,_,_,fun e he=>hx e (zaA _ he),rfl,by rw [zbR];rfl,by rw [zaS];simp;omega,?_,fun t ht => ?_,by omega⟩
     ·refine zbo.mpr ⟨tn,by simp,fun x hx y hy z => ?_⟩
      have:y=(k.1,v,k'.1):=by simpa using hy
      exact hin (by rw [← this,← z];exact hx)
     ·rcases zbI.mp ht with ht | ht
      ·exact tk t ht
      ·have:t=(k.1,v,k'.1):=by simpa using ht
       subst this
       exact ⟨zck.mpr ⟨k,hk,rfl⟩,zck.mpr ⟨k',hk',rfl⟩,nB v hv⟩
   ·unfold c9 at he
    rw [zck] at he
    obtain ⟨i,_,rfl⟩:=he
    exact ⟨_,rfl⟩
  ·rintro x xs δ S' N ⟨j,ks,n2,v4,v5,hd,hj,rfl,rfl,hkl,hkn,hkk,hn2⟩ hN
   obtain ⟨hj2,rfl,rfl⟩:=rT hd
   refine ⟨trivial,?_⟩
   push_cast [jP,BG]
   refine x02 ?_
   show cM (fun _=>True) (bI 0) _ (nS 0) (NM.map D.str) [] [none,some (.loc p)] _ _
   refine qU (fun rest acc δ S''=>∃ (ms rs:List Str) (n3:Nat) (v0:Option D),rest=rs.map D.str∧acc=ms.map D.str∧δ=[v0,some (.loc p)]∧S''=S.set p (some (.feed n3))++[some (.lst (ks.map bT))]∧ms.length+rs.length≤3∧(ms++rs).Nodup∧(∀ m∈ms,Nm m)∧(∀ m∈rs,Nm m)∧n3+rs.length≤n2+3) ?_ ?_ _ _ _ _ ⟨[],NM,n2,none,rfl,rfl,rfl,rfl,by simp [lM],by simpa using ndM,by simp,nM,by omega⟩
   ·rintro acc δ S'' ⟨ms,rs,n3,v0,e1,rfl,rfl,rfl,hl,hmd,hm,_,hn3⟩
    have:rs=[]:=by cases rs with | nil=>rfl | cons _ _=>simp at e1
    subst this
    refine ⟨trivial,?_⟩
    have e3:(S.set p (some (.feed n3))++[some (MO.lst (ks.map bT))])[S.length]? = some (some (.lst (ks.map bT))):=gn (i:=0) (by rw [zbO];rfl)
    push_cast [Jk,aS e3,yV,true_and]
    have hjA:j<NA.length:=by omega
    refine x00 ⟨_,IW hjA,by show 2≤sizeLine;decide,_,_,_,rfl,rfl,e3,by rw [zbJ,sizeLine_eq];omega,?_⟩
    rw [pS (i:=0) (by rw [zbO];rfl)]
    refine hN _ _ ⟨j+1,ks++[(NA[j],ms)],n3,_,_,rfl,by omega,rfl,by rw [zbR];rfl,by rw [zaS,hkl];rfl,?_,fun k hk => ?_,by simp at hn3;omega⟩
    ·show (ks++[(NA[j],ms)]).map (·.1)=_
     rw [zbR,List.take_succ_eq_append_getElem hjA]
     have hkn:ks.map (·.1)=NA.take j:=hkn
     rw [hkn];rfl
    ·rcases zbI.mp hk with hk | hk
     ·exact hkk k hk
     ·have:k=(NA[j],ms):=by simpa using hk
      subst this
      exact ⟨nA _ (zbC _),by simp at hl;exact hl,by simpa using hmd,hm⟩
   ·rintro y ys acc δ S'' N' ⟨ms,rs,n3,v0,e1,rfl,rfl,rfl,hl,hmd,hm,hr',hn3⟩ hN'
    cases rs with
    | nil=>simp at e1
    | cons r rs =>
     rw [zcb] at e1
     injection e1 with e1 e3
     subst e1;subst e3
     refine ⟨trivial,?_⟩
     push_cast [true_and]
     refine bY (kH hp) (by omega) (by decide) (by decide) fun z' hz' => ?_
     rw [e7 (n:=0) pl]
     refine ⟨_,rfl,?_⟩
     simp only [zbu] at hl hn3
     by_cases h0:(z':Int)=0
     ·rw [decide_eq_true h0,if_pos rfl]
      refine ⟨by rw [zbJ,sizeLine_eq];omega,hN' _ _ _ ⟨ms++[r],rs,n3+1,_,rfl,by rw [zbR];rfl,rfl,rfl,by rw [zaS];simp;omega,by simpa using hmd,fun m hm' => ?_,fun m hm'=>hr' m (zaA _ hm'),by omega⟩⟩
      rcases zbI.mp hm' with h | h
      ·exact hm m h
      ·have:m=r:=by simpa using h
       subst this
       exact hr' m (by simp)
     ·rw [decide_eq_false h0,if_neg (by decide)]
      exact hN' _ _ _ ⟨ms,rs,n3+1,_,rfl,rfl,rfl,rfl,by omega,hmd.sublist (by simp),hm,fun m hm'=>hr' m (zaA _ hm'),by omega⟩
end
open PySem PySem.Spec L2 M M6 PyProof.Rows
noncomputable abbrev wZ:Stmt:=top 19
noncomputable abbrev yo:List Str:=["_law_rows_here","_law_web_here","_law_name","_law_marks","_law_one","_law_word","_law_other"]
noncomputable abbrev jW:List Str:=["_law_rows_here"]
theorem iU:aG yo jW (ai wZ):=⟨rfl,rfl,rfl,by decide +kernel,rfl,by decide +kernel,by decide +kernel⟩
noncomputable abbrev lQ:Stmt:=top 20
noncomputable abbrev pK:List Str:=["_law_rows_here","_law_knot","_law_found","_law_ties"]
noncomputable abbrev eB:List Str:=["_law_rows_here","_law_knot"]
theorem mF:aG pK eB (ai lQ):=⟨rfl,rfl,rfl,by decide +kernel,rfl,by decide +kernel,by decide +kernel⟩
noncomputable abbrev qb:Stmt:=top 12
noncomputable abbrev tU:List Str:=["rows","web","name","marks","one","word","other"]
noncomputable abbrev eL:List Str:=["rows"]
theorem fS:aG tU eL (ai qb):=⟨rfl,rfl,rfl,by decide +kernel,rfl,by decide +kernel,by decide +kernel⟩
noncomputable abbrev wX:Stmt:=inClass (top 11) 12
noncomputable abbrev yl:List Str:=["self"]
noncomputable abbrev iB:List Str:=["self"]
theorem GH:aG yl iB (ai wX):=⟨rfl,rfl,rfl,by decide +kernel,rfl,by decide +kernel,by decide +kernel⟩
theorem cZ {α:Type}{P:au→Prop}{t:AT}{e:AE}{Q:List D→au→Prop}{δ:bH}{S:au} (g:α→D) (c:α→Bool) (f:α→D) (hP:P S):∀ (as:List α) (acc:List D) (δ':bH),δ'.set 0 none=δ.set 0 none →
  (∀ a∈as,∀ Q:Bool→au→Prop,Q (c a) S→t (δ.set 0 (some (g a))) S Q)→(∀ a∈as,∀ Q:AK,Q (.dat (f a)) S→e (δ.set 0 (some (g a))) S Q)→acc.length+as.length≤sizeLine→Q (acc++(as.filter c).map f) S →
  cM P (bI 0) t e (as.map g) acc δ' S Q
 | [],acc,δ',_,_,_,_,q=>⟨hP,by simpa using q⟩
 | a::as,acc,δ',hd,ht,he,hl,q=>by
  refine ⟨hP,?_⟩
  have e1:δ'.set 0 (some (g a))=δ.set 0 (some (g a)):=by
   have:=congrArg (fun l=>l.set 0 (some (g a))) hd
   simpa [zci] using this
  show bI 0 (g a) δ' S _
  simp only [bI]
  rw [e1]
  simp only [zbu] at hl
  refine ht a (by simp) _ ?_
  cases hc:c a with
  | true =>
   rw [if_pos rfl]
   refine he a (by simp) _ ⟨by omega,?_⟩
   refine cZ g c f hP as _ _ (by simp [zci]) (fun x hx=>ht x (by simp [hx])) (fun x hx=>he x (by simp [hx])) (by simp;omega) ?_
   rw [zbw,hc,if_pos rfl,zcb] at q
   simpa [R.d,zbi] using q
  | false =>
   rw [if_neg (by decide)]
   refine cZ g c f hP as _ _ (by simp [zci]) (fun x hx=>ht x (by simp [hx])) (fun x hx=>he x (by simp [hx])) (by omega) ?_
   rw [zbw,hc,if_neg (by decide)] at q
   exact q
structure ud (S S':au) (own:List Nat):Prop where
 keep:∀ k,k<S.length→S'[k]? = S[k]?
 len:S.length≤S'.length
 own:∀ c∈own,S.length≤c
theorem ud.step {S S' S2:au}{own own':List Nat} (h:ud S S' own) (f:Fr S' S2 own own'):ud S S2 own' :=
 ⟨fun k hk=>by rw [f.out k (zaX hk h.len) fun z=>by have:=h.own k z;omega];exact h.keep k hk,zcm h.len f.len,fun c hc=>by
  rcases f.new c hc with z | z
  ·exact h.own c z
  ·exact zcm h.len z⟩
noncomputable def n6 (k:Kn):D:=.tup [.str k.1,.tup (k.2.map D.str)]
noncomputable def b9 (ks:List Kn) (ts:List Ti):D:=.tup [.tup (ks.map n6),.tup (ts.map T3)]
section
variable {P:Program}{w:World}{K:PySem.W.Frag}{mg:Str→Option Value}{base:Heap}{C fi:Addr}
noncomputable def A6 (C:Addr) (W:World) (S:au) (ks:List Kn) (ts:List Ti) (Q:AK):Prop:=∀ S' own,aZ C W S' S.length own ks ts→ud S S' own→Q (.dat (.loc S.length)) S'
noncomputable def Ar (C:Addr) (W:World):AN:=fun ds S Q=>∃ ks ts,ds=[av ks ts]∧RO ks ts∧ks.length≤40∧ts.length≤300∧A6 C W S ks ts Q
noncomputable def L1 (C:Addr) (w:World) (R:D) (g:Kn→D) (S:au) (ks:List Kn) (rest:List D) (δ:bH) (S':au):Prop:=∃ (done rs:List Kn) (own:List Nat) (v2 v3:Option D),rest=rs.map g∧done++rs=ks∧δ=[some R,some (.loc S.length),v2,v3,none,none,none]∧aZ C w S' S.length own done []∧ud S S' own
noncomputable def Nb (C:Addr) (w:World) (R:D) (S:au) (ks:List Kn) (ts:List Ti) (rest:List D) (δ:bH) (S':au):Prop:=∃ (dt rt:List Ti) (own:List Nat) (v2 v3 v4 v5 v6:Option D),rest=rt.map T3∧dt++rt=ts∧δ=[some R,some (.loc S.length),v2,v3,v4,v5,v6]∧aZ C w S' S.length own ks dt∧ud S S' own
theorem o7 {S S1:au}{n:Nat}{o:Option MO} (k1:∀ k,k<S.length→S1[k]? = (S++[o])[k]?) (l1:S1.length=S.length+4):ud S S1 [S.length,S.length+1,S.length+2,S.length+3] :=
 ⟨fun k hk=>by rw [k1 k hk,zaf hk],by omega,fun c hc=>by simp at hc;omega⟩
theorem jI {α β:Type}{g:α→β}{rs:List α} (e:[]=rs.map g):rs=[]:=by cases rs with | nil=>rfl | cons _ _=>simp at e
theorem qD {α:Type}{d r:List α}{x:α}{l:List α} (e:d++x::r=l) (h:l.Nodup):x ∉ d:=fun z=>by
 rw [← e,zbo] at h
 exact h.2.2 x z x (by simp) rfl
theorem II {fdi:FuncData} (T:Txt K mg C fi) (F:Src K mg "_law_web" jW wZ) (F_Web:d8 P w K mg base kY 1 fi fdi fk (aW K (uC C w))) (B_Web:Binds K fdi fk [])
  (D_put_knot:bA P w K mg base 2 C "put_knot" jV (Ao C w)) (D_put_tie:bA P w K mg base 2 C "put_tie" iA (ux C w)):Def P w K mg base 3 "_law_web" jW (aW K (Ar C w)):=by
 refine BY F iU (fun ds S Q h => ?_) (fun f cdv A outer s H E hr => ?_)
 ·obtain ⟨ks,ts,rfl,_⟩:=h;rfl
 ·refine ⟨_,(M.af (M.aD (i:=1) iU.nd rfl (Or.inl rfl) (M.jq T.uV F_Web B_Web (hr.mono (by decide)) (by rfl) T.Bq))
   (M.af (M.cV PassesOwn.never rfl (M.ck (M.az M.bq (M.pv 0) M.ah (fun _ _=>rfl))) (M.fu (n:=2) rfl (M.aY (M.aq (i:=2) iU.nd rfl (Or.inl rfl)) (M.aY (M.aq (i:=3) iU.nd rfl (Or.inl rfl)) M.dQ)))
    (M.aj (M.aE (M.aP (M.pv 1) T.cl D_put_knot (hr.mono (by decide)) (M.ao (M.pv 2) (M.ao (M.Bb M.sr (by rfl) T.list (by decide +kernel) (M.ao (M.pv 3) M.aa)) M.aa))))))
   (M.af (M.cV PassesOwn.never rfl (M.ck (M.az M.bq (M.pv 0) M.ah (fun _ _=>rfl))) (M.fu (n:=3) rfl (M.aY (M.aq (i:=4) iU.nd rfl (Or.inl rfl)) (M.aY (M.aq (i:=5) iU.nd rfl (Or.inl rfl)) (M.aY (M.aq (i:=6) iU.nd rfl (Or.inl rfl)) M.dQ))))
    (M.aj (M.aE (M.aP (M.pv 1) T.cl D_put_tie (hr.mono (by decide)) (M.ao (M.pv 4) (M.ao (M.pv 5) (M.ao (M.pv 6) M.aa)))))))
   (M.aj (M.aV (M.pv 1)))))),fun ds S Q h => ?_⟩
  obtain ⟨ks,ts,rfl,hRO,hk40,ht300,q⟩:=h
  have e0:aT yo [av ks ts]=[some (av ks ts),none,none,none,none,none,none]:=rfl
  rw [e0]
  push_cast [Cv,nT]
  refine ⟨S.length,rfl,by rw [zaS];rfl,bF,fun S1 X1 k1 l1=>⟨rfl,?_⟩⟩
  refine ⟨_,rfl,_,rfl,?_⟩
  show fM (fun _=>True) _ _ (ks.map bT) _ _ S1
  refine c8 (L1 C w (av ks ts) bT S ks) ?_ ?_ _ _ _ ⟨[],ks,_,none,none,rfl,rfl,rfl,X1,o7 (n:=0) k1 l1⟩
  ·rintro δ S2 ⟨done,rs,own,v2,v3,e1,e2,rfl,X2,k2⟩
   have:=jI e1
   subst this
   rw [zbK] at e2
   subst e2
   refine ⟨trivial,?_⟩
   push_cast [nT]
   refine ⟨_,rfl,_,rfl,?_⟩
   show fM (fun _=>True) _ _ (ts.map T3) _ _ S2
   refine c8 (Nb C w (av done ts) S done ts) ?_ ?_ _ _ _ ⟨[],ts,own,v2,v3,none,none,none,rfl,rfl,rfl,X2,k2⟩
   ·rintro δ S3 ⟨dt,rt,own,v2,v3,v4,v5,v6,e1,e2,rfl,X3,k3⟩
    have:=jI e1
    subst this
    rw [zbK] at e2
    subst e2
    exact ⟨trivial,_,rfl,q S3 own X3 k3⟩
   ·rintro x xs δ S3 N ⟨dt,rt,own,v2,v3,v4,v5,v6,e1,e2,rfl,X3,k3⟩ hN
    cases rt with
    | nil=>simp at e1
    | cons r rt =>
     rw [zcb] at e1
     injection e1 with e1 e3
     subst e1;subst e3
     obtain ⟨m,t,e,cs,ro,rk,X⟩:=id X3
     have hr:r∈ts:=by rw [← e2];simp
     have:dt.length<300:=by have:=congrArg zcv e2;rw [zaS] at this;simp at this;omega
     refine ⟨trivial,_,rfl,rfl,_,_,rfl,_,_,rfl,_,_,rfl,rfl,?_⟩
     exact aF rfl X.at_ (by decide +kernel) ⟨_,rfl,_,rfl,_,rfl,S.length,r,own,done,dt,rfl,X3,(hRO.tk r hr).1,(hRO.tk r hr).2.1,qD e2 hRO.tn,this,hRO.lT r hr,fun S4 own4 X4 f4=>hN _ _ ⟨dt++[r],rt,own4,_,_,_,_,_,rfl,by rw [← e2];simp,rfl,X4,k3.step f4⟩⟩
  ·rintro x xs δ S2 N ⟨done,rs,own,v2,v3,e1,e2,rfl,X2,k2⟩ hN
   cases rs with
   | nil=>simp at e1
   | cons r rs =>
    rw [zcb] at e1
    injection e1 with e1 e3
    subst e1;subst e3
    obtain ⟨m,t,e,cs,ro,rk,X⟩:=id X2
    have hr:r∈ks:=by rw [← e2];simp
    have hno:r.1 ∉ nms done:=qD (r:=nms rs) (l:=nms ks) (by rw [← e2];simp [nms]) hRO.nd
    have hkl:done.length<40:=by have:=congrArg zcv e2;rw [zaS] at this;simp at this;omega
    have hm:=hRO.nm r hr
    refine ⟨trivial,_,rfl,rfl,_,_,rfl,_,_,rfl,rfl,?_⟩
    refine aF rfl X.at_ (by decide +kernel) ⟨_,rfl,_,rfl,_,rfl,S.length,r.1,.lst (r.2.map D.str),r.2,own,done,[],rfl,.inl rfl,X2,hno,hkl,by omega,hm.2.2.1,cL hm.1,fun m hm'=>cL (hm.2.2.2 m hm'),fun S4 own4 X4 f4=>hN _ _ ⟨done++[r],rs,own4,_,_,rfl,by rw [← e2];simp,rfl,X4,k2.step f4⟩⟩
noncomputable def lG (C:Addr) (W:World):AN:=fun ds S Q=>∃ ks ts,ds=[b9 ks ts]∧RO ks ts∧A6 C W S ks ts Q
theorem EH {fdi:FuncData} (T:Txt K mg C fi) (F:Src K mg "web_of" eL qb) (F_Web:d8 P w K mg base kY 1 fi fdi fk (aW K (uC C w))) (B_Web:Binds K fdi fk [])
  (D_lay_knot:bA P w K mg base 1 C "lay_knot" iD (uB C w)) (D_lay_tie:bA P w K mg base 1 C "lay_tie" iC (uA C w)):Def P w K mg base 3 "web_of" eL (aW K (lG C w)):=by
 refine BY F fS (fun ds S Q h => ?_) (fun f cdv A outer s H E hr => ?_)
 ·obtain ⟨ks,ts,rfl,_⟩:=h;rfl
 ·refine ⟨_,(M.af (M.aD (i:=1) fS.nd rfl (Or.inl rfl) (M.jq T.uV F_Web B_Web (hr.mono (by decide)) (by rfl) T.Bq))
   (M.af (M.cV PassesOwn.never rfl (M.ck (M.az M.bq (M.pv 0) M.ah (fun _ _=>rfl))) (M.fu (n:=2) rfl (M.aY (M.aq (i:=2) fS.nd rfl (Or.inl rfl)) (M.aY (M.aq (i:=3) fS.nd rfl (Or.inl rfl)) M.dQ)))
    (M.aj (M.aE (M.aP (M.pv 1) T.cl D_lay_knot (hr.mono (by decide)) (M.ao (M.pv 2) (M.ao (M.pv 3) M.aa))))))
   (M.af (M.cV PassesOwn.never rfl (M.ck (M.az M.bq (M.pv 0) M.ah (fun _ _=>rfl))) (M.fu (n:=3) rfl (M.aY (M.aq (i:=4) fS.nd rfl (Or.inl rfl)) (M.aY (M.aq (i:=5) fS.nd rfl (Or.inl rfl)) (M.aY (M.aq (i:=6) fS.nd rfl (Or.inl rfl)) M.dQ))))
    (M.aj (M.aE (M.aP (M.pv 1) T.cl D_lay_tie (hr.mono (by decide)) (M.ao (M.pv 4) (M.ao (M.pv 5) (M.ao (M.pv 6) M.aa)))))))
   (M.aj (M.aV (M.pv 1)))))),fun ds S Q h => ?_⟩
  obtain ⟨ks,ts,rfl,hRO,q⟩:=h
  have hk62:=hRO.kl
  have MU:=hRO.tl
  have e0:aT tU [b9 ks ts]=[some (b9 ks ts),none,none,none,none,none,none]:=rfl
  rw [e0]
  push_cast [Cv,nT]
  refine ⟨S.length,rfl,by rw [zaS];rfl,bF,fun S1 X1 k1 l1=>⟨rfl,?_⟩⟩
  refine ⟨_,rfl,_,rfl,?_⟩
  show fM (fun _=>True) _ _ (ks.map n6) _ _ S1
  refine c8 (L1 C w (b9 ks ts) n6 S ks) ?_ ?_ _ _ _ ⟨[],ks,_,none,none,rfl,rfl,rfl,X1,o7 (n:=0) k1 l1⟩
  ·rintro δ S2 ⟨done,rs,own,v2,v3,e1,e2,rfl,X2,k2⟩
   have:=jI e1
   subst this
   rw [zbK] at e2
   subst e2
   refine ⟨trivial,?_⟩
   push_cast [nT]
   refine ⟨_,rfl,_,rfl,?_⟩
   show fM (fun _=>True) _ _ (ts.map T3) _ _ S2
   refine c8 (Nb C w (b9 done ts) S done ts) ?_ ?_ _ _ _ ⟨[],ts,own,v2,v3,none,none,none,rfl,rfl,rfl,X2,k2⟩
   ·rintro δ S3 ⟨dt,rt,own,v2,v3,v4,v5,v6,e1,e2,rfl,X3,k3⟩
    have:=jI e1
    subst this
    rw [zbK] at e2
    subst e2
    exact ⟨trivial,_,rfl,q S3 own X3 k3⟩
   ·rintro x xs δ S3 N ⟨dt,rt,own,v2,v3,v4,v5,v6,e1,e2,rfl,X3,k3⟩ hN
    cases rt with
    | nil=>simp at e1
    | cons r rt =>
     rw [zcb] at e1
     injection e1 with e1 e3
     subst e1;subst e3
     obtain ⟨m,t,e,cs,ro,rk,X⟩:=id X3
     have hr:r∈ts:=by rw [← e2];simp
     have:dt.length<302:=by have:=congrArg zcv e2;rw [zaS] at this;simp at this;omega
     refine ⟨trivial,_,rfl,rfl,_,_,rfl,_,_,rfl,_,_,rfl,rfl,?_⟩
     exact aF rfl X.at_ (by decide +kernel) ⟨_,rfl,_,rfl,_,rfl,S.length,r,own,done,dt,rfl,X3,(hRO.tk r hr).1,(hRO.tk r hr).2.1,qD e2 hRO.tn,this,hRO.lT r hr,fun S4 own4 X4 f4=>hN _ _ ⟨dt++[r],rt,own4,_,_,_,_,_,rfl,by rw [← e2];simp,rfl,X4,k3.step f4⟩⟩
  ·rintro x xs δ S2 N ⟨done,rs,own,v2,v3,e1,e2,rfl,X2,k2⟩ hN
   cases rs with
   | nil=>simp at e1
   | cons r rs =>
    rw [zcb] at e1
    injection e1 with e1 e3
    subst e1;subst e3
    obtain ⟨m,t,e,cs,ro,rk,X⟩:=id X2
    have hr:r∈ks:=by rw [← e2];simp
    have hno:r.1 ∉ nms done:=qD (r:=nms rs) (l:=nms ks) (by rw [← e2];simp [nms]) hRO.nd
    have hkl:done.length<63:=by have:=congrArg zcv e2;rw [zaS] at this;simp at this;omega
    have hm:=hRO.nm r hr
    refine ⟨trivial,_,rfl,rfl,_,_,rfl,_,_,rfl,rfl,?_⟩
    refine aF rfl X.at_ (by decide +kernel) ⟨_,rfl,_,rfl,S.length,r.1,.tup (r.2.map D.str),r.2,own,done,[],rfl,.inr rfl,X2,hno,hkl,by omega,hm.2.2.1,cL hm.1,fun m hm'=>cL (hm.2.2.2 m hm'),fun S4 own4 X4 f4=>hN _ _ ⟨done++[r],rs,own4,_,_,rfl,by rw [← e2];simp,rfl,X4,k2.step f4⟩⟩
noncomputable def bR (ks:List Kn):List Kn:=(dD (nms ks)).map fun x=>(x,dD (aK ks x))
theorem mH (ks:List Kn) (ts:List Ti):kJ ks ts=b9 (bR ks) (b5 ts):=by
 unfold kJ b9 bR
 rw [zcj];rfl
theorem c7 {ks:List Kn} (hn:(nms ks).Nodup) {k:Kn} (hk:k∈ks):aK ks k.1=k.2:=by
 have h:=ir (ks:=ks) (x:=k.1) (zck.mpr ⟨k,hk,rfl⟩)
 have:=eG hn _ h _ hk rfl
 exact congrArg (·.2) this
theorem RO.dD {ks:List Kn}{ts:List Ti} (h:RO ks ts) (p1:(dD (nms ks)).Perm (nms ks)) (p2:(b5 ts).Perm ts) (p3:∀ x∈nms ks,(K04.dD (aK ks x)).Perm (aK ks x)):RO (bR ks) (b5 ts):=by
 have en:nms (bR ks)=K04.dD (nms ks):=by unfold bR nms;rw [zcj];simp [Function.comp_def]
 refine ⟨?_,by rw [en];exact p1.nodup_iff.mpr h.nd,fun k hk => ?_,p2.nodup_iff.mpr h.tn,by rw [p2.length_eq];exact h.tl,fun t ht => ?_⟩
 ·unfold bR
  rw [zbJ,p1.length_eq]
  unfold nms
  rw [zbJ];exact h.kl
 ·unfold bR at hk
  obtain ⟨x,hx,rfl⟩:=zck.mp hk
  have hx:=p1.mem_iff.mp hx
  obtain ⟨k,hk1,rfl⟩:=zck.mp hx
  have hp:=p3 k.1 hx
  rw [c7 h.nd hk1] at hp ⊢
  have hm:=h.nm k hk1
  exact ⟨hm.1,by show (K04.dD k.2).length≤5;rw [hp.length_eq];exact hm.2.1,hp.nodup_iff.mpr hm.2.2.1,fun m hm'=>hm.2.2.2 m (hp.mem_iff.mp hm')⟩
 ·have:=h.tk t (p2.mem_iff.mp ht)
  rw [en]
  exact ⟨p1.mem_iff.mpr this.1,p1.mem_iff.mpr this.2.1,this.2.2⟩
noncomputable def uz (C:Addr) (W:World):AN:=fun ds S Q=>∃ n own ks ts,ds=[.loc n]∧aZ C W S n own ks ts∧RO ks ts∧((dD (nms ks)).Perm (nms ks)→(b5 ts).Perm ts→(∀ x∈nms ks,(dD (aK ks x)).Perm (aK ks x))→A6 C W S (bR ks) (b5 ts) Q)
theorem ID (T:Txt K mg C fi) (F:cE K C "like" "Web.like" iB wX) (dN:bA P w K mg base 3 C "rows" dX (jf C w)) (D_web_of:Def P w K mg base 3 "web_of" eL (aW K (lG C w))):bA P w K mg base 4 C "like" iB (uz C w):=by
 refine ee F GH (fun ds S Q h => ?_) (fun f cdv A outer s H E hr => ?_)
 ·obtain ⟨n,own,ks,ts,rfl,_⟩:=h;rfl
 ·refine ⟨_,(M.aj (M.aV (M.aH D_web_of (hr.mono (by decide)) (by rfl) (M.ao (M.cu (M.pv 0) T.cl dN (hr.mono (by decide))) M.aa)))),fun ds S Q h => ?_⟩
  obtain ⟨n,own,ks,ts,rfl,X',hRO,q⟩:=h
  obtain ⟨m,t,e,cs,ro,rk,X⟩:=id X'
  have e0:aT yl [.loc n]=[some (.loc n)]:=rfl
  rw [e0]
  push_cast [true_and]
  refine aF rfl X.at_ (by decide +kernel) ⟨n,own,ks,ts,rfl,X',fun p1 p2 p3 => ?_⟩
  exact ⟨bR ks,b5 ts,by rw [← mH];rfl,hRO.dD p1 p2 p3,q p1 p2 p3⟩
noncomputable def bW (ts:List Ti) (k:Str):List Ti:=(ts.filter fun t=>decide (t.1=k)).map (fun t=>(("on" : Str),t.2.1,t.2.2))++(ts.filter fun t=>decide (t.2.2=k)).map (fun t=>(("back" : Str),t.2.1,t.1))
noncomputable def mw:AN:=fun ds S Q=>∃ ks ts k,ds=[av ks ts,.str k]∧RO ks ts∧eV k=true∧∀ us:List Ti,us.Perm (bW ts k)→ug (us.map T3)→Q (.new (.lst (us.map T3))) S
theorem B4 (T:Txt K mg C fi) (F:Src K mg "_law_steps" eB lQ):Def P w K mg base 1 "_law_steps" eB (aW K mw):=by
 refine BY F mF (fun ds S Q h => ?_) (fun f cdv A outer s H E hr => ?_)
 ·obtain ⟨ks,ts,k,rfl,_⟩:=h;rfl
 ·refine ⟨_,(M.af (M.bL (i:=2) mF.nd rfl rfl (N:=["_law_tie","_law_knot"]) (caps:=[none,some 1]) (eK (by decide +kernel)) (by rfl) (by rfl) rfl (M.ck (M.az M.bq (M.pv 0) M.ah (fun _ _=>rfl))) (fun _ _ _ _=>(M.aq (i:=0) (by decide +kernel:List.Nodup (["_law_tie","_law_knot"]:List Str)) rfl (Or.inl rfl))) (fun _ _ _ _=>(M.ff (M.aA (M.ng hr) (M.az M.bq (M.pv 0) M.ah (fun _ _=>rfl)) (M.pv 1) (br _)))) (fun _ _ _ _=>(M.aR (M.ao M.aL (M.ao (M.az M.bq (M.pv 0) M.ah (fun _ _=>rfl)) (M.ao (M.az M.bq (M.pv 0) M.ah (fun _ _=>rfl)) M.aa))))))
   (M.af (M.bL (i:=3) mF.nd rfl rfl (N:=["_law_tie","_law_knot"]) (caps:=[none,some 1]) (eK (by decide +kernel)) (by rfl) (by rfl) rfl (M.ck (M.az M.bq (M.pv 0) M.ah (fun _ _=>rfl))) (fun _ _ _ _=>(M.aq (i:=0) (by decide +kernel:List.Nodup (["_law_tie","_law_knot"]:List Str)) rfl (Or.inl rfl))) (fun _ _ _ _=>(M.ff (M.aA (M.ng hr) (M.az M.bq (M.pv 0) M.ah (fun _ _=>rfl)) (M.pv 1) (br _)))) (fun _ _ _ _=>(M.pv 0)))
   (M.aj (M.aV (M.fW (M.m9 hr) (by rfl) T.sorted (by decide +kernel) (M.ao (M.aO M.jx (M.pv 2) (M.cT (N:=["_law_tie"]) (caps:=[none]) (eK (by decide +kernel)) (by rfl) (by rfl) rfl (M.ck (M.pv 3)) (fun _ _ _ _=>(M.aq (i:=0) (by decide +kernel:List.Nodup (["_law_tie"]:List Str)) rfl (Or.inl rfl))) (fun _ _ _ _=>M.cH) (fun _ _ _ _=>(M.aR (M.ao M.aL (M.ao (M.az M.bq (M.pv 0) M.ah (fun _ _=>rfl)) (M.ao (M.az M.bq (M.pv 0) M.ah (fun _ _=>rfl)) M.aa))))))) M.aa)))))),fun ds S Q h => ?_⟩
  obtain ⟨ks,ts,k,rfl,hRO,ok,q⟩:=h
  have e0:aT pK [av ks ts,.str k]=[some (av ks ts),some (.str k),none,none]:=rfl
  rw [e0]
  push_cast [jP,BG]
  have htl:=hRO.tl
  refine ⟨_,rfl,?_⟩
  show cM (fun _=>True) (bI 0) _ _ (ts.map T3) [] [none,some (.str k)] S _
  refine cZ (δ:=[none,some (.str k)]) T3 (fun t=>decide (t.1=k)) (fun t=>T3 ("on",t.2.1,t.2.2)) trivial ts [] _ rfl (fun t ht Q' q'=>⟨_,rfl,_,rfl,_,rfl,_,rfl,q'⟩) (fun t ht Q' q'=>⟨_,rfl,_,rfl,_,rfl,_,rfl,by show 3≤sizeLine;decide,q'⟩) (by rw [sizeLine_eq];simp;omega) ?_
  refine ⟨_,rfl,?_⟩
  show cM (fun _=>True) (bI 0) _ _ (ts.map T3) [] [none,some (.str k)] S _
  refine cZ (δ:=[none,some (.str k)]) T3 (fun t=>decide (t.2.2=k)) T3 trivial ts [] _ rfl (fun t ht Q' q'=>⟨_,rfl,_,rfl,_,rfl,_,rfl,q'⟩) (fun t ht Q' q'=>⟨_,rfl,q'⟩) (by rw [sizeLine_eq];simp;omega) ?_
  rw [zbQ,zbQ]
  show cM (fun _=>True) (bI 0) _ _ ((ts.filter fun t=>decide (t.2.2=k)).map T3) [] [none] S _
  have l1:=zau (fun t:Ti=>decide (t.1=k)) ts
  have l2:=zau (fun t:Ti=>decide (t.2.2=k)) ts
  generalize hf1:(ts.filter fun t=>decide (t.1=k))=F1 at l1
  generalize hf2:(ts.filter fun t=>decide (t.2.2=k))=F2 at l2
  have s1:∀ t∈F1,iF t=true:=fun t ht=>hRO.lT t (zbH.mp (by rw [hf1];exact ht:t∈ts.filter fun t=>decide (t.1=k))).1
  have s2:∀ t∈F2,iF t=true:=fun t ht=>hRO.lT t (zbH.mp (by rw [hf2];exact ht:t∈ts.filter fun t=>decide (t.2.2=k))).1
  refine cZ (δ:=[none]) T3 (fun _=>true) (fun t=>T3 ("back",t.2.1,t.1)) trivial F2 [] _ rfl (fun t ht Q' q'=>q') (fun t ht Q' q'=>⟨_,rfl,_,rfl,_,rfl,_,rfl,by show 3≤sizeLine;decide,q'⟩) (by rw [sizeLine_eq];simp;omega) ?_
  rw [zbQ,zaM.mpr (fun _ _=>rfl)]
  have eq:F1.map (fun t=>T3 ("on",t.2.1,t.2.2))++F2.map (fun t=>T3 ("back",t.2.1,t.1))=(bW ts k).map T3:=by
   unfold bW
   rw [hf1,hf2,zbR,zcj,zcj];rfl
  refine ⟨by rw [zbJ,zbJ,sizeLine_eq];omega,_,(bW ts k).map T3,rfl,?_,gu ?_,?_,fun ks' hp hu => ?_⟩
  ·rw [eq];rfl
  ·intro t ht
   unfold bW at ht
   rw [hf1,hf2] at ht
   rcases zbI.mp ht with ht | ht
   ·obtain ⟨u,hu,rfl⟩:=zck.mp ht
    have:=s1 u hu
    unfold iF at this ⊢
    rw [zbE,zbE] at this ⊢
    exact ⟨⟨show eV "on" = true by decide +kernel,this.1.2⟩,this.2⟩
   ·obtain ⟨u,hu,rfl⟩:=zck.mp ht
    have:=s2 u hu
    unfold iF at this ⊢
    rw [zbE,zbE] at this ⊢
    exact ⟨⟨show eV "back" = true by decide +kernel,this.1.2⟩,this.1.1⟩
  ·unfold bW
   rw [hf1,hf2,zbJ,zaS,zbJ,zbJ];omega
  ·obtain ⟨us,hu1,rfl⟩:=pM hp
   exact q us hu1 hu
end
open PySem PySem.Spec L2 M M6 PyProof.Rows
noncomputable abbrev wM:Stmt:=top 21
noncomputable abbrev ye:List Str:=["_law_rows_here","_law_knots"]
noncomputable abbrev gb:List Str:=["_law_rows_here"]
theorem AD:aG ye gb (ai wM):=⟨rfl,rfl,rfl,by decide +kernel,rfl,by decide +kernel,by decide +kernel⟩
theorem Du {ks us:List Kn} (hn:(nms ks).Nodup) (hp:us.Perm (ks.map fun k=>(k.1,dD k.2))) (hu:ug (us.map n6)):us=bR ks:=by
 have np:(nms us).Perm (nms ks):=by
  have:=hp.map (·.1)
  rw [zcj] at this
  exact this
 have nd:(nms us).Nodup:=np.nodup_iff.mpr hn
 have ss:sortedS (nms us)=true:=by
  apply sortedS_of_pairwise
  unfold nms at nd ⊢
  rw [zbm]
  have h1:us.Pairwise (fun x y=>dY (py (n6 y)) (py (n6 x))=false):=by
   have h:(us.map n6).Pairwise (fun x y=>dY (py y) (py x)=false):=hu
   rw [zbm] at h
   exact h
  have h2:us.Pairwise (fun x y=>x.1≠y.1):=by
   have h:(us.map (·.1)).Pairwise (· ≠ ·):=nd
   rw [zbm] at h
   exact h
  refine (h1.and h2).imp fun {x y} h => ?_
  have e:dY (py (n6 y)) (py (n6 x))=decide (y.1.cps.toList<x.1.cps.toList):=by
   simp only [n6,py,cY,dY,cJ]
   rw [if_neg (by intro z;injection z with z;exact h.2 z.symm)]
  rw [e] at h
  rw [ltCps_eq]
  exact h.1
 have e:=iT hn np ss
 unfold bR
 rw [← e]
 unfold nms
 rw [zcj]
 refine Eq.trans (List.map_id us).symm (zaK fun u hu' => ?_)
 obtain ⟨k,hk,rfl⟩:=zck.mp (hp.mem_iff.mp hu')
 show (k.1,dD k.2)=(k.1,dD (aK ks k.1))
 rw [c7 hn hk]
theorem wk {l:List Str}{m:Str} (h:m∈dD l):m∈l:=by
 unfold dD at h
 split at h
 ·rename_i z
  exact z.choose_spec.1.mem_iff.mp h
 ·simp at h
theorem uL (ks:List Kn) (ts:List Ti):M.b6 (b9 ks ts)=true:=by
 have p1:∀ l:List Str,bU (l.map D.str)=true:=fun l=>by induction l with | nil=>rfl | cons x l ih=>simp only [zcb,bU,M.b6,zbE];exact ⟨trivial,ih⟩
 have p2:bU (ks.map n6)=true:=by
  induction ks with
  | nil=>rfl
  | cons k ks ih=>simp only [zcb,bU,zbE];exact ⟨by simp [n6,M.b6,bU,p1],ih⟩
 have p3:bU (ts.map T3)=true:=by
  induction ts with
  | nil=>rfl
  | cons k ks ih=>simp only [zcb,bU,zbE];exact ⟨by simp [T3,M.b6,bU],ih⟩
 simp [b9,M.b6,bU,p2,p3]
theorem tF:∀ l m:List Str,dc (cY (l.map D.str)) (cY (m.map D.str))=true
 | [],m=>by simp [cY,dc]
 | _::_,[]=>by simp [cY,dc]
 | _::l,_::m=>by simp only [zcb,cY,py,dc,aN,Bool.true_and];exact tF l m
theorem xB:∀ l:List Str,(∀ y∈l,eV y=true)→dz (cY (l.map D.str))=true∧PyData.depthAll (cY (l.map D.str))≤0∧bU (l.map D.str)=true
 | [],_=>by simp [cY,dz,PyData.depthAll,bU]
 | y::l,h=>by
  obtain ⟨a,b,c⟩:=xB l fun z hz=>h z (by simp [hz])
  refine ⟨by simp [cY,py,dz,b8,PyData.canLay0,iX (h y (by simp)),a],by simp only [zcb,cY,py,PyData.depthAll,PyData.depth];omega,by simp [bU,M.b6,c]⟩
theorem Gy {us:List Kn} (h:∀ k∈us,eV k.1=true∧∀ m∈k.2,eV m=true):yc (us.map n6):=by
 refine ⟨fun d hd => ?_,fun d hd => ?_,fun d hd e he => ?_⟩
 ·obtain ⟨k,hk,rfl⟩:=zck.mp hd
  obtain ⟨a,b,c⟩:=xB k.2 (h k hk).2
  refine ⟨by simp [n6,M.b6,bU,c],?_,?_,_,rfl⟩
  ·simp [n6,py,cY,b8,dz,PyData.canLay0,iX (h k hk).1,a]
  ·simp only [n6,py,cY,PyData.depth,PyData.depthAll];omega
 ·obtain ⟨k,hk,rfl⟩:=zck.mp hd
  exact ⟨k.1,_,by simp only [n6,py,cY];rfl⟩
 ·obtain ⟨k,hk,rfl⟩:=zck.mp hd
  obtain ⟨l,hl,rfl⟩:=zck.mp he
  simp [n6,py,cY,aN,dc,tF]
theorem tw {α:Type}{e:AE}{Q:List D→au→Prop}{S:au} (g a b f:α→D) (hg:∀ x,g x = .tup [a x,b x]) (rest:bH):∀ (as:List α) (acc:List D) (v0 v1:Option D),
  (∀ x∈as,∀ Q:AK,Q (.dat (f x)) S→e (some (a x)::some (b x)::rest) S Q)→acc.length+as.length≤sizeLine→Q (acc++as.map f) S →
  cM (fun _=>True) (Ck 2 (q9 (bI 0) (q9 (bI 1) Cm))) ow e (as.map g) acc (v0::v1::rest) S Q
 | [],acc,v0,v1,_,_,q=>⟨trivial,by simpa using q⟩
 | x::as,acc,v0,v1,he,hl,q=>by
  simp only [zbu] at hl
  refine ⟨trivial,_,hg x,rfl,_,_,rfl,_,_,rfl,rfl,?_⟩
  refine he x (by simp) _ ⟨by omega,?_⟩
  refine tw g a b f hg rest as _ _ _ (fun y hy=>he y (by simp [hy])) (by simp;omega) ?_
  simpa [R.d,zbi] using q
section
variable {P:Program}{w:World}{K:PySem.W.Frag}{mg:Str→Option Value}{base:Heap}{C fi:Addr}
noncomputable def pU:AN:=fun ds S Q=>∃ ks ts,ds=[av ks ts]∧RO ks ts∧Q (.dat (b9 (bR ks) (b5 ts))) S
theorem Ir (T:Txt K mg C fi) (F:Src K mg "_law_told" gb wM):Def P w K mg base 1 "_law_told" gb (aW K pU):=by
 refine Ip F AD (fun ds S Q h => ?_) (fun f cdv A outer s H E hr => ?_)
 ·obtain ⟨ks,ts,rfl,_⟩:=h;rfl
 ·refine ⟨_,(M.af (M.aD (i:=1) AD.nd rfl (Or.inl rfl) (M.fW (M.m9 hr) (by rfl) T.sorted (by decide +kernel) (M.ao (M.cT (N:=["_law_name","_law_marks"]) (caps:=[none,none]) (eK (by decide +kernel)) (by rfl) (by rfl) rfl (M.ck (M.az M.bq (M.pv 0) M.ah (fun _ _=>rfl))) (fun _ _ _ _=>(M.fu (n:=2) rfl (M.aY (M.aq (i:=0) (by decide +kernel:List.Nodup (["_law_name","_law_marks"]:List Str)) rfl (Or.inl rfl)) (M.aY (M.aq (i:=1) (by decide +kernel:List.Nodup (["_law_name","_law_marks"]:List Str)) rfl (Or.inl rfl)) M.dQ)))) (fun _ _ _ _=>M.cH) (fun _ _ _ _=>(M.aR (M.ao (M.pv 0) (M.ao (M.Bb M.eu (by rfl) T.tuple (by decide +kernel) (M.ao (M.fW M.Bh (by rfl) T.sorted (by decide +kernel) (M.ao (M.pv 1) M.aa)) M.aa)) M.aa))))) M.aa)))
   (M.aj (M.aV (M.aR (M.ao (M.Bb M.eu (by rfl) T.tuple (by decide +kernel) (M.ao (M.pv 1) M.aa)) (M.ao (M.Bb M.eu (by rfl) T.tuple (by decide +kernel) (M.ao (M.fW (M.m9 hr) (by rfl) T.sorted (by decide +kernel) (M.ao (M.az M.bq (M.pv 0) M.ah (fun _ _=>rfl)) M.aa)) M.aa)) M.aa)))))),fun ds S Q h => ?_⟩
  obtain ⟨ks,ts,rfl,hRO,q⟩:=h
  have e0:aT ye [av ks ts]=[some (av ks ts),none]:=rfl
  rw [e0]
  push_cast [true_and]
  refine iy (gJ ⟨_,rfl,_,rfl,?_⟩)
  show cM (fun _=>True) _ ow _ (ks.map bT) [] [none,none] S _
  have hkl:=hRO.kl
  have htl:=hRO.tl
  refine tw bT (fun k=>.str k.1) (fun k=>.lst (k.2.map D.str)) (fun k=>n6 (k.1,dD k.2)) (fun _=>rfl) [] ks [] none none (fun k hk Q' q' => ?_) (by rw [sizeLine_eq];simp;omega) ?_
  ·have hm:=hRO.nm k hk
   refine ⟨_,rfl,_,rfl,_,rfl,.inl ⟨k.2,rfl,by omega,fun ss hp hs => ?_⟩⟩
   have e:=iT hm.2.2.1 hp hs
   subst e
   exact ⟨_,rfl,by show 2≤sizeLine;decide,q'⟩
  rw [zbQ]
  have em:ks.map (fun k=>n6 (k.1,dD k.2))=(ks.map fun k=>((k.1,dD k.2):Kn)).map n6:=by rw [zcj];rfl
  rw [em]
  refine ⟨_,_,rfl,rfl,Gy (fun k hk => ?_),by rw [zbJ,zbJ];omega,fun ks' hp hu => ?_⟩
  ·obtain ⟨j,hj,rfl⟩:=zck.mp hk
   have hm:=hRO.nm j hj
   exact ⟨cL hm.1,fun m hm'=>cL (hm.2.2.2 m (wk hm'))⟩
  ·obtain ⟨us,hu1,rfl⟩:=gy hp
   have e:=Du hRO.nd hu1 hu
   subst e
   refine ⟨_,rfl,_,rfl,_,_,rfl,rfl,gu hRO.lT,by rw [zbJ];omega,fun ks' hp hu => ?_⟩
   obtain ⟨vs,hv1,rfl⟩:=pM hp
   have e:=je hRO.tn hv1 hu
   subst e
   exact ⟨_,rfl,by show 2≤sizeLine;decide,ql (uL _ _) q⟩
end
open PySem PySem.Spec L2 M M6 PyProof.Rows
noncomputable abbrev wN:Stmt:=top 22
noncomputable abbrev yf:List Str:=["_law_web_here","_law_rows_here","_law_name","_law_marks","_law_due","_law_told_here"]
noncomputable abbrev jS:List Str:=["_law_web_here","_law_rows_here"]
theorem mD:aG yf jS (ai wN):=⟨rfl,rfl,rfl,by decide +kernel,rfl,by decide +kernel,by decide +kernel⟩
structure Tq (n m:Nat) (d:D):Prop where
 b6:b6 d=true
 dep:(py d).depth≤n
 sh:oj (py d)
 wt:L2.wt (py d)≤m
theorem LH {n m:Nat}:∀ {es:List D},(∀ e∈es,Tq n m e)→bU es=true∧PyData.depthAll (cY es)≤n∧cN (cY es)∧gi (cY es)≤es.length*(m+2)
 | [],_=>⟨rfl,by simp [cY,PyData.depthAll],by simp [cY,cN],by simp [cY,gi]⟩
 | e::es,h=>by
  obtain ⟨a,b,c,d⟩:=LH (es:=es) fun x hx=>h x (by simp [hx])
  have he:=h e (by simp)
  refine ⟨by simp only [bU,zbE];exact ⟨he.b6,a⟩,?_,by simp only [cY,cN];exact ⟨he.sh,c⟩,?_⟩
  ·have:=he.dep
   simp only [cY,PyData.depthAll];omega
  ·have:=he.wt
   simp only [cY,gi,zbu]
   rw [Nat.succ_mul];omega
theorem Tq.tup {n m l:Nat}{es:List D} (h:∀ e∈es,Tq n m e) (hl:es.length≤l):Tq (n+1) (l*(m+2)+3) (.tup es):=by
 obtain ⟨a,b,c,d⟩:=LH h
 refine ⟨by simpa [M.b6] using a,by simp only [py,PyData.depth];omega,by simpa [py,oj] using c,?_⟩
 have:es.length*(m+2)≤l*(m+2):=zaH _ hl
 simp only [py,L2.wt];omega
theorem Tq.lst {n m l:Nat}{es:List D} (h:∀ e∈es,Tq n m e) (hl:es.length≤l):Tq (n+1) (l*(m+2)+3) (.lst es):=by
 obtain ⟨a,b,c,d⟩:=LH h
 refine ⟨by simpa [M.b6] using a,by simp only [py,PyData.depth];omega,by simpa [py,oj] using c,?_⟩
 have:es.length*(m+2)≤l*(m+2):=zaH _ hl
 simp only [py,L2.wt];omega
theorem Tq.asc {y:Str} (hl:y.length≤20) (h:Ge y):Tq 0 202 (.str y):=by
 refine ⟨rfl,by simp [py,PyData.depth],?_,?_⟩
 ·simp only [py,oj];exact Ge.ok h
 ·simp only [py,L2.wt];omega
theorem Tq.name {y:Str} (h:Nm y):Tq 0 202 (.str y):=.asc (by have:=h.2.1;omega) h.asc
theorem Tq.mono {n m n' m':Nat}{d:D} (h:Tq n m d) (hn:n≤n') (hm:m≤m'):Tq n' m' d:=⟨h.b6,zcm h.dep hn,h.sh,zcm h.wt hm⟩
theorem dZ {n m:Nat}{x:D}{S:au}{Q:AK} (hx:Tq n m x) (hn:n≤100) (hm:m≤1000000) (q:Q (.dat (.str (py x).shown)) S):pI [x] S Q:=by
 have hs:=lK (S:=S) hx.b6
 refine ⟨x,rfl,?_⟩
 rw [hs]
 exact ⟨hx.b6,hx.sh.show,zcm hx.dep hn,zcm (shown_le _ hx.sh) (zcm hx.wt (by rw [sizeLine_eq];omega)),q⟩
theorem xy {α:Type} [DecidableEq α] {l m:List α} (h1:l.Nodup) (h2:m.Nodup) (h:∀ a,a∈l↔a∈m):l.Perm m:=by
 rw [List.perm_iff_count]
 intro a
 by_cases ha:a∈l
 ·rw [List.Nodup.count h1,List.Nodup.count h2,if_pos ha,if_pos ((h a).mp ha)]
 ·rw [List.count_eq_zero_of_not_mem ha,List.count_eq_zero_of_not_mem fun z=>ha ((h a).mpr z)]
theorem j8 {ts:List Ti}{x:Str}{j:Ti}:j∈bW ts x↔stp ts x j:=by
 unfold bW stp
 rw [zbI,zck,zck]
 constructor
 ·rintro (⟨t,ht,rfl⟩ | ⟨t,ht,rfl⟩)
  ·obtain ⟨h1,h2⟩:=zbH.mp ht
   have h2:=of_decide_eq_true h2
   exact .inl ⟨rfl,by rw [← h2];exact h1⟩
  ·obtain ⟨h1,h2⟩:=zbH.mp ht
   have h2:=of_decide_eq_true h2
   exact .inr ⟨rfl,by rw [← h2];exact h1⟩
 ·rintro (⟨h1,h2⟩ | ⟨h1,h2⟩)
  ·exact .inl ⟨_,zbH.mpr ⟨h2,decide_eq_true rfl⟩,by rw [← h1]⟩
  ·exact .inr ⟨_,zbH.mpr ⟨h2,decide_eq_true rfl⟩,by rw [← h1]⟩
theorem qG {α β:Type}{f:α→β}:∀ {l:List α},l.Nodup→(∀ a∈l,∀ b∈l,f a=f b→a=b)→(l.map f).Nodup
 | [],_,_=>.nil
 | a::l,h,hf=>by
  rw [zbL] at h
  rw [zcb,zbL]
  refine ⟨fun z => ?_,qG h.2 fun x hx y hy=>hf x (by simp [hx]) y (by simp [hy])⟩
  obtain ⟨b,hb,e⟩:=zck.mp z
  have:=hf b (by simp [hb]) a (by simp) e
  exact h.1 (this ▸ hb)
theorem rL {ts:List Ti} (hn:ts.Nodup) (x:Str):(bW ts x).Nodup:=by
 unfold bW
 rw [zbo]
 refine ⟨qG (hn.sublist zaN) fun a ha b hb e => ?_,qG (hn.sublist zaN) fun a ha b hb e => ?_,fun a ha b hb e => ?_⟩
 ·have h1:=of_decide_eq_true (zbH.mp ha).2
  have h2:=of_decide_eq_true (zbH.mp hb).2
  obtain ⟨a1,a2,a3⟩:=a
  obtain ⟨b1,b2,b3⟩:=b
  simp only [Prod.mk.injEq,true_and] at e h1 h2
  rw [h1,h2,e.1,e.2]
 ·have h1:=of_decide_eq_true (zbH.mp ha).2
  have h2:=of_decide_eq_true (zbH.mp hb).2
  obtain ⟨a1,a2,a3⟩:=a
  obtain ⟨b1,b2,b3⟩:=b
  simp only [Prod.mk.injEq,true_and] at e h1 h2
  rw [h1,h2,e.1,e.2]
 ·obtain ⟨c,_,rfl⟩:=zck.mp ha
  obtain ⟨d,_,rfl⟩:=zck.mp hb
  have e:("on" : Str) = "back" := congrArg (·.1) e
  exact absurd e (by decide +kernel)
theorem mq {ts ts':List Ti}{x:Str}{us vs:List Ti} (hn:ts.Nodup) (hp:ts'.Perm ts) (u1:us.Perm (bW ts x)) (u2:ug (us.map T3)) (v1:vs.Nodup) (v2:∀ j,j∈vs↔stp ts' x j) (v3:ug (vs.map T3)):us=vs:=by
 have un:=u1.nodup_iff.mpr (rL hn x)
 refine pL un u2 v3 (xy v1 un fun j => ?_)
 rw [v2,u1.mem_iff,j8]
 unfold stp
 rw [hp.mem_iff,hp.mem_iff]
structure Lk (ks' ks:List Kn) (ts' ts:List Ti):Prop where
 nm:(nms ks').Perm (nms ks)
 mr:∀ x∈nms ks,(aK ks' x).Perm (aK ks x)
 ti:ts'.Perm ts
theorem jd {l l':List Str} (h:l.Perm l') (hn:l'.Nodup):dD l=dD l':=by
 by_cases e:∃ s:List Str,s.Perm l∧sortedS s=true
 ·obtain ⟨s,s1,s2⟩:=e
  rw [← iT (h.nodup_iff.mpr hn) s1 s2,← iT hn (s1.trans h) s2]
 ·have e' : ¬ ∃ s:List Str,s.Perm l'∧sortedS s=true:=fun ⟨s,s1,s2⟩=>e ⟨s,s1.trans h.symm,s2⟩
  unfold dD
  rw [dif_neg e,dif_neg e']
theorem oE {l l':List Ti} (h:l.Perm l') (hn:l'.Nodup):b5 l=b5 l':=by
 by_cases e:∃ s:List Ti,s.Perm l∧ug (s.map T3)
 ·obtain ⟨s,s1,s2⟩:=e
  rw [← je (h.nodup_iff.mpr hn) s1 s2,← je hn (s1.trans h) s2]
 ·have e' : ¬ ∃ s:List Ti,s.Perm l'∧ug (s.map T3):=fun ⟨s,s1,s2⟩=>e ⟨s,s1.trans h.symm,s2⟩
  unfold b5
  rw [dif_neg e,dif_neg e']
theorem Lk.rows {ks' ks:List Kn}{ts' ts:List Ti} (h:Lk ks' ks ts' ts) (hR:RO ks ts):kJ ks' ts'=b9 (bR ks) (b5 ts):=by
 rw [mH]
 have e:bR ks'=bR ks:=by
  unfold bR
  rw [jd h.nm hR.nd]
  refine zaK fun x hx => ?_
  have hx:=wk hx
  obtain ⟨k,hk,rfl⟩:=zck.mp hx
  have hm:=h.mr k.1 hx
  rw [c7 hR.nd hk] at hm ⊢
  rw [jd hm (hR.nm k hk).2.2.1]
 rw [e,oE h.ti hR.tn]
theorem Lk.perms {ks' ks:List Kn}{ts' ts:List Ti} (h:Lk ks' ks ts' ts) (hR:RO ks ts) (p1:(dD (nms ks')).Perm (nms ks')) (p2:(b5 ts').Perm ts') (p3:∀ x∈nms ks',(dD (aK ks' x)).Perm (aK ks' x)):RO (bR ks) (b5 ts):=by
 refine hR.dD ?_ ?_ fun x hx => ?_
 ·rw [← jd h.nm hR.nd];exact p1.trans h.nm
 ·rw [← oE h.ti hR.tn];exact p2.trans h.ti
 ·have:=p3 x (h.nm.mem_iff.mpr hx)
  obtain ⟨k,hk,rfl⟩:=zck.mp hx
  have hm:=h.mr k.1 hx
  have e:=jd hm (by rw [c7 hR.nd hk];exact (hR.nm k hk).2.2.1)
  rw [← e]
  exact this.trans hm
theorem Tq.T3 {t:Ti} (h1:Nm t.1∨t.1 = "on" ∨ t.1 = "back") (h2:Nm t.2.1) (h3:Nm t.2.2):Tq 1 615 (K04.T3 t):=by
 refine Tq.tup (n:=0) (l:=3) (m:=202) ?_ (by simp)
 simp only [zca,zbB,or_false]
 rintro e (rfl | rfl | rfl)
 ·rcases h1 with h | h | h
  ·exact .name h
  ·rw [h];exact .asc (by decide +kernel) (Ci (by decide +kernel))
  ·rw [h];exact .asc (by decide +kernel) (Ci (by decide +kernel))
 ·exact .name h2
 ·exact .name h3
theorem RO.ends {ks:List Kn}{ts:List Ti} (h:RO ks ts) {t:Ti} (ht:t∈ts):Nm t.1∧Nm t.2.1∧Nm t.2.2:=by
 obtain ⟨h1,h2,h3⟩:=h.tk t ht
 obtain ⟨k1,hk1,e1⟩:=zck.mp h1
 obtain ⟨k2,hk2,e2⟩:=zck.mp h2
 exact ⟨by rw [← e1];exact (h.nm k1 hk1).1,h3,by rw [← e2];exact (h.nm k2 hk2).1⟩
theorem RO.tq {ks:List Kn}{ts:List Ti} (h:RO ks ts):Tq 4 372681 (b9 ks ts):=by
 refine Tq.tup (n:=3) (l:=2) (m:=186337) ?_ (by simp)
 simp only [zca,zbB,or_false]
 rintro e (rfl | rfl)
 ·refine (Tq.tup (n:=2) (l:=62) (m:=2053) (fun e he => ?_) (by rw [zbJ];exact h.kl)).mono (by decide) (by decide)
  obtain ⟨k,hk,rfl⟩:=zck.mp he
  refine Tq.tup (n:=1) (l:=2) (m:=1023) ?_ (by simp)
  simp only [zca,zbB,or_false]
  rintro e (rfl | rfl)
  ·exact (Tq.name (h.nm k hk).1).mono (by decide) (by decide)
  ·refine Tq.tup (n:=0) (l:=5) (m:=202) (fun e he => ?_) (by rw [zbJ];exact (h.nm k hk).2.1)
   obtain ⟨y,hy,rfl⟩:=zck.mp he
   exact .name ((h.nm k hk).2.2.2 y hy)
 ·refine (Tq.tup (n:=1) (l:=302) (m:=615) (fun e he => ?_) (by rw [zbJ];exact h.tl)).mono (by decide) (by decide)
  obtain ⟨t,ht,rfl⟩:=zck.mp he
  have:=h.ends ht
  exact .T3 (.inl this.1) this.2.1 this.2.2
theorem gp {ks:List Kn}{ts:List Ti} (h:RO ks ts) {x:Str}{us:List Ti} (hu:us.Perm (bW ts x)):Tq 2 372671 (.lst (us.map K04.T3)):=by
 refine Tq.lst (n:=1) (l:=604) (m:=615) (fun e he => ?_) ?_
 ·obtain ⟨t,ht,rfl⟩:=zck.mp he
  rcases j8.mp (hu.mem_iff.mp ht) with ⟨h1,h2⟩ | ⟨h1,h2⟩
  ·have:=h.ends h2
   exact .T3 (.inr (.inl h1)) this.2.1 this.2.2
  ·have:=h.ends h2
   exact .T3 (.inr (.inr h1)) this.2.1 this.1
 ·rw [zbJ,hu.length_eq]
  unfold bW
  have l1:=zau (fun t:Ti=>decide (t.1=x)) ts
  have l2:=zau (fun t:Ti=>decide (t.2.2=x)) ts
  have:=h.tl
  rw [zaS,zbJ,zbJ];omega
theorem AV {n m:Nat}{x d:D}{S:au}{Q:AK} (hs:bD S x=d) (hx:Tq n m d) (hn:n≤100) (hm:m≤1000000) (q:Q (.dat (.str (py d).shown)) S):pI [x] S Q:=by
 refine ⟨x,rfl,?_⟩
 rw [hs]
 exact ⟨hx.b6,hx.sh.show,zcm hx.dep hn,zcm (shown_le _ hx.sh) (zcm hx.wt (by rw [sizeLine_eq];omega)),q⟩
theorem jA {s:Str}{S:au}{Q:AK} (q:Q (.dat (.bl false)) S):Fb (.str s) (.str s) S Q:=by
 have e:Fb (.str s) (.str s) S Q=Q (.dat (.bl (!decide (s=s)))) S:=rfl
 rw [e,decide_eq_true rfl];exact q
theorem DY {S X:au}{d:D}{Q:AK} (h:b6 d=true) (q:Q (.dat d) S):ret S (S++X) (.dat d) Q :=
 ⟨_,qx h,fun k o hk e=>.inl (by rw [zaf hk] at e;exact e),by rw [List.take_left' rfl];exact q⟩
theorem Cj {a:AE}{δ:bH}{S:au}{Q:AK} (h:a δ S fun r S1=>match r with | .new o=>Q (.dat (.loc S1.length)) (S1++[some o]) | .dat d=>Q (.dat d) S1):fE a δ S Q:=h
theorem p7 {S:au}{a b:Option MO}:(S++[a]).set S.length b=S++[b]:=by rw [List.set_append,if_neg (by omega),Nat.sub_self];rfl
theorem aZ.app {C:Addr}{W:World}{S Y:au}{n:Nat}{own:List Nat}{ks:List Kn}{ts:List Ti} (h:aZ C W S n own ks ts):aZ C W (S++Y) n own ks ts:=by
 obtain ⟨m,t,e,cs,ro,rk,X⟩:=h
 exact ⟨m,t,e,cs,ro,rk,X.app⟩
section
variable {P:Program}{w:World}{K:PySem.W.Frag}{mg:Str→Option Value}{base:Heap}{C fi:Addr}
noncomputable def CC (C:Addr) (W:World) (S:au) (n:Nat) (own:List Nat) (ks:List Kn) (ts:List Ti):Prop:=∃ ks' ts',aZ C W S n own ks' ts'∧Lk ks' ks ts' ts
noncomputable def LS (n:Nat) (S:au) (ks:List Kn) (ts:List Ti) (rest:List D) (δ:bH) (S':au):Prop:=∃ (rs:List Kn) (Y:au) (v2 v3 v4 v5:Option D),rest=rs.map bT∧(∀ r∈rs,r∈ks)∧δ=[some (.loc n),some (av ks ts),v2,v3,v4,v5]∧S'=S++Y
noncomputable def Al (C:Addr) (W:World):AN:=fun ds S Q=>∃ n own ks ts,ds=[.loc n,av ks ts]∧CC C W S n own ks ts∧RO ks ts∧Q (.dat (.bl true)) S
theorem Iu (T:Txt K mg C fi) (F:Src K mg "_law_same" jS wN) (dN:bA P w K mg base 3 C "rows" dX (jf C w)) (dS:bA P w K mg base 2 C "steps" eN (lH C w)) (D_law_told:Def P w K mg base 1 "_law_told" gb (aW K pU)) (D_law_steps:Def P w K mg base 1 "_law_steps" eB (aW K mw)):Def P w K mg base 4 "_law_same" jS (aW K (Al C w)):=by
 refine Ip F mD (fun ds S Q h => ?_) (fun f cdv A outer s H E hr => ?_)
 ·obtain ⟨n,own,ks,ts,rfl,_⟩:=h;rfl
 ·refine ⟨_,(M.af (M.bG (M.aA (M.qA hr) (M.fW (M.dI hr) (by rfl) T.repr (by decide +kernel) (M.ao (M.cu (M.pv 0) T.cl dN (hr.mono (by decide))) M.aa)) (M.fW (M.dI hr) (by rfl) T.repr (by decide +kernel) (M.ao (M.aH D_law_told (hr.mono (by decide)) (by rfl) (M.ao (M.pv 1) M.aa)) M.aa)) (br _))
    (M.aj (M.aV M.d9))
    M.aQ)
   (M.af (M.cV PassesOwn.never rfl (M.ck (M.az M.bq (M.pv 1) M.ah (fun _ _=>rfl))) (M.fu (n:=2) rfl (M.aY (M.aq (i:=2) mD.nd rfl (Or.inl rfl)) (M.aY (M.aq (i:=3) mD.nd rfl (Or.inl rfl)) M.dQ)))
    (M.af (M.aD (i:=4) mD.nd rfl (Or.inl rfl) (M.fW (M.dI hr) (by rfl) T.repr (by decide +kernel) (M.ao (M.aH D_law_steps (hr.mono (by decide)) (by rfl) (M.ao (M.pv 1) (M.ao (M.pv 2) M.aa))) M.aa)))
    (M.af (M.aD (i:=5) mD.nd rfl (Or.inl rfl) (M.zT (M.aP (M.pv 0) T.cl dS (hr.mono (by decide)) (M.ao (M.pv 2) M.aa))))
    (M.af (M.bG (M.aA (M.qA hr) (M.fW (M.dI hr) (by rfl) T.repr (by decide +kernel) (M.ao (M.pv 5) M.aa)) (M.pv 4) (br _))
     (M.aj (M.aV M.d9))
     M.aQ)
    (M.af (M.aE (M.kK PySem.F.plainAttrs_list PySem.F.slot_list_append PySem.F.type_list_append M.jB (M.pv 5) (M.ao (M.aR (M.ao M.aL (M.ao M.aL (M.ao M.aL M.aa)))) M.aa)))
    (M.aj (M.bG (M.aA (M.qA hr) (M.fW (M.dI hr) (by rfl) T.repr (by decide +kernel) (M.ao (M.aP (M.pv 0) T.cl dS (hr.mono (by decide)) (M.ao (M.pv 2) M.aa)) M.aa)) (M.pv 4) (br _))
     (M.aj (M.aV M.d9))
     M.aQ)))))))
   (M.aj (M.aV M.d9)))),fun ds S Q h => ?_⟩
  obtain ⟨n,own,ks,ts,rfl,⟨ks',ts',X',hL⟩,hRO,q⟩:=h
  obtain ⟨m,t,e,cs,ro,rk,X⟩:=id X'
  have e0:aT yf [.loc n,av ks ts]=[some (.loc n),some (av ks ts),none,none,none,none]:=rfl
  rw [e0]
  push_cast [true_and]
  refine aF rfl X.at_ (by decide +kernel) ⟨n,own,ks',ts',rfl,X',fun p1 p2 p3 => ?_⟩
  have hS:=hL.perms hRO p1 p2 p3
  show pI [kJ ks' ts'] S _
  rw [hL.rows hRO]
  refine dZ hS.tq (by decide) (by decide) ⟨ks,ts,rfl,hRO,dZ hS.tq (by decide) (by decide) (jA ⟨_,rfl,jC ?_⟩)⟩
  refine BU (gJ ⟨_,rfl,_,rfl,?_⟩)
  show fM (fun _=>True) _ _ (ks.map bT) _ _ S
  refine c8 (LS n S ks ts) ?_ ?_ _ _ _ ⟨ks,[],none,none,none,none,rfl,fun _ h=>h,rfl,(zbK _).symm⟩
  ·rintro δ S' ⟨rs,Y,v2,v3,v4,v5,e1,_,rfl,rfl⟩
   exact ⟨trivial,DY rfl q⟩
  ·rintro x xs δ S' N ⟨rs,Y,v2,v3,v4,v5,e1,hsub,rfl,rfl⟩ hN
   cases rs with
   | nil=>simp at e1
   | cons r rs =>
    rw [zcb] at e1
    injection e1 with e1 e3
    subst e1;subst e3
    have hr:=hsub r (by simp)
    have hm:=hRO.nm r hr
    have hx:r.1∈nms ks':=hL.nm.mem_iff.mpr (zck.mpr ⟨r,hr,rfl⟩)
    refine ⟨trivial,_,rfl,rfl,_,_,rfl,_,_,rfl,rfl,?_⟩
    push_cast [true_and]
    refine ⟨ks,ts,r.1,rfl,hRO,cL hm.1,fun us u1 u2=>dZ (gp hRO u1) (by decide) (by decide) ?_⟩
    have X1:aZ C w (S++Y) n own ks' ts':=X'.app
    refine Cj (aF rfl (cD X.at_) (by decide +kernel) ⟨_,rfl,n,own,ks',ts',r.1,rfl,X1,hx,fun vs v1 v2 v3 v4 => ?_⟩)
    have e:=mq hRO.tn hL.ti u1 u2 v1 v2 v4
    subst e
    have ul:us.length≤604:=by
     rw [u1.length_eq]
     unfold bW
     have l1:=zau (fun t:Ti=>decide (t.1=r.1)) ts
     have l2:=zau (fun t:Ti=>decide (t.2.2=r.1)) ts
     have:=hRO.tl
     rw [zaS,zbJ,zbJ];omega
    refine AV (aS (o:=.lst (us.map T3)) bF) (gp hRO u1) (by decide) (by decide) (jA ⟨_,rfl,jC ?_⟩)
    refine ⟨_,rfl,by show yV "list" (bD _ (.loc _));rw [aS (o:=.lst (us.map T3)) bF];rfl,?_⟩
    refine ⟨by show 3≤sizeLine;decide,_,_,_,rfl,rfl,bF,by rw [zbJ,sizeLine_eq];omega,?_⟩
    rw [p7]
    have X2:aZ C w ((S++Y)++[some (MO.lst (us.map T3++[D.tup [.str "on",.str "zz",.str "zz"]]))]) n own ks' ts':=X1.app
    refine aF rfl (cD (cD X.at_)) (by decide +kernel) ⟨_,rfl,n,own,ks',ts',r.1,rfl,X2,hx,fun vs v1 v2 v3 v4 => ?_⟩
    have e:=mq hRO.tn hL.ti u1 u2 v1 v2 v4
    subst e
    refine dZ (gp hRO u1) (by decide) (by decide) (jA ⟨_,rfl,jC ?_⟩)
    exact hN _ _ ⟨rs,Y++[_],_,_,_,_,rfl,fun z hz=>hsub z (by simp [hz]),rfl,zbi _ _ _⟩
end
open PySem PySem.Spec L2 M M6 PyProof.Rows
structure Sm (b:Nat) (ks:List Kn) (ts:List Ti):Prop where
 ro:RO ks ts
 kl:ks.length≤8
 tl:ts.length≤b
 ml:∀ k∈ks,(k.2.filter fun y=>decide (y≠("zz" : Str))).length≤3
theorem nj {ks:List Kn}{x y:Str} (h:y≠x):aK (dF ks x) y=aK ks y:=by
 unfold aK dF
 induction ks with
 | nil=>rfl
 | cons k ks ih =>
  rw [zbw]
  by_cases e:k.1=x
  ·rw [decide_eq_false (show ¬ k.1≠x from fun z=>z e),if_neg (by decide),zbM,decide_eq_false (by rw [e];exact fun z=>h z.symm)]
   exact ih
  ·rw [decide_eq_true (show k.1≠x from e),if_pos rfl,zbM,zbM]
   cases decide (k.1=y) with
   | true=>rfl
   | false=>exact ih
theorem gA (ks:List Kn) (x:Str):nms (dF ks x)=(nms ks).filter fun y=>decide (y≠x):=by
 unfold nms dF
 rw [List.filter_map];rfl
theorem jz (ks:List Kn) (x:Str) (ms:List Str):nms (setM ks x ms)=nms ks:=by
 unfold nms setM
 rw [zcj]
 refine zaK fun k _ => ?_
 show (if k.1=x then (k.1,ms) else k).1=k.1
 split <;> rfl
theorem oV {ks:List Kn}{x:Str}{ms:List Str}{y:Str} (hy:y∈nms ks):aK (setM ks x ms) y=if y=x then ms else aK ks y:=by
 unfold aK setM
 induction ks with
 | nil=>simp at hy
 | cons k ks ih =>
  rw [zcb,zbM,zbM]
  have e1:(if k.1=x then (k.1,ms) else k).1=k.1:=by split <;> rfl
  rw [e1]
  by_cases e:k.1=y
  ·rw [decide_eq_true e]
   by_cases e2:y=x
   ·rw [if_pos e2,if_pos (e.trans e2)];rfl
   ·rw [if_neg e2,if_neg (by rw [e];exact e2)]
  ·rw [decide_eq_false e]
   refine ih ?_
   rcases zca.mp (show y∈k.1::nms ks from hy) with z | z
   ·exact absurd z.symm e
   ·exact z
theorem Lk.gone {ks' ks:List Kn}{ts' ts:List Ti} (h:Lk ks' ks ts' ts) (x:Str):Lk (dF ks' x) (dF ks x) (iQ ts' x) (iQ ts x):=by
 refine ⟨by rw [gA,gA];exact h.nm.filter _,fun y hy => ?_,h.ti.filter _⟩
 rw [gA,zbH] at hy
 have hyx:y≠x:=of_decide_eq_true hy.2
 rw [nj hyx,nj hyx]
 exact h.mr y hy.1
theorem Lk.set {ks' ks:List Kn}{ts' ts:List Ti} (h:Lk ks' ks ts' ts) (x:Str) {ms' ms:List Str} (hm:ms'.Perm ms):Lk (setM ks' x ms') (setM ks x ms) ts' ts:=by
 refine ⟨by rw [jz,jz];exact h.nm,fun y hy => ?_,h.ti⟩
 rw [jz] at hy
 rw [oV hy,oV (h.nm.mem_iff.mpr hy)]
 split
 ·exact hm
 ·exact h.mr y hy
theorem Lk.out {ks' ks:List Kn}{ts' ts:List Ti} (h:Lk ks' ks ts' ts) (t:Ti):Lk ks' ks (eF ts' t) (eF ts t):=⟨h.nm,h.mr,h.ti.filter _⟩
theorem Lk.put {ks' ks:List Kn}{ts' ts:List Ti} (h:Lk ks' ks ts' ts) (t:Ti):Lk ks' ks (ts'++[t]) (ts++[t]):=⟨h.nm,h.mr,h.ti.append_right _⟩
theorem Lk.refl (ks:List Kn) (ts:List Ti):Lk ks ks ts ts:=⟨.refl _,fun _ _=>.refl _,.refl _⟩
theorem Bo (ks:List Kn):nms (bR ks)=dD (nms ks):=by unfold bR nms;rw [zcj];simp [Function.comp_def]
theorem uZ {ks:List Kn}{y:Str} (hy:y∈dD (nms ks)):aK (bR ks) y=dD (aK ks y):=by
 unfold bR
 have go:∀ (l:List Str),y∈l→aK (l.map fun x=>(x,dD (aK ks x))) y=dD (aK ks y):=fun l=>by
  induction l with
  | nil=>intro h;simp at h
  | cons a l ih =>
   intro h
   unfold aK
   rw [zcb,zbM]
   by_cases e:a=y
   ·rw [decide_eq_true e,e];rfl
   ·rw [decide_eq_false e]
    rcases zca.mp h with z | z
    ·exact absurd z.symm e
    ·exact ih z
 exact go _ hy
theorem Lk.copy {ks' ks:List Kn}{ts' ts:List Ti} (h:Lk ks' ks ts' ts) (p1:(dD (nms ks')).Perm (nms ks')) (p2:(b5 ts').Perm ts') (p3:∀ x∈nms ks',(dD (aK ks' x)).Perm (aK ks' x)):Lk (bR ks') ks (b5 ts') ts:=by
 refine ⟨by rw [Bo];exact p1.trans h.nm,fun y hy => ?_,p2.trans h.ti⟩
 have hy':=h.nm.mem_iff.mpr hy
 rw [uZ (p1.mem_iff.mpr hy')]
 exact (p3 y hy').trans (h.mr y hy)
theorem Sm.Mm {b:Nat}{ks:List Kn}{ts:List Ti} (h:Sm b ks ts) {k:Kn} (hk:k∈ks):k.2.length≤4:=by
 have h1:=h.ml k hk
 have h2:=(h.ro.nm k hk).2.2.1
 have:∀ l:List Str,l.Nodup→l.length≤(l.filter fun y=>decide (y≠("zz" : Str))).length+1:=fun l=>by
  induction l with
  | nil=>intro _;simp
  | cons a l ih =>
   intro hn
   rw [zbL] at hn
   rw [zbw]
   by_cases e:a = "zz"
   ·rw [decide_eq_false (fun z=>z e),if_neg (by decide)]
    have:l.filter (fun y=>decide (y≠("zz" : Str)))=l:=zaM.mpr fun y hy=>decide_eq_true fun z=>hn.1 (by rw [e,← z];exact hy)
    rw [this];simp
   ·rw [decide_eq_true e,if_pos rfl]
    have:=ih hn.2
    simp only [zbu];omega
 have:=this k.2 h2
 omega
theorem Sm.gone {b:Nat}{ks:List Kn}{ts:List Ti} (h:Sm b ks ts) (x:Str):Sm (b+1) (dF ks x) (iQ ts x):=by
 have mk:∀ k,k∈dF ks x→k∈ks:=fun k hk=>(zbH.mp hk).1
 have lk:(dF ks x).length≤ks.length:=zau _ _
 have lt:(iQ ts x).length≤ts.length:=zau _ _
 have h1:=h.ro.kl
 have h2:=h.ro.tl
 have h3:=h.kl
 have h4:=h.tl
 refine ⟨⟨by omega,?_,fun k hk=>h.ro.nm k (mk k hk),h.ro.tn.sublist zaN,by omega,fun t ht => ?_⟩,by omega,by omega,fun k hk=>h.ml k (mk k hk)⟩
 ·rw [gA];exact h.ro.nd.sublist zaN
 ·obtain ⟨t1,t2⟩:=zbH.mp ht
  rw [zbE] at t2
  obtain ⟨a1,a2,a3⟩:=h.ro.tk t t1
  rw [gA]
  exact ⟨zbH.mpr ⟨a1,t2.1⟩,zbH.mpr ⟨a2,t2.2⟩,a3⟩
theorem Sm.set {b:Nat}{ks:List Kn}{ts:List Ti} (h:Sm b ks ts) (x:Str) {ms:List Str} (m1:ms.length≤5) (m2:ms.Nodup) (m3:∀ m∈ms,Nm m) (m4:(ms.filter fun y=>decide (y≠("zz" : Str))).length≤3):Sm (b+1) (setM ks x ms) ts:=by
 have h3:=h.tl
 have ll:(setM ks x ms).length=ks.length:=by unfold setM;rw [zbJ]
 have mem:∀ k∈setM ks x ms,∃ k0∈ks,k.1=k0.1∧(k.2=ms∨k=k0):=fun k hk=>by
  obtain ⟨k0,hk0,e⟩:=zck.mp hk
  refine ⟨k0,hk0,?_⟩
  rw [← e]
  by_cases z:k0.1=x
  ·rw [if_pos z];exact ⟨rfl,.inl rfl⟩
  ·rw [if_neg z];exact ⟨rfl,.inr rfl⟩
 refine ⟨⟨by rw [ll];exact h.ro.kl,by rw [jz];exact h.ro.nd,fun k hk => ?_,h.ro.tn,h.ro.tl,fun t ht=>by rw [jz];exact h.ro.tk t ht⟩,by rw [ll];exact h.kl,by omega,fun k hk => ?_⟩
 ·obtain ⟨k0,hk0,e1,e2⟩:=mem k hk
  rcases e2 with e2 | e2
  ·rw [e1,e2];exact ⟨(h.ro.nm k0 hk0).1,m1,m2,m3⟩
  ·rw [e2];exact h.ro.nm k0 hk0
 ·obtain ⟨k0,hk0,e1,e2⟩:=mem k hk
  rcases e2 with e2 | e2
  ·rw [e2];exact m4
  ·rw [e2];exact h.ml k0 hk0
theorem Sm.out {b:Nat}{ks:List Kn}{ts:List Ti} (h:Sm b ks ts) (t:Ti):Sm (b+1) ks (eF ts t):=by
 have lt:(eF ts t).length≤ts.length:=zau _ _
 have h1:=h.ro.tl
 have h2:=h.tl
 exact ⟨⟨h.ro.kl,h.ro.nd,h.ro.nm,h.ro.tn.sublist zaN,by omega,fun u hu=>h.ro.tk u (zbH.mp hu).1⟩,h.kl,by omega,h.ml⟩
theorem Sm.put {b:Nat}{ks:List Kn}{ts:List Ti} (h:Sm b ks ts) {t:Ti} (hb:b<300) (ht:t ∉ ts) (h1:t.1∈nms ks) (h2:t.2.2∈nms ks) (h3:Nm t.2.1):Sm (b+1) ks (ts++[t]):=by
 have h4:=h.tl
 refine ⟨⟨h.ro.kl,h.ro.nd,h.ro.nm,zbo.mpr ⟨h.ro.tn,by simp,fun a ha c hc e => ?_⟩,by rw [zaS];simp;omega,fun u hu => ?_⟩,h.kl,by rw [zaS];simp;omega,h.ml⟩
 ·have:c=t:=by simpa using hc
  exact ht (by rw [← this,← e];exact ha)
 ·rcases zbI.mp hu with z | z
  ·exact h.ro.tk u z
  ·have:u=t:=by simpa using z
   rw [this];exact ⟨h1,h2,h3⟩
theorem xh {ks:List Kn} (h:(nms ks).Nodup):ks.Nodup:=by
 unfold nms at h
 have h:(ks.map (·.1)).Pairwise (· ≠ ·):=h
 rw [zbm] at h
 exact h.imp fun z e=>z (congrArg (·.1) e)
theorem idx_eq {α:Type}:∀ {l:List α}{i j:Nat}{a:α},l.Nodup→l[i]? = some a→l[j]? = some a→i=j
 | [],i,j,a,_,h,_=>by simp at h
 | x::l,0,0,a,_,_,_=>rfl
 | x::l,0,j+1,a,hn,h1,h2=>by
  rw [zbL] at hn
  have e:x=a:=by simpa using h1
  have:a∈l:=zaD (by simpa using h2)
  exact absurd (e ▸ this) hn.1
 | x::l,i+1,0,a,hn,h1,h2=>by
  rw [zbL] at hn
  have e:x=a:=by simpa using h2
  have:a∈l:=zaD (by simpa using h1)
  exact absurd (e ▸ this) hn.1
 | x::l,i+1,j+1,a,hn,h1,h2=>by
  rw [zbL] at hn
  have h1:l[i]? = some a:=by simpa using h1
  have h2:l[j]? = some a:=by simpa using h2
  rw [idx_eq hn.2 h1 h2]
theorem DE {ks:List Kn}{k:Kn}{ms:List Str} (hn:(nms ks).Nodup) {j:Nat} (hj:ks[j]? = some k):ks.set j (k.1,ms)=setM ks k.1 ms:=by
 unfold setM
 refine List.ext_getElem? fun i => ?_
 rw [zbj,zbf]
 have hjl:=(zae.mp hj).1
 by_cases e:j=i
 ·subst e
  rw [if_pos rfl,if_pos hjl,hj]
  show some (k.1,ms)=some (if k.1=k.1 then (k.1,ms) else k)
  rw [if_pos rfl]
 ·rw [if_neg e]
  cases hi:ks[i]? with
  | none=>rfl
  | some c =>
   show some c=some (if c.1=k.1 then (c.1,ms) else c)
   rw [if_neg]
   intro z
   have hil:=(zae.mp hi).1
   have m1:c∈ks:=zaD hi
   have m2:k∈ks:=zaD hj
   have ec:c=k:=eG hn _ m1 _ m2 z
   have hnk:ks.Nodup:=xh hn
   rw [ec] at hi
   exact e (idx_eq hnk hj hi)
open PySem PySem.Spec L2 M M6 PyProof.Rows
noncomputable abbrev wL:Stmt:=top 23
noncomputable abbrev yd:List Str:=["_law_web_here","_law_rows_here","_law_feed_here","_law_names_here","_law_knots","_law_one","_law_marks","_law_other","_law_word","_law_way"]
noncomputable abbrev jR:List Str:=["_law_web_here","_law_rows_here","_law_feed_here","_law_names_here"]
theorem gw:aG yd jR (ai wL):=⟨rfl,rfl,rfl,by decide +kernel,rfl,by decide +kernel,by decide +kernel⟩
noncomputable abbrev qk:Stmt:=top 24
noncomputable abbrev uc:List Str:=["_law_feed_here","_law_letters","_law_many","_law_heads","_law_ties","_law_k","_law_rows_here","_law_web_here","_law_other"]
noncomputable abbrev gS:List Str:=["_law_feed_here"]
theorem dO:aG uc gS (ai qk):=⟨rfl,rfl,rfl,by decide +kernel,rfl,by decide +kernel,by decide +kernel⟩
section
variable {P:Program}{w:World}{K:PySem.W.Frag}{mg:Str→Option Value}{base:Heap}{C fi:Addr}
structure ML (p:Nat) (S S':au) (own own':List Nat):Prop where
 out:∀ k,k<S.length→k ∉ own→k≠p→S'[k]? = S[k]?
 len:S.length≤S'.length
 new:∀ c∈own',c∈own∨S.length≤c
theorem zY {W:World}{S S5 Sf:au}{n p f4:Nat}{own own':List Nat}{ks:List Kn}{ts:List Ti}{kn:Option MO} (hp:p<S.length) (hpo:p ∉ own) (hlt:∀ c∈own,c<S.length) (X5:aZ C W S5 n own' ks ts) (fr:Fr (S.set p (some (.feed f4))++[kn]) S5 own own') (hf:∀ k,k≠S.length→k<S5.length→Sf[k]? = S5[k]?) (hl:S5.length≤Sf.length) :
  aZ C W Sf n own' ks ts∧ML p S Sf own own'∧Sf[p]? = some (some (.feed f4)):=by
 have l4:(S.set p (some (.feed f4))++[kn]).length=S.length+1:=by rw [zaS,zbO];rfl
 have l5:=fr.len
 rw [l4] at l5
 have at_:∀ k,k<S.length→k ∉ own→Sf[k]? = (S.set p (some (.feed f4)))[k]? := fun k hk ho=>by
  rw [hf k (by omega) (by omega),fr.out k (by omega) ho,zaf (by rw [zbO];exact hk)]
 refine ⟨X5.frame fun c hc=>hf c (fun z => ?_) (X5.lt c hc),⟨fun k hk ho hkp => ?_,by omega,fun c hc => ?_⟩,?_⟩
 ·rcases fr.new c hc with y | y
  ·have:=hlt c y;omega
  ·rw [l4] at y;omega
 ·rw [at_ k hk ho,zaC (Ne.symm hkp)]
 ·rcases fr.new c hc with y | y
  ·exact .inl y
  ·rw [l4] at y;exact .inr (by omega)
 ·rw [at_ p hp hpo,zbj,if_pos rfl,if_pos hp]
theorem aZ.obj {C:Addr}{W:World}{S:au}{n:Nat}{own:List Nat}{ks:List Kn}{ts:List Ti} (h:aZ C W S n own ks ts):∃ ds,S[n]? = some (some (.ins C fl ds)):=by
 obtain ⟨m,t,e,cs,rfl,rfl,X⟩:=h
 exact ⟨_,X.at_⟩
theorem jG {n:Nat}{ds:List D} (hn:n+1≤64) (h:∀ d∈ds,j7 n d=true):fit (.lst ds)=true:=by
 have all:∀ ds:List D,(∀ d∈ds,j7 n d=true)→bU ds=true∧PyData.canLayAll0 (cY ds)=true∧PyData.depthAll (cY ds)≤n:=by
  intro ds
  induction ds with
  | nil=>intro _;simp [bU,cY,PyData.canLayAll0,PyData.depthAll]
  | cons d ds ih =>
   intro h
   obtain ⟨a1,a2,a3⟩:=pQ n d (h d (by simp))
   obtain ⟨b1,b2,b3⟩:=ih fun y hy=>h y (by simp [hy])
   refine ⟨by simp [bU,a1,b1],by simp [cY,PyData.canLayAll0,a2,b2],?_⟩
   simp only [cY,PyData.depthAll];omega
 obtain ⟨a,b,c⟩:=all ds h
 unfold fit PySem.SeqAt.shaped
 have e1:b6 (.lst ds)=true:=by simpa [b6] using a
 have e2:(py (.lst ds)).canLay0=true:=by simpa [py,PyData.canLay0] using b
 have e3:(py (.lst ds)).depth≤64:=by simp only [py,PyData.depth];omega
 rw [e1,e2,decide_eq_true e3];rfl
theorem Ef {vs:List Str}{S:au}{Q:AK} (h:∀ y∈vs,eV y=true) (q:Q (.dat (.bl (!vs.isEmpty))) S):Fb (.lst (vs.map D.str)) (.lst []) S Q:=by
 unfold Fb
 rw [eE,eE]
 refine ⟨jG (n:=0) (by decide) (fun d hd => ?_),by decide +kernel,?_⟩
 ·obtain ⟨y,hy,rfl⟩:=zck.mp hd
  show eV y=true
  exact h y hy
 ·have:PyData.eqv (py (.lst (vs.map D.str))) (py (.lst []))=vs.isEmpty:=by
   cases vs <;> simp [py,cY,PyData.eqv,PyData.eqvAll]
  rw [this];exact q
theorem By {k:Kn} (h1:eV k.1=true) (h2:∀ m∈k.2,eV m=true) (h3:k.2.length≤100):j7 2 (bT k)=true:=by
 have e:(k.2.map D.str).all (j7 0)=true:=zbz.mpr fun d hd=>by
  obtain ⟨y,hy,rfl⟩:=zck.mp hd
  exact h2 y hy
 simp only [bT,j7,zcd,List.all_nil,Bool.and_true,zbE]
 refine ⟨decide_eq_true (by simp),?_,?_,?_⟩
 ·exact h1
 ·exact decide_eq_true (by rw [zbJ];exact h3)
 ·exact e
theorem HY {a b:Kn} (h:a.1≠b.1):PyData.eqv (py (bT a)) (py (bT b))=false:=by
 simp [bT,py,cY,PyData.eqv,PyData.eqvAll,h]
theorem BD {S:au}{q:Nat}{ks:List Kn}{k:Kn}{Q:AK} (hn:(nms ks).Nodup) (hk:k∈ks) (hok:∀ k∈ks,eV k.1=true∧(∀ m∈k.2,eV m=true)∧k.2.length≤100) (hS:S[q]? = some (some (.lst (ks.map bT)))) (go:∀ j,ks[j]? = some k→Q (.dat (.int (j:Nat))) S):yb (.loc q) [bT k] S Q:=by
 obtain ⟨j,hj,e⟩:=zaL hk
 have hj':ks[j]? = some k:=by rw [zak hj,e]
 have th:∀ k∈ks,j7 2 (bT k)=true:=fun k hk=>By (hok k hk).1 (hok k hk).2.1 (hok k hk).2.2
 refine ⟨q,ks.map bT,bT k,j,bT k,rfl,rfl,hS,fq (th k hk) (by decide),jG (n:=2) (by decide) (fun d hd => ?_),by rw [zbf,hj'];rfl,?_,fun m c hm hc => ?_,go j hj'⟩
 ·obtain ⟨k',hk',rfl⟩:=zck.mp hd
  exact th k' hk'
 ·exact PySem.SeqAt.eqv_refl _ (pQ 2 (bT k) (th k hk)).2.1
 ·rw [zbf] at hc
  cases z:ks[m]? with
  | none=>rw [z] at hc;cases hc
  | some k' =>
   rw [z] at hc
   have hc:bT k'=c:=by simpa using hc
   subst hc
   refine HY fun e2 => ?_
   have e3:=eG hn _ (zaD z) _ hk e2
   rw [e3] at z
   have:=idx_eq (xh hn) z hj'
   omega
theorem sL {n j:Nat} (h:j<n):zR n (j:Int)=some j:=by
 unfold zR
 rw [if_pos (by omega),if_pos (by omega)];rfl
theorem sY (a:D) (l:List D):M.cutD (a::l) (some 1) none=l:=by
 have e1:HT.bZ (a::l).length 0 (some 1)=1:=by unfold HT.bZ;simp;try omega
 have e2:HT.bZ (a::l).length (a::l).length none=(a::l).length:=rfl
 unfold M.cutD
 rw [e1,e2]
 simp
theorem cG {a b:AS}{D:fR}{δ:bH}{S:au} (h:∀ N:bH→au→Prop,(∀ δ' S',b D δ' S'→N δ' S')→a { D with nx:=N } δ S):lC a b D δ S:=h (b D) fun _ _ z=>z
theorem qL {S:au}{p f:Nat}{ks:List Kn}:bD (S.set p (some (.feed f))++[some (MO.lst (ks.map bT))]) (.loc S.length) = .lst (ks.map bT):=aS (o:=.lst (ks.map bT)) (gn (i:=0) (by rw [zbO];rfl))
noncomputable def Ak (C:Addr) (W:World):AN:=fun ds S Q=>∃ (n p f b:Nat) (own:List Nat) (A B M:List Str) (ks:List Kn) (ts:List Ti) (x:D),ds=[.loc n,av ks ts,.loc p,x]∧vO A B M x∧CC C W S n own ks ts∧Sm b ks ts∧b<60∧1≤ks.length∧S[p]? = some (some (.feed f))∧p ∉ own∧f+10<1000 ∧
 ∀ S' own' ks' ts' f',CC C W S' n own' ks' ts'→Sm (b+1) ks' ts'→ML p S S' own own'→S'[p]? = some (some (.feed f'))→f'≤f+10→Q (.dat (av ks' ts')) S'
theorem Iq (T:Txt K mg C fi) (F:Src K mg "_law_turned" jR wL) (D_law_next:Def P w K mg base 1 "_law_next" di (aW K gX)) (D_take_knot:bA P w K mg base 3 C "take_knot" gP (wu C w)) (D_take_mark:bA P w K mg base 2 C "take_mark" gO (wo C w)) (D_put_mark:bA P w K mg base 2 C "put_mark" jU (An C w)) (D_take_tie:bA P w K mg base 2 C "take_tie" fQ (pV C w)) (D_put_tie:bA P w K mg base 2 C "put_tie" iA (ux C w)):Def P w K mg base 4 "_law_turned" jR (aW K (Ak C w)):=by
 refine BY F gw (fun ds S Q h => ?_) (fun f cdv A outer s H E hr => ?_)
 ·obtain ⟨n,p,f,b,own,A,B,M,ks,ts,x,rfl,_⟩:=h;rfl
 ·refine ⟨_,(M.af (M.aD (i:=4) gw.nd rfl (Or.inl rfl) (M.zT (M.Bb M.sr (by rfl) T.list (by decide +kernel) (M.ao (M.az M.bq (M.pv 1) M.ah (fun _ _=>rfl)) M.aa))))
   (M.af (M.qp (M.az M.bq (M.pv 4) (M.aH D_law_next (hr.mono (by decide)) (by rfl) (M.ao (M.pv 2) (M.ao (M.fW M.kL (by rfl) T.len (by decide +kernel) (M.ao (M.pv 4) M.aa)) M.aa))) (fun _ _=>rfl)) (M.fu (n:=2) rfl (M.aY (M.aq (i:=5) gw.nd rfl (Or.inr rfl)) (M.aY (M.aq (i:=6) gw.nd rfl (Or.inl rfl)) M.dQ))))
   (M.af (M.aD (i:=7) gw.nd rfl (Or.inr rfl) (M.az M.bq (M.az M.bq (M.pv 4) (M.aH D_law_next (hr.mono (by decide)) (by rfl) (M.ao (M.pv 2) (M.ao (M.fW M.kL (by rfl) T.len (by decide +kernel) (M.ao (M.pv 4) M.aa)) M.aa))) (fun _ _=>rfl)) M.ah (fun _ _=>rfl)))
   (M.af (M.aD (i:=8) gw.nd rfl (Or.inr rfl) (M.az M.bq (M.az M.bq (M.pv 3) M.ah (fun _ _=>rfl)) (M.aH D_law_next (hr.mono (by decide)) (by rfl) (M.ao (M.pv 2) (M.ao M.ah M.aa))) (fun _ _=>rfl)))
   (M.af (M.aD (i:=9) gw.nd rfl (Or.inl rfl) (M.aH D_law_next (hr.mono (by decide)) (by rfl) (M.ao (M.pv 2) (M.ao M.ah M.aa))))
   (M.af (M.bG (M.aA (M.ng hr) (M.pv 9) M.ah (br _))
    (M.af (M.aE (M.aP (M.pv 0) T.cl D_take_knot (hr.mono (by decide)) (M.ao (M.pv 5) M.aa)))
    (M.af (M.se (i:=4) gw.nd rfl rfl (N:=["_law_row","_law_one"]) (caps:=[none,some 5]) (eK (by decide +kernel)) (by rfl) (by rfl) rfl (M.ck (M.pv 4)) (fun _ _ _ _=>(M.aq (i:=0) (by decide +kernel:List.Nodup (["_law_row","_law_one"]:List Str)) rfl (Or.inl rfl))) (fun _ _ _ _=>(M.ff (M.aA (M.qA hr) (M.az M.bq (M.pv 0) M.ah (fun _ _=>rfl)) (M.pv 1) (br _)))) (fun _ _ _ _=>(M.pv 0)))
    (M.aj (M.aV (M.Im (M.aR (M.ao (M.pv 4) (M.ao (M.cT (N:=["_law_tie","_law_one"]) (caps:=[none,some 5]) (eK (by decide +kernel)) (by rfl) (by rfl) rfl (M.ck (M.az M.bq (M.pv 1) M.ah (fun _ _=>rfl))) (fun _ _ _ _=>(M.aq (i:=0) (by decide +kernel:List.Nodup (["_law_tie","_law_one"]:List Str)) rfl (Or.inl rfl))) (fun _ _ _ _=>(M.ff (M.aA (M.qz hr) (M.pv 1) (M.aR (M.ao (M.az M.bq (M.pv 0) M.ah (fun _ _=>rfl)) (M.ao (M.az M.bq (M.pv 0) M.ah (fun _ _=>rfl)) M.aa))) rfl))) (fun _ _ _ _=>(M.pv 0))) M.aa))))))))
    M.aQ)
   (M.af (M.bG (M.pw_pt (M.pw_and (M.aA (M.ng hr) (M.pv 9) M.ah (br _)) (M.pw_and1 (M.aA (M.qA hr) (M.pv 6) (M.cy M.aa) (br _)))))
    (M.af (M.aE (M.aP (M.pv 0) T.cl D_take_mark (hr.mono (by decide)) (M.ao (M.pv 5) (M.ao (M.az M.bq (M.pv 6) M.ah (fun _ _=>rfl)) M.aa))))
    (M.af (M.jk (M.pv 4) (M.kK PySem.F.plainAttrs_list PySem.F.slot_list_index PySem.F.type_list_index (M.sD hr) (M.pv 4) (M.ao (M.aR (M.ao (M.pv 5) (M.ao (M.pv 6) M.aa))) M.aa)) (M.aR (M.ao (M.pv 5) (M.ao (M.b7 M.FP (M.pv 6) (M.cI M.ah) M.c5) M.aa))))
    (M.aj (M.aV (M.Im (M.aR (M.ao (M.pv 4) (M.ao (M.az M.bq (M.pv 1) M.ah (fun _ _=>rfl)) M.aa))))))))
    M.aQ)
   (M.af (M.bG (M.pw_pt (M.pw_and (M.aA (M.ng hr) (M.pv 9) M.ah (br _)) (M.pw_and1 (M.aA (M.qz hr) M.aL (M.pv 6) rfl))))
    (M.af (M.aE (M.aP (M.pv 0) T.cl D_put_mark (hr.mono (by decide)) (M.ao (M.pv 5) (M.ao M.aL M.aa))))
    (M.af (M.jk (M.pv 4) (M.kK PySem.F.plainAttrs_list PySem.F.slot_list_index PySem.F.type_list_index (M.sD hr) (M.pv 4) (M.ao (M.aR (M.ao (M.pv 5) (M.ao (M.pv 6) M.aa))) M.aa)) (M.aR (M.ao (M.pv 5) (M.ao (M.aO M.jx (M.pv 6) (M.cy (M.ao M.aL M.aa))) M.aa))))
    (M.aj (M.aV (M.Im (M.aR (M.ao (M.pv 4) (M.ao (M.az M.bq (M.pv 1) M.ah (fun _ _=>rfl)) M.aa))))))))
    M.aQ)
   (M.af (M.bG (M.aA (M.Ka hr) (M.aR (M.ao (M.pv 5) (M.ao (M.pv 8) (M.ao (M.pv 7) M.aa)))) (M.az M.bq (M.pv 1) M.ah (fun _ _=>rfl)) rfl)
    (M.af (M.aE (M.aP (M.pv 0) T.cl D_take_tie (hr.mono (by decide)) (M.ao (M.pv 5) (M.ao (M.pv 8) (M.ao (M.pv 7) M.aa)))))
    (M.aj (M.aV (M.Im (M.aR (M.ao (M.pv 4) (M.ao (M.cT (N:=["_law_tie","_law_one","_law_word","_law_other"]) (caps:=[none,some 5,some 8,some 7]) (eK (by decide +kernel)) (by rfl) (by rfl) rfl (M.ck (M.az M.bq (M.pv 1) M.ah (fun _ _=>rfl))) (fun _ _ _ _=>(M.aq (i:=0) (by decide +kernel:List.Nodup (["_law_tie","_law_one","_law_word","_law_other"]:List Str)) rfl (Or.inl rfl))) (fun _ _ _ _=>(M.ff (M.aA (M.qA hr) (M.pv 0) (M.aR (M.ao (M.pv 1) (M.ao (M.pv 2) (M.ao (M.pv 3) M.aa)))) (br _)))) (fun _ _ _ _=>(M.pv 0))) M.aa)))))))
    M.aQ)
   (M.af (M.aE (M.aP (M.pv 0) T.cl D_put_tie (hr.mono (by decide)) (M.ao (M.pv 5) (M.ao (M.pv 8) (M.ao (M.pv 7) M.aa)))))
   (M.aj (M.aV (M.Im (M.aR (M.ao (M.pv 4) (M.ao (M.aO M.jx (M.az M.bq (M.pv 1) M.ah (fun _ _=>rfl)) (M.cy (M.ao (M.aR (M.ao (M.pv 5) (M.ao (M.pv 8) (M.ao (M.pv 7) M.aa)))) M.aa))) M.aa)))))))))))))))),fun ds S Q h => ?_⟩
  obtain ⟨n,p,f,b,own,NA,NB,NM,ks,ts,x,rfl,hx,⟨ks',ts',X',hL⟩,hS,hb,hk1,hp,hpo,hf,q⟩:=h
  have e0:aT yd [.loc n,av ks ts,.loc p,x]=[some (.loc n),some (av ks ts),some (.loc p),some x,none,none,none,none,none,none]:=rfl
  rw [e0]
  have pl:=cA hp
  have hlt:=X'.lt
  have hkl:=hS.kl
  obtain ⟨hx0,lA,lB,lM,ndA,ndM,nA,nB,nM⟩:=hx
  refine cG fun N1 h1 => ?_
  push_cast [fE]
  refine ⟨_,rfl,_,rfl,h1 _ _ ?_⟩
  clear h1
  refine cG fun N2 h2 => ?_
  push_cast [true_and]
  have e3:bD (S++[some (MO.lst (ks.map bT))]) (.loc S.length) = .lst (ks.map bT):=aS (o:=.lst (ks.map bT)) bF
  refine ⟨ks.length,by rw [e3];simp only [qI,zbJ],bY (cD hp) (by omega) (by omega) (by omega) fun z hz => ?_⟩
  rw [rK (n:=0) pl]
  refine qM qL (by rw [zbJ];omega) fun y hy => ?_
  obtain ⟨k,hk,rfl⟩:=zck.mp hy
  refine ⟨_,rfl,rfl,_,_,rfl,_,_,rfl,rfl,h2 _ _ ?_⟩
  clear h2
  refine cG fun N3 h3 => ?_
  push_cast [true_and]
  refine ⟨ks.length,by rw [qL];simp only [qI,zbJ],bY (kH hp) (by omega) (by omega) (by omega) fun z2 hz2 => ?_⟩
  rw [e7 (n:=0) pl]
  refine qM qL (by rw [zbJ];omega) fun y hy => ?_
  obtain ⟨k2,hk2,rfl⟩:=zck.mp hy
  refine ⟨.str k2.1,rfl,h3 _ _ ?_⟩
  clear h3
  refine cG fun N4 h4 => ?_
  push_cast [true_and]
  subst hx0
  refine ⟨_,rfl,bY (kH hp) (by omega) (by decide) (by decide) fun z3 hz3 => ?_⟩
  rw [e7 (n:=0) pl]
  refine pick (by rw [zbJ];omega) fun y hy => ?_
  obtain ⟨wd,hwd,rfl⟩:=zck.mp hy
  refine h4 _ _ ?_
  clear h4
  refine cG fun N5 h5 => ?_
  push_cast [true_and]
  refine bY (kH hp) (by omega) (by decide) (by decide) fun z4 hz4 => ?_
  rw [e7 (n:=0) pl]
  refine h5 _ _ ?_
  clear h5
  generalize hS4:S.set p (some (MO.feed (f+1+1+1+1)))++[some (MO.lst (ks.map bT))]=S4
  have l4:S4.length=S.length+1:=by rw [← hS4,zaS,zbO];rfl
  have X4:aZ C w S4 n own ks' ts':=X'.frame fun c hc=>by
   rw [← hS4,zaf (by rw [zbO];exact hlt c hc),zaC (fun z:p=c=>hpo (by rw [z];exact hc))]
  obtain ⟨od,ho⟩:=X4.obj
  have q4:S4[S.length]? = some (some (.lst (ks.map bT))):=by rw [← hS4];exact gn (i:=0) (by rw [zbO];rfl)
  have hkx:k.1∈nms ks:=zck.mpr ⟨k,hk,rfl⟩
  have hkx':=hL.nm.mem_iff.mpr hkx
  have Ih:k2.1∈nms ks:=zck.mpr ⟨k2,hk2,rfl⟩
  have hm:=hS.ro.nm k hk
  have BH:∀ k∈ks,eV k.1=true∧(∀ m∈k.2,eV m=true)∧k.2.length≤100:=fun k hk=>⟨cL (hS.ro.nm k hk).1,fun m hm'=>cL ((hS.ro.nm k hk).2.2.2 m hm'),by have:=(hS.ro.nm k hk).2.1;omega⟩
  have back:∀ {S5 Sf:au}{own5:List Nat}{ks5 ks6:List Kn}{ts5 ts6:List Ti},aZ C w S5 n own5 ks5 ts5→Fr S4 S5 own own5→Lk ks5 ks6 ts5 ts6→Sm (b+1) ks6 ts6→(∀ k,k≠S.length→k<S5.length→Sf[k]? = S5[k]?)→S5.length≤Sf.length→Q (.dat (av ks6 ts6)) Sf:=fun {S5 Sf own5 ks5 ks6 ts5 ts6} X5 f5 l5 s6 hf hl=>by
   rw [← hS4] at f5
   obtain ⟨Y1,Y2,Y3⟩:=zY pl hpo hlt X5 f5 hf hl
   exact q Sf own5 ks6 ts6 _ ⟨ks5,ts5,Y1,l5⟩ s6 Y2 Y3 (by omega)
  have keep:∀ {S5:au}{own5:List Nat},Fr S4 S5 own own5→S5[S.length]? = some (some (.lst (ks.map bT))):=fun {S5 own5} f5=>by
   rw [f5.out S.length (by omega) fun z=>by have:=hlt _ z;omega];exact q4
  clear hS4
  refine cG fun N6 h6 => ?_
  push_cast [true_and]
  refine oh (fun hz0 => ?_) (fun hz0=>h6 _ _ ?_)
  ·clear h6
   refine aF rfl ho (by decide +kernel) ⟨_,rfl,n,own,ks',ts',k.1,rfl,X4,hkx',fun S5 own5 X5 f5 => ?_⟩
   refine Cj (iy (gJ ⟨_,rfl,_,keep f5,?_⟩))
   show cM (fun S'=>S'[S.length]? = _) (bI 0) _ _ (ks.map bT) [] [none,some (.str k.1)] S5 _
   refine cZ (δ:=[none,some (.str k.1)]) bT (fun r => !decide (r.1=k.1)) bT (keep f5) ks [] _ rfl (fun r hr Q' q'=>⟨_,rfl,_,rfl,_,rfl,_,rfl,q'⟩) (fun r hr Q' q'=>⟨_,rfl,q'⟩) (by rw [sizeLine_eq];simp;omega) ?_
   have eg:ks.filter (fun r => !decide (r.1=k.1))=dF ks k.1:=by
    unfold dF
    refine zbp fun r _ => ?_
    by_cases e:r.1=k.1 <;> simp [e]
   rw [zbQ,eg]
   refine ⟨_,rfl,iy (gJ ⟨_,rfl,_,rfl,?_⟩)⟩
   show cM (fun _=>True) (bI 0) _ _ (ts.map T3) [] [none,some (.str k.1)] (S5++[some (MO.lst ((dF ks k.1).map bT))]) _
   refine cZ (δ:=[none,some (.str k.1)]) T3 (fun t=>decide (t.1≠k.1)&&decide (t.2.2≠k.1)) T3 trivial ts [] _ rfl (fun t ht Q' q' => ?_) (fun t ht Q' q'=>⟨_,rfl,q'⟩) (by have:=hS.tl;rw [sizeLine_eq];simp;omega) ?_
   ·have ot:=jw (hS.ro.lT t ht)
    refine ⟨_,rfl,_,rfl,_,rfl,_,rfl,_,rfl,by show 2≤sizeLine;decide,BB (ss:=[t.1,t.2.2]) (n:=0) (show eV k.1=true from cL hm.1) (by decide) (by simp [ot.1,ot.2.2]) ⟨_,rfl,?_⟩ (Nat.le_of_ble_eq_true rfl)⟩
    have e:(true != yY (.str k.1) [t.1,t.2.2])=(decide (t.1≠k.1)&&decide (t.2.2≠k.1)):=by
     by_cases e1:t.1=k.1
     ·simp [yY,Ex,e1]
     ·by_cases e2:t.2.2=k.1
      ·simp [yY,Ex,e2]
      ·simp [yY,Ex,e1,e2,Ne.symm e1,Ne.symm e2]
    show Q' (true != yY (.str k.1) [t.1,t.2.2]) _
    rw [e];exact q'
   rw [zbQ]
   refine ⟨by show 2≤sizeLine;decide,S5.length,(dF ks k.1).map bT,_,rfl,bF,?_⟩
   have ev:([D.loc S5.length,D.lst ((iQ ts k.1).map T3)].map (sb S5.length (.lst ((dF ks k.1).map bT))))=[.lst ((dF ks k.1).map bT),.lst ((iQ ts k.1).map T3)]:=by simp [sb]
   show Q (.dat (.tup ([D.loc S5.length,D.lst ((iQ ts k.1).map T3)].map (sb S5.length (.lst ((dF ks k.1).map bT)))))) _
   rw [ev]
   exact back X5 f5 (hL.gone k.1) (hS.gone k.1) (fun i hi hl=>by rw [zaC (by omega),zaf hl]) (by rw [zbO,zaS];omega)
  clear h6
  have mx:=ir hkx'
  have mp:=hL.mr k.1 hkx
  rw [c7 hS.ro.nd hk] at mp
  have row:∀ {S5:au}{own5:List Nat}{ks5:List Kn}{j:Nat}{ms:List Str},aZ C w S5 n own5 ks5 ts'→Fr S4 S5 own own5→Lk ks5 (setM ks k.1 ms) ts' ts→Sm (b+1) (setM ks k.1 ms) ts→ks[j]? = some k→∀ (δ:bH),δ[4]? = some (some (.loc S.length))→δ[1]? = some (some (av ks ts))→(Fd (Cq (pJ (nS 4) (pJ (Jc rF (nS 1) (aC (D.int 1))) vH)))) δ (S5.set S.length (some (.lst ((ks.map bT).set j (bT (k.1,ms)))))) Q:=fun {S5 own5 ks5 j ms} X5 f5 l5 s5 hj δ d4 d1=>by
   have es:(ks.map bT).set j (bT (k.1,ms))=(setM ks k.1 ms).map bT:=by rw [← DE hS.ro.nd hj,List.map_set]
   rw [es]
   have hq:S.length<S5.length:=by have:=f5.len;omega
   refine ⟨_,d4,_,d1,_,rfl,by show 2≤sizeLine;decide,S.length,(setM ks k.1 ms).map bT,_,rfl,by rw [zbj,if_pos rfl,if_pos hq],?_⟩
   have ev:([D.loc S.length,D.lst (ts.map T3)].map (sb S.length (.lst ((setM ks k.1 ms).map bT))))=[.lst ((setM ks k.1 ms).map bT),.lst (ts.map T3)]:=by simp [sb]
   show Q (.dat (.tup ([D.loc S.length,D.lst (ts.map T3)].map (sb S.length (.lst ((setM ks k.1 ms).map bT)))))) _
   rw [ev]
   exact back X5 f5 l5 s5 (fun i hi hl=>by rw [zaC (Ne.symm hi),zaC (Ne.symm hi)]) (by rw [zbO,zbO];omega)
  refine cG fun N7 h7 => ?_
  push_cast [true_and]
  have g7:N7 [some (.loc n),some (av ks ts),some (.loc p),some (.lst [.lst (NA.map D.str),.lst (NB.map D.str),.lst (NM.map D.str)]),some (.loc S.length),some (.str k.1),some (.lst (k.2.map D.str)),some (.str k2.1),some (.str wd),some (.int (z4:Int))] S4:=h7 _ _ ?_
  ·clear h7
   refine oh (fun hz1=>⟨by show 0≤sizeLine;decide,Ef (BH k hk).2.1 ⟨_,rfl,?_⟩⟩) (fun hz1=>g7)
   rcases hk2':k.2 with _ | ⟨m0,ms⟩
   ·rw [hk2'] at g7
    exact jC g7
   ·clear g7
    refine vj ?_
    have nd0:=hm.2.2.1
    rw [hk2'] at nd0 mp
    rw [zbL] at nd0
    refine aF rfl ho (by decide +kernel) ⟨_,rfl,_,rfl,_,(show nU (D.str m0::ms.map D.str) ((0:Nat):Int)=some (D.str m0) from dg rfl),n,(k.1,aK ks' k.1),m0,own,ks',ts',rfl,X4,mx,mp.mem_iff.mpr (by simp),fun S5 own5 X5 f5 => ?_⟩
    show kW _ _ _ _ _ S5
    unfold kW
    push_cast [Jk]
    have ec:M.cutD ((m0::ms).map D.str) (some 1) none=ms.map D.str:=sY _ _
    show (fun (x:R) (S1:au)=>_) (.new (.lst (M.cutD ((m0::ms).map D.str) (some 1) none))) S5
    have ekn:D.tup [D.str k.1,D.lst (List.map D.str (m0::ms))]=bT k:=by unfold bT;rw [hk2']
    refine ⟨by show 2≤sizeLine;decide,by rw [aS (keep f5)];rfl,by show 2≤sizeLine;decide,?_⟩
    rw [ekn]
    have hf:((m0::ms).filter fun z=>decide (z≠m0))=ms:=by
     rw [zbw,decide_eq_false (fun z=>z rfl),if_neg (by decide)]
     exact zaM.mpr fun y hy=>decide_eq_true fun z=>nd0.1 (z ▸ hy)
    have sub:∀ y∈ms,y∈k.2:=fun y hy=>by rw [hk2'];simp [hy]
    have ml3:=hS.ml k hk
    have m5:=hm.2.1
    rw [hk2'] at ml3 m5
    refine BD hS.ro.nd hk BH (keep f5) fun j hj=>⟨S.length,rfl,ks.map bT,(j:Int),rfl,keep f5,j,sL (by rw [zbJ];exact (zae.mp hj).1),?_⟩
    have e9:D.tup [D.str k.1,(R.new (MO.lst (M.cutD ((m0::ms).map D.str) (some 1) none))).d]=bT (k.1,ms):=by
     show D.tup [_,D.lst (M.cutD _ _ _)]=_
     rw [ec];rfl
    rw [e9]
    exact row (ms:=ms) X5 f5 (hL.set k.1 (by have:=mp.filter fun z=>decide (z≠m0);rw [hf] at this;exact this)) (hS.set k.1 (by simp at m5;omega) nd0.2 (fun m hm'=>hm.2.2.2 m (sub m hm')) (by
     rw [zbw] at ml3
     split at ml3
     ·simp at ml3 ⊢;omega
     ·exact ml3)) hj _ (by rfl) (by rfl)
  clear h7
  refine cG fun N8 h8 => ?_
  push_cast [true_and]
  have g8:N8 [some (.loc n),some (av ks ts),some (.loc p),some (.lst [.lst (NA.map D.str),.lst (NB.map D.str),.lst (NM.map D.str)]),some (.loc S.length),some (.str k.1),some (.lst (k.2.map D.str)),some (.str k2.1),some (.str wd),some (.int (z4:Int))] S4:=h8 _ _ ?_
  ·clear h8
   refine oh (fun hz2=>yX (n:=0) (show eV "zz" = true by decide +kernel) (by decide) (zbz.mpr (BH k hk).2.1) ⟨_,rfl,?_⟩ (BH k hk).2.2) (fun hz2=>g8)
   by_cases hzz:("zz" : Str)∈k.2
   ·have e:yY (.str "zz") k.2=true:=zbD.mpr ⟨_,hzz,by simp [Ex]⟩
    show if (true != yY (.str "zz") k.2)=true then _ else _
    rw [e]
    exact jC g8
   ·clear g8
    have e:yY (.str "zz") k.2=false:=zbe.mpr fun y hy z=>hzz (by
     have z:("zz" : Str)=y:=by simpa [Ex] using z
     rw [z];exact hy)
    show if (true != yY (.str "zz") k.2)=true then _ else _
    rw [e]
    refine vj ?_
    have h5:=hS.Mm hk
    refine aF rfl ho (by decide +kernel) ⟨_,rfl,n,(k.1,aK ks' k.1),"zz",own,ks',ts',rfl,X4,mx,fun z=>hzz (mp.mem_iff.mp z),by show (aK ks' k.1).length<5;rw [mp.length_eq];omega,by decide +kernel,fun S5 own5 X5 f5 => ?_⟩
    show kW _ _ _ _ _ S5
    unfold kW
    push_cast [Jk]
    have ekn:D.tup [D.str k.1,D.lst (List.map D.str k.2)]=bT k:=rfl
    refine ⟨by show 1≤sizeLine;decide,by rw [zbJ,sizeLine_eq];simp;omega,by show 2≤sizeLine;decide,by rw [aS (keep f5)];rfl,by show 2≤sizeLine;decide,?_⟩
    rw [ekn]
    have e2:D.tup [D.str k.1,D.lst (k.2.map D.str++[D.str "zz"])]=bT (k.1,k.2++[("zz" : Str)]):=by unfold bT;rw [zbR];rfl
    rw [e2]
    refine BD hS.ro.nd hk BH (keep f5) fun j hj=>⟨S.length,rfl,ks.map bT,(j:Int),rfl,keep f5,j,sL (by rw [zbJ];exact (zae.mp hj).1),?_⟩
    have nz:Nm ("zz" : Str):=ki (by decide +kernel)
    have n2:(k.2++[("zz" : Str)]).Nodup:=by
     refine zbo.mpr ⟨hm.2.2.1,by simp,fun a ha c hc z=>hzz ?_⟩
     have:c = "zz" := by simpa using hc
     rw [← this,← z];exact ha
    have s6:Sm (b+1) (setM ks k.1 (k.2++[("zz" : Str)])) ts:=by
     refine hS.set k.1 (by rw [zaS];simp;omega) n2 (fun m hm' => ?_) ?_
     ·rcases zbI.mp hm' with z | z
      ·exact hm.2.2.2 m z
      ·have:m = "zz" := by simpa using z
       rw [this];exact nz
     ·rw [List.filter_append]
      have:([("zz" : Str)].filter fun y=>decide (y≠("zz" : Str)))=[]:=by decide +kernel
      rw [this,zbK];exact hS.ml k hk
    exact row (ms:=k.2++[("zz" : Str)]) X5 f5 (hL.set k.1 (mp.append_right _)) s6 hj _ (by rfl) (by rfl)
  clear h8
  have ot:iF (k.1,wd,k2.1)=true:=by unfold iF;rw [cL hm.1,cL (nB wd hwd),cL (hS.ro.nm k2 hk2).1];rfl
  have tth:j7 1 (T3 (k.1,wd,k2.1))=true:=(CF (.name hm.1) (.name (nB wd hwd)) (.name (hS.ro.nm k2 hk2).1)).th
  have tsf:fit (.lst (ts.map T3))=true:=jG (n:=1) (by decide) fun d hd=>by
   obtain ⟨u,hu,rfl⟩:=zck.mp hd
   exact (hS.ro.t3 u hu).th
  have isin:∀ {Q':AK},Q' (.dat (.bl (decide ((k.1,wd,k2.1)∈ts)))) S4→zv false (T3 (k.1,wd,k2.1)) (.lst (ts.map T3)) S4 Q':=fun {Q'} q'=>by
   unfold zv
   rw [eE]
   refine ⟨fq tth (by decide),tsf,?_⟩
   rw [show bD S4 (T3 (k.1,wd,k2.1))=T3 (k.1,wd,k2.1) from rfl,BC ot hS.ro.lT,Bool.false_bne];exact q'
  refine cG fun N9 h9 => ?_
  push_cast [true_and]
  refine ⟨by show 3≤sizeLine;decide,_,rfl,isin ⟨_,rfl,?_⟩⟩
  by_cases hin:(k.1,wd,k2.1)∈ts
  ·clear h9
   rw [decide_eq_true hin]
   refine vj (aF rfl ho (by decide +kernel) ⟨_,rfl,_,rfl,_,rfl,n,(k.1,wd,k2.1),own,ks',ts',rfl,X4,hkx',hL.nm.mem_iff.mpr Ih,hL.ti.mem_iff.mpr hin,ot,fun S5 own5 X5 f5 => ?_⟩)
   refine ⟨_,rfl,iy (gJ ⟨_,rfl,_,rfl,?_⟩)⟩
   show cM (fun _=>True) (bI 0) _ _ (ts.map T3) [] [none,some (.str k.1),some (.str wd),some (.str k2.1)] S5 _
   refine cZ (δ:=[none,some (.str k.1),some (.str wd),some (.str k2.1)]) T3 (fun t=>decide (t≠(k.1,wd,k2.1))) T3 trivial ts [] _ rfl (fun t ht Q' q' => ?_) (fun t ht Q' q'=>⟨_,rfl,q'⟩) (by have:=hS.tl;rw [sizeLine_eq];simp;omega) ?_
   ·refine ⟨_,rfl,_,rfl,_,rfl,_,rfl,by show 3≤sizeLine;decide,?_⟩
    show Fb (T3 t) (T3 (k.1,wd,k2.1)) S5 _
    refine ⟨fq (hS.ro.t3 t ht).th (by decide),fq tth (by decide),_,rfl,?_⟩
    show Q' (!PyData.eqv (py (T3 t)) (py (T3 (k.1,wd,k2.1)))) S5
    rw [fZ _ _ (good3 (hS.ro.lT t ht)).2.1 (good3 ot).2.1]
    have e:(!decide (py (T3 t)=py (T3 (k.1,wd,k2.1))))=decide (t≠(k.1,wd,k2.1)):=by
     by_cases e:t=(k.1,wd,k2.1)
     ·simp [e]
     ·rw [decide_eq_true e,decide_eq_false fun z=>e (fL z)];rfl
    rw [e];exact q'
   rw [zbQ]
   refine ⟨by show 2≤sizeLine;decide,S.length,ks.map bT,_,rfl,keep f5,?_⟩
   have ev:([D.loc S.length,D.lst ((eF ts (k.1,wd,k2.1)).map T3)].map (sb S.length (.lst (ks.map bT))))=[.lst (ks.map bT),.lst ((eF ts (k.1,wd,k2.1)).map T3)]:=by simp [sb]
   show Q (.dat (.tup ([D.loc S.length,D.lst ((eF ts (k.1,wd,k2.1)).map T3)].map (sb S.length (.lst (ks.map bT)))))) _
   rw [ev]
   exact back X5 f5 (hL.out _) (hS.out _) (fun i hi hl=>by rw [zaC (Ne.symm hi)]) (by rw [zbO];omega)
  ·rw [decide_eq_false hin]
   refine jC (h9 _ _ ?_)
   clear h9
   push_cast [true_and]
   have htl:=hS.tl
   refine aF rfl ho (by decide +kernel) ⟨_,rfl,_,rfl,_,rfl,n,(k.1,wd,k2.1),own,ks',ts',rfl,X4,hkx',hL.nm.mem_iff.mpr Ih,fun z=>hin (hL.ti.mem_iff.mp z),by rw [hL.ti.length_eq];omega,ot,fun S5 own5 X5 f5 => ?_⟩
   refine ⟨_,rfl,_,rfl,_,rfl,_,rfl,_,rfl,_,rfl,by show 3≤sizeLine;decide,by show 1≤sizeLine;decide,⟨by rw [zbJ,sizeLine_eq];simp;omega,by show 2≤sizeLine;decide,S.length,ks.map bT,_,rfl,keep f5,?_⟩⟩
   have ev:([D.loc S.length,D.lst ((ts++[(k.1,wd,k2.1)]).map T3)].map (sb S.length (.lst (ks.map bT))))=[.lst (ks.map bT),.lst ((ts++[(k.1,wd,k2.1)]).map T3)]:=by simp [sb]
   have e2:(ts++[(k.1,wd,k2.1)]).map T3=ts.map T3++[T3 (k.1,wd,k2.1)]:=by rw [zbR];rfl
   show Q (.dat (.tup ([D.loc S.length,D.lst (ts.map T3++[T3 (k.1,wd,k2.1)])].map (sb S.length (.lst (ks.map bT)))))) _
   rw [← e2,ev]
   exact back X5 f5 (hL.put _) (hS.put (by omega) hin hkx Ih (nB wd hwd)) (fun i hi hl=>by rw [zaC (Ne.symm hi)]) (by rw [zbO];omega)
end
open PySem PySem.Spec L2 M M6 PyProof.Rows
theorem Aj (l:List Str):∃ s:List Str,s.Perm l∧sortedS s=true:=by
 let le:Str→Str→Bool:=fun a b => !decide (b.cps.toList<a.cps.toList)
 refine ⟨l.mergeSort le,List.mergeSort_perm l le,sortedS_of_pairwise _ ?_⟩
 have h:=List.pairwise_mergeSort (le:=le) (fun a b c h1 h2 => ?_) (fun a b => ?_) l
 ·refine h.imp fun {a b} z => ?_
  rw [ltCps_eq]
  have z:(!decide (b.cps.toList<a.cps.toList))=true:=z
  simpa using z
 ·have h1 : ¬ b.cps.toList<a.cps.toList:=by simpa [le] using h1
  have h2 : ¬ c.cps.toList<b.cps.toList:=by simpa [le] using h2
  show (!decide (c.cps.toList<a.cps.toList))=true
  have : ¬ c.cps.toList<a.cps.toList:=zcw.mpr (List.le_trans (zcw.mp h1) (zcw.mp h2))
  simpa using this
 ·show ((!decide (b.cps.toList<a.cps.toList))||(!decide (a.cps.toList<b.cps.toList)))=true
  by_cases e:b.cps.toList<a.cps.toList
  ·have : ¬ a.cps.toList<b.cps.toList:=fun z=>List.lt_irrefl _ (List.lt_trans z e)
   simp [this]
  ·simp [e]
theorem pT {l:List Str} (hn:l.Nodup):(dD l).Perm l:=by
 obtain ⟨s,s1,s2⟩:=Aj l
 rw [← iT hn s1 s2];exact s1
theorem yy (l:List Ti):∃ s:List Ti,s.Perm l∧ug (s.map T3):=by
 let le:Ti→Ti→Bool:=fun a b => !dY (py (T3 b)) (py (T3 a))
 refine ⟨l.mergeSort le,List.mergeSort_perm l le,?_⟩
 have h:=List.pairwise_mergeSort (le:=le) (fun a b c h1 h2 => ?_) (fun a b => ?_) l
 ·show ((l.mergeSort le).map T3).Pairwise _
  rw [zbm]
  refine h.imp fun {a b} z => ?_
  have z:(!dY (py (T3 b)) (py (T3 a)))=true:=z
  simpa using z
 ·have h1:dY (py (T3 b)) (py (T3 a))=false:=by simpa [le] using h1
  have h2:dY (py (T3 c)) (py (T3 b))=false:=by simpa [le] using h2
  show (!dY (py (T3 c)) (py (T3 a)))=true
  cases z:dY (py (T3 c)) (py (T3 a)) with
  | false=>rfl
  | true =>
   exfalso
   by_cases e:b=c
   ·subst e;rw [h1] at z;cases z
   ·rcases qH _ _ (qV b c) (fun y=>e (fL y)) with y | y
    ·have:=sE _ _ _ (qV b c) (qV c a) (qV b a) y z
     rw [h1] at this;cases this
    ·rw [h2] at y;cases y
 ·show ((!dY (py (T3 b)) (py (T3 a)))||(!dY (py (T3 a)) (py (T3 b))))=true
  cases z:dY (py (T3 b)) (py (T3 a)) with
  | false=>rfl
  | true =>
   cases y:dY (py (T3 a)) (py (T3 b)) with
   | false=>rfl
   | true =>
    have:=sE _ _ _ (qV a b) (qV b a) (qV a a) y z
    rw [u9] at this;cases this
theorem wm {l:List Ti} (hn:l.Nodup):(b5 l).Perm l:=by
 obtain ⟨s,s1,s2⟩:=yy l
 rw [← je hn s1 s2];exact s1
theorem RO.Gu {ks:List Kn}{ts:List Ti} (h:RO ks ts):RO (bR ks) (b5 ts) :=
 h.dD (pT h.nd) (wm h.tn) fun x hx=>by
  obtain ⟨k,hk,rfl⟩:=zck.mp hx
  rw [c7 h.nd hk]
  exact pT (h.nm k hk).2.2.1
theorem Lk.dD {ks:List Kn}{ts:List Ti} (h:RO ks ts):Lk (bR ks) ks (b5 ts) ts :=
 (Lk.refl ks ts).copy (pT h.nd) (wm h.tn) fun x hx=>by
  obtain ⟨k,hk,rfl⟩:=zck.mp hx
  rw [c7 h.nd hk]
  exact pT (h.nm k hk).2.2.1
theorem Lk.trans {k1 k2 k3:List Kn}{t1 t2 t3:List Ti} (a:Lk k1 k2 t1 t2) (b:Lk k2 k3 t2 t3):Lk k1 k3 t1 t3 :=
 ⟨a.nm.trans b.nm,fun x hx=>(a.mr x (b.nm.mem_iff.mpr hx)).trans (b.mr x hx),a.ti.trans b.ti⟩
noncomputable def hd (k:Nat):Str:=⟨#[107,97+k % 26,97+k / 26]⟩
noncomputable def gK (n:Nat):List Kn:=(zcC n).map fun k=>(hd k,[("m" : Str)])
noncomputable def gT (k:Nat):Ti:=(hd (k % 11),⟨#[97+k / 121]⟩,hd (k / 11 % 11))
noncomputable def iH:List Ti:=(zcC 301).map gT
theorem FZ:∀ k<61,(decide (1≤(hd k).length)&&decide ((hd k).length≤8)&&Em (hd k))=true:=by decide +kernel
theorem Ku:((zcC 61).map hd).Nodup:=by decide +kernel
theorem Kx:∀ k<301,(decide (1≤(gT k).2.1.length)&&decide ((gT k).2.1.length≤8)&&Em (gT k).2.1)=true:=by decide +kernel
theorem Ik:∀ i<301,∀ j<301,gT i=gT j→i=j:=by
 intro i hi j hj e
 unfold gT hd at e
 simp only [Prod.mk.injEq,Str.mk.injEq,Array.mk.injEq,zcD.injEq] at e
 omega
theorem vo (n:Nat):nms (gK n)=(zcC n).map hd:=by unfold nms gK;rw [zcj];rfl
theorem BS {n k:Nat} (hn:41≤n):(gT k).1∈nms (gK n)∧(gT k).2.2∈nms (gK n):=by
 rw [vo]
 exact ⟨zck.mpr ⟨k % 11,zbV.mpr (by omega),rfl⟩,zck.mpr ⟨k / 11 % 11,zbV.mpr (by omega),rfl⟩⟩
theorem gRO {n:Nat} (h1:41≤n) (h2:n≤60):RO (gK n) iH:=by
 refine ⟨by unfold gK;rw [zbJ,zbn];omega,?_,fun k hk => ?_,?_,by unfold iH;rw [zbJ,zbn];omega,fun t ht => ?_⟩
 ·rw [vo]
  have h:=Ku
  have e:(zcC 61).map hd=(zcC n).map hd++((zcC (61 - n)).map (n + ·)).map hd:=by
   rw [← zbR,← List.range_add,show n+(61 - n)=61 by omega]
  rw [e,zbo] at h
  exact h.1
 ·unfold gK at hk
  obtain ⟨i,hi,rfl⟩:=zck.mp hk
  have hi:=zbV.mp hi
  refine ⟨ki (FZ i (by omega)),by show 1≤5;decide,by simp,fun m hm => ?_⟩
  have:m = "m" := by simpa using hm
  rw [this];exact ki (by decide +kernel)
 ·unfold iH
  exact qG List.nodup_range fun a ha b hb e=>Ik a (zbV.mp ha) b (zbV.mp hb) e
 ·unfold iH at ht
  obtain ⟨i,hi,rfl⟩:=zck.mp ht
  exact ⟨(BS h1).1,(BS h1).2,ki (Kx i (zbV.mp hi))⟩
open PySem PySem.Spec L2 M M6 PyProof.Rows
section
variable {P:Program}{w:World}{K:PySem.W.Frag}{mg:Str→Option Value}{base:Heap}{C fi:Addr}
theorem vf {i:Nat}{S:au}{Q:AK} (h:i<26) (q:Q (.dat (.str ⟨#[97+i]⟩)) S):rF (.str "abcdefghijklmnopqrstuvwxyz") (.int (i:Int)) S Q:=by
 refine ⟨by rw [sizeLine_eq];decide +kernel,97+i,?_,q⟩
 refine dg ?_
 have:∀ i<26,("abcdefghijklmnopqrstuvwxyz" : Str).cps.toList[i]? = some (97+i):=by decide +kernel
 exact this i h
theorem BJ {m i:Nat}{S:au}{Q:AK} (h:i<m) (q:Q (.dat (.str (hd i))) S):rF (.lst (((zcC m).map hd).map D.str)) (.int (i:Int)) S Q:=by
 refine ⟨_,dg ?_,q⟩
 rw [zbf,zbf,List.getElem?_range h];rfl
noncomputable def GL (p m:Nat) (S1:au) (rest:List D) (δ:bH) (S':au):Prop:=∃ (j:Nat) (v5:Option D),rest=(c9 0 301).drop j∧j≤301∧δ=[some (.loc p),some (.str "abcdefghijklmnopqrstuvwxyz"),some (.int (m:Int)),some (.lst (((zcC m).map hd).map D.str)),some (.loc S1.length),v5,none,none,none]∧S'=S1++[some (.lst (((zcC j).map gT).map T3))]
noncomputable def wD:AN:=fun ds S Q=>∃ (p f:Nat),ds=[.loc p]∧S[p]? = some (some (.feed f))∧f<900∧∀ S',Q (.dat (.bl true)) S'
theorem ES (T:Txt K mg C fi) (F:Src K mg "_law_great" gS qk) (D_law_next:Def P w K mg base 1 "_law_next" di (aW K gX)) (D_web_of:Def P w K mg base 3 "web_of" eL (aW K (lG C w))) (jb:bA P w K mg base 4 C "like" iB (uz C w)) (D_take_tie:bA P w K mg base 2 C "take_tie" fQ (pV C w)) (dN:bA P w K mg base 3 C "rows" dX (jf C w)) (dS:bA P w K mg base 2 C "steps" eN (lH C w)) (D_law_told:Def P w K mg base 1 "_law_told" gb (aW K pU)) (D_law_steps:Def P w K mg base 1 "_law_steps" eB (aW K mw)):Def P w K mg base 5 "_law_great" gS (aW K wD):=by
 refine BY F dO (fun ds S Q h => ?_) (fun f cdv A outer s H E hr => ?_)
 ·obtain ⟨p,f,rfl,_⟩:=h;rfl
 ·refine ⟨_,(M.af (M.aD (i:=1) dO.nd rfl (Or.inr rfl) M.aL)
   (M.af (M.aD (i:=2) dO.nd rfl (Or.inl rfl) (M.aO M.jx M.ah (M.aH D_law_next (hr.mono (by decide)) (by rfl) (M.ao (M.pv 0) (M.ao M.ah M.aa)))))
   (M.af (M.bL (i:=3) dO.nd rfl rfl (N:=["_law_k","_law_letters"]) (caps:=[none,some 1]) (eK (by decide +kernel)) (by rfl) (by rfl) rfl (M.bK (by rfl) T.range (M.ao (M.pv 2) M.aa)) (fun _ _ _ _=>(M.aq (i:=0) (by decide +kernel:List.Nodup (["_law_k","_law_letters"]:List Str)) rfl (Or.inl rfl))) (fun _ _ _ _=>M.cH) (fun _ _ _ _=>(M.aO M.jx (M.aO M.jx M.aL (M.az M.bq (M.pv 1) (M.aO M.Bj (M.pv 0) M.ah) (fun _ _=>rfl))) (M.az M.bq (M.pv 1) (M.aO M.uT (M.pv 0) M.ah) (fun _ _=>rfl)))))
   (M.af (M.aD (i:=4) dO.nd rfl (Or.inl rfl) (M.zT (M.cy M.aa)))
   (M.af (M.cV PassesOwn.never rfl (M.bK (by rfl) T.range (M.ao M.ah M.aa)) (M.aq (i:=5) dO.nd rfl (Or.inl rfl))
    (M.aj (M.aE (M.kK PySem.F.plainAttrs_list PySem.F.slot_list_append PySem.F.type_list_append M.jB (M.pv 4) (M.ao (M.aR (M.ao (M.az M.bq (M.pv 3) (M.aO M.Bj (M.pv 5) M.ah) (fun _ _=>rfl)) (M.ao (M.az M.bq (M.pv 1) (M.aO M.uT (M.pv 5) M.ah) (fun _ _=>rfl)) (M.ao (M.az M.bq (M.pv 3) (M.aO M.Bj (M.aO M.uT (M.pv 5) M.ah) M.ah) (fun _ _=>rfl)) M.aa)))) M.aa)))))
   (M.frs (M.af (M.aD (i:=6) dO.nd rfl (Or.inl rfl) (M.aR (M.ao (M.cT (N:=["_law_head"]) (caps:=[none]) (eK (by decide +kernel)) (by rfl) (by rfl) rfl (M.ck (M.pv 3)) (fun _ _ _ _=>(M.aq (i:=0) (by decide +kernel:List.Nodup (["_law_head"]:List Str)) rfl (Or.inl rfl))) (fun _ _ _ _=>M.cH) (fun _ _ _ _=>(M.aR (M.ao (M.pv 0) (M.ao (M.cy (M.ao M.aL M.aa)) M.aa))))) (M.ao (M.pv 4) M.aa))))
   (M.af (M.aD (i:=7) dO.nd rfl (Or.inl rfl) (M.aH D_web_of (hr.mono (by decide)) (by rfl) (M.ao (M.aH D_law_told (hr.mono (by decide)) (by rfl) (M.ao (M.pv 6) M.aa)) M.aa)))
   (M.af (M.aD (i:=8) dO.nd rfl (Or.inl rfl) (M.cu (M.pv 7) T.cl jb (hr.mono (by decide))))
   (M.af (M.aE (M.aP (M.pv 7) T.cl D_take_tie (hr.mono (by decide)) (M.ao (M.az M.bq (M.pv 3) M.ah (fun _ _=>rfl)) (M.ao M.aL (M.ao (M.az M.bq (M.pv 3) M.ah (fun _ _=>rfl)) M.aa)))))
   (M.af (M.bG (M.aA (M.qA hr) (M.fW (M.dI hr) (by rfl) T.repr (by decide +kernel) (M.ao (M.cu (M.pv 8) T.cl dN (hr.mono (by decide))) M.aa)) (M.fW (M.dI hr) (by rfl) T.repr (by decide +kernel) (M.ao (M.aH D_law_told (hr.mono (by decide)) (by rfl) (M.ao (M.pv 6) M.aa)) M.aa)) (br _))
    (M.aj (M.aV M.d9))
    M.aQ)
   (M.af (M.aD (i:=6) dO.nd rfl (Or.inl rfl) (M.aR (M.ao (M.az M.bq (M.pv 6) M.ah (fun _ _=>rfl)) (M.ao (M.b7 M.FP (M.pv 4) (M.cI M.ah) M.c5) M.aa))))
   (M.af (M.bG (M.aA (M.qA hr) (M.fW (M.dI hr) (by rfl) T.repr (by decide +kernel) (M.ao (M.cu (M.pv 7) T.cl dN (hr.mono (by decide))) M.aa)) (M.fW (M.dI hr) (by rfl) T.repr (by decide +kernel) (M.ao (M.aH D_law_told (hr.mono (by decide)) (by rfl) (M.ao (M.pv 6) M.aa)) M.aa)) (br _))
    (M.aj (M.aV M.d9))
    M.aQ)
   (M.aj (M.aV (M.ju (M.ng hr) (M.fW (M.dI hr) (by rfl) T.repr (by decide +kernel) (M.ao (M.aP (M.pv 7) T.cl dS (hr.mono (by decide)) (M.ao (M.az M.bq (M.pv 3) M.ah (fun _ _=>rfl)) M.aa)) M.aa)) (M.fW (M.dI hr) (by rfl) T.repr (by decide +kernel) (M.ao (M.aH D_law_steps (hr.mono (by decide)) (by rfl) (M.ao (M.pv 6) (M.ao (M.az M.bq (M.pv 3) M.ah (fun _ _=>rfl)) M.aa))) M.aa)) (br _))))))))))))))))),fun ds S Q h => ?_⟩
  obtain ⟨p,f,rfl,hp,hf,q⟩:=h
  have e0:aT uc [.loc p]=[some (.loc p),none,none,none,none,none,none,none,none]:=rfl
  rw [e0]
  refine cG fun N1 h1 => ?_
  push_cast [true_and]
  refine h1 _ _ ?_
  clear h1
  refine cG fun N2 h2 => ?_
  push_cast [true_and]
  refine bY hp (by omega) (by decide) (by decide) fun z hz=>h2 _ _ ?_
  clear h2
  refine cG fun N3 h3 => ?_
  push_cast [jP,sN]
  rw [show (41:Int)+(z:Int)=((41+z:Nat):Int) by omega]
  obtain ⟨m,hm1,hm2,em⟩:∃ m:Nat,41≤m∧m≤60∧m=41+z:=⟨41+z,by omega,by omega,rfl⟩
  rw [← em]
  clear em hz
  refine ⟨by omega,by omega,comp_map (δ:=[none,some (.str "abcdefghijklmnopqrstuvwxyz")]) (fun d=>match d with | .int i=>.str (hd i.toNat) | d=>d) trivial _ [] _ rfl (fun x hx Q' q' => ?_) ?_ ?_⟩
  ·obtain ⟨k,hk,rfl⟩:=zck.mp hx
   have hk:k<m:=by simpa using hk
   rw [Int.zero_add] at q' ⊢
   push_cast [zaW]
   have e1:((k:Int) % 26)=((k % 26:Nat):Int):=by omega
   have e2:((k:Int) / 26)=((k / 26:Nat):Int):=by omega
   rw [e1,e2]
   refine ⟨by decide,vf (by omega) ⟨by show 1+1≤sizeLine;decide,by unfold C9;omega,vf (by omega) ⟨by show 2+1≤sizeLine;decide,?_⟩⟩⟩
   exact q'
  ·simp [c9];rw [sizeLine_eq];omega
  rw [zbQ]
  have eh:(c9 0 ((m:Nat):Int).toNat).map (fun d=>match d with | .int i=>.str (hd i.toNat) | d=>d)=((zcC m).map hd).map D.str:=by
   simp only [c9,zcj]
   refine zaK fun k _ => ?_
   show D.str (hd ((0:Int)+(k:Int)).toNat)=D.str (hd k)
   rw [Int.zero_add];rfl
  rw [eh]
  refine h3 _ _ ?_
  clear h3 eh
  refine cG fun N4 h4 => ?_
  push_cast [fE]
  refine ⟨zcy _,h4 _ _ ?_⟩
  clear h4
  generalize S.set p (some (MO.feed (f+1)))=S1
  refine cG fun N5 h5 => ?_
  push_cast [nT,sN]
  refine ⟨by decide,by decide,c8 (GL p m S1) ?_ ?_ _ _ _ ⟨0,none,rfl,zcy _,rfl,rfl⟩⟩
  ·rintro δ S' ⟨j,v5,e1,hj,rfl,rfl⟩
   have hj2:j=301:=by
    have:=congrArg zcv e1
    rw [zbx,g9] at this
    simp at this;omega
   subst hj2
   refine ⟨trivial,h5 _ _ ?_⟩
   clear h5
   refine ⟨S1.length,iH.map T3,bF,?_⟩
   simp only [zcb,zcg,Option.map_some,Option.map_none,sb,if_pos]
   generalize (S1++[some (MO.lst (((zcC 301).map gT).map T3))]).set S1.length none=S2
   generalize (if p=S1.length then D.lst (iH.map T3) else D.loc p)=dp
   generalize Option.map (sb S1.length (D.lst (iH.map T3))) v5=v5'
   have hRO:=gRO hm1 hm2
   refine cG fun N6 h6 => ?_
   push_cast [true_and]
   refine iy (gJ ⟨_,rfl,?_⟩)
   show cM (fun _=>True) (bI 0) ow _ (((zcC m).map hd).map D.str) [] [none] S2 _
   refine comp_map (δ:=[none]) (fun d=>.tup [d,.lst [.str "m"]]) trivial _ [] _ rfl (fun x hx Q' q'=>⟨_,rfl,by show 1≤sizeLine;decide,by show 2≤sizeLine;decide,q'⟩) (by rw [zbJ,zbJ,zbn,sizeLine_eq];simp;omega) ?_
   rw [zbQ]
   have ek:(((zcC m).map hd).map D.str).map (fun d=>D.tup [d,.lst [.str "m"]])=(gK m).map bT:=by unfold gK bT;rw [zcj,zcj,zcj];rfl
   rw [ek]
   refine ⟨by show 2≤sizeLine;decide,h6 _ _ ?_⟩
   clear h6
   have eT:iH=gT 0::iH.tail:=rfl
   have sO:RO (gK m) iH.tail:=by
    refine ⟨hRO.kl,hRO.nd,hRO.nm,hRO.tn.sublist (List.tail_sublist _),?_,fun t ht=>hRO.tk t (List.mem_of_mem_tail ht)⟩
    have:=hRO.tl
    rw [List.length_tail];omega
   have hS:=hRO.Gu
   have h0:∀ {S:au}{Q:AK},Q (.dat (.str (hd 0))) S→rF (.lst (((zcC m).map hd).map D.str)) (.int 0) S Q:=fun {S Q} q=>BJ (i:=0) (by omega) q
   refine cG fun N7 h7 => ?_
   push_cast [true_and]
   refine ⟨gK m,iH,rfl,hRO,bR (gK m),b5 iH,rfl,hS,fun S3 own X3 n3=>h7 _ _ ?_⟩
   clear h7
   obtain ⟨o3,ho3⟩:=X3.obj
   refine cG fun N8 h8 => ?_
   push_cast [true_and]
   refine aF rfl ho3 (by decide +kernel) ⟨S2.length,own,_,_,rfl,X3,hS,fun p1 p2 p3 S4 own4 X4 n4=>h8 _ _ ?_⟩
   clear h8
   have X3':aZ C w S4 S2.length own (bR (gK m)) (b5 iH):=X3.frame fun c hc=>n4.keep c (X3.lt c hc)
   obtain ⟨o4,ho4⟩:=X3'.obj
   have l1:Lk (bR (gK m)) (gK m) (b5 iH) iH:=Lk.dD hRO
   have nm0:hd 0∈nms (bR (gK m)):=l1.nm.mem_iff.mpr (by rw [vo];exact zck.mpr ⟨0,zbV.mpr (by omega),rfl⟩)
   have t0:gT 0∈iH:=by rw [eT];simp
   refine cG fun N9 h9 => ?_
   push_cast [true_and]
   refine aF rfl ho4 (by decide +kernel) ?_
   push_cast [true_and]
   refine h0 (h0 ⟨S2.length,gT 0,own,_,_,rfl,X3',nm0,nm0,l1.ti.mem_iff.mpr t0,hRO.lT _ t0,fun S5 own5 X5 f5=>h9 _ _ ?_⟩)
   clear h9
   have X4':aZ C w S5 S3.length own4 _ _:=X4.frame fun c hc=>f5.out c (X4.lt c hc) fun z=>by have:=n4.own c hc;have:=X3.lt c z;omega
   obtain ⟨o5,ho5⟩:=X4'.obj
   have l2:Lk (bR (bR (gK m))) (gK m) (b5 (b5 iH)) iH:=(Lk.dD hS).trans l1
   refine cG fun N10 h10 => ?_
   push_cast [true_and]
   refine aF rfl ho5 (by decide +kernel) ⟨S3.length,own4,_,_,rfl,X4',fun p1 p2 p3 => ?_⟩
   show pI [kJ (bR (bR (gK m))) (b5 (b5 iH))] S5 _
   rw [l2.rows hRO]
   refine dZ hS.tq (by decide) (by decide) ⟨gK m,iH,rfl,hRO,dZ hS.tq (by decide) (by decide) (jA ⟨_,rfl,jC (h10 _ _ ?_)⟩)⟩
   clear h10
   refine cG fun N11 h11 => ?_
   push_cast [true_and]
   refine ⟨_,rfl,?_⟩
   refine (⟨by show 2≤sizeLine;decide,h11 _ _ ?_⟩:(_:Nat)≤_∧_)
   clear h11
   have eT2:iH.map T3=T3 (gT 0)::iH.tail.map T3:=(congrArg (List.map T3) eT).trans zcb
   have e8:D.tup [D.lst ((gK m).map bT),(R.new (MO.lst (M.cutD (iH.map T3) (some 1) none))).d]=av (gK m) iH.tail:=by
    show D.tup [_,D.lst (M.cutD _ _ _)]=_
    rw [eT2,sY];rfl
   show (lC _ _) _ [_,_,_,_,_,_,some (D.tup [D.lst ((gK m).map bT),(R.new (MO.lst (M.cutD (iH.map T3) (some 1) none))).d]),_,_] _
   rw [e8]
   have hS2:=sO.Gu
   have eo:eF iH (gT 0)=iH.tail:=by
    have hn:=hRO.tn
    rw [eT,zbL] at hn
    unfold eF
    rw [eT,zbw,decide_eq_false (fun z=>z rfl),if_neg (by decide)]
    exact zaM.mpr fun y hy=>decide_eq_true fun z=>hn.1 (z ▸ hy)
   have l3:Lk (bR (gK m)) (gK m) (eF (b5 iH) (gT 0)) iH.tail:=by
    have:=l1.out (gT 0)
    rw [eo] at this
    exact this
   obtain ⟨o6,ho6⟩:=X5.obj
   refine cG fun N12 h12 => ?_
   push_cast [true_and]
   refine aF rfl ho6 (by decide +kernel) ⟨S2.length,own5,_,_,rfl,X5,fun p1 p2 p3 => ?_⟩
   show pI [kJ (bR (gK m)) (eF (b5 iH) (gT 0))] S5 _
   rw [l3.rows sO]
   refine dZ hS2.tq (by decide) (by decide) ⟨gK m,iH.tail,rfl,sO,dZ hS2.tq (by decide) (by decide) (jA ⟨_,rfl,jC (h12 _ _ ?_)⟩)⟩
   clear h12
   push_cast [true_and]
   refine aF rfl ho6 (by decide +kernel) ?_
   push_cast [true_and]
   refine h0 ⟨S2.length,own5,_,_,hd 0,rfl,X5,nm0,fun vs v1 v2 v3 v4 => ?_⟩
   have pv:vs.Perm (bW iH.tail (hd 0)):=xy v1 (rL sO.tn _) fun j=>by
    rw [v2,j8]
    unfold stp
    rw [l3.ti.mem_iff,l3.ti.mem_iff]
   refine dZ (gp sO pv) (by decide) (by decide) (h0 ⟨gK m,iH.tail,hd 0,rfl,sO,cL (ki (FZ 0 (by decide))),fun us u1 u2 => ?_⟩)
   have e:=mq sO.tn l3.ti u1 u2 v1 v2 v4
   subst e
   refine dZ (gp sO pv) (by decide) (by decide) ?_
   show Q (.dat (.bl (decide (_=_)))) _
   rw [decide_eq_true rfl]
   exact q _
  ·rintro x xs δ S' N ⟨j,v5,e1,hj,rfl,rfl⟩ hN
   obtain ⟨hjl,rfl,rfl⟩:=rT e1
   refine ⟨trivial,?_⟩
   have e3:bD (S1++[some (MO.lst (((zcC j).map gT).map T3))]) (.loc S1.length) = .lst (((zcC j).map gT).map T3):=aS (o:=.lst (((zcC j).map gT).map T3)) bF
   push_cast [Jk,e3,yV,true_and]
   have e11:((j:Int) % 11)=((j % 11:Nat):Int):=by omega
   have e12:((j:Int) / 121)=((j / 121:Nat):Int):=by omega
   have e13:((j:Int) / 11 % 11)=((j / 11 % 11:Nat):Int):=by omega
   rw [e11,e12,e13]
   refine ⟨by decide,BJ (by omega) ⟨by unfold C9;omega,vf (by omega) ⟨by unfold C9;omega,by decide,BJ (by omega) ⟨by show 3≤sizeLine;decide,_,_,_,rfl,rfl,bF,by rw [zbJ,zbJ,zbn,sizeLine_eq];omega,?_⟩⟩⟩⟩
   rw [p7]
   refine hN _ _ ⟨j+1,_,rfl,hjl,rfl,?_⟩
   rw [List.range_succ,zbR,zbR];rfl
end
open PySem PySem.Spec L2 M M6 PyProof.Rows
noncomputable abbrev uI:Stmt:=top 25
noncomputable abbrev CZ:List Str:=["_law_script","_law_feed_here","_law_names_here","_law_rows_here","_law_web_here","_law_handed","_law_some","_law_dues","_law_k","_law_at","_law_other"]
noncomputable abbrev rg:List Str:=["_law_script"]
theorem gg:aG CZ rg (ai uI):=⟨rfl,rfl,rfl,by decide +kernel,rfl,by decide +kernel,by decide +kernel⟩
noncomputable def up1 {α:Type} (f:Nat→α) (i:Nat) (v:α):Nat→α:=fun j=>if j=i then v else f j
theorem dB {α:Type} (f:Nat→α) (i:Nat) (v:α):up1 f i v i=v:=if_pos rfl
theorem cW {α:Type}{f:Nat→α}{i j:Nat}{v:α} (h:j≠i):up1 f i v j=f j:=if_neg h
noncomputable def three {α:Type} (x y z:α):Nat→α:=fun j=>if j=0 then x else if j=1 then y else z
noncomputable def lE {α:Type} (f:Nat→α):List α:=[f 0,f 1,f 2]
theorem pP {α:Type} (f:Nat→α) {i:Nat} (h:i<3) (v:α):(lE f).set i v=lE (up1 f i v):=by
 match i,h with
 | 0,_=>rfl
 | 1,_=>rfl
 | 2,_=>rfl
theorem zZ {α:Type} (f:Nat→α) {i:Nat} (h:i<3):(lE f)[i]? = some (f i):=by
 match i,h with
 | 0,_=>rfl
 | 1,_=>rfl
 | 2,_=>rfl
noncomputable def lc (n:Nat→Nat) (j:Nat):D:=.loc (n j)
noncomputable def uJ (ks:Nat→List Kn) (ts:Nat→List Ti) (j:Nat):D:=av (ks j) (ts j)
structure St (C:Addr) (W:World) (S:au) (a b B:Nat) (n:Nat→Nat) (own:Nat→List Nat) (ks:Nat→List Kn) (ts:Nat→List Ti):Prop where
 sa:S[a]? = some (some (.lst (lE (lc n))))
 sb:S[b]? = some (some (.lst (lE (uJ ks ts))))
 ab:a≠b
 wl:∀ j,j<3→CC C W S (n j) (own j) (ks j) (ts j)
 sm:∀ j,j<3→Sm B (ks j) (ts j)
 dj:∀ i,i<3→∀ j,j<3→i≠j→∀ c∈own i,c ∉ own j
 na:∀ j,j<3→a ∉ own j∧b ∉ own j
section
variable {C:Addr}{W:World}{S S':au}{a b B:Nat}{n:Nat→Nat}{own:Nat→List Nat}{ks:Nat→List Kn}{ts:Nat→List Ti}
theorem CC.lt {n:Nat}{own:List Nat}{ks:List Kn}{ts:List Ti} (h:CC C W S n own ks ts):∀ c∈own,c<S.length:=by
 obtain ⟨_,_,X,_⟩:=h
 exact X.lt
theorem CC.frame {n:Nat}{own:List Nat}{ks:List Kn}{ts:List Ti} (h:CC C W S n own ks ts) (hf:∀ c∈own,S'[c]? = S[c]?):CC C W S' n own ks ts:=by
 obtain ⟨k,t,X,l⟩:=h
 exact ⟨k,t,X.frame hf,l⟩
theorem Sm.up {B:Nat}{ks:List Kn}{ts:List Ti} (h:Sm B ks ts):Sm (B+1) ks ts:=⟨h.ro,h.kl,Nat.le_succ_of_le h.tl,h.ml⟩
theorem St.frame (h:St C W S a b B n own ks ts) (hf:∀ c,c<S.length→S'[c]? = S[c]?):St C W S' a b B n own ks ts :=
 ⟨by rw [hf a (cA h.sa)];exact h.sa,by rw [hf b (cA h.sb)];exact h.sb,h.ab,fun j hj=>(h.wl j hj).frame fun c hc=>hf c ((h.wl j hj).lt c hc),h.sm,h.dj,h.na⟩
theorem St.feed (h:St C W S a b B n own ks ts) {p:Nat}{o:Option MO} (h1:p≠a) (h2:p≠b) (h3:∀ j,j<3→p ∉ own j):St C W (S.set p o) a b B n own ks ts :=
 ⟨by rw [zaC h1];exact h.sa,by rw [zaC h2];exact h.sb,h.ab,fun j hj=>(h.wl j hj).frame fun c hc=>zaC fun z:p=c=>h3 j hj (by rw [z];exact hc),h.sm,h.dj,h.na⟩
theorem St.turn (h:St C W S a b B n own ks ts) {i p:Nat} (hi:i<3) {own':List Nat}{k':List Kn}{t':List Ti} (hp:p≠a∧p≠b∧∀ j,j<3→p ∉ own j) (w:CC C W S' (n i) own' k' t') (s:Sm (B+1) k' t') (f:ML p S S' (own i) own') :
  St C W (S'.set b (some (.lst ((lE (uJ ks ts)).set i (av k' t'))))) a b (B+1) n (up1 own i own') (up1 ks i k') (up1 ts i t'):=by
 have la:=cA h.sa
 have lb:=cA h.sb
 have oa:S'[a]? = S[a]? := f.out a la (h.na i hi).1 hp.1.symm
 have ob:S'[b]? = S[b]? := f.out b lb (h.na i hi).2 hp.2.1.symm
 have nb:b ∉ own':=fun z=>by
  rcases f.new b z with y | y
  ·exact (h.na i hi).2 y
  ·omega
 have na':a ∉ own':=fun z=>by
  rcases f.new a z with y | y
  ·exact (h.na i hi).1 y
  ·omega
 have er:(lE (uJ ks ts)).set i (av k' t')=lE (uJ (up1 ks i k') (up1 ts i t')):=by
  rw [pP _ hi]
  congr 1
  funext j
  unfold uJ up1
  split <;> rfl
 refine ⟨by rw [zaC h.ab.symm,oa];exact h.sa,by rw [zbj,if_pos rfl,if_pos (by have:=f.len;omega),er],h.ab,fun j hj => ?_,fun j hj => ?_,fun x hx y hy hxy c hc => ?_,fun j hj => ?_⟩
 ·by_cases e:j=i
  ·subst e
   rw [dB,dB,dB]
   exact w.frame fun c hc=>zaC fun z:b=c=>nb (by rw [z];exact hc)
  ·rw [cW e,cW e,cW e]
   refine (h.wl j hj).frame fun c hc => ?_
   rw [zaC fun z:b=c=>(h.na j hj).2 (by rw [z];exact hc)]
   exact f.out c ((h.wl j hj).lt c hc) (h.dj j hj i hi e c hc) fun z=>hp.2.2 j hj (z ▸ hc)
 ·by_cases e:j=i
  ·subst e;rw [dB,dB];exact s
  ·rw [cW e,cW e];exact (h.sm j hj).up
 ·by_cases ex:x=i
  ·subst ex
   rw [dB] at hc
   rw [cW (Ne.symm hxy)]
   rcases f.new c hc with z | z
   ·exact h.dj x hx y hy hxy c z
   ·exact fun y'=>by have:=(h.wl y hy).lt c y';omega
  ·rw [cW ex] at hc
   by_cases ey:y=i
   ·subst ey
    rw [dB]
    intro z
    rcases f.new c z with q | q
    ·exact h.dj x hx y hy hxy c hc q
    ·have:=(h.wl x hx).lt c hc;omega
   ·rw [cW ey];exact h.dj x hx y hy hxy c hc
 ·by_cases e:j=i
  ·subst e;rw [dB];exact ⟨na',nb⟩
  ·rw [cW e];exact h.na j hj
theorem St.copy (h:St C W S a b B n own ks ts) {i o:Nat} (hi:i<3) (ho:o<3) {own':List Nat} (w:CC C W S' S.length own' (ks i) (ts i)) (f:ud S S' own') :
  St C W ((S'.set a (some (.lst ((lE (lc n)).set o (.loc S.length))))).set b (some (.lst ((lE (uJ ks ts)).set o (av (ks i) (ts i)))))) a b B (up1 n o S.length) (up1 own o own') (up1 ks o (ks i)) (up1 ts o (ts i)):=by
 have la:=cA h.sa
 have lb:=cA h.sb
 have na':∀ c∈own',c≠a∧c≠b:=fun c hc=>by have:=f.own c hc;omega
 have en:(lE (lc n)).set o (.loc S.length)=lE (lc (up1 n o S.length)):=by
  rw [pP _ ho]
  congr 1
  funext j
  unfold lc up1
  split <;> rfl
 have er:(lE (uJ ks ts)).set o (av (ks i) (ts i))=lE (uJ (up1 ks o (ks i)) (up1 ts o (ts i))):=by
  rw [pP _ ho]
  congr 1
  funext j
  unfold uJ up1
  split <;> rfl
 have fr:∀ c,c≠a→c≠b→((S'.set a (some (.lst ((lE (lc n)).set o (.loc S.length))))).set b (some (.lst ((lE (uJ ks ts)).set o (av (ks i) (ts i))))))[c]? = S'[c]? := fun c h1 h2=>by
  rw [zaC (Ne.symm h2),zaC (Ne.symm h1)]
 have hl:=f.len
 refine ⟨by rw [zaC h.ab.symm,zbj,if_pos rfl,if_pos (by omega),en],by rw [zbj,if_pos rfl,if_pos (by rw [zbO];omega),er],h.ab,fun j hj => ?_,fun j hj => ?_,fun x hx y hy hxy c hc => ?_,fun j hj => ?_⟩
 ·by_cases e:j=o
  ·subst e
   rw [dB,dB,dB,dB]
   exact w.frame fun c hc=>fr c (na' c hc).1 (na' c hc).2
  ·rw [cW e,cW e,cW e,cW e]
   refine (h.wl j hj).frame fun c hc => ?_
   rw [fr c (fun z=>(h.na j hj).1 (z ▸ hc)) (fun z=>(h.na j hj).2 (z ▸ hc))]
   exact f.keep c ((h.wl j hj).lt c hc)
 ·by_cases e:j=o
  ·subst e;rw [dB,dB];exact h.sm i hi
  ·rw [cW e,cW e];exact h.sm j hj
 ·by_cases ex:x=o
  ·subst ex
   rw [dB] at hc
   rw [cW (Ne.symm hxy)]
   exact fun y'=>by have:=(h.wl y hy).lt c y';have:=f.own c hc;omega
  ·rw [cW ex] at hc
   by_cases ey:y=o
   ·subst ey
    rw [dB]
    intro z
    have:=(h.wl x hx).lt c hc
    have:=f.own c z
    omega
   ·rw [cW ey];exact h.dj x hx y hy hxy c hc
 ·by_cases e:j=o
  ·subst e
   rw [dB]
   exact ⟨fun z=>(na' a z).1 rfl,fun z=>(na' b z).2 rfl⟩
  ·rw [cW e];exact h.na j hj
end
section
variable {P:Program}{w:World}{K:PySem.W.Frag}{mg:Str→Option Value}{base:Heap}{C fi:Addr}
theorem E3 {S:au}{x:Option MO}{Y:au}:(S++(x::Y))[S.length]? = some x:=by
 rw [zab (zcx _),Nat.sub_self];rfl
theorem Lk.ro {ks' ks:List Kn}{ts' ts:List Ti} (h:Lk ks' ks ts' ts) (hR:RO ks ts):RO ks' ts':=by
 have nd':=h.nm.nodup_iff.mpr hR.nd
 have le:ks'.length=ks.length:=by have:=h.nm.length_eq;unfold nms at this;rw [zbJ,zbJ] at this;exact this
 refine ⟨by rw [le];exact hR.kl,nd',fun k hk => ?_,h.ti.nodup_iff.mpr hR.tn,by rw [h.ti.length_eq];exact hR.tl,fun t ht => ?_⟩
 ·have hx':k.1∈nms ks':=zck.mpr ⟨k,hk,rfl⟩
  have hx:=h.nm.mem_iff.mp hx'
  have hm:=h.mr k.1 hx
  rw [c7 nd' hk] at hm
  obtain ⟨k0,hk0,e⟩:=zck.mp hx
  rw [← e,c7 hR.nd hk0] at hm
  have q:=hR.nm k0 hk0
  exact ⟨by rw [← e];exact q.1,by rw [hm.length_eq];exact q.2.1,hm.nodup_iff.mpr q.2.2.1,fun m hm'=>q.2.2.2 m (hm.mem_iff.mp hm')⟩
 ·have q:=hR.tk t (h.ti.mem_iff.mp ht)
  exact ⟨h.nm.mem_iff.mpr q.1,h.nm.mem_iff.mpr q.2.1,q.2.2⟩
theorem Er {ks:List Kn}{S:au}{Q:AK} (hok:∀ k∈ks,eV k.1=true∧(∀ m∈k.2,eV m=true)∧k.2.length≤100) (q:Q (.dat (.bl (!ks.isEmpty))) S):Fb (.lst (ks.map bT)) (.lst []) S Q:=by
 unfold Fb
 rw [eE,eE]
 refine ⟨jG (n:=2) (by decide) (fun d hd => ?_),by decide +kernel,?_⟩
 ·obtain ⟨k,hk,rfl⟩:=zck.mp hd
  exact By (hok k hk).1 (hok k hk).2.1 (hok k hk).2.2
 ·have:PyData.eqv (py (.lst (ks.map bT))) (py (.lst []))=ks.isEmpty:=by
   cases ks <;> simp [py,cY,PyData.eqv,PyData.eqvAll]
  rw [this];exact q
noncomputable def LI (C:Addr) (w:World) (ns:List Int) (XN R0 HD:D) (a b:Nat) (rest:List D) (δ:bH) (S':au):Prop:=∃ (B p f:Nat) (n:Nat→Nat) (own:Nat→List Nat) (ks:Nat→List Kn) (ts:Nat→List Ti) (v4 v8 v9 v10:Option D),(∀ e∈rest,∃ k:Nat,e = .int k∧k<100)∧B+rest.length≤40∧δ=[some (.k6 ns),some (.loc p),some XN,some R0,v4,some HD,some (.loc a),some (.loc b),v8,v9,v10]∧S'[p]? = some (some (.feed f))∧f<800∧St C w S' a b B n own ks ts
noncomputable def Aq:AN:=fun ds S Q=>∃ ns:List Int,ds=[.k6 ns]∧S=[]∧∀ S',Q (.dat (.bl true)) S'
theorem IG {fl:Addr}{fd:FuncData} (T:Txt K mg C fi) (F:Dk K "law" "law" uI fl fd) (D_law_cell_at:Def P w K mg base 1 "_law_cell_at" gf (aW K wG)) (D_law_feed:Def P w K mg base 1 "_law_feed" gc (aW K wF)) (D_law_next:Def P w K mg base 1 "_law_next" di (aW K gX)) (D_law_names:Def P w K mg base 2 "_law_names" eO (aW K rN))
  (D_law_rows:Def P w K mg base 2 "_law_rows" jT (aW K Am)) (D_law_web:Def P w K mg base 3 "_law_web" jW (aW K (Ar C w))) (dN:bA P w K mg base 3 C "rows" dX (jf C w)) (D_web_of:Def P w K mg base 3 "web_of" eL (aW K (lG C w))) (jb:bA P w K mg base 4 C "like" iB (uz C w)) (D_law_turned:Def P w K mg base 4 "_law_turned" jR (aW K (Ak C w))) (D_law_same:Def P w K mg base 4 "_law_same" jS (aW K (Al C w))) (D_law_great:Def P w K mg base 5 "_law_great" gS (aW K wD)) (D_law_told:Def P w K mg base 1 "_law_told" gb (aW K pU)) :
  d8 P w K mg base kY 6 fl fd rg (aW K Aq):=by
 refine Ma F gg (fun ds S Q h => ?_) (fun f cdv A outer s H E hr => ?_)
 ·obtain ⟨ns,rfl,_⟩:=h;rfl
 ·refine ⟨_,(M.af (M.aD (i:=1) gg.nd rfl (Or.inl rfl) (M.aH D_law_feed (hr.mono (by decide)) (by rfl) (M.ao (M.aH D_law_cell_at (hr.mono (by decide)) (by rfl) (M.ao (M.pv 0) (M.ao M.ah M.aa))) M.aa)))
   (M.af (M.aD (i:=2) gg.nd rfl (Or.inl rfl) (M.cy (M.ao (M.aH D_law_names (hr.mono (by decide)) (by rfl) (M.ao (M.pv 1) (M.ao M.ah M.aa))) (M.ao (M.aH D_law_names (hr.mono (by decide)) (by rfl) (M.ao (M.pv 1) (M.ao M.ah M.aa))) (M.ao (M.aH D_law_names (hr.mono (by decide)) (by rfl) (M.ao (M.pv 1) (M.ao M.ah M.aa))) M.aa)))))
   (M.af (M.aD (i:=3) gg.nd rfl (Or.inl rfl) (M.aH D_law_rows (hr.mono (by decide)) (by rfl) (M.ao (M.aH D_law_feed (hr.mono (by decide)) (by rfl) (M.ao (M.aH D_law_cell_at (hr.mono (by decide)) (by rfl) (M.ao (M.pv 0) (M.ao M.ah M.aa))) M.aa)) (M.ao (M.pv 2) (M.ao M.ah M.aa)))))
   (M.af (M.aD (i:=4) gg.nd rfl (Or.inl rfl) (M.aH D_law_web (hr.mono (by decide)) (by rfl) (M.ao (M.pv 3) M.aa)))
   (M.af (M.aD (i:=5) gg.nd rfl (Or.inl rfl) (M.cu (M.pv 4) T.cl dN (hr.mono (by decide))))
   (M.af (M.aD (i:=6) gg.nd rfl (Or.inr rfl) (M.zT (M.cy (M.ao (M.pv 4) (M.ao (M.aH D_web_of (hr.mono (by decide)) (by rfl) (M.ao (M.pv 5) M.aa)) (M.ao (M.cu (M.pv 4) T.cl jb (hr.mono (by decide))) M.aa))))))
   (M.af (M.aD (i:=7) gg.nd rfl (Or.inr rfl) (M.zT (M.cy (M.ao (M.pv 3) (M.ao (M.pv 3) (M.ao (M.pv 3) M.aa))))))
   (M.af (M.cV PassesOwn.never rfl (M.bK (by rfl) T.range (M.ao (M.aO M.jx M.ah (M.fW (M.HM rfl) (by rfl) T.min (by decide +kernel) (M.ao M.ah (M.ao (M.fW M.kL (by rfl) T.len (by decide +kernel) (M.ao (M.pv 0) M.aa)) M.aa)))) M.aa)) (M.aq (i:=8) gg.nd rfl (Or.inl rfl))
    (M.af (M.aD (i:=1) gg.nd rfl (Or.inl rfl) (M.aH D_law_feed (hr.mono (by decide)) (by rfl) (M.ao (M.aH D_law_cell_at (hr.mono (by decide)) (by rfl) (M.ao (M.pv 0) (M.ao (M.aO M.jx M.ah (M.pv 8)) M.aa))) M.aa)))
    (M.af (M.aD (i:=9) gg.nd rfl (Or.inl rfl) (M.aH D_law_next (hr.mono (by decide)) (by rfl) (M.ao (M.pv 1) (M.ao M.ah M.aa))))
    (M.af (M.bG (M.aA (M.qA hr) (M.az M.bq (M.az M.bq (M.pv 7) (M.pv 9) (fun _ _=>rfl)) M.ah (fun _ _=>rfl)) (M.cy M.aa) (br _))
     (M.aj (M.jk (M.pv 7) (M.pv 9) (M.aH D_law_turned (hr.mono (by decide)) (by rfl) (M.ao (M.az M.bq (M.pv 6) (M.pv 9) (fun _ _=>rfl)) (M.ao (M.az M.bq (M.pv 7) (M.pv 9) (fun _ _=>rfl)) (M.ao (M.pv 1) (M.ao (M.pv 2) M.aa)))))))
     M.aQ)
    (M.af (M.bG (M.aA (M.ng hr) (M.aH D_law_next (hr.mono (by decide)) (by rfl) (M.ao (M.pv 1) (M.ao M.ah M.aa))) M.ah (br _))
     (M.af (M.aD (i:=10) gg.nd rfl (Or.inl rfl) (M.aH D_law_next (hr.mono (by decide)) (by rfl) (M.ao (M.pv 1) (M.ao M.ah M.aa))))
     (M.af (M.jk (M.pv 6) (M.pv 10) (M.cu (M.az M.bq (M.pv 6) (M.pv 9) (fun _ _=>rfl)) T.cl jb (hr.mono (by decide))))
     (M.aj (M.jk (M.pv 7) (M.pv 10) (M.az M.bq (M.pv 7) (M.pv 9) (fun _ _=>rfl))))))
     M.aQ)
    (M.aj (M.bG (M.aA (M.Ka hr) M.d9 (M.cT (N:=["_law_j","_law_some","_law_dues"]) (caps:=[none,some 6,some 7]) (eK (by decide +kernel)) (by rfl) (by rfl) rfl (M.bK (by rfl) T.range (M.ao M.ah M.aa)) (fun _ _ _ _=>(M.aq (i:=0) (by decide +kernel:List.Nodup (["_law_j","_law_some","_law_dues"]:List Str)) rfl (Or.inl rfl))) (fun _ _ _ _=>M.cH) (fun _ _ _ _=>(M.aH D_law_same (hr.mono (by decide)) (by rfl) (M.ao (M.az M.bq (M.pv 1) (M.pv 0) (fun _ _=>rfl)) (M.ao (M.az M.bq (M.pv 2) (M.pv 0) (fun _ _=>rfl)) M.aa))))) rfl)
     (M.aj (M.aV M.d9))
     M.aQ)))))))
   (M.af (M.bG (M.pw_pt (M.pw_and (M.aA (M.ng hr) (M.aH D_law_next (hr.mono (by decide)) (by rfl) (M.ao (M.pv 1) (M.ao M.ah M.aa))) M.ah (br _)) (M.pw_and1 (M.qo (M.uQ (M.aH D_law_great (hr.mono (by decide)) (by rfl) (M.ao (M.pv 1) M.aa)))))))
    (M.aj (M.aV M.d9))
    M.aQ)
   (M.aj (M.aV (M.ju (M.ng hr) (M.fW (M.dI hr) (by rfl) T.repr (by decide +kernel) (M.ao (M.pv 5) M.aa)) (M.fW (M.dI hr) (by rfl) T.repr (by decide +kernel) (M.ao (M.aH D_law_told (hr.mono (by decide)) (by rfl) (M.ao (M.pv 3) M.aa)) M.aa)) (br _))))))))))))),fun ds S Q h => ?_⟩
  obtain ⟨ns,rfl,rfl,q⟩:=h
  have e0:aT CZ [.k6 ns]=[some (.k6 ns),none,none,none,none,none,none,none,none,none,none]:=rfl
  rw [e0]
  refine cG fun N1 h1 => ?_
  push_cast [true_and]
  refine ⟨ns,0,rfl,by decide,fun z=>⟨z,rfl,h1 _ _ ?_⟩⟩
  clear h1
  refine cG fun N2 h2 => ?_
  push_cast [true_and]
  refine ⟨0,8,0,rfl,rfl,by decide,by decide,fun NA n1 lA nA ndA hn1 => ?_⟩
  refine ⟨0,3,n1,rfl,rfl,by omega,by decide,fun NB n2 lB nB ndB hn2 => ?_⟩
  refine ⟨0,3,n2,rfl,rfl,by omega,by decide,fun NM n3 lM nM ndM hn3=>⟨by show 3≤sizeLine;decide,h2 _ _ ?_⟩⟩
  clear h2
  have hx:vO NA NB NM (.lst [.lst (NA.map D.str),.lst (NB.map D.str),.lst (NM.map D.str)]):=⟨rfl,lA,lB,lM,ndA,ndM,nA,nB,nM⟩
  show (lC _ _) _ [_,_,some (.lst [.lst (NA.map D.str),.lst (NB.map D.str),.lst (NM.map D.str)]),_,_,_,_,_,_,_,_] _
  generalize D.lst [.lst (NA.map D.str),.lst (NB.map D.str),.lst (NM.map D.str)]=XN at hx ⊢
  have h00:(((([]++[some (MO.feed 0)]:au).set 0 (some (MO.feed n1))).set 0 (some (MO.feed n2))).set 0 (some (MO.feed n3)))[0]? = some (some (.feed n3)):=rfl
  generalize ((([]++[some (MO.feed 0)]:au).set 0 (some (MO.feed n1))).set 0 (some (MO.feed n2))).set 0 (some (MO.feed n3))=S0 at h00
  show (lC _ _) _ [_,some (.loc 0),_,_,_,_,_,_,_,_,_] _
  refine cG fun N3 h3 => ?_
  push_cast [true_and]
  refine ⟨ns,1,rfl,by decide,fun z=>⟨z,rfl,⟨S0.length,0,NA,NB,NM,XN,rfl,hx,bF,by decide,fun ks ts n' hRO k1 k8 t23 m3 hn'=>h3 _ _ ?_⟩⟩⟩
  clear h3
  have h01:((S0++[some (MO.feed 0)]).set S0.length (some (MO.feed n')))[0]? = some (some (.feed n3)):=by
   have:=cA h00
   rw [zaC (by omega)];exact cD h00
  generalize (S0++[some (MO.feed 0)]).set S0.length (some (MO.feed n'))=S1 at h01
  refine cG fun N4 h4 => ?_
  push_cast [true_and]
  refine ⟨ks,ts,rfl,hRO,by omega,by omega,fun S2 own2 X2 w2=>h4 _ _ ?_⟩
  clear h4
  have hS:=hRO.Gu
  obtain ⟨o2,ho2⟩:=X2.obj
  refine cG fun N5 h5 => ?_
  push_cast [true_and]
  refine aF rfl ho2 (by decide +kernel) ⟨S1.length,own2,ks,ts,rfl,X2,fun _ _ _=>h5 _ _ ?_⟩
  clear h5
  show (lC _ _) _ [_,_,_,_,_,some (kJ ks ts),_,_,_,_,_] _
  rw [mH]
  refine cG fun N6 h6 => ?_
  push_cast [fE]
  refine ⟨bR ks,b5 ts,rfl,hS,fun S3 own3 X3 w3 => ?_⟩
  have X2':aZ C w S3 S1.length own2 ks ts:=X2.frame fun c hc=>w3.keep c (X2.lt c hc)
  obtain ⟨o3,ho3⟩:=X2'.obj
  refine aF rfl ho3 (by decide +kernel) ⟨S1.length,own2,ks,ts,rfl,X2',hRO,fun p1 p2 p3 S4 own4 X4 w4=>⟨by show 3≤sizeLine;decide,h6 _ _ ?_⟩⟩
  clear h6
  refine cG fun N7 h7 => ?_
  push_cast [fE]
  refine ⟨by show 3≤sizeLine;decide,h7 _ _ ?_⟩
  clear h7
  have sm0:Sm 23 ks ts:=⟨hRO,k8,t23,fun k hk=>zcm (zau _ _) (m3 k hk)⟩
  have l2:=w2.len
  have l3:=w3.len
  have l4:=w4.len
  have ow2:=X2.lt
  have ow3:=X3.lt
  have ow4:=X4.lt
  have hst:St C w ((S4++[some (MO.lst [.loc S1.length,.loc S2.length,.loc S3.length])])++[some (MO.lst [av ks ts,av ks ts,av ks ts])]) S4.length (S4.length+1) 23 (three S1.length S2.length S3.length) (three own2 own3 own4) (fun _=>ks) (fun _=>ts):=by
   have fr:∀ c,c<S4.length→((S4++[some (MO.lst [.loc S1.length,.loc S2.length,.loc S3.length])])++[some (MO.lst [av ks ts,av ks ts,av ks ts])])[c]? = S4[c]? := fun c hc=>by rw [zbi,zaf hc]
   refine ⟨by rw [zbi];exact E3,by rw [show S4.length+1=(S4++[some (MO.lst [.loc S1.length,.loc S2.length,.loc S3.length])]).length by simp];exact bF,by omega,fun j hj => ?_,fun j hj=>sm0,fun x hx y hy hxy c hc => ?_,fun j hj => ?_⟩
   ·match j,hj with
    | 0,_=>exact ⟨ks,ts,X2'.frame fun c hc=>by rw [fr c (by have:=ow2 c hc;omega),w4.keep c (by have:=ow2 c hc;omega)],.refl _ _⟩
    | 1,_=>exact ⟨_,_,X3.frame fun c hc=>by rw [fr c (by have:=ow3 c hc;omega),w4.keep c (ow3 c hc)],Lk.dD hRO⟩
    | 2,_=>exact ⟨_,_,X4.frame fun c hc=>fr c (ow4 c hc),Lk.dD hRO⟩
   ·have d23:∀ c,c∈own2→c ∉ own3:=fun c h1 h2=>by have:=ow2 c h1;have:=w3.own c h2;omega
    have d24:∀ c,c∈own2→c ∉ own4:=fun c h1 h2=>by have:=ow2 c h1;have:=w4.own c h2;omega
    have d34:∀ c,c∈own3→c ∉ own4:=fun c h1 h2=>by have:=ow3 c h1;have:=w4.own c h2;omega
    match x,hx,y,hy with
    | 0,_,0,_=>exact absurd rfl hxy
    | 1,_,1,_=>exact absurd rfl hxy
    | 2,_,2,_=>exact absurd rfl hxy
    | 0,_,1,_=>exact d23 c hc
    | 0,_,2,_=>exact d24 c hc
    | 1,_,2,_=>exact d34 c hc
    | 1,_,0,_=>exact fun z=>d23 c z hc
    | 2,_,0,_=>exact fun z=>d24 c z hc
    | 2,_,1,_=>exact fun z=>d34 c z hc
   ·match j,hj with
    | 0,_=>exact ⟨fun z=>by have:=ow2 _ z;omega,fun z=>by have:=ow2 _ z;omega⟩
    | 1,_=>exact ⟨fun z=>by have:=ow3 _ z;omega,fun z=>by have:=ow3 _ z;omega⟩
    | 2,_=>exact ⟨fun z=>by have:=ow4 _ z;omega,fun z=>by have:=ow4 _ z;omega⟩
  have h06:((S4++[some (MO.lst [.loc S1.length,.loc S2.length,.loc S3.length])])++[some (MO.lst [av ks ts,av ks ts,av ks ts])])[0]? = some (some (.feed n3)):=by
   have h1:=cA h01
   refine cD (cD ?_)
   rw [w4.keep 0 (by omega),w3.keep 0 (by omega),w2.keep 0 h1];exact h01
  rw [show (S4++[some (MO.lst [D.loc S1.length,.loc S2.length,.loc S3.length])]).length=S4.length+1 by simp]
  generalize (S4++[some (MO.lst [D.loc S1.length,.loc S2.length,.loc S3.length])])++[some (MO.lst [av ks ts,av ks ts,av ks ts])]=S6 at hst h06
  generalize S4.length=a at hst
  generalize a+1=b at hst
  have en3:n3<800:=by omega
  refine cG fun N8 h8 => ?_
  push_cast [nT,sN]
  refine ⟨ns.length,rfl,9,ns.length,rfl,?_⟩
  obtain ⟨mm,em,hm⟩:∃ m:Nat,(3:Int)+(if (ns.length:Int)<9 then (ns.length:Int) else 9)=(m:Int)∧m≤12:=by
   by_cases h:(ns.length:Int)<9
   ·exact ⟨3+ns.length,by rw [if_pos h];omega,by omega⟩
   ·exact ⟨12,by rw [if_neg h];rfl,by omega⟩
  refine ⟨(mm:Int),congrArg D.int em,by omega,by omega,c8 (LI C w ns XN (av ks ts) (b9 (bR ks) (b5 ts)) a b) ?_ ?_ _ _ _ ⟨23,0,n3,_,_,_,_,_,none,none,none,?_,by rw [g9];omega,rfl,h06,en3,hst⟩⟩
  ·rintro δ S' ⟨B,p,f,n,own,kz,tz,v4,v8,v9,v10,_,_,rfl,hp,hf,_⟩
   refine ⟨trivial,h8 _ _ ?_⟩
   clear h8
   refine cG fun N9 h9 => ?_
   push_cast [true_and]
   have fin:∀ S9,N9 [some (.k6 ns),some (.loc p),some XN,some (av ks ts),v4,some (b9 (bR ks) (b5 ts)),some (.loc a),some (.loc b),v8,v9,v10] S9:=fun S9=>h9 _ _ (by
    push_cast [true_and]
    refine dZ hS.tq (by decide) (by decide) ⟨ks,ts,rfl,hRO,dZ hS.tq (by decide) (by decide) ?_⟩
    show Q (.dat (.bl (decide ((py (b9 (bR ks) (b5 ts))).shown=(py (b9 (bR ks) (b5 ts))).shown)))) S9
    rw [decide_eq_true rfl]
    exact q _)
   refine bY hp (by omega) (by decide) (by decide) fun z hz => ?_
   push_cast [true_and]
   refine oh (fun _=>⟨p,f+1,rfl,cU hp,by omega,fun S9=>⟨true,rfl,jC (fin S9)⟩⟩) (fun _=>fin _)
  ·rintro x xs δ S' N ⟨B,p0,f0,n,own,kz,tz,v4,v8,v9,v10,hk,hB,rfl,hp0,hf0,st⟩ hN
   obtain ⟨k,rfl,hk1⟩:=hk x (by simp)
   have hk:∀ e∈xs,∃ k:Nat,e = .int k∧k<100:=fun e he=>hk e (zaA _ he)
   simp only [zbu] at hB
   refine ⟨trivial,?_⟩
   clear h8
   refine cG fun M1 g1 => ?_
   push_cast [true_and]
   rw [show (2:Int)+(k:Int)=((2+k:Nat):Int) by omega]
   refine ⟨ns,2+k,rfl,by omega,fun z=>⟨z,rfl,g1 _ _ ?_⟩⟩
   clear g1
   have st1:St C w (S'++[some (MO.feed (0+1))]) a b B n own kz tz:=st.frame fun c hc=>zaf hc
   have lS:=cA st.sa
   have lb:=cA st.sb
   have pw:∀ j,j<3→S'.length ∉ own j:=fun j hj z=>by have:=(st.wl j hj).lt _ z;omega
   refine cG fun M2 g2 => ?_
   push_cast [true_and]
   refine bY bF (by decide) (by decide) (by decide) fun z1 hz1 => ?_
   rw [p7]
   refine g2 _ _ ?_
   clear g2
   have hz3:z1<3:=by omega
   have at6:∀ {S9:au}{n9:Nat→Nat}{Q':AK}{i:Nat},i<3→S9[a]? = some (some (.lst (lE (lc n9))))→Q' (.dat (.loc (n9 i))) S9→rF (.loc a) (.int (i:Int)) S9 Q':=fun {S9 n9 Q' i} hi h q'=>by
    unfold rF
    rw [aS h]
    exact ⟨_,dg (zZ (lc n9) hi),q'⟩
   have at7:∀ {S9:au}{k9:Nat→List Kn}{t9:Nat→List Ti}{Q':AK}{i:Nat},i<3→S9[b]? = some (some (.lst (lE (uJ k9 t9))))→Q' (.dat (av (k9 i) (t9 i))) S9→rF (.loc b) (.int (i:Int)) S9 Q':=fun {S9 k9 t9 Q' i} hi h q'=>by
    unfold rF
    rw [aS h]
    exact ⟨_,dg (zZ (uJ k9 t9) hi),q'⟩
   have okk:∀ {B9:Nat}{k9:List Kn}{t9:List Ti},Sm B9 k9 t9→∀ k∈k9,eV k.1=true∧(∀ m∈k.2,eV m=true)∧k.2.length≤100:=fun {B9 k9 t9} h k hk=>⟨cL (h.ro.nm k hk).1,fun m hm'=>cL ((h.ro.nm k hk).2.2.2 m hm'),by have:=(h.ro.nm k hk).2.1;omega⟩
   refine cG fun M3 g3 => ?_
   have go3:∀ (S9:au) (f9:Nat) (own9:Nat→List Nat) (k9:Nat→List Kn) (t9:Nat→List Ti),St C w S9 a b (B+1) n own9 k9 t9→(∀ j,j<3→S'.length ∉ own9 j)→S9[S'.length]? = some (some (.feed f9))→f9≤20→M3 [some (.k6 ns),some (.loc S'.length),some XN,some (av ks ts),v4,some (b9 (bR ks) (b5 ts)),some (.loc a),some (.loc b),some (.int (k:Int)),some (.int (z1:Int)),v10] S9:=fun S9 f9 own9 k9 t9 st9 pw9 hp9 hf9=>g3 _ _ (by
    clear g3
    refine cG fun M4 g4 => ?_
    have go4:∀ (S8:au) (f8:Nat) (n8:Nat→Nat) (own8:Nat→List Nat) (k8:Nat→List Kn) (t8:Nat→List Ti) (v:Option D),St C w S8 a b (B+1) n8 own8 k8 t8→S8[S'.length]? = some (some (.feed f8))→f8≤30→M4 ([some (.k6 ns),some (.loc S'.length),some XN,some (av ks ts),v4,some (b9 (bR ks) (b5 ts)),some (.loc a),some (.loc b),some (.int (k:Int)),some (.int (z1:Int)),v10].set 10 v) S8:=fun S8 f8 n8 own8 k8 t8 v st8 hp8 hf8=>g4 _ _ (by
     clear g4
     push_cast [List.set_cons_succ,zaW,jP,sN]
     refine ⟨by decide,by decide,comp_map (δ:=[none,some (.loc a),some (.loc b)]) (fun _=>.bl true) trivial _ [] _ rfl (fun x hx Q' q' => ?_) (by rw [g9,sizeLine_eq];decide) ?_⟩
     ·obtain ⟨j,hj,rfl⟩:=zck.mp hx
      have hj:j<3:=by simpa using hj
      rw [Int.zero_add]
      push_cast [zaW]
      exact at6 hj st8.sa (at7 hj st8.sb ⟨n8 j,own8 j,k8 j,t8 j,rfl,st8.wl j hj,(st8.sm j hj).ro,q'⟩)
     ·show zv false (.bl false) (.lst [.bl true,.bl true,.bl true]) S8 _
      refine ⟨show fit (.bl false)=true by decide +kernel,by decide +kernel,_,rfl,?_⟩
      have e:inD (.bl false) [.bl true,.bl true,.bl true]=false:=by decide +kernel
      show if (false != inD (.bl false) [.bl true,.bl true,.bl true])=true then _ else _
      rw [e]
      exact jC (hN _ _ ⟨B+1,S'.length,f8,n8,own8,k8,t8,v4,_,_,v,hk,by omega,rfl,hp8,by omega,st8⟩))
    clear g4
    push_cast [true_and]
    have pab:S'.length≠a∧S'.length≠b:=⟨by omega,by omega⟩
    refine bY hp9 (by omega) (by decide) (by decide) fun z2 hz2 => ?_
    have st2:=st9.feed (o:=some (.feed (f9+1))) pab.1 pab.2 pw9
    push_cast [true_and]
    refine oh (fun _ => ?_) (fun _=>go4 _ (f9+1) n own9 k9 t9 v10 st2 (cU hp9) (by omega))
    refine bY (cU hp9) (by omega) (by decide) (by decide) fun z3 hz3' => ?_
    rw [zci]
    have st3:=st9.feed (o:=some (.feed (f9+1+1))) pab.1 pab.2 pw9
    have hp3:(S9.set S'.length (some (.feed (f9+1+1))))[S'.length]? = some (some (.feed (f9+1+1))):=cU hp9
    generalize S9.set S'.length (some (.feed (f9+1+1)))=S7 at st3 hp3
    have hz4:z3<3:=by omega
    unfold kW
    push_cast [tR]
    obtain ⟨kq,tq,Xq,lq⟩:=st3.wl z1 hz3
    obtain ⟨oq,hoq⟩:=Xq.obj
    refine at6 hz3 st3.sa ⟨n z1,rfl,_,⟨oq,hoq⟩,by decide +kernel,n z1,own9 z1,kq,tq,rfl,Xq,lq.ro (st3.sm z1 hz3).ro,fun p1 p2 p3 S5 own5 X5 w5 => ?_⟩
    have la3:=cA st3.sa
    have lb3:=cA st3.sb
    have sa5:S5[a]? = some (some (.lst (lE (lc n)))):=by rw [w5.keep a la3];exact st3.sa
    have sb5:(S5.set a (some (.lst ((lE (lc n)).set z3 (.loc S7.length)))))[b]? = some (some (.lst (lE (uJ k9 t9)))):=by rw [zaC st3.ab,w5.keep b lb3];exact st3.sb
    refine ⟨a,rfl,_,sa5,z3,sL (n:=(lE (lc n)).length) hz4,at7 hz3 sb5 ⟨b,rfl,_,sb5,z3,sL (n:=(lE (uJ k9 t9)).length) hz4,?_⟩⟩
    refine go4 _ (f9+1+1) _ _ _ _ (some (.int (z3:Int))) (st3.copy hz3 hz4 ⟨_,_,X5,lq.copy p1 p2 p3⟩ w5) ?_ (by omega)
    rw [zaC pab.2.symm,zaC pab.1.symm,w5.keep _ (cA hp3)];exact hp3)
   clear g3
   push_cast [true_and]
   refine at7 hz3 st1.sb ⟨_,rfl,by show 0≤sizeLine;decide,Er (okk (st1.sm z1 hz3)) ⟨_,rfl,?_⟩⟩
   rcases he:kz z1 with _ | ⟨k0,kr⟩
   ·exact jC (go3 _ 1 own kz tz ⟨st1.sa,st1.sb,st1.ab,st1.wl,fun j hj=>(st1.sm j hj).up,st1.dj,st1.na⟩ pw bF (by decide))
   ·refine vj ?_
    unfold kW
    push_cast [true_and]
    have pab:S'.length≠a∧S'.length≠b∧∀ j,j<3→S'.length ∉ own j:=⟨by omega,by omega,pw⟩
    refine at6 hz3 st1.sa (at7 hz3 st1.sb ⟨n z1,S'.length,0+1,B,own z1,NA,NB,NM,kz z1,tz z1,XN,rfl,hx,st1.wl z1 hz3,st1.sm z1 hz3,by omega,by rw [he];simp,bF,pw z1 hz3,by decide,fun S3' own' k' t' f' w' s' fr hp' hf'=>⟨b,rfl,_,(by rw [fr.out b (by rw [zaS];omega) (st1.na z1 hz3).2 pab.2.1.symm];exact st1.sb),z1,sL (n:=(lE (uJ kz tz)).length) hz3,?_⟩⟩)
    exact go3 _ f' _ _ _ (st1.turn hz3 pab w' s' fr) (fun j hj z=>by
     by_cases e:j=z1
     ·subst e
      rw [dB] at z
      rcases fr.new _ z with y | y
      ·exact pw j hj y
      ·simp only [zaS,zbu,zbN] at y;omega
     ·rw [cW e] at z;exact pw j hj z) (by rw [zaC pab.2.1.symm];exact hp') (by omega)
  ·intro e he
   simp only [c9,zck,zbV] at he
   obtain ⟨a,ha,rfl⟩:=he
   exact ⟨a,by simp,by omega⟩
noncomputable def wB (K:PySem.W.Frag):Sp:=fun vs H Q _=>∃ (a:Addr) (ns:List Int),vs=[.ref a]∧dh K H a (ns.map V.int)∧ns.length≤63∧∀ H',Q (.bl true) H'
theorem Gj {f:Addr}{fd:FuncData}{k:Nat} (h:d8 P w K mg base kY k f fd rg (aW K Aq)):d8 P w K mg base kY k f fd rg (wB K):=h.imp fun vs H Q E z=>by
 obtain ⟨a,ns,rfl,hS,_,q⟩:=z
 refine ⟨⟨H,fun _=>none⟩,[.k6 ns],[],fun r S=>r = .dat (.bl true),⟨fF.refl _,fun n o e=>by simp at e,fun n m o o' e=>by simp at e,fun _ _=>rfl⟩,?_,⟨ns,rfl,rfl,fun _=>rfl⟩,fun r S' v w' H' _ _ rep e => ?_⟩
 ·simp only [ak,Rep];exact ⟨_,_,rfl,⟨a,rfl,hS⟩,rfl⟩
 ·subst e
  have:v = .bl true:=uM rep rfl
  subst this
  exact q H'
end
open PySem L2
theorem all_mk {l:PySem.W.OpenLaw}{w:World}{K:PySem.W.Frag}{h:Heap}{mg:Str→Option Value}{fa:Addr} (X:K.In h) (G:h.Ns mainGlobals mg) (hfa:mg "law" = some (.ref fa))
  {C:Addr}{t_K:Tok}{t_T:Tok}{t_M:Tok}
  (a_C:zcs K mainGlobals "Web" = some (some (.ref C)))
  (e_scCell:rG K "_law_cell_at" xg)
  (e_scFeed:rG K "_law_feed" w9)
  (e_scNext:rG K "_law_next" wV)
  (e_scNames:rG K "_law_names" qh)
  (e_scRows:rG K "_law_rows" wO)
  (e_scLWeb:rG K "_law_web" wZ)
  (e_scLSteps:rG K "_law_steps" lQ)
  (e_scTold:rG K "_law_told" wM)
  (e_scSame:rG K "_law_same" wN)
  (e_scTurn:rG K "_law_turned" wL)
  (e_scGreat:rG K "_law_great" qk)
  (e_scWebOf:rG K "web_of" qb)
  (e_scLaw:rG K "law" uI)
  (e_scInit:nV K C "__init__" "Web.__init__" oG)
  (e_scPutK:nV K C "put_knot" "Web.put_knot" wU)
  (e_scTakeK:nV K C "take_knot" "Web.take_knot" qf)
  (e_scPutT:nV K C "put_tie" "Web.put_tie" wQ)
  (e_scTakeT:nV K C "take_tie" "Web.take_tie" qd)
  (e_scPutM:nV K C "put_mark" "Web.put_mark" wR)
  (e_scTakeM:nV K C "take_mark" "Web.take_mark" qe)
  (e_scKnots:nV K C "knots" "Web.knots" qj)
  (e_scMarks:nV K C "marks" "Web.marks" qi)
  (e_scHas:nV K C "has_tie" "Web.has_tie" DW)
  (e_scSteps:nV K C "steps" "Web.steps" qg)
  (e_scWRows:nV K C "rows" "Web.rows" qc)
  (e_scNeed:nV K C "need_knot" "Web.need_knot" wW)
  (e_scLayK:nV K C "lay_knot" "Web.lay_knot" wY)
  (e_scLayT:nV K C "lay_tie" "Web.lay_tie" rR)
  (e_scDrop:nV K C "drop_tie" "Web.drop_tie" rS)
  (e_scLike:nV K C "like" "Web.like" wX)
  (z_len:zcs K mainGlobals "len" = some none)
  (z_isinstance:zcs K mainGlobals "isinstance" = some none)
  (z_str:zcs K mainGlobals "str" = some none)
  (z_bool:zcs K mainGlobals "bool" = some none)
  (z_int:zcs K mainGlobals "int" = some none)
  (z_tuple:zcs K mainGlobals "tuple" = some none)
  (z_list:zcs K mainGlobals "list" = some none)
  (z_dict:zcs K mainGlobals "dict" = some none)
  (z_all:zcs K mainGlobals "all" = some none)
  (z_max:zcs K mainGlobals "max" = some none)
  (z_min:zcs K mainGlobals "min" = some none)
  (z_repr:zcs K mainGlobals "repr" = some none)
  (z_range:zcs K mainGlobals "range" = some none)
  (z_reversed:zcs K mainGlobals "reversed" = some none)
  (z_sorted:zcs K mainGlobals "sorted" = some none)
  (m_K:zcs K mainGlobals "MOST_KNOTS" = some (some (.int 40 t_K)))
  (m_T:zcs K mainGlobals "MOST_TIES" = some (some (.int 300 t_T)))
  (m_M:zcs K mainGlobals "MOST_MARKS" = some (some (.int 5 t_M)))
  (x_pg:zbF K C Str.empty=true)
  (x_hd:zbr K C=true)
  (x_po:PySem.W.plainOver K C=true)
  (x_sa:zbX K (.ref C) "__setattr__" = some (some (.builtin "object.__setattr__")))
  (x_marked:zbX K (.ref C) "marked" = some none)
  (x_tied:zbX K (.ref C) "tied" = some none)
  (x_near:zbX K (.ref C) "near" = some none)
  (x_mk:PySem.W.makesIn K C=true)
  (x_kp:zbY K (.ref C)=true) :
  ∃ fd:FuncData,(∀ (s:Shared) (v:Value),BindsTo s fd ⟨[v],[]⟩ [("_law_script",v)])∧∀ base:Heap,K.In base→base.Ns mainGlobals mg→d8 l.prog w K mg base kY 6 fa fd ["_law_script"] (wB K):=by
 have CW:Src K mg "_law_cell_at" gf xg:=e_scCell.src X G fun _ _ _ _ _ _=>J.Dj (fun _ _=>rfl)
 have CU:Src K mg "_law_feed" gc w9:=e_scFeed.src X G fun _ _ _ _ _ _=>J.Cd (fun _=>rfl)
 have CN:Src K mg "_law_next" di wV:=e_scNext.src X G fun _ _ _ _ _ _=>J.Dj (fun _ _=>rfl)
 have zH:Src K mg "_law_names" eO qh:=e_scNames.src X G fun _ _ _ _ _ _=>J.Dj (fun _ _=>rfl)
 have CJ:Src K mg "_law_rows" jT wO:=e_scRows.src X G fun _ _ _ _ _ _=>J.Jx (fun _ _ _=>rfl)
 have CT:Src K mg "_law_web" jW wZ:=e_scLWeb.src X G fun _ _ _ _ _ _=>J.Cd (fun _=>rfl)
 have vK:Src K mg "_law_steps" eB lQ:=e_scLSteps.src X G fun _ _ _ _ _ _=>J.Dj (fun _ _=>rfl)
 have CH:Src K mg "_law_told" gb wM:=e_scTold.src X G fun _ _ _ _ _ _=>J.Cd (fun _=>rfl)
 have CI:Src K mg "_law_same" jS wN:=e_scSame.src X G fun _ _ _ _ _ _=>J.Dj (fun _ _=>rfl)
 have CG:Src K mg "_law_turned" jR wL:=e_scTurn.src X G fun _ _ _ _ _ _=>J.by4 (fun _ _ _ _=>rfl)
 have zK:Src K mg "_law_great" gS qk:=e_scGreat.src X G fun _ _ _ _ _ _=>J.Cd (fun _=>rfl)
 have zB:Src K mg "web_of" eL qb:=e_scWebOf.src X G fun _ _ _ _ _ _=>J.Cd (fun _=>rfl)
 have K7:M.cE K C "__init__" "Web.__init__" fk oG:=e_scInit.src fun _ _ _ _ _ _=>J.Cd (fun _=>rfl)
 have CM:M.cE K C "put_knot" "Web.put_knot" jV wU:=e_scPutK.src fun _ _ _ _ _ _=>J.Jx (fun _ _ _=>rfl)
 have zF:M.cE K C "take_knot" "Web.take_knot" gP qf:=e_scTakeK.src fun _ _ _ _ _ _=>J.Dj (fun _ _=>rfl)
 have CK:M.cE K C "put_tie" "Web.put_tie" iA wQ:=e_scPutT.src fun _ _ _ _ _ _=>J.by4 (fun _ _ _ _=>rfl)
 have zD:M.cE K C "take_tie" "Web.take_tie" fQ qd:=e_scTakeT.src fun _ _ _ _ _ _=>J.by4 (fun _ _ _ _=>rfl)
 have CL:M.cE K C "put_mark" "Web.put_mark" jU wR:=e_scPutM.src fun _ _ _ _ _ _=>J.Jx (fun _ _ _=>rfl)
 have zE:M.cE K C "take_mark" "Web.take_mark" gO qe:=e_scTakeM.src fun _ _ _ _ _ _=>J.Jx (fun _ _ _=>rfl)
 have zJ:M.cE K C "knots" "Web.knots" gR qj:=e_scKnots.src fun _ _ _ _ _ _=>J.Cd (fun _=>rfl)
 have zI:M.cE K C "marks" "Web.marks" gQ qi:=e_scMarks.src fun _ _ _ _ _ _=>J.Dj (fun _ _=>rfl)
 have Fi:M.cE K C "has_tie" "Web.has_tie" kG DW:=e_scHas.src fun _ _ _ _ _ _=>J.by4 (fun _ _ _ _=>rfl)
 have zG:M.cE K C "steps" "Web.steps" eN qg:=e_scSteps.src fun _ _ _ _ _ _=>J.Dj (fun _ _=>rfl)
 have zC:M.cE K C "rows" "Web.rows" dX qc:=e_scWRows.src fun _ _ _ _ _ _=>J.Cd (fun _=>rfl)
 have CO:M.cE K C "need_knot" "Web.need_knot" dm wW:=e_scNeed.src fun _ _ _ _ _ _=>J.Dj (fun _ _=>rfl)
 have CS:M.cE K C "lay_knot" "Web.lay_knot" iD wY:=e_scLayK.src fun _ _ _ _ _ _=>J.Jx (fun _ _ _=>rfl)
 have CQ:M.cE K C "lay_tie" "Web.lay_tie" iC rR:=e_scLayT.src fun _ _ _ _ _ _=>J.by4 (fun _ _ _ _=>rfl)
 have CV:M.cE K C "drop_tie" "Web.drop_tie" iE rS:=e_scDrop.src fun _ _ _ _ _ _=>J.by4 (fun _ _ _ _=>rfl)
 have CP:M.cE K C "like" "Web.like" iB wX:=e_scLike.src fun _ _ _ _ _ _=>J.Cd (fun _=>rfl)
 obtain ⟨f_scLaw,oc_scLaw,od_scLaw,kV_scLaw,dc_scLaw,pm_scLaw,an_scLaw,cd_scLaw,ct_scLaw,sl_scLaw,a_scLaw,l_scLaw,c_scLaw,k_scLaw⟩:=e_scLaw.ex
 obtain ⟨f_scInit,oc_scInit,od_scInit,kV_scInit,dc_scInit,pm_scInit,an_scInit,cd_scInit,ct_scInit,sl_scInit,a_scInit,l_scInit,c_scInit,k_scInit,i_scInit⟩:=e_scInit.ex
 have e:=hfa.symm.trans (zcf X G a_scLaw)
 cases e
 have F:=iZ (st:=uI) l_scLaw c_scLaw k_scLaw
 have T:Txt K mg C f_scInit:=⟨zbb X G z_len,zbb X G z_isinstance,zbb X G z_str,zbb X G z_bool,zbb X G z_int,zbb X G z_tuple,zbb X G z_list,zbb X G z_dict,zbb X G z_all,zbb X G z_max,zbb X G z_min,zbb X G z_repr,zbb X G z_range,zbb X G z_reversed,zbb X G z_sorted,⟨_,zcf X G m_K⟩,⟨_,zcf X G m_T⟩,⟨_,zcf X G m_M⟩,zcf X G a_C,⟨x_pg,x_hd,x_po,x_sa⟩,⟨x_mk,a_scInit,i_scInit,x_kp⟩,x_marked,x_tied,x_near⟩
 refine ⟨zcr "law" "law" (cK uI) (bE uI) (ai uI) .none kV_scLaw dc_scLaw pm_scLaw an_scLaw cd_scLaw ct_scLaw,fun s v=>.of_eq rfl,fun base _ _ => ?_⟩
 have C4:=IB (P:=l.prog) (w:=w) (base:=base) T CN
 have NX:=IY C4
 have ja:=IC (P:=l.prog) (w:=w) (base:=base) T CO
 have Gd:=KN (P:=l.prog) (w:=w) (base:=base) T Fi
 have rD:=ER (P:=l.prog) (w:=w) (base:=base) T zJ
 have rB:=EO T zI ja
 have dN:=EI T zC rD rB
 have C7:=IL (P:=l.prog) (w:=w) (base:=base) T CV
 have C2:=IJ (P:=l.prog) (w:=w) (base:=base) T (iZ (st:=oG) l_scInit c_scInit k_scInit)
 have Dc:=(iZ (st:=oG) l_scInit c_scInit k_scInit).binds (ps:=fk) fun _ _ _ _ _ _=>J.Cd (fun _=>rfl)
 have C6:=IF (P:=l.prog) (w:=w) (base:=base) T CS
 have C5:=IE (P:=l.prog) (w:=w) (base:=base) T CQ
 have C3:=Iw T CK ja Gd C5
 have dS:=EM T zG ja
 have yq:=EJ T zD ja Gd C7
 have Lf:=II T CT C2 Dc (IA T CM C6) C3
 have rA:=EH T zB C2 Dc C6 C5
 have jb:=ID T CP dN rA
 have vS:=Ir (P:=l.prog) (w:=w) (base:=base) T CH
 have ue:=B4 (P:=l.prog) (w:=w) (base:=base) T vK
 have Ju:=Iu T CI dN dS vS ue
 have Jt:=Iq T CG NX (EL T zF ja dS C7) (EK T zE ja) (Iz T CL ja) yq C3
 have Fx:=ES T zK NX rA jb yq dN dS vS ue
 exact Gj (IG T F (I0 (IM T CW)) (IZ (IK T CU)) NX (E5 (EN T zH C4)) (Iv T CJ NX) Lf dN rA jb Jt Ju Fx vS)
theorem walk {l:PySem.W.OpenLaw}{q:Program}{loose:List Str}{XP:(Str→Option Value)→Heap→Prop}{YP:World→Heap→Prop}{d:DefRec}{K:Params→PySem.W.Frag} (hn:l.most=some 63) (hdf:d.params.defaults=[])
  (hY:∀ (w:World) (h:Heap),YP w h→(K w.params).In h)
  (F:∀ (w:World) (mg:Str→Option Value) (fa:Addr) (h:Heap),(K w.params).In h→h.Ns mainGlobals mg→mg d.name=some (.ref fa) →
   ∃ fd:FuncData,(∀ (s:Shared) (u:Value),BindsTo s fd ⟨[u],[]⟩ [("_law_script",u)])∧∀ base:Heap,(K w.params).In base→base.Ns mainGlobals mg→d8 l.prog w (K w.params) mg base kY 6 fa fd ["_law_script"] (wB (K w.params))) :
  PySem.W.WalkO q loose XP YP l.row.toRowW d [] (fun f vs=>PySem.call f vs) :=
 L2.Dq (n:=63) (k:=6) (x := "_law_script") (CX:=fun _=>kY) (sp:=fun w=>wB (K w.params)) hn (by decide) hdf ⟨rfl,by decide,by decide,rfl⟩ hY F (fun _ _ a ns hl _ hS=>⟨a,ns,rfl,hS,hl,fun _=>rfl⟩) fun _ _ _ _ _ z=>z
end K04
open PySem PySem.W PyProof.Rows
namespace PySem.Challenge.cw_pathask_k04_steps_and_webs_alike_holds
def tw6797227736423426181:Nat:=0
def tw2080799725111609966:Nat:=0
def tw13237990792170564327:Nat:=0
def tw3686820681223625178:Nat:=0
def tw439172544191118382:Nat:=0
def tw9707228101061277959:Nat:=0
def tw12320765894452147059:Nat:=0
def tw7664757579356327076:Nat:=0
def tw4498244898746344785:Nat:=0
def tw17877397802188305608:Nat:=0
def tw4709086224206990865:Nat:=0
def tw9090929582706550639:Nat:=0
def tw18134594113963420762:Nat:=0
def tw18165378204928888588:Nat:=0
def tw2117608136388035275:Nat:=0
def tw1422747877789514800:Nat:=0
def tw9468162962491937702:Nat:=0
def tw1050600252616058711:Nat:=0
def tw1137550428408956139:Nat:=0
def tw896324510757771442:Nat:=0
def tw10067924709396663461:Nat:=0
def tw2843858399480273978:Nat:=0
def tw1402722115171715409:Nat:=0
def tw6612640665764104206:Nat:=0
def tw6733729577303917640:Nat:=0
def tw6367917913658446242:Nat:=0
def tw17746686266281242460:Nat:=0
def tw16197333374014968569:Nat:=0
def tw10851746185782286807:Nat:=0
def tw14363252075533878574:Nat:=0
def tw10230131741861285062:Nat:=0
def tw17667265442853526469:Nat:=0
def tw18385479754889055629:Nat:=0
def tw1195556830795838761:Nat:=0
def tw1348851655715511964:Nat:=0
def tw4705225983636503965:Nat:=0
def tw959685095370172691:Nat:=0
def tw15518171659869227201:Nat:=0
def tw5407286334516661569:Nat:=0
def tw15548779257102746632:Nat:=0
def tw15759867786081706337:Nat:=0
def tw18316242596754943923:Nat:=0
def tw3595010194964615862:Nat:=0
def tw2082682707151987887:Nat:=0
def tw16588392549565427695:Nat:=0
def tw16233028605944342035:Nat:=0
def tw17393687907468231401:Nat:=0
def tw7574743120172645604:Nat:=0
def tw778762815480160138:Nat:=0
def tw10874159894961672045:Nat:=0
def tw16273480382620550818:Nat:=0
def tw7722190194838399232:Nat:=0
def tw12507616013414019748:Nat:=0
def tw15823144999894686253:Nat:=0
def tw7168076663284616697:Nat:=0
def tw5178778592158257207:Nat:=0
def tw17086540284821112659:Nat:=0
def tw1911808652234396346:Nat:=0
def tw6331600009603242745:Nat:=0
def tw973693832870871013:Nat:=0
def tw11640152655827847840:Nat:=0
def tw9929160142556286849:Nat:=0
def tw9037365677855028370:Nat:=0
def tw10262264963929054992:Nat:=0
def tw13578929735471729856:Nat:=0
def tw17948872485417331513:Nat:=0
def tw11565880069626288604:Nat:=0
def tw8117374359519699228:Nat:=0
def tw11989599562165082017:Nat:=0
def tw12850663061720125953:Nat:=0
def tw8078424525171874983:Nat:=0
def tw7266395646274344617:Nat:=0
def tw10187411836362726586:Nat:=0
def tw9621781412338748387:Nat:=0
def tw17356890552011683227:Nat:=0
def tw2936518660747772669:Nat:=0
def tw848863367089376372:Nat:=0
def tw3064171785179386220:Nat:=0
def tw15306268515043290873:Nat:=0
def tw224446267707684539:Nat:=0
def tw8087770155188294336:Nat:=0
def tw9848348730373851141:Nat:=0
def tw15013857448540195062:Nat:=0
def tw13468558648690277096:Nat:=0
def tw13724064117786815913:Nat:=0
def tw18282548321482693365:Nat:=0
def tw4293199781570810864:Nat:=0
def tw6033260023501469183:Nat:=0
def tw12942879732054098008:Nat:=0
def tw18059538021254383925:Nat:=0
def tw10390399595483561595:Nat:=0
def tw7089987341187377832:Nat:=0
def tw1808497500386195807:Nat:=0
def tw3512972145259426481:Nat:=0
def tw3911807042706845222:Nat:=0
def tw12936397852339220716:Nat:=0
def tw15129580283110721860:Nat:=0
def tw6410450648815548668:Nat:=0
def tw11805948437914839137:Nat:=0
def tw11870621364513025439:Nat:=0
def tw16548609651404999260:Nat:=0
def tw5742346011088839712:Nat:=0
def tw10719135850249554717:Nat:=0
def tw6008282528632095166:Nat:=0
def tw12442867452959158453:Nat:=0
def tw17892274496694307781:Nat:=0
def tw222573155341431455:Nat:=0
def tw4403807080304315974:Nat:=0
def tw7002502127498329436:Nat:=0
def tw9432777744230953597:Nat:=0
def tw11860576163474368178:Nat:=0
def tw17885405202124306207:Nat:=0
def tw8382567384472702541:Nat:=0
def tw9696130252732000621:Nat:=0
def tw673749707804132169:Nat:=0
def tw15766424639836933486:Nat:=0
def tw5261340802253573397:Nat:=0
def tw7618406509316968617:Nat:=0
def tw18309738517331791328:Nat:=0
def tw12203573357974178126:Nat:=0
def tw5994986212903103938:Nat:=0
def tw4963731759057109248:Nat:=0
def tw10874556165205167974:Nat:=0
def tw5867542754428323497:Nat:=0
def tw8237255487070060789:Nat:=0
def tw12554882010049988595:Nat:=0
def tw6745000189899228045:Nat:=0
def tw11306139385730907677:Nat:=0
def tw10081371907074192180:Nat:=0
def tw17125154380407279745:Nat:=0
def tw1629068286756653855:Nat:=0
def tw13907532894777214910:Nat:=0
def tw10117433518477398479:Nat:=0
def tw18066410980568400511:Nat:=0
def tw4182846353098103709:Nat:=0
def tw9986029396282186090:Nat:=0
def tw3213261844772497314:Nat:=0
def tw15387732974376528407:Nat:=0
def tw9907685033203662594:Nat:=0
def tw11654410564590597635:Nat:=0
def tw18002711952630535173:Nat:=0
def tw460496665878813828:Nat:=0
def tw12500155164566068776:Nat:=0
def tw16604131787598466210:Nat:=0
def tw13115711601816396236:Nat:=0
def tw8251265674089970420:Nat:=0
def tw4081261496591306857:Nat:=0
def tw1351205917140329746:Nat:=0
def tw1784969250671348432:Nat:=0
def tw2180024854146833731:Nat:=0
def tw7658941456716075105:Nat:=0
def tw14428598573710425764:Nat:=0
def tw14827462395540554426:Nat:=0
def tw8822467936339124761:Nat:=0
def tw17830911969132811145:Nat:=0
def tw1276972145172137315:Nat:=0
def tw18272412863067857099:Nat:=0
def tw468558337236368474:Nat:=0
def tw18225962582500127527:Nat:=0
def tw9174891371336608141:Nat:=0
def tw8311650315750855586:Nat:=0
def tw8425577265268201172:Nat:=0
def tw3311768694885209888:Nat:=0
def tw12635843711007296486:Nat:=0
def tw971440496792656924:Nat:=0
def tw3970520243889388095:Nat:=0
def tw10695999988315719562:Nat:=0
def tw14864224656019112516:Nat:=0
def tw9072581361851258649:Nat:=0
def tw7681037435867271615:Nat:=0
def tw9823275480690925843:Nat:=0
def tw17978233490763131914:Nat:=0
def tw1831973816892554157:Nat:=0
def tw8796529997342074670:Nat:=0
def tw16809256088292832587:Nat:=0
def tw7651528864144607365:Nat:=0
def tw614986124416095427:Nat:=0
def tw16693035523186218011:Nat:=0
def tw6295198158676156708:Nat:=0
def tw16012649578329724872:Nat:=0
def tw13774283736781448336:Nat:=0
def tw11908975516253138592:Nat:=0
def tw4479345412951035472:Nat:=0
def tw1784767894062891124:Nat:=0
def tw14611323431031344708:Nat:=0
def tw16697434921477392130:Nat:=0
def tw11786532701162782933:Nat:=0
def tw62121378780290579:Nat:=0
def tw16259997590662833598:Nat:=0
def tw15175743264977714100:Nat:=0
def tw8637592939572747249:Nat:=0
def tw10655374931235501058:Nat:=0
def tw4492162586891000466:Nat:=0
def tw13114693068501844376:Nat:=0
def tw3908950036307049862:Nat:=0
def tw12343507682958802264:Nat:=0
def tw6802199785213087670:Nat:=0
def tw10377284384913275592:Nat:=0
def tw15693907870581645248:Nat:=0
def tw14111627500096762337:Nat:=0
def tw10441234594255191826:Nat:=0
def tw13492256012269171023:Nat:=0
def tw7328431458153102201:Nat:=0
def tw11654172697177072454:Nat:=0
def tw13349792080857077538:Nat:=0
def tw14317416019400282972:Nat:=0
def tw16518382399911886741:Nat:=0
def tw2485564054924286779:Nat:=0
def tw16216942714492969019:Nat:=0
def tw18327367026227714460:Nat:=0
def tw14934966763087398922:Nat:=0
def tw4089238875565595362:Nat:=0
def tw14533431903656494388:Nat:=0
def tw7745218321744007764:Nat:=0
def tw16193141049118690982:Nat:=0
def tw10789251337122317966:Nat:=0
def tw15791310850340194366:Nat:=0
def tw15040087896985840991:Nat:=0
def tw7231375756481447994:Nat:=0
def tw6108838822969462875:Nat:=0
def tw9977061751033791362:Nat:=0
def tw8562615750297604687:Nat:=0
def tw11084567052100513175:Nat:=0
def tw6728532924842164013:Nat:=0
def tw17719345467361644135:Nat:=0
def tw12663943896344672032:Nat:=0
def tw1748136466214130796:Nat:=0
def tw13741412250377925965:Nat:=0
def tw17097199772786155563:Nat:=0
def tw3395969314102551764:Nat:=0
def tw15459920000272253749:Nat:=0
def tw536491544890776049:Nat:=0
def tw2192490909797890889:Nat:=0
def tw14162596263826278462:Nat:=0
def tw5739956649037268456:Nat:=0
def tw7900073596373581644:Nat:=0
def tw870923904851829733:Nat:=0
def tw3382834985342333849:Nat:=0
def tw1141353241715215877:Nat:=0
def tw3299987800236642039:Nat:=0
def tw2341871353036882013:Nat:=0
def tw11701694069062164700:Nat:=0
def tw13521040868757388644:Nat:=0
def tw15269766193715280606:Nat:=0
def tw7276187876539715948:Nat:=0
def tw15513997649529702932:Nat:=0
def tw5750810799641177237:Nat:=0
end PySem.Challenge.cw_pathask_k04_steps_and_webs_alike_holds
set_option Elab.async true in
set_option maxRecDepth 100000 in
set_option maxHeartbeats 0 in
theorem PySem.Challenge.cw_pathask_k04_steps_and_webs_alike_holds : PySem.Challenge.rw_pathask_k04_steps_and_webs_alike.Holds := by
 w_on;o_law;k_head;(case hw=>w_witness2)
 k_fill
 refine K04.walk (l:=PySem.Challenge.rw_pathask_k04_steps_and_webs_alike) rfl rfl (fun w h Y=>PySem.W.kIn_of Y) ?F
 case F =>
  intro w mg fa h KX G hmg
  refine' K04.all_mk KX G hmg ?_ ?_ ?_ ?_ ?_ ?_ ?_ ?_ ?_ ?_ ?_ ?_ ?_ ?_ ?_ ?_ ?_ ?_ ?_ ?_ ?_ ?_ ?_ ?_ ?_ ?_ ?_ ?_ ?_ ?_ ?_ ?_ ?_ ?_ ?_ ?_ ?_ ?_ ?_ ?_ ?_ ?_ ?_ ?_ ?_ ?_ ?_ ?_ ?_ ?_ ?_ ?_ ?_ ?_ ?_ ?_ ?_ ?_
  all_goals try first | (refine' L2.rG.of ?a ?l ?c ?k;(case a=>k_is);(case l=>k_is);(case c=>k_is);(case k=>k_is)) | (refine' L2.nV.of ?a ?l ?c ?k ?i;(case a=>k_is);(case l=>k_is);(case c=>k_is);(case k=>k_is);(case i=>k_is)) | k_is
