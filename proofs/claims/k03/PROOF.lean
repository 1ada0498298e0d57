import PyProof.Rows.All
import Wide.All
import OpenK.AllK
import Wide.FinOn
import Lean
import PyProof.EqAt
import PyProof.EqKinds
import PyProof.TupleCall
import KE.KRevIter
import KE.KIntText
import PyProof.Rows.StrNews
import KE.KSortTup
import PyProof.Rows.SetFrom
import PyProof.WalksMore
import KE.KRevSl
import PyProof.ZipIter
import PyProof.TupleIter
import PyProof.Rows.SortRuns
import PyProof.WalksEnum
import PyProof.EnumMake
import PyProof.SetRoads
import PySem.Challenge.RW_pathask_k03_a_web_refuses
open List renaming eq_nil_of_length_eq_zero→zaa,getElem?_append_right→zab,getD_eq_getElem?_getD→zac,getElem?_eq_some_iff→zaf,getElem?_append_left→zag,drop_eq_getElem_cons→zah,extract_eq_take_drop→zai,getElem?_eq_getElem→zak,eraseIdx_cons_succ→zal,filter_cons_of_neg→zam,filter_cons_of_pos→zan,drop_eq_nil_of_le→zao,take_of_length_le→zap,mem_append_right→zau,length_filter_le→zav,getElem?_eq_none→zaw,take_append_drop→zax,perm_append_comm→zay,mem_cons_of_mem→zaC,mem_append_left→zaD,getElem?_set_ne→zaE,mem_of_getElem? → zaF,pairwise_append→zaG,mem_of_mem_take→zaH,mem_of_mem_drop→zaI,replicate_succ→zaK,map_congr_left→zaL,getElem_of_mem→zaM,filter_eq_self→zaN,filter_sublist→zaO,mem_cons_self→zaS,length_append→zaT,contains_cons→zaU,zip_cons_cons→zaV,mem_singleton→zaW,pairwise_cons→zaX,set_cons_zero→zaY,size_toArray→zbg,any_eq_false→zbh,getElem?_map→zbi,take_sublist→zbj,flatten_cons→zbk,append_assoc→zbl,getElem?_set→zbm,getElem_drop→zbn,getElem_take→zbo,pairwise_map→zbp,nodup_append→zbq,length_range→zbr,length_cons→zbx,length_take→zby,filter_cons→zbz,length_drop→zbA,lookup_cons→zbB,all_eq_true→zbC,take_length→zbD,not_mem_nil→zbE,getElem_mem→zbF,any_eq_true→zbG,mem_filter→zbL,mem_append→zbM,length_map→zbN,append_nil→zbO,nodup_cons→zbP,of_mem_zip→zbQ,find?_cons→zbR,length_nil→zbS,foldl_cons→zbT,nil_append→zbU,map_append→zbV,length_set→zbW,mem_range→zbZ,replicate→zca,mem_cons→zcf,map_cons→zcg,any_cons→zch,all_cons→zci,map_nil→zcm,any_map→zcn,set_set→zco,map_map→zcp,mem_map→zcq,lookup→zcB,length→zcC,not_lt→zcD,range→zcI,cons→zcJ,getD→zcK
open Array renaming perm_iff_toList_perm→zad,toList_setIfInBounds→zae,getElem?_toList→zaz,toList_extract→zaJ,length_toList→zaP,toList_append→zaQ,toList_push→zbs
open PySem.Calls renaming call_function_entry→zaj,callWith_builtin→zat,spliced_cons→zbf
open PySem.W renaming cellsFrom_some→zaq,methodCall_KW→zaA,callWith_K→zbd,mg_none_of→zbe,hasDictIn→zbt,emptyDict→zbu,specialIn→zbv,plainGet→zbI,instObj→zbY,findIn→zcb,keepIn→zcc,codeIn→zcd,kitOne→zce,subIn→zck,mg_of→zcl,isFn→zcx,fnOf→zcy,nsIn→zcz
open PySem.Heap renaming get?_push_of_some→zar,get?_update_other→zas,get?_update_self→zaB,get?_push_size→zaR,lt_size→zcA
open Nat renaming lt_of_lt_of_le→zaZ,lt_irrefl→zcj,ne_of_lt→zcr,le_trans→zcs,ne_of_gt→zct,lt_or_ge→zcu,le_refl→zcE,zero_le→zcF
open Int renaming emod_lt_of_pos→zba,emod_nonneg→zbX,le_trans→zcv,le_of_lt→zcw,le_refl→zcG
open Bool renaming false_ne_true→zbb,false_eq_true→zbc,and_eq_true→zbH
open Option renaming isSome_map→zbw,getD_some→zbJ,bind_some→zbK,some→zcH
open PySem renaming wpAny_bind→yaa,wpAny_pure→yab,wpAny_mono→yac,wpAny_holding→yad,wpAny_loadPart_at→yae,wpAny_newObj_type→yaf,sizeLine_eq→yag,sizeLine→yah,Shared→yai,Value→yaj,Program→yak,World→yal,Around→yam,PyData→yan,compareOp→yao,starEach→yap,FuncData→yaq,mainGlobals→yar,wpAny→yas,sysModules→yat,swapsWith→yau,backTo→yav,DictEntry→yaw,GenState→yax,codeAny_mono→yay,wpAny_standAt→yaz,recursionLimit→yaA,callWith→yaB,bindArgs→yaC,BindsTo→yaD,wpAny_loadPart→yaE,getMethod→yaF,keywordEach→yaG,backToKw→yaH,wpAny_execs_nil→yaI,wpAny_execs_cons→yaJ,OsState→yaK,wpAny_call→yaL
open PySem.W renaming Frag→yaM
theorem yDf {p:Prop} [Decidable p] (h : ¬p):decide p=false:=decide_eq_false h
theorem yDt {p:Prop} [Decidable p] (h:p):decide p=true:=decide_eq_true h
theorem yIn.{u}{c:Prop}{h:Decidable c} (n : ¬c) {α:Sort u}{t e:α}:(ite c t e)=e:=if_neg n
theorem yIp.{u}{c:Prop}{h:Decidable c} (n:c) {α:Sort u}{t e:α}:(ite c t e)=t:=if_pos n
theorem ySz (n:Nat) (h:n≤100:=by decide):n≤PySem.sizeLine:=by rw [PySem.sizeLine_eq];lia
set_option Elab.async false
set_option linter.all false
set_option maxRecDepth 100000
namespace L2
open PySem PySem.Spec PyProof.Rows
abbrev Key:=Sum Int Str
noncomputable def nv:Key→yaj→Bool
 | .inl k,v=>Value.isInt k v
 | .inr x,v=>Value.isStrOf x v
noncomputable def Ol (w:yal):Key→Int
 | .inl k=>hashInt k
 | .inr x=>hashStr w x
theorem bJ:∀ {k:Key}{v:yaj},nv k v=true→(∃ i t,k=Sum.inl i∧v=Value.int i t)∨(∃ x t,k=Sum.inr x∧v=Value.str x t)
 | .inl i,v,h=>by
  obtain ⟨t,e⟩:=Value.isInt_shape (k:=i) (v:=v) h
  exact .inl ⟨i,t,rfl,e⟩
 | .inr x,v,h=>by
  obtain ⟨t,e⟩:=Value.isStrOf_shape (x:=x) (v:=v) h
  exact .inr ⟨x,t,rfl,e⟩
theorem zH (i:Int) (t:Tok):nv (.inl i) (.int i t)=true:=by simp [nv,Value.isInt]
theorem zG (x:Str) (t:Tok):nv (.inr x) (.str x t)=true:=by simp [nv,Value.isStrOf]
theorem JR (a b:Int):decide ((Sum.inl a:Key)=Sum.inl b)=(a==b):=by
 by_cases e:a=b
 ·subst e;simp
 ·have h : ¬ (Sum.inl a:Key)=Sum.inl b:=fun q=>e (Sum.inl.inj q)
  rw [yDf h]
  exact (beq_eq_false_iff_ne.mpr e).symm
theorem JO (a b:Str):decide ((Sum.inr a:Key)=Sum.inr b)=decide (a=b):=by
 by_cases e:a=b
 ·subst e;simp
 ·have h : ¬ (Sum.inr a:Key)=Sum.inr b:=fun q=>e (Sum.inr.inj q)
  rw [yDf h,yDf e]
theorem JQ (a:Int) (b:Str):decide ((Sum.inl a:Key)=Sum.inr b)=false:=yDf (fun q=>nomatch q)
theorem JP (a:Str) (b:Int):decide ((Sum.inr a:Key)=Sum.inl b)=false:=yDf (fun q=>nomatch q)
noncomputable def bA (prog:yak) (w:yal):PySem.KeyKind prog w Key where
 is:=nv
 hash:=Ol w
 inj:=fun v a b ha hb=>by
  rcases bJ ha with ⟨i,t,rfl,rfl⟩ | ⟨x,t,rfl,rfl⟩
  ·rcases bJ hb with ⟨j,u,rfl,e⟩ | ⟨y,u,rfl,e⟩
   ·injection e with e1 _;rw [e1]
   ·exact nomatch e
  ·rcases bJ hb with ⟨j,u,rfl,e⟩ | ⟨y,u,rfl,e⟩
   ·exact nomatch e
   ·injection e with e1 _;rw [e1]
 byValue:=fun k v h=>by
  rcases bJ h with ⟨i,t,rfl,rfl⟩ | ⟨x,t,rfl,rfl⟩ <;> rfl
 pyHash:=fun hv h=>by
  rcases bJ hv with ⟨i,t,rfl,rfl⟩ | ⟨x,t,rfl,rfl⟩
  ·exact wpAny_pyHash_int h
  ·exact wpAny_pyHash_str h
 eqBool:=fun hu hv h=>by
  rcases bJ hu with ⟨i,t,rfl,rfl⟩ | ⟨x,t,rfl,rfl⟩
  ·rcases bJ hv with ⟨j,u,rfl,rfl⟩ | ⟨y,u,rfl,rfl⟩
   ·rw [JR] at h;exact wpAny_eqBool_int h
   ·rw [JQ] at h;exact SeqAt.EqAt.int_str i t y u _ _ _ _ h
  ·rcases bJ hv with ⟨j,u,rfl,rfl⟩ | ⟨y,u,rfl,rfl⟩
   ·rw [JP] at h;exact SeqAt.EqAt.str_int x t j u _ _ _ _ h
   ·rw [JO] at h;exact wpAny_eqBool_str h
 «strs» := fun k x t v h=>by
  rcases bJ h with ⟨i,u,rfl,e⟩ | ⟨y,u,rfl,e⟩
  ·exact nomatch e
  ·injection e with e1 _
   subst e1
   cases v <;> rfl
theorem sL (prog:yak) (w:yal) (i:Int) (t:Tok):(bA prog w).is (.inl i) (.int i t)=true:=zH i t
theorem sJ (prog:yak) (w:yal) (x:Str) (t:Tok):(bA prog w).is (.inr x) (.str x t)=true:=zG x t
inductive V where
 | bw | bl (b:Bool) | int (i:Int) | str (x:Str) | uG (b:Array UInt8) | Ng (b:UInt64) | ref (a:Addr) | ty (n:String)
 deriving DecidableEq
def RelV:V→yaj→Prop
 | .bw,u=>u=Value.none
 | .bl b,u=>u=Value.bool b
 | .int i,u=>∃ t,u=Value.int i t
 | .str x,u=>∃ t,u=Value.str x t
 | .uG b,u=>∃ t,u=Value.bytes b t
 | .Ng b,u=>∃ t,u=Value.float b t
 | .ref a,u=>u=Value.ref a
 | .ty n,u=>u=Value.type n
abbrev Vals:List V→List yaj→Prop:=Paired RelV
theorem Vals.length {xs:List V}{us:List yaj} (r:Vals xs us):xs.length=us.length:=Paired.length r
theorem Vals.get:∀ {xs:List V}{us:List yaj}{i:Nat}{x:V},Vals xs us→xs[i]? = some x→∃ u,us[i]? = some u∧RelV x u
 | _,_,_,_,.nil,e=>by simp at e
 | _,_,0,_,.cons r _,e=>by simp at e;subst e;exact ⟨_,rfl,r⟩
 | _,_,i+1,x,.cons _ t,e=>by
  obtain ⟨u,h1,h2⟩:=Vals.get (i:=i) (x:=x) t (by simpa using e)
  exact ⟨u,by simpa using h1,h2⟩
theorem Vals.append:∀ {xs ys:List V}{us ws:List yaj},Vals xs us→Vals ys ws→Vals (xs++ys) (us++ws)
 | _,_,_,_,.nil,s=>s
 | _,_,_,_,.cons r t,s=>.cons r (Vals.append t s)
theorem Vals.take:∀ {xs:List V}{us:List yaj} (n:Nat),Vals xs us→Vals (xs.take n) (us.take n)
 | _,_,0,_=>.nil
 | _,_,_+1,.nil=>.nil
 | _,_,n+1,.cons r t=>.cons r (Vals.take n t)
theorem Vals.drop:∀ {xs:List V}{us:List yaj} (n:Nat),Vals xs us→Vals (xs.drop n) (us.drop n)
 | _,_,0,r=>r
 | _,_,_+1,.nil=>.nil
 | _,_,n+1,.cons _ t=>Vals.drop n t
def eK:Option V→Option yaj→Prop
 | some v,some u=>RelV v u
 | none,none=>True
 | _,_=>False
def KV {κ:Type}:List (κ×V)→List (κ×yaj)→Prop:=Paired fun (p:κ×V) (q:κ×yaj)=>p.1=q.1∧RelV p.2 q.2
noncomputable def kV:Key→V
 | .inl i=>.int i
 | .inr x=>.str x
inductive HO where
 | lst (xs:List V)
 | tup (xs:List V)
 | dK (kvs:List (Key×V)) | dT (kvs:List (List Key×V))
 | set (S:Int→Bool) (n:Nat)
 | ins (C dx:Addr) (fs:List (Str×V))
 | own (x:Addr)
 | xd (fs:List (Str×V))
 | met (f x:Addr)
 | NS (lo hi:Int)
 | Eg (o:Obj) (u:HO)
 | Ig (ps:Array yaj)
 | ext (φ:Heap→Prop)
abbrev Hp:=Addr→Option HO
noncomputable def upd (H:Hp) (a:Addr) (o:HO):Hp:=fun b=>if b=a then some o else H b
theorem au {H:Hp}{a:Addr}{o:HO}:upd H a o a=some o:=by unfold upd;rw [yIp rfl]
theorem av {H:Hp}{a b:Addr}{o:HO} (h:b≠a):upd H a o b=H b:=by unfold upd;rw [yIn h]
theorem LV {H:Hp}{a b:Addr}{o u:HO} (h:H a=some o) (h':H b=some u) (d:o≠u):a≠b:=by
 intro e;subst e;rw [h] at h';exact d (zcH.inj h')
theorem aK {H:Hp}{a b:Addr}{o:HO} (h:H a=some o) (h':H b=none):a≠b:=by
 intro e;subst e;rw [h] at h';cases h'
section
variable (P:yak) (w:yal)
def aW (H:Hp) (h:Heap) (a:Addr):HO→Prop
 | .lst xs=>xs.length≤yah∧∃ (its:List yaj) (n:Nat),Vals xs its∧h.get? a=some { cls:=.type "list",data:=.seq its.toArray n }
 | .tup xs=>xs.length≤yah∧∃ its:List yaj,Vals xs its∧IsTup h a its.toArray
 | .dK kvs=>kvs.length≤yah∧(a==yat)=false∧∃ vs,KV kvs vs∧h.DictOf (bA P w) a vs
 | .dT kvs=>kvs.length≤yah∧(a==yat)=false∧∃ xs:List (List Key×Addr×yaj),
   Paired (fun (p:List Key×V) (q:List Key×Addr×yaj)=>p.1=q.1∧H q.2.1=some (.tup (p.1.map kV))∧RelV p.2 q.2.2) kvs xs ∧
   ∃ o es ep,h.get? a=some o∧o.ExactDict∧o.data = .dict es ep∧es.toList=xs.map (entryOfKey (tupleKind (bA P w)))∧(xs.map (·.1)).Nodup
 | .set S n=>h.SetOf (intKind P w) a S n
 | .ins C dx fs=>H dx=some (.own a)∧fs.length≤1000∧dx≠a∧h.get? a=some (zbY C dx) ∧
   ∃ mA,h.Ns1 dx mA∧(∀ f,eK (fs.lookup f) (mA f))∧PySem.Within mA (fs.map (·.1))
 | .own _=>∃ o,h.get? a=some o
 | .xd fs=>∃ mA,h.Ns1 a mA∧∀ f,eK (fs.lookup f) (mA f)
 | .NS lo hi=>∃ t u v,h.get? a=some { cls:=.type "range",data:=.fields #[.int lo t,.int hi u,.int 1 v] }
 | .Eg o u=>h.get? a=some o∧aW H h a u
 | .Ig ps=>h.get? a=some { cls:=.none,data:=.fields ps }
 | .met f x=>h.get? a=some (PySem.W.methodObj (.ref f) (.ref x))
 | .ext φ=>φ h∧(∃ o,h.get? a=some o)∧∀ h1 h2:Heap,φ h1→(∀ o,h1.get? a=some o→h2.get? a=some o)→φ h2
def fW (H:Hp) (h:Heap):Prop:=∀ a o,H a=some o→aW P w H h a o
end
section
variable {P:yak}{w:yal}{H H':Hp}{h h':Heap}{a:Addr}{o:HO}
theorem aW.lt (x:aW P w H h a o):a<h.objs.size:=by
 cases o with
 | lst xs=>obtain ⟨_,_,_,_,e⟩:=x;exact zcA e
 | tup xs=>obtain ⟨_,_,_,p⟩:=x;exact p.lt
 | dK kvs=>obtain ⟨_,_,_,_,o,_,_,e,_⟩:=x;exact zcA e
 | dT kvs=>obtain ⟨_,_,_,_,o,_,_,e,_⟩:=x;exact zcA e
 | set S n=>obtain ⟨o,_,_,_,e,_⟩:=x;exact zcA e
 | ins C dx fs=>obtain ⟨_,_,_,e,_⟩:=x;exact zcA e
 | own y=>obtain ⟨_,e⟩:=x;exact zcA e
 | xd fs=>obtain ⟨_,⟨_,_,_,e,_⟩,_⟩:=x;exact zcA e
 | NS lo hi=>obtain ⟨_,_,_,e⟩:=x;exact zcA e
 | Eg ob u=>obtain ⟨e,_⟩:=x;exact zcA e
 | Ig ps=>exact zcA (show h.get? a=some _ from x)
 | met f y=>exact zcA (show h.get? a=some _ from x)
 | ext φ=>obtain ⟨_,⟨_,e⟩,_⟩:=x;exact zcA e
theorem Paired.JL {α β:Type}{F G:α→β→Prop}:∀ {l₁:List α}{l₂:List β},Paired F l₁ l₂→(∀ a b,F a b→G a b)→Paired G l₁ l₂
 | _,_,.nil,_=>.nil
 | _,_,.cons r t,f=>.cons (f _ _ r) (Paired.JL t f)
theorem aW.stay (x:aW P w H h a o) (k:∀ b u,(b=a∨H b=some (.own a))→h.get? b=some u→h'.get? b=some u)
  (ho:∀ b,H b=some (.own a)→H' b=some (.own a)) (ht:∀ b xs,H b=some (.tup xs)→H' b=some (.tup xs)):aW P w H' h' a o:=by
 induction o with
 | lst xs=>obtain ⟨z,its,n,r,e⟩:=x;exact ⟨z,its,n,r,k _ _ (.inl rfl) e⟩
 | tup xs=>obtain ⟨z,its,r,ob,e,c⟩:=x;exact ⟨z,its,r,ob,k _ _ (.inl rfl) e,c⟩
 | dK kvs=>obtain ⟨z,y,vs,r,ob,es,ep,e,c⟩:=x;exact ⟨z,y,vs,r,ob,es,ep,k _ _ (.inl rfl) e,c⟩
 | dT kvs =>
  obtain ⟨z,y,xs,r,ob,es,ep,e,c⟩:=x
  exact ⟨z,y,xs,Paired.JL r fun p q z=>⟨z.1,ht _ _ z.2.1,z.2.2⟩,ob,es,ep,k _ _ (.inl rfl) e,c⟩
 | set S n=>obtain ⟨ob,es,ep,t,e,c⟩:=x;exact ⟨ob,es,ep,t,k _ _ (.inl rfl) e,c⟩
 | ins C dx fs =>
  obtain ⟨d,z,ne,e,mA,⟨od,es,ep,e2,c⟩,r⟩:=x
  exact ⟨ho _ d,z,ne,k _ _ (.inl rfl) e,mA,⟨od,es,ep,k _ _ (.inr d) e2,c⟩,r⟩
 | own y=>obtain ⟨ob,e⟩:=x;exact ⟨ob,k _ _ (.inl rfl) e⟩
 | xd fs=>obtain ⟨mA,⟨od,es,ep,e,c⟩,r⟩:=x;exact ⟨mA,⟨od,es,ep,k _ _ (.inl rfl) e,c⟩,r⟩
 | NS lo hi=>obtain ⟨t,u,v,e⟩:=x;exact ⟨t,u,v,k _ _ (.inl rfl) e⟩
 | Eg ob u ih=>obtain ⟨e,q⟩:=x;exact ⟨k _ _ (.inl rfl) e,ih q⟩
 | Ig ps =>
  have e:h.get? a=some { cls:=.none,data:=.fields ps }:=x
  show h'.get? a=some { cls:=.none,data:=.fields ps }
  exact k a _ (.inl rfl) e
 | met f y =>
  have e:h.get? a=some (PySem.W.methodObj (.ref f) (.ref y)):=x
  show h'.get? a=some (PySem.W.methodObj (.ref f) (.ref y))
  exact k a _ (.inl rfl) e
 | ext φ=>obtain ⟨p,⟨o,e⟩,st⟩:=x;exact ⟨st _ _ p fun o q=>k _ _ (.inl rfl) q,⟨o,k _ _ (.inl rfl) e⟩,st⟩
theorem fW.lt (x:fW P w H h) (e:H a=some o):a<h.objs.size:=(x a o e).lt
theorem fW.fresh (x:fW P w H h) (e:h.objs.size≤a):H a=none:=by
 cases q:H a with
 | none=>rfl
 | some u=>exact absurd (zaZ (x.lt q) e) (zcj _)
theorem fW.kept (x:fW P w H h) (k:∀ b u,h.get? b=some u→h'.get? b=some u):fW P w H h':=fun a o e =>
 (x a o e).stay (fun b u _ q=>k b u q) (fun _ q=>q) fun _ _ q=>q
theorem fW.laid (x:fW P w H h) (k:∀ b u,h.get? b=some u→h'.get? b=some u) (hp:h.objs.size≤a) (new:aW P w (upd H a o) h' a o):fW P w (upd H a o) h':=fun b u e=>by
 have hn:=x.fresh hp
 by_cases hb:b=a
 ·subst hb;rw [au] at e;cases e;exact new
 ·rw [av hb] at e
  exact (x b u e).stay (fun c v _ q=>k c v q) (fun c q=>by rw [av (aK q hn)];exact q) fun c xs q=>by rw [av (aK q hn)];exact q
end
def Rd (H:Hp) (a:Addr) (u:HO):Prop:=H a=some u∨∃ o,H a=some (.Eg o u)
theorem Rd.ok {P:yak}{w:yal}{H:Hp}{h:Heap}{a:Addr}{u:HO} (r:Rd H a u) (x:fW P w H h):aW P w H h a u:=by
 rcases r with r | ⟨o,r⟩
 ·exact x a u r
 ·obtain ⟨_,q⟩:=x a _ r
  exact q
def KY:Option HO→Prop
 | some (.lst _)=>True
 | some (.dK _)=>True
 | some (.dT _)=>True
 | some (.set _ _)=>True
 | some (.ins _ _ _)=>True
 | some (.ext _)=>True
 | _=>False
section
variable {P:yak}{w:yal}{H:Hp}{h h':Heap}{x e:Addr}{o':HO}
theorem fW.write (ok:fW P w H h) (mu:KY (H x)) (he:e=x∨H e=some (.own x)) (k:∀ b u,b≠e→h.get? b=some u→h'.get? b=some u) (heo:∃ u,h'.get? e=some u)
  (new:aW P w (upd H x o') h' x o'):fW P w (upd H x o') h':=fun b u q=>by
 have LR:∀ c y,H c=some (.own y)→c≠x:=fun c y r z=>by subst z;rw [r] at mu;exact mu
 have Og:∀ c xs,H c=some (.tup xs)→c≠x:=fun c xs r z=>by subst z;rw [r] at mu;exact mu
 by_cases hb:b=x
 ·subst hb;rw [au] at q;cases q;exact new
 ·rw [av hb] at q
  by_cases hbe:b=e
  ·have q':H b=some (.own x):=by
    rcases he with z | z
    ·exact absurd (hbe.trans z) hb
    ·rw [hbe];exact z
   rw [q] at q';cases q'
   obtain ⟨v,hv⟩:=heo
   exact ⟨v,by rw [hbe];exact hv⟩
  ·refine (ok b u q).stay (fun c v hc r=>k c v ?_ r) (fun c r=>by rw [av (LR c b r)];exact r) fun c xs r=>by rw [av (Og c xs r)];exact r
   rcases hc with rfl | hc
   ·exact hbe
   ·rintro rfl
    rcases he with z | z
    ·exact LR c b hc z
    ·rw [hc] at z;cases z;exact hb rfl
end
structure Un (fs ex:List Addr) (H H':Hp) (h h':Heap):Prop where
 keep:∀ b o,h.get? b=some o→H b=none→b ∉ fs→b ∉ ex→h'.get? b=some o
 slot:∀ b o,h.get? b=some o→H b=none→b∈fs→b ∉ ex→∃ sl,h'.get? b=some { o with slots:=sl }
 free:∀ b o,h.get? b=some o→H b=none→b ∉ ex→H' b=none
 there:∀ b o,h.get? b=some o→b ∉ ex→∃ o',h'.get? b=some o'
 tups:∀ b xs,H b=some (.tup xs)→H' b=some (.tup xs)
 nG:∀ b o u,H b=some (.Eg o u)→H' b=some (.Eg o u)
 oz:∀ b ps,H b=some (.Ig ps)→∃ more,H' b=some (.Ig (ps++more))
section
variable {fs fs' ex ex':List Addr}{H H1 H2:Hp}{h h1 h2 h':Heap}{a x e:Addr}{o:HO}
theorem Un.any (u:Un fs ex H H1 h h1) {b:Addr}{ob:Obj} (q:h.get? b=some ob) (n:H b=none) (hx:b ∉ ex):∃ sl,h1.get? b=some { ob with slots:=sl }:=by
 by_cases hb:b∈fs
 ·exact u.slot b ob q n hb hx
 ·exact ⟨ob.slots,u.keep b ob q n hb hx⟩
theorem Un.kept (k:∀ b u,h.get? b=some u→h'.get? b=some u):Un fs ex H H h h' :=
 ⟨fun b ob q _ _ _=>k b ob q,fun b ob q _ _ _=>⟨ob.slots,k b ob q⟩,fun _ _ _ n _=>n,fun b ob q _=>⟨ob,k b ob q⟩,fun _ _ q=>q,fun _ _ _ q=>q,fun _ ps q=>⟨#[],by rw [q];simp⟩⟩
theorem Un.refl:Un fs ex H H h h:=Un.kept fun _ _ q=>q
theorem Un.laid (k:∀ b u,h.get? b=some u→h'.get? b=some u) (hp:h.objs.size≤a) (hn:H a=none):Un fs ex H (upd H a o) h h' where
 keep:=fun b u q _ _ _=>k b u q
 slot:=fun b u q _ _ _=>⟨u.slots,k b u q⟩
 free:=fun b u q n _=>by rw [av (zcr (zaZ (zcA q) hp))];exact n
 there:=fun b u q _=>⟨u,k b u q⟩
 tups:=fun b xs q=>by rw [av (aK q hn)];exact q
 nG:=fun b u xs q=>by rw [av (aK q hn)];exact q
 oz:=fun b ps q=>⟨#[],by rw [av (aK q hn),q];simp⟩
theorem Un.write (mu:KY (H x)) (he:e=x∨H e=some (.own x)) (k:∀ b u,b≠e→h.get? b=some u→h'.get? b=some u) (heo:∃ u,h'.get? e=some u):Un fs ex H (upd H x o) h h':=by
 have hx:∀ b,H b=none→b≠x:=fun b n z=>by subst z;rw [n] at mu;exact mu
 have hb:∀ b,H b=none→b≠e:=fun b n z=>by
  subst z
  rcases he with r | r
  ·exact hx b n r
  ·rw [n] at r;cases r
 have hm:∀ b u,H b=some u → ¬ KY (some u)→b≠x:=fun b u q nm z=>by subst z;rw [q] at mu;exact nm mu
 refine ⟨fun b u q n _ _=>k b u (hb b n) q,fun b u q n _ _=>⟨u.slots,k b u (hb b n) q⟩,fun b u q n _=>by rw [av (hx b n)];exact n,fun b u q _ => ?_,
  fun b xs q=>by rw [av (hm b _ q fun z=>z)];exact q,fun b u xs q=>by rw [av (hm b _ q fun z=>z)];exact q,fun b ps q=>⟨#[],by rw [av (hm b _ q fun z=>z),q];simp⟩⟩
 by_cases hbe:b=e
 ·subst hbe;exact heo
 ·exact ⟨u,k b u hbe q⟩
end
noncomputable def MX (h:Heap) (H:Hp):List Addr:=(zcI h.objs.size).filter fun a=>(H a).isSome
noncomputable def qM (h:Heap) (H:Hp):Heap:=PySem.W.hideAll h (MX h H)
theorem zK (h:Heap) (H:Hp):(qM h H).objs.size=h.objs.size:=PySem.W.hideAll_size _ _
theorem Cu {h:Heap}{H:Hp}{b:Addr}{o:Obj} (e:h.get? b=some o) (n:H b=none):(qM h H).get? b=some o :=
 PySem.W.hideAll_get _ e fun hm=>by
  have q:(H b).isSome=true:=(zbL.mp hm).2
  rw [n] at q;simp at q
theorem Fj {h:Heap}{H:Hp}{b:Addr}{o:Obj} (e:(qM h H).get? b=some o):h.get? b=some o∧H b=none:=by
 have e':h.get? b=some o:=PySem.W.of_hideAll (MX h H) e
 refine ⟨e',?_⟩
 cases q:H b with
 | none=>rfl
 | some x =>
  have hm:b∈MX h H:=zbL.mpr ⟨zbZ.mpr (zcA e'),by simp [q]⟩
  have z:(qM h H).get? b=none:=PySem.W.hideAll_none (MX h H) hm
  rw [z] at e;cases e
noncomputable def Gq (g h:Heap) (L:Addr):List (Addr×Obj):=(zcI h.objs.size).filterMap fun a=>if a=L∨(g.get? a).isSome=true then none else (h.get? a).map fun o=>(a,o)
noncomputable def rest (g h:Heap) (L d:Addr):List (Addr×Obj):=(Gq g h L).filter fun p=>decide (p.1≠d)
structure Mod (K:yaM) (mg:Str→Option yaj) (base:Heap):Prop where
 Hw:K.In base
 glob:base.Ns yar mg
 blt:∃ mb,base.Ns builtinsNs mb∧∀ x:Str,x ≠ "__name__" → mb x=bootBuiltins x
 nolimit:base.NoLimit
structure Cx where
 prog:yak
 w:yal
 K:yaM
 mg:Str→Option yaj
 base:Heap
 A:yam
 N:List Str
 s₀:yai
 H₀:Hp
 env:Env
 outer:List Env
 stack:List Env
 ex:List Addr
 fn:Str→Bool
 calm:Bool
 pn:List (Addr×Obj)
 xe:yaj→yai→Prop
noncomputable def frs (l:List Env):List Addr:=l.filterMap (·.frame)
noncomputable abbrev Cx.fs (X:Cx):List Addr:=frs X.outer
def ML (sc:Scope) (x:Str):Prop:=sc.names.lookup x=some .local∨sc.names.lookup x=some .cell∨sc.names.lookup x=some .free
def Loc (sc:Scope) (x:Str):Prop:=sc.names.lookup x=some .local∨sc.names.lookup x=some .cell
def Look (env:Env) (h:Heap) (m:Str→Option yaj) (x:Str) (u:yaj):Prop :=
 (env.kindOf x=some .local∧m x=some u)∨((env.kindOf x=some .cell∨env.kindOf x=some .free)∧∃ c,env.cells.lookup x=some c∧h.IsCell c (some u))
structure Cx.Ok (X:Cx):Prop where
 mod:Mod X.K X.mg X.base
 kind:X.env.scope.kind = .function
 glob:X.env.globals=yar
 blt:X.env.builtins=builtinsNs
 above:X.s₀.heap.objs.size≤X.env.locals
 inj:∀ x y c,X.env.cells.lookup x=some c→X.env.cells.lookup y=some c→x=y
 has:∀ x,(X.env.kindOf x=some .cell∨X.env.kindOf x=some .free)→∃ c,X.env.cells.lookup x=some c
 K9:∀ x c,X.fn x=true→X.env.cells.lookup x=some c→X.s₀.heap.objs.size≤c
 hd:X.calm=true→X.A.handled=none
 frames:X.A.frames=some X.stack
 stk:X.stack=X.outer∨(X.stack=X.env::X.outer∧X.env.frame=some X.env.locals)
 Ni:∀ b∈X.ex,b≠X.env.locals∧∀ x c,X.env.cells.lookup x=some c→c≠b
 bs:∀ b o,X.base.get? b=some o→X.s₀.heap.get? b=some o∧X.H₀ b=none
 Di:X.base.objs.size≤X.s₀.heap.objs.size
 zo:∀ b o,X.base.get? b=some o→b ∉ X.ex
 CI:∀ b∈X.ex,b ∉ X.fs
 jK:X.s₀.heap.FunFrames X.base X.outer
 FY:∀ b∈X.fs,X.H₀ b=none
structure Inv (X:Cx) (pins:List (Addr×Obj)) (σ:List (Option V)) (H:Hp) (s:yai):Prop where
 ok:X.Ok
 os:s.os=X.s₀.os
 bare:AllBare s.gens
 base:Un X.fs X.ex X.H₀ H X.s₀.heap s.heap
 loc:∃ m,s.heap.Ns X.env.locals m∧∀ (i:Nat) (x:Str) (v:V),X.N[i]? = some x→σ[i]? = some (some v)→ML X.env.scope x→∃ u,RelV v u∧Look X.env s.heap m x u
 cell:∀ x c,X.env.cells.lookup x=some c→∃ v,s.heap.IsCell c v
 free:H X.env.locals=none
 eG:∀ x c,X.env.cells.lookup x=some c→H c=none
 pin:∀ p∈X.pn++pins,s.heap.get? p.1=some p.2∧H p.1=none∧p.1≠X.env.locals∧p.1 ∉ X.fs∧∀ v,p.2.data ≠ .cell v
 hok:fW X.prog X.w H s.heap
 len:σ.length=X.N.length
section
variable {X:Cx}{pins:List (Addr×Obj)}{σ:List (Option V)}{H H':Hp}{s:yai}{h':Heap}
theorem Cx.Ok.Oh (ok:X.Ok) {b:Addr}{o:Obj} (e:X.base.get? b=some o):b ∉ X.fs:=fun hb=>by
 have:=(ok.jK.mem hb).1
 rw [e] at this;cases this
theorem Inv.bs (I:Inv X pins σ H s):∀ b o,X.base.get? b=some o→s.heap.get? b=some o∧H b=none:=fun b o e =>
 ⟨I.base.keep b o (I.ok.bs b o e).1 (I.ok.bs b o e).2 (I.ok.Oh e) (I.ok.zo b o e),I.base.free b o (I.ok.bs b o e).1 (I.ok.bs b o e).2 (I.ok.zo b o e)⟩
theorem Inv.bk (I:Inv X pins σ H s):∀ b o,X.base.get? b=some o→s.heap.get? b=some o:=fun b o e=>(I.bs b o e).1
theorem Inv.mod (I:Inv X pins σ H s):Mod X.K X.mg X.base:=I.ok.mod
theorem Inv.iV (I:Inv X pins σ H s):X.K.In s.heap:=I.ok.mod.Hw.keeps I.bk
theorem Inv.lt (I:Inv X pins σ H s):X.env.locals<s.heap.objs.size:=let ⟨_,hn,_⟩:=I.loc;hn.lt
theorem Inv.sz (I:Inv X pins σ H s):X.s₀.heap.objs.size≤s.heap.objs.size:=zcs I.ok.above (Nat.le_of_lt I.lt)
theorem Inv.LS (I:Inv X pins σ H s) {a:Addr} (h:s.heap.objs.size≤a):a ∉ X.fs:=fun hb=>by
 obtain ⟨_,o,ho,_⟩:=I.ok.jK.mem hb
 exact absurd (zaZ (zcA ho) (zcs I.sz h)) (zcj _)
theorem Inv.Gk (I:Inv X pins σ H s):∀ x c,X.env.cells.lookup x=some c→c≠X.env.locals:=fun x c e z=>by
 obtain ⟨v,o,ho,hd⟩:=I.cell x c e
 obtain ⟨m,⟨o',es,ep,ho',hd',_⟩,_⟩:=I.loc
 rw [z,ho'] at ho;cases ho;rw [hd'] at hd;cases hd
theorem Inv.jK (I:Inv X pins σ H s):s.heap.FunFrames X.base X.outer:=by
 have all:∀ (l:List Env),(∀ b∈frs l,b∈X.fs)→X.s₀.heap.FunFrames X.base l→s.heap.FunFrames X.base l:=by
  intro l
  induction l with
  | nil=>intro _ _;trivial
  | cons env r ih =>
   intro hs hl
   obtain ⟨hk,⟨L,o,hf,hn,ho,hd⟩,hr⟩:=hl
   have hL:L∈X.fs:=hs L (by unfold frs;rw [List.filterMap_cons,hf];exact zaS)
   obtain ⟨sl,e⟩:=I.base.slot L o ho (I.ok.FY L hL) hL fun z=>I.ok.CI L z hL
   exact ⟨hk,⟨L,_,hf,hn,e,hd⟩,ih (fun b hb=>hs b (by unfold frs;rw [List.filterMap_cons,hf];exact zaC _ hb)) hr⟩
 exact all X.outer (fun _ hb=>hb) I.ok.jK
theorem Inv.stack (I:Inv X pins σ H s):s.heap.FunFrames X.base X.stack:=by
 rcases I.ok.stk with e | ⟨e,hf⟩
 ·rw [e];exact I.jK
 ·rw [e]
  obtain ⟨m,hn,_⟩:=I.loc
  refine .cons (by rw [I.ok.kind];decide) hf hn ?_ I.jK
  exact Heap.get?_none_of_le (zcs I.ok.Di I.ok.above)
theorem Inv.l7 (I:Inv X pins σ H s):∀ b∈frs X.stack,b∈X.env.locals::X.fs:=fun b hb=>by
 rcases I.ok.stk with e | ⟨e,hf⟩
 ·rw [e] at hb;exact zaC _ hb
 ·rw [e] at hb
  unfold frs at hb
  rw [List.filterMap_cons,hf] at hb
  exact hb
theorem Inv.qb (I:Inv X pins σ H s):∀ b∈frs X.stack,H b=none:=fun b hb=>by
 rcases zcf.mp (I.l7 b hb) with e | hb
 ·rw [e];exact I.free
 ·obtain ⟨_,o,ho,_⟩:=I.ok.jK.mem hb
  exact I.base.free b o ho (I.ok.FY b hb) fun z=>I.ok.CI b z hb
theorem Inv.step {g':Array yax}{t':Nat}{d':Drawn}{ch:List Addr} (I:Inv X pins σ H s)
  (hch:∀ b∈ch,(b∈X.ex∨X.s₀.heap.objs.size≤b)∧b≠X.env.locals∧(∀ x c,X.env.cells.lookup x=some c→c≠b)∧∀ p∈X.pn++pins,p.1≠b)
  (keep:∀ b o,b≠X.env.locals→b ∉ X.fs→b ∉ ch→s.heap.get? b=some o→H b=none→h'.get? b=some o)
  (slot:∀ b o,b≠X.env.locals→b∈X.fs→b ∉ ch→s.heap.get? b=some o→H b=none→∃ sl,h'.get? b=some { o with slots:=sl }) (free:∀ b o,b ∉ ch→s.heap.get? b=some o→H b=none→H' b=none)
  (there:∀ b o,b ∉ ch→s.heap.get? b=some o→∃ o',h'.get? b=some o')
  (tups:∀ b xs,H b=some (.tup xs)→H' b=some (.tup xs)) (nG:∀ b o u,H b=some (.Eg o u)→H' b=some (.Eg o u)) (oz:∀ b ps,H b=some (.Ig ps)→∃ more,H' b=some (.Ig (ps++more)))
  (ns:∀ m,s.heap.Ns X.env.locals m→h'.Ns X.env.locals m) (hok:fW X.prog X.w H' h') (hg:AllBare g') :
  Inv X pins σ H' { s with heap:=h',gens:=g',drawn:=d',toks:=t' }:=by
 have neL:∀ b o,X.s₀.heap.get? b=some o→b≠X.env.locals:=fun b o e=>zcr (zaZ (zcA e) I.ok.above)
 have neC:∀ b o,X.s₀.heap.get? b=some o→b ∉ X.ex→b ∉ ch:=fun b o e hx hb=>by
  rcases (hch b hb).1 with z | z
  ·exact hx z
  ·exact absurd (zaZ (zcA e) z) (zcj _)
 have cellK:∀ x c,X.env.cells.lookup x=some c→∀ v,s.heap.IsCell c v→h'.IsCell c v:=fun x c e v ⟨o,ho,hd⟩=>by
  have nch:c ∉ ch:=fun z=>(hch c z).2.2.1 x c e rfl
  by_cases hc:c∈X.fs
  ·obtain ⟨sl,q⟩:=slot c o (I.Gk x c e) hc nch ho (I.eG x c e)
   exact ⟨_,q,hd⟩
  ·exact ⟨o,keep c o (I.Gk x c e) hc nch ho (I.eG x c e),hd⟩
 refine ⟨I.ok,I.os,hg,⟨fun b o e n hb hx => ?_,fun b o e n hb hx => ?_,fun b o e n hx => ?_,fun b o e hx => ?_,fun b xs e=>tups b xs (I.base.tups b xs e),fun b o xs e=>nG b o xs (I.base.nG b o xs e),fun b ps e => ?_⟩,?_,fun x c e => ?_,?_,fun x c e => ?_,fun p hp => ?_,hok,I.len⟩
 ·exact keep b o (neL b o e) hb (neC b o e hx) (I.base.keep b o e n hb hx) (I.base.free b o e n hx)
 ·obtain ⟨sl,e1⟩:=I.base.slot b o e n hb hx
  obtain ⟨sl',e2⟩:=slot b _ (neL b o e) hb (neC b o e hx) e1 (I.base.free b o e n hx)
  exact ⟨sl',e2⟩
 ·obtain ⟨o',e1⟩:=I.base.there b o e hx
  exact free b o' (neC b o e hx) e1 (I.base.free b o e n hx)
 ·obtain ⟨o',e1⟩:=I.base.there b o e hx
  exact there b o' (neC b o e hx) e1
 ·obtain ⟨m1,e1⟩:=I.base.oz b ps e
  obtain ⟨m2,e2⟩:=oz b _ e1
  exact ⟨m1++m2,by rw [e2,Array.append_assoc]⟩
 ·obtain ⟨m,hn,hl⟩:=I.loc
  refine ⟨m,ns m hn,fun i x v e1 e2 e3 => ?_⟩
  obtain ⟨u,r,l⟩:=hl i x v e1 e2 e3
  refine ⟨u,r,?_⟩
  rcases l with l | ⟨k,c,e,z⟩
  ·exact .inl l
  ·exact .inr ⟨k,c,e,cellK x c e _ z⟩
 ·obtain ⟨v,z⟩:=I.cell x c e
  exact ⟨v,cellK x c e v z⟩
 ·obtain ⟨m,⟨o,_,_,ho,_⟩,_⟩:=I.loc
  exact free _ o (fun z=>(hch _ z).2.1 rfl) ho I.free
 ·obtain ⟨v,o,ho,hd⟩:=I.cell x c e
  exact free c o (fun z=>(hch c z).2.2.1 x c e rfl) ho (I.eG x c e)
 ·obtain ⟨e,n,ne,nf,d⟩:=I.pin p hp
  have nch:p.1 ∉ ch:=fun z=>(hch p.1 z).2.2.2 p hp rfl
  exact ⟨keep p.1 p.2 ne nf nch e n,free p.1 p.2 nch e n,ne,nf,d⟩
theorem Inv.un {t':Nat} (I:Inv X pins σ H s) (u:Un X.fs [] H H' s.heap h') (hok:fW X.prog X.w H' h'):Inv X pins σ H' { s with heap:=h',toks:=t' }:=by
 obtain ⟨m,⟨o,es,ep,ho,r⟩,_⟩:=id I.loc
 obtain ⟨sl,hL⟩:=u.any ho I.free (by simp)
 exact I.step (g':=s.gens) (d':=s.drawn) (ch:=[]) (fun _ z=>nomatch z) (fun b o _ hb _ e n=>u.keep b o e n hb (by simp)) (fun b o _ hb _ e n=>u.slot b o e n hb (by simp)) (fun b o _ e n=>u.free b o e n (by simp)) (fun b o _ e=>u.there b o e (by simp)) u.tups u.nG u.oz (fun m' hm=>by
  obtain ⟨o',es',ep',ho',r'⟩:=hm
  rw [ho] at ho';cases ho'
  exact ⟨_,es',ep',hL,r'⟩) hok I.bare
theorem Inv.call {g':Array yax}{t':Nat}{d':Drawn}{ch:List Addr} (I:Inv X pins σ H s) (u:Un (frs X.stack) ch H H' s.heap h') (hok:fW X.prog X.w H' h') (hg:AllBare g')
  (hch:∀ b∈ch,(b∈X.ex∨X.s₀.heap.objs.size≤b)∧b≠X.env.locals∧(∀ x c,X.env.cells.lookup x=some c→c≠b)∧∀ p∈X.pn++pins,p.1≠b) :
  Inv X pins σ H' { s with heap:=h',gens:=g',drawn:=d',toks:=t' }:=by
 obtain ⟨m,⟨o,es,ep,ho,r⟩,_⟩:=id I.loc
 obtain ⟨sl,hL⟩:=u.any ho I.free fun z=>(hch _ z).2.1 rfl
 exact I.step (ch:=ch) hch (fun b o hL hb hc e n=>u.keep b o e n (fun z=>(zcf.mp (I.l7 b z)).elim hL hb) hc) (fun b o _ _ hc e n=>u.any e n hc) (fun b o hc e n=>u.free b o e n hc) (fun b o hc e=>u.there b o e hc) u.tups u.nG u.oz (fun m' hm=>by
  obtain ⟨o',es',ep',ho',r'⟩:=hm
  rw [ho] at ho';cases ho'
  exact ⟨_,es',ep',hL,r'⟩) hok hg
theorem Inv.turned {t':Nat}{it:Addr} (I:Inv X pins σ H s) (k:∀ b o,b≠it→s.heap.get? b=some o→h'.get? b=some o) (hn:H it=none) (hL:it≠X.env.locals)
  (h1:it∈X.ex∨X.s₀.heap.objs.size≤it) (h2:∀ x c,X.env.cells.lookup x=some c→c≠it) (h3:∀ p∈X.pn++pins,p.1≠it):Inv X pins σ H { s with heap:=h',toks:=t' }:=by
 have nit:∀ b u,H b=some u→b≠it:=fun b u e z=>by rw [z,hn] at e;cases e
 refine I.step (g':=s.gens) (d':=s.drawn) (ch:=[it]) (fun b hb => ?_) (fun b o _ _ hc e _=>k b o (fun z=>hc (by simp [z])) e) (fun b o _ _ hc e _=>⟨o.slots,k b o (fun z=>hc (by simp [z])) e⟩) (fun _ _ _ _ n=>n)
  (fun b o hc e=>⟨o,k b o (fun z=>hc (by simp [z])) e⟩) (fun _ _ e=>e) (fun _ _ _ e=>e) (fun b ps e=>⟨#[],by rw [e];simp⟩) (fun m hm => ?_) (fun b u e => ?_) I.bare
 ·have e:b=it:=by simpa using hb
  subst e
  exact ⟨h1,hL,h2,h3⟩
 ·obtain ⟨o,es,ep,ho,r⟩:=hm
  exact ⟨o,es,ep,k _ o (Ne.symm hL) ho,r⟩
 ·refine (I.hok b u e).stay (fun c v hc q=>k c v ?_ q) (fun _ q=>q) fun _ _ q=>q
  rcases hc with z | z
  ·rw [z];exact nit b u e
  ·exact nit c _ z
theorem Inv.tok (I:Inv X pins σ H s) (t:Nat):Inv X pins σ H { s with toks:=t }:=I.un (h':=s.heap) (t':=t) Un.refl I.hok
theorem Inv.kept {t':Nat} (I:Inv X pins σ H s) (k:∀ b u,s.heap.get? b=some u→h'.get? b=some u):Inv X pins σ H { s with heap:=h',toks:=t' }:=I.un (Un.kept k) (I.hok.kept k)
theorem Inv.laid {a:Addr}{o:HO}{t':Nat} (I:Inv X pins σ H s) (k:∀ b u,s.heap.get? b=some u→h'.get? b=some u) (hp:s.heap.objs.size≤a) (new:aW X.prog X.w (upd H a o) h' a o) :
  Inv X pins σ (upd H a o) { s with heap:=h',toks:=t' }:=I.un (Un.laid k hp (I.hok.fresh hp)) (I.hok.laid k hp new)
theorem Inv.write {x e:Addr}{o:HO}{t':Nat} (I:Inv X pins σ H s) (mu:KY (H x)) (he:e=x∨H e=some (.own x)) (k:∀ b u,b≠e→s.heap.get? b=some u→h'.get? b=some u) (heo:∃ u,h'.get? e=some u)
  (new:aW X.prog X.w (upd H x o) h' x o):Inv X pins σ (upd H x o) { s with heap:=h',toks:=t' }:=I.un (Un.write mu he k heo) (I.hok.write mu he k heo new)
theorem Inv.weak {σ':List (Option V)} (I:Inv X pins σ H s) (hl:σ'.length=σ.length) (w:∀ (i:Nat) v,σ'[i]? = some (some v)→σ[i]? = some (some v)):Inv X pins σ' H s :=
 ⟨I.ok,I.os,I.bare,I.base,let ⟨m,hn,hl'⟩:=I.loc;⟨m,hn,fun i x v e1 e2 e3=>hl' i x v e1 (w i v e2) e3⟩,I.cell,I.free,I.eG,I.pin,I.hok,hl.trans I.len⟩
theorem Inv.jz {pins':List (Addr×Obj)} (I:Inv X pins σ H s) (h:∀ p∈pins',s.heap.get? p.1=some p.2∧H p.1=none∧p.1≠X.env.locals∧p.1 ∉ X.fs∧∀ v,p.2.data ≠ .cell v):Inv X pins' σ H s :=
 ⟨I.ok,I.os,I.bare,I.base,I.loc,I.cell,I.free,I.eG,fun p hp=>(zbM.mp hp).elim (fun z=>I.pin p (zaD _ z)) (h p),I.hok,I.len⟩
theorem m9 {N:List Str} (hN:N.Nodup) {i j:Nat}{x:Str} (a:N[i]? = some x) (b:N[j]? = some x):i=j:=by
 obtain ⟨h1,e1⟩:=zaf.mp a
 obtain ⟨h2,e2⟩:=zaf.mp b
 exact (List.getElem_inj hN).mp (e1.trans e2.symm)
theorem yS {M:Model}{A:yam}{E:yaj→yai→Prop}{i:Nat}{x:Str}{v:V}{u:yaj}{Q:Unit→yai→Prop} (I:Inv X pins σ H s) (hN:X.N.Nodup) (hi:X.N[i]? = some x) (hx:Loc X.env.scope x) (r:RelV v u)
  (h:∀ s',Inv X pins (σ.set i (some v)) H s'→(∃ a,Heap.SameBut a s.heap s'.heap∧(a=X.env.locals∨X.env.cells.lookup x=some a))→Q () s') (hf:X.fn x=true∨X.env.scope.names.lookup x=some .local:=by first | exact .inl rfl | exact .inr rfl | assumption):yas M A (storeName X.env x u) Q E s:=by
 obtain ⟨m,hn,hl⟩:=id I.loc
 have hcls:(X.env.scope.kind == .class||(X.env.scope.kind == .module&&X.env.locals != X.env.globals))=false:=by rw [I.ok.kind];rfl
 have hiσ:i<σ.length:=by rw [I.len];exact (zaf.mp hi).1
 have Gk:=I.Gk
 have tracked:∀ {a:Addr}{h':Heap},(∃ o,s.heap.get? a=some o∧H a=none)→Heap.SameBut a s.heap h'→fW X.prog X.w H h':=fun {a h'} ha hs b ob e=>by
  obtain ⟨_,_,hfree⟩:=ha
  refine (I.hok b ob e).stay (fun c w' hc q=>(hs.2 c ?_).trans q) (fun _ q=>q) fun _ _ q=>q
  rintro rfl
  rcases hc with rfl | hc
  ·rw [hfree] at e;cases e
  ·rw [hfree] at hc;cases hc
 rcases hx with hk | hk
 ·refine wpAny_storeName_local hk hn (fun h' hn' hs => ?_) hcls
  obtain ⟨oL,_,_,hoL,_⟩:=id hn
  refine h _ ⟨I.ok,I.os,I.bare,⟨fun b o e n hb hx => ?_,fun b o e n hb hx => ?_,I.base.free,fun b o e hx => ?_,I.base.tups,I.base.nG,I.base.oz⟩,⟨_,hn',fun j y v' e1 e2 e3 => ?_⟩,fun y c e => ?_,I.free,I.eG,fun p hp => ?_,tracked ⟨oL,hoL,I.free⟩ hs,by simpa using I.len⟩ ⟨_,hs,.inl rfl⟩
  ·exact (hs.2 b (zcr (zaZ (zcA e) I.ok.above))).trans (I.base.keep b o e n hb hx)
  ·obtain ⟨sl,e1⟩:=I.base.slot b o e n hb hx
   exact ⟨sl,(hs.2 b (zcr (zaZ (zcA e) I.ok.above))).trans e1⟩
  ·obtain ⟨o',e1⟩:=I.base.there b o e hx
   exact ⟨o',(hs.2 b (zcr (zaZ (zcA e) I.ok.above))).trans e1⟩
  ·by_cases hj:j=i
   ·subst hj
    rw [hi] at e1;cases e1
    rw [List.getElem?_set_self hiσ] at e2
    cases e2
    exact ⟨u,r,.inl ⟨hk,by simp⟩⟩
   ·rw [zaE (Ne.symm hj)] at e2
    obtain ⟨u',r',q⟩:=hl j y v' e1 e2 e3
    refine ⟨u',r',?_⟩
    rcases q with ⟨k,e⟩ | ⟨k,c,e,z⟩
    ·refine .inl ⟨k,?_⟩
     have:y≠x:=fun e=>hj (m9 hN e1 (e ▸ hi))
     simp [this,e]
    ·exact .inr ⟨k,c,e,z.sameBut hs (Gk y c e)⟩
  ·obtain ⟨w',z⟩:=I.cell y c e
   exact ⟨w',z.sameBut hs (Gk y c e)⟩
  ·obtain ⟨e,n,ne,nf,d⟩:=I.pin p hp
   exact ⟨(hs.2 p.1 ne).trans e,n,ne,nf,d⟩
 ·have hfn:X.fn x=true:=by
   rcases hf with z | z
   ·exact z
   ·rw [z] at hk;cases hk
  obtain ⟨c,hc⟩:=I.ok.has x (.inl hk)
  obtain ⟨w',z⟩:=I.cell x c hc
  refine wpAny_storeName_cell I.ok.kind hk hc z (fun h' hc' hs => ?_)
  obtain ⟨oc,hoc,hocd⟩:=id z
  refine h { s with heap:=h' } ⟨I.ok,I.os,I.bare,⟨fun b o e n hb hx => ?_,fun b o e n hb hx => ?_,I.base.free,fun b o e hx => ?_,I.base.tups,I.base.nG,I.base.oz⟩,⟨m,hn.sameBut hs (Ne.symm (Gk x c hc)),fun j y v' e1 e2 e3 => ?_⟩,fun y c' e => ?_,I.free,I.eG,fun p hp => ?_,tracked ⟨oc,hoc,I.eG x c hc⟩ hs,by simpa using I.len⟩ ⟨c,hs,.inr hc⟩
  ·exact (hs.2 b (zcr (zaZ (zcA e) (I.ok.K9 x c hfn hc)))).trans (I.base.keep b o e n hb hx)
  ·obtain ⟨sl,e1⟩:=I.base.slot b o e n hb hx
   exact ⟨sl,(hs.2 b (zcr (zaZ (zcA e) (I.ok.K9 x c hfn hc)))).trans e1⟩
  ·obtain ⟨o',e1⟩:=I.base.there b o e hx
   exact ⟨o',(hs.2 b (zcr (zaZ (zcA e) (I.ok.K9 x c hfn hc)))).trans e1⟩
  ·by_cases hj:j=i
   ·subst hj
    rw [hi] at e1;cases e1
    rw [List.getElem?_set_self hiσ] at e2
    cases e2
    exact ⟨u,r,.inr ⟨.inl hk,c,hc,hc'⟩⟩
   ·rw [zaE (Ne.symm hj)] at e2
    obtain ⟨u',r',q⟩:=hl j y v' e1 e2 e3
    refine ⟨u',r',?_⟩
    rcases q with q | ⟨k,c',e,z'⟩
    ·exact .inl q
    ·refine .inr ⟨k,c',e,z'.sameBut hs ?_⟩
     rintro rfl
     exact hj (m9 hN e1 (I.ok.inj _ _ _ e hc ▸ hi))
  ·by_cases hcc:c'=c
   ·subst hcc;exact ⟨_,hc'⟩
   ·obtain ⟨w2,z2⟩:=I.cell y c' e
    exact ⟨w2,z2.sameBut hs hcc⟩
  ·obtain ⟨e,n,ne,nf,d⟩:=I.pin p hp
   refine ⟨(hs.2 p.1 ?_).trans e,n,ne,nf,d⟩
   intro q
   rw [q,hoc] at e
   have q':oc=p.2:=zcH.inj e
   exact d w' (by rw [← q'];exact hocd)
theorem gz {M:Model}{A:yam}{E:yaj→yai→Prop}{i:Nat}{x:Str}{v:V}{u:yaj}{Q:Unit→yai→Prop} (I:Inv X pins σ H s) (hN:X.N.Nodup) (hi:X.N[i]? = some x) (hx:Loc X.env.scope x) (r:RelV v u)
  (h:∀ s',Inv X pins (σ.set i (some v)) H s'→Q () s') (hf:X.fn x=true∨X.env.scope.names.lookup x=some .local:=by first | exact .inl rfl | exact .inr rfl | assumption):yas M A (storeName X.env x u) Q E s :=
 yS I hN hi hx r (fun s' I' _=>h s' I') hf
theorem Inv.Dg {s':yai}{ch:List Addr} (I:Inv X pins σ H s) (ho:s'.os=s.os) (u:Un (frs X.stack) ch H H' s.heap s'.heap) (hok:fW X.prog X.w H' s'.heap) (hg:AllBare s'.gens)
  (hch:∀ b∈ch,(b∈X.ex∨X.s₀.heap.objs.size≤b)∧b≠X.env.locals∧(∀ x c,X.env.cells.lookup x=some c→c≠b)∧∀ p∈X.pn++pins,p.1≠b):Inv X pins σ H' s':=by
 obtain ⟨h',g',d',t',o'⟩:=s'
 have e:o'=s.os:=ho
 subst e
 exact I.call (g':=g') (t':=t') (d':=d') u hok hg hch
end
abbrev XK:=yaj→Option Addr→Hp→Prop
abbrev St:=List (Option V)
abbrev VK:=V→Hp→Prop
abbrev TE:=St→Hp→VK→Prop
abbrev TT:=St→Hp→(Bool→Hp→Prop)→Prop
abbrev TA:=St→Hp→(List V→Hp→Prop)→Prop
structure Ends where
 nx:St→Hp→Prop
 rt:VK
 bk:St→Hp→Prop:=fun _ _=>False
 ct:St→Hp→Prop:=fun _ _=>False
abbrev TS:=Ends→St→Hp→Prop
def EP (X:Cx) (pins:List (Addr×Obj)) (σ:St) (Q:VK) (u:yaj) (s':yai):Prop:=∃ v H',Inv X pins σ H' s'∧RelV v u∧Q v H'
def TP (X:Cx) (pins:List (Addr×Obj)) (σ:St) (Q:Bool→Hp→Prop) (b:Bool) (s':yai):Prop:=∃ H',Inv X pins σ H' s'∧Q b H'
def AP (X:Cx) (pins:List (Addr×Obj)) (σ:St) (Q:List V→Hp→Prop) (us:List yaj) (s':yai):Prop:=∃ vs H',Inv X pins σ H' s'∧Vals vs us∧Q vs H'
def SP (X:Cx) (pins:List (Addr×Obj)) (D:Ends) (f:Flow) (s':yai):Prop :=
 match f with
 | .next=>∃ σ' H',Inv X pins σ' H' s'∧D.nx σ' H'
 | .brk=>∃ σ' H',Inv X pins σ' H' s'∧D.bk σ' H'
 | .cont=>∃ σ' H',Inv X pins σ' H' s'∧D.ct σ' H'
 | .ret u=>∃ v σ' H',Inv X pins σ' H' s'∧RelV v u∧D.rt v H'
def PE (X:Cx) (e:Expr) (t:TE):Prop :=
 ∀ (pins:List (Addr×Obj)) (s:yai) (σ:St) (H:Hp) (Q:VK),Inv X pins σ H s→t σ H Q→yas (model X.prog X.w) X.A (eval e X.env) (EP X pins σ Q) X.xe s
def PT (X:Cx) (e:Expr) (t:TT):Prop :=
 ∀ (pins:List (Addr×Obj)) (s:yai) (σ:St) (H:Hp) (Q:Bool→Hp→Prop),Inv X pins σ H s→t σ H Q→yas (model X.prog X.w) X.A (isTrue e X.env (eval e X.env)) (TP X pins σ Q) X.xe s
def PW (X:Cx) (e:Expr) (t:TT):Prop :=
 ∀ (whole:Sem yaj) (pins:List (Addr×Obj)) (s:yai) (σ:St) (H:Hp) (Q:Bool→Hp→Prop),Inv X pins σ H s→t σ H Q→yas (model X.prog X.w) X.A (isTrue e X.env whole) (TP X pins σ Q) X.xe s
theorem PW.pt {X:Cx}{e:Expr}{t:TT} (h:PW X e t):PT X e t:=h _
def PA (X:Cx) (es:List Expr) (t:TA):Prop :=
 ∀ (pos:Pos) (pins:List (Addr×Obj)) (s:yai) (σ:St) (H:Hp) (Q:List V→Hp→Prop),Inv X pins σ H s→t σ H Q→yas (model X.prog X.w) X.A (spliced (yav pos (yap es X.env))) (AP X pins σ Q) X.xe s
def PS (X:Cx) (st:Stmt) (t:TS):Prop :=
 ∀ (pins:List (Addr×Obj)) (s:yai) (σ:St) (H:Hp) (D:Ends),Inv X pins σ H s→t D σ H→yas (model X.prog X.w) X.A (exec st X.env) (SP X pins D) X.xe s
def oO (X:Cx) (st:List Stmt) (t:TS):Prop :=
 ∀ (pins:List (Addr×Obj)) (s:yai) (σ:St) (H:Hp) (D:Ends),Inv X pins σ H s→t D σ H→yas (model X.prog X.w) X.A (execs st X.env) (SP X pins D) X.xe s
theorem bX {α:Type}{t:Sem α}{Q Q':α→yai→Prop}{M:Model}{A:yam}{E:yaj→yai→Prop}{s:yai} (h:yas M A t Q E s) (hQ:∀ a s,Q a s→Q' a s):yas M A t Q' E s:=yac h hQ fun _ _ x=>x
section
variable {X:Cx}
def p9 (i:Nat):TE:=fun σ H Q=>∃ v,σ[i]? = some (some v)∧Q v H
def tC (v:V):TE:=fun _ H Q=>Q v H
theorem BU {i:Nat}{x:Str}{pos:Pos} (hN:X.N[i]? = some x) (hv:ML X.env.scope x) (hd:(x==("__debug__" : Str))=false:=by decide) (hcd:(x==("__classdict__" : Str))=false:=by decide):PE X (.Name x pos) (p9 i):=by
 intro pins s σ H Q I h
 obtain ⟨v,e,h⟩:=h
 obtain ⟨m,hn,hl⟩:=I.loc
 obtain ⟨u,r,l⟩:=hl i x v hN e hv
 have fin:EP X pins σ Q u s:=⟨v,H,I,r,h⟩
 rcases l with ⟨hk,hm⟩ | ⟨hk,c,hc,hcell⟩
 ·exact wpAny_Name (wpAny_loadName_local I.ok.kind hk hn hm fin) hd
 ·rcases hk with hk | hk
  ·exact wpAny_Name (wpAny_loadName_cell I.ok.kind hk hc hcell fin) hd
  ·exact wpAny_Name (wpAny_loadName_free I.ok.kind hk hc hcell fin hcd) hd
theorem aj {i j pos}:PE X (.Constant (.int i) j pos) (tC (.int i)):=fun _ _ _ H _ I h=>wpAny_Constant_int ⟨.int i,H,I.tok _,⟨_,rfl⟩,h⟩
theorem gk {b j pos}:PE X (.Constant (.bool b) j pos) (tC (.bl b)):=fun _ _ _ H _ I h=>Constant_bool ⟨.bl b,H,I,rfl,h⟩
theorem ja {j pos}:PE X (.Constant .none j pos) (tC .bw):=fun _ _ _ H _ I h=>Constant_none ⟨.bw,H,I,rfl,h⟩
theorem ao {x j pos}:PE X (.Constant (.str x) j pos) (tC (.str x)):=fun _ _ _ H _ I h=>Calls.Constant_str ⟨.str x,H,I.tok _,⟨_,rfl⟩,h⟩
def Gl (X:Cx) (x:Str):Prop:=X.env.kindOf x=some .globalImplicit
theorem e7 {E:yaj→yai→Prop}{pins:List (Addr×Obj)}{s:yai}{σ:St}{H:Hp}{x:Str}{u:yaj}{pos:Pos}{Q:yaj→yai→Prop} (I:Inv X pins σ H s) (hg:Gl X x) (hm:X.mg x=some u) (h:Q u s)
  (hd:(x==("__debug__" : Str))=false:=by decide):yas (model X.prog X.w) X.A (eval (.Name x pos) X.env) Q E s :=
 Calls.Name_function_global I.ok.kind hg (Calls.loadGlobal_global (by rw [I.ok.glob];exact I.mod.glob.keeps I.bk) hm h) hd
theorem qJ {E:yaj→yai→Prop}{pins:List (Addr×Obj)}{s:yai}{σ:St}{H:Hp}{x:Str}{u:yaj}{pos:Pos}{Q:yaj→yai→Prop} (I:Inv X pins σ H s) (hg:Gl X x) (hm:X.mg x=none) (hv:bootBuiltins x=some u) (h:Q u s)
  (hn:x ≠ "__name__" := by decide) (hd:(x==("__debug__" : Str))=false:=by decide):yas (model X.prog X.w) X.A (eval (.Name x pos) X.env) Q E s:=by
 obtain ⟨mb,h1,h2⟩:=I.mod.blt
 exact Calls.Name_function_global I.ok.kind hg (Calls.loadGlobal_builtin (by rw [I.ok.glob];exact I.mod.glob.keeps I.bk) hm (by rw [I.ok.blt];exact h1.keeps I.bk) ((h2 x hn).trans hv) h) hd
theorem lJ {x:Str}{v:V}{u:yaj}{pos:Pos} (hg:Gl X x) (hm:X.mg x=some u) (r:RelV v u) (hd:(x==("__debug__" : Str))=false:=by decide):PE X (.Name x pos) (tC v) :=
 fun _ _ _ H _ I h=>e7 I hg hm ⟨v,H,I,r,h⟩ hd
theorem Fb {x:Str}{v:V}{u:yaj}{pos:Pos} (hg:Gl X x) (hm:X.mg x=none) (hv:bootBuiltins x=some u) (r:RelV v u) (hn:x ≠ "__name__" := by decide) (hd:(x==("__debug__" : Str))=false:=by decide):PE X (.Name x pos) (tC v) :=
 fun _ _ _ H _ I h=>qJ I hg hm hv ⟨v,H,I,r,h⟩ hn hd
variable {a b:Expr}{ta tb:TE}{pos:Pos}
def tB (t:TE):TT:=fun σ H Q=>t σ H fun x H1=>∃ c,x = .bl c∧Q c H1
theorem i8 {e:Expr}{t:TE} (h:PE X e t) (he:∀ whole,isTrue e X.env whole=(do let v ← whole;standAt e.pos;holding [v] (truthy v)):=by intro _;rfl):PT X e (tB t):=by
 intro pins s σ H Q I hw
 refine isTrue_plain (bX (h pins s σ H _ I hw) fun v s1 ⟨x,H1,I1,r1,q1⟩ => ?_) (he _)
 obtain ⟨d,rfl,q⟩:=q1
 cases r1
 exact wpAny_truthy_bool ⟨H1,I1,q⟩
variable {tA tB':TT}{rest:List Expr}
def Lj (t u:TT):TT:=fun σ H Q=>t σ H fun c H1=>if c=true then u σ H1 Q else Q false H1
def NF (t u:TT):TT:=fun σ H Q=>t σ H fun c H1=>if c=true then Q true H1 else u σ H1 Q
def Ij (t:TT):TT:=fun σ H Q=>t σ H fun c H1=>Q (!c) H1
theorem pw_and1 (ha:PT X a tA):PW X (.BoolOp .And [a] pos) tA:=by
 intro wh pins s σ H Q I h
 refine isTrue_and (bX (ha pins s σ H Q I h) fun c s1 e => ?_)
 cases c with
 | true=>exact isTrue_and_nil e
 | false=>exact e
theorem pw_or1 (ha:PT X a tA):PW X (.BoolOp .Or [a] pos) tA:=by
 intro wh pins s σ H Q I h
 refine isTrue_or (bX (ha pins s σ H Q I h) fun c s1 e => ?_)
 cases c with
 | false=>exact isTrue_or_nil e
 | true=>exact e
theorem pw_and (ha:PT X a tA) (hb:PW X (.BoolOp .And (b::rest) pos) tB'):PW X (.BoolOp .And (a::b::rest) pos) (Lj tA tB'):=by
 intro wh pins s σ H Q I h
 refine isTrue_and (bX (ha pins s σ H _ I h) fun c s1 ⟨H1,I1,q1⟩ => ?_)
 cases c with
 | true=>exact hb wh pins s1 σ H1 Q I1 q1
 | false=>exact ⟨H1,I1,q1⟩
theorem pw_or (ha:PT X a tA) (hb:PW X (.BoolOp .Or (b::rest) pos) tB'):PW X (.BoolOp .Or (a::b::rest) pos) (NF tA tB'):=by
 intro wh pins s σ H Q I h
 refine isTrue_or (bX (ha pins s σ H _ I h) fun c s1 ⟨H1,I1,q1⟩ => ?_)
 cases c with
 | true=>exact ⟨H1,I1,q1⟩
 | false=>exact hb wh pins s1 σ H1 Q I1 q1
theorem ko (ha:PT X a tA):PT X (.UnaryOp .Not a pos) (Ij tA):=by
 intro pins s σ H Q I h
 exact isTrue_not (ha pins s σ H (fun c H1=>Q (!c) H1) I h)
def G4 (ta tb:TE):TE:=fun σ H Q=>ta σ H fun x H1=>∃ c,x = .bl c∧if c=true then tb σ H1 Q else Q (.bl false) H1
theorem vn {op}{t:TE} (h:PE X a t):PE X (.BoolOp op [a] pos) t:=fun pins s σ H Q I hw=>BoolOp_one (h pins s σ H Q I hw)
theorem vo (ha:PE X a ta) (hb:PE X (.BoolOp .And (b::rest) pos) tb):PE X (.BoolOp .And (a::b::rest) pos) (G4 ta tb):=by
 intro pins s σ H Q I h
 refine BoolOp_and (bX (ha pins s σ H _ I h) fun v s1 ⟨x,H1,I1,r1,q1⟩ => ?_)
 obtain ⟨c,rfl,q1⟩:=q1
 cases r1
 refine wpAny_truthy_bool ?_
 cases c with
 | true=>exact hb pins s1 σ H1 Q I1 q1
 | false=>exact ⟨.bl false,H1,I1,rfl,q1⟩
end
def dm (K:yaM) (H:Hp) (a:Addr) (xs:List V):Prop :=
 Rd H a (.lst xs) ∨
  ∃ (o:Obj) (its:Array yaj) (n:Nat),K.lookup a=some o∧o.cls = .type "list" ∧ o.dict=none∧o.data = .seq its n∧its.size≤yah∧Vals xs its.toList
def dI (K:yaM) (H:Hp) (a:Addr) (xs:List V):Prop :=
 Rd H a (.tup xs) ∨
  ∃ (o:Obj) (its:Array yaj) (n:Nat),K.lookup a=some o∧o.cls = .type "tuple" ∧ o.data = .seq its n∧its.size≤yah∧Vals xs its.toList
noncomputable def OS:yaj→Option V
 | .none=>some .bw
 | .bool b=>some (.bl b)
 | .int i _=>some (.int i)
 | .str x _=>some (.str x)
 | .bytes b _=>some (.uG b)
 | .float b _=>some (.Ng b)
 | .ref a=>some (.ref a)
 | .type n=>some (.ty n)
 | _=>none
theorem RelV.abs {x:V}{u:yaj} (r:RelV x u):OS u=some x:=by
 cases x with
 | bw=>cases r;rfl
 | bl _=>cases r;rfl
 | int _=>obtain ⟨t,rfl⟩:=r;rfl
 | str _=>obtain ⟨t,rfl⟩:=r;rfl
 | uG _=>obtain ⟨t,rfl⟩:=r;rfl
 | Ng _=>obtain ⟨t,rfl⟩:=r;rfl
 | ref _=>cases r;rfl
 | ty _=>cases r;rfl
theorem RelV.inj {x y:V}{u:yaj} (r:RelV x u) (q:RelV y u):x=y:=zcH.inj (r.abs.symm.trans q.abs)
theorem Vals.inj:∀ {xs ys:List V}{us:List yaj},Vals xs us→Vals ys us→xs=ys
 | _,_,_,.nil,.nil=>rfl
 | _,_,_,.cons r t,.cons r' t'=>by rw [r.inj r',Vals.inj t t']
section
variable {X:Cx}{pins:List (Addr×Obj)}{σ:St}{H:Hp}{s:yai}{a:Addr}{xs ys:List V}
theorem dm.of {K:yaM} (h:H a=some (.lst xs)):dm K H a xs:=.inl (.inl h)
theorem dI.of {K:yaM} (h:H a=some (.tup xs)):dI K H a xs:=.inl (.inl h)
theorem Inv.list (I:Inv X pins σ H s) (h:dm X.K H a xs):∃ its:List yaj,Vals xs its∧PlainL s.heap a its.toArray∧xs.length≤yah:=by
 rcases h with h | ⟨o,its,n,hk,hc,hd,hs,hz,r⟩
 ·obtain ⟨z,its,n,r,e⟩:=h.ok I.hok
  exact ⟨its,r,⟨_,n,e,rfl,rfl,rfl⟩,z⟩
 ·refine ⟨its.toList,r,⟨o,n,I.iV a o hk,hc,hd,by simpa using hs⟩,?_⟩
  have e:=r.length
  simp only [zaP] at e
  lia
theorem Inv.tuple (I:Inv X pins σ H s) (h:dI X.K H a xs):∃ its:List yaj,Vals xs its∧IsTup s.heap a its.toArray∧xs.length≤yah:=by
 rcases h with h | ⟨o,its,n,hk,hc,hs,hz,r⟩
 ·obtain ⟨z,its,r,p⟩:=h.ok I.hok
  exact ⟨its,r,p,z⟩
 ·refine ⟨its.toList,r,⟨o,I.iV a o hk,hc,n,by simpa using hs⟩,?_⟩
  have e:=r.length
  simp only [zaP] at e
  lia
theorem Inv.Cj (I:Inv X pins σ H s) (h:dm X.K H a xs) (h':dm X.K H a ys):xs=ys:=by
 obtain ⟨its,r,⟨o,n,e,_,_,d⟩,_⟩:=I.list h
 obtain ⟨its',r',⟨o',n',e',_,_,d'⟩,_⟩:=I.list h'
 rw [e] at e';cases e'
 rw [d] at d'
 injection d' with d1 _
 have:its=its':=by simpa using congrArg Array.toList d1
 subst this
 exact r.inj r'
theorem Inv.yQ (I:Inv X pins σ H s) (h:dI X.K H a xs) (h':dI X.K H a ys):xs=ys:=by
 obtain ⟨its,r,⟨o,e,_,n,d⟩,_⟩:=I.tuple h
 obtain ⟨its',r',⟨o',e',_,n',d'⟩,_⟩:=I.tuple h'
 rw [e] at e';cases e'
 rw [d] at d'
 injection d' with d1 _
 have:its=its':=by simpa using congrArg Array.toList d1
 subst this
 exact r.inj r'
end
noncomputable abbrev Cx.ou (X:Cx) (E:yaj→yai→Prop):Cx:={ X with xe:=E }
noncomputable abbrev Cx.Ed (X:Cx):Cx:=X.ou fun _ _=>False
theorem Cx.Ok.ou {X:Cx} (ok:X.Ok) (E:yaj→yai→Prop):(X.ou E).Ok :=
 ⟨ok.mod,ok.kind,ok.glob,ok.blt,ok.above,ok.inj,ok.has,ok.K9,ok.hd,ok.frames,ok.stk,ok.Ni,ok.bs,ok.Di,ok.zo,ok.CI,ok.jK,ok.FY⟩
theorem Cx.Ok.gv {X:Cx}{E:yaj→yai→Prop} (ok:(X.ou E).Ok):X.Ok :=
 ⟨ok.mod,ok.kind,ok.glob,ok.blt,ok.above,ok.inj,ok.has,ok.K9,ok.hd,ok.frames,ok.stk,ok.Ni,ok.bs,ok.Di,ok.zo,ok.CI,ok.jK,ok.FY⟩
section
variable {X:Cx}{pins:List (Addr×Obj)}{σ:St}{H:Hp}{s:yai}{E:yaj→yai→Prop}
theorem Inv.ou (I:Inv X pins σ H s) (E:yaj→yai→Prop):Inv (X.ou E) pins σ H s:=⟨I.ok.ou E,I.os,I.bare,I.base,I.loc,I.cell,I.free,I.eG,I.pin,I.hok,I.len⟩
theorem Inv.gv (I:Inv (X.ou E) pins σ H s):Inv X pins σ H s:=⟨I.ok.gv,I.os,I.bare,I.base,I.loc,I.cell,I.free,I.eG,I.pin,I.hok,I.len⟩
theorem SP.gv {D:Ends}{f:Flow}{s':yai} (h:SP (X.ou E) pins D f s'):SP X pins D f s':=by
 cases f with
 | next=>obtain ⟨σ',H',I,q⟩:=h;exact ⟨σ',H',I.gv,q⟩
 | brk=>obtain ⟨σ',H',I,q⟩:=h;exact ⟨σ',H',I.gv,q⟩
 | cont=>obtain ⟨σ',H',I,q⟩:=h;exact ⟨σ',H',I.gv,q⟩
 | ret u=>obtain ⟨v,σ',H',I,r,q⟩:=h;exact ⟨v,σ',H',I.gv,r,q⟩
theorem oO.Ed {st:List Stmt}{t:TS} (h:oO X.Ed st t):oO X st t:=fun pins s σ H D I hw =>
 yac (h pins s σ H D (I.ou _) hw) (fun _ _ q=>q.gv) fun _ _ z=>False.elim z
end
section
variable {X:Cx}{st:Stmt}{rest:List Stmt}{t u:TS}{e:Expr}{te:TE}{pos:Pos}
def AF:TS:=fun D σ H=>D.nx σ H
def Eu (t u:TS):TS:=fun D σ H=>t { D with nx:=u D } σ H
theorem aJ:oO X [] AF:=fun _ _ σ H _ I h=>yaI ⟨σ,H,I,h⟩
theorem ah (h1:PS X st t) (h2:oO X rest u):oO X (st::rest) (Eu t u):=by
 intro pins s σ H D I h
 refine yaJ (bX (h1 pins s σ H { D with nx:=u D } I h) fun f s1 q => ?_)
 cases f with
 | next =>
  obtain ⟨σ',H',I',q⟩:=q
  exact h2 pins s1 σ' H' D I' q
 | ret v=>exact q
 | brk=>exact q
 | cont=>exact q
theorem aq (h1:PS X st t):oO X [st] t:=by
 intro pins s σ H D I h
 refine yaJ (bX (h1 pins s σ H D I h) fun f s1 q => ?_)
 cases f with
 | next=>exact yaI q
 | ret v=>exact q
 | brk=>exact q
 | cont=>exact q
theorem Inv.quiet {pins:List (Addr×Obj)}{σ:St}{H:Hp}{s:yai} (I:Inv X pins σ H s):interactive X.env=false:=by simp [interactive,I.ok.kind]
def G2 (te:TE):TS:=fun D σ H=>te σ H fun _ H1=>D.nx σ H1
theorem aR (he:PE X e te) (hs:yau e none pos.line X.env=pure false:=by rfl):PS X (.Expr e pos) (G2 te):=by
 intro pins s σ H D I h
 exact wpAny_Expr_any (bX (he pins s σ H _ I h) fun v s1 ⟨x,H1,I1,r1,q1⟩=>⟨σ,H1,I1,q1⟩) I.quiet hs
def AD (te:TE):TS:=fun D σ H=>te σ H D.rt
theorem aS (he:PE X e te):PS X (.Return (some e) pos) (AD te):=by
 intro pins s σ H D I h
 exact wpAny_Return_some (bX (he pins s σ H _ I h) fun v s1 ⟨x,H1,I1,r1,q1⟩=>⟨x,σ,H1,I1,r1,q1⟩)
def Ip (c:TT) (t u:TS):TS:=fun D σ H=>c σ H fun b H1=>if b=true then t D σ H1 else u D σ H1
theorem bC {c:Expr}{a b:List Stmt}{tc:TT} (hc:PT X c tc) (ha:oO X a t) (hb:oO X b u):PS X (.If c a b pos) (Ip tc t u):=by
 intro pins s σ H D I h
 refine wpAny_If (bX (hc pins s σ H _ I h) fun d s1 ⟨H1,I1,q1⟩ => ?_)
 cases d with
 | true=>exact ha pins s1 σ H1 D I1 q1
 | false=>exact hb pins s1 σ H1 D I1 q1
def Ik:TS:=fun _ _ _=>False
theorem eB:PS X st Ik:=fun _ _ _ _ _ _ h=>h.elim
end
abbrev TG:=V→St→Hp→(St→Hp→Prop)→Prop
abbrev Gz:=List V→St→Hp→(St→Hp→Prop)→Prop
def PG (X:Cx) (target:Expr) (t:TG):Prop :=
 ∀ (pins:List (Addr×Obj)) (s:yai) (σ:St) (H:Hp) (v:V) (u:yaj) (Q:St→Hp→Prop),Inv X pins σ H s→RelV v u→t v σ H Q →
  yas (model X.prog X.w) X.A (assign target X.env u) (fun _ s'=>∃ σ' H',Inv X pins σ' H' s'∧Q σ' H') X.xe s
def KS (X:Cx) (ts:List Expr) (t:Gz):Prop :=
 ∀ (pins:List (Addr×Obj)) (s:yai) (σ:St) (H:Hp) (vs:List V) (us:List yaj) (Q:St→Hp→Prop),Inv X pins σ H s→Vals vs us→t vs σ H Q →
  yas (model X.prog X.w) X.A (assignInOrder ((assignEach ts X.env).map (·.2)) us) (fun _ s'=>∃ σ' H',Inv X pins σ' H' s'∧Q σ' H') X.xe s
section
variable {X:Cx}{pos:Pos}
def pH (i:Nat):TG:=fun v σ H Q=>Q (σ.set i (some v)) H
theorem aN {i:Nat}{x:Str} (hN:X.N.Nodup) (hi:X.N[i]? = some x) (hx:Loc X.env.scope x) (hf:X.fn x=true∨X.env.scope.names.lookup x=some .local:=by first | exact .inl rfl | exact .inr rfl | assumption):PG X (.Name x pos) (pH i):=by
 intro pins s σ H v u Q I r h
 exact wpAny_assign_Name (gz I hN hi hx r (fun s' I'=>⟨_,H,I',h⟩) hf)
def Mi:Gz:=fun vs σ H Q=>vs=[]∧Q σ H
def HB (t:TG) (u:Gz):Gz:=fun vs σ H Q=>∃ v r,vs=v::r∧t v σ H fun σ' H'=>u r σ' H' Q
theorem dB:KS X [] Mi:=by
 intro pins s σ H vs us Q I r h
 obtain ⟨e,h⟩:=h
 subst e
 cases r
 exact assignInOrder_nil ⟨σ,H,I,h⟩
theorem aY {e:Expr}{es:List Expr}{t:TG}{u:Gz} (h1:PG X e t) (h2:KS X es u)
  (hs:(assignEach (e::es) X.env).map (·.2)=assign e X.env::(assignEach es X.env).map (·.2):=by rfl):KS X (e::es) (HB t u):=by
 intro pins s σ H vs us Q I r h
 obtain ⟨v,vr,e1,h⟩:=h
 subst e1
 cases r with
 | cons r rr =>
  rw [hs]
  refine assignInOrder_cons (bX (h1 pins s σ H _ _ _ I r h) fun _ s1 ⟨σ1,H1,I1,q1⟩ => ?_)
  exact h2 pins s1 σ1 H1 _ _ Q I1 rr q1
def Mh (K:yaM) (n:Nat) (t:Gz):TG:=fun v σ H Q=>∃ a xs,v = .ref a∧dI K H a xs∧xs.length=n∧t xs σ H Q
theorem fE {es:List Expr}{k:Nat}{t:Gz}{n:Nat} (hc:X.calm=true) (h:KS X es t)
  (hn:(assignEach es X.env).length=n:=by rfl) (hst:(assignEach es X.env).findIdx? (·.1)=none:=by rfl):PG X (.Tuple es k pos) (Mh X.K n t):=by
 intro pins s σ H v u Q I r hw
 obtain ⟨a,xs,e1,hq,hl,hw⟩:=hw
 subst e1
 cases r
 obtain ⟨its,rv,ht,hz⟩:=I.tuple hq
 refine assign_Tuple_tuple (I.ok.hd hc) ht (by simp [hn,← hl,rv.length]) hst fun h' hx => ?_
 have I1:Inv X pins σ H { s with heap:=h' }:=I.kept (t':=s.toks) fun b o e=>hx b o (zcr (zcA e)) e
 exact h pins _ σ H xs _ Q I1 (by simpa using rv) hw
def yR (te:TE) (g:TG):TS:=fun D σ H=>te σ H fun x H1=>g x σ H1 D.nx
theorem mP {tg e:Expr}{te:TE}{g:TG} (he:PE X e te) (hg:PG X tg g) (hs:swapsWithSole [tg] e pos.line X.env=pure false:=by rfl) (hw:swappedStores [tg] e X.env=pure none:=by rfl)
  (h1:(assignEach [tg] X.env).map (·.2)=[assign tg X.env]:=by rfl):PS X (.Assign [tg] e pos) (yR te g):=by
 intro pins s σ H D I h
 refine wpAny_Assign_stores (bX (he pins s σ H _ I h) fun v s1 ⟨x,H1,I1,r1,q1⟩ => ?_) hs hw
 rw [h1]
 exact bX (hg pins s1 σ H1 x v _ I1 r1 q1) fun _ s2 q=>q
theorem aH {i:Nat}{x:Str}{e:Expr}{te:TE}{pos':Pos} (hN:X.N.Nodup) (hi:X.N[i]? = some x) (hx:Loc X.env.scope x) (he:PE X e te) (hs:yau e (some (.Name x pos')) pos.line X.env=pure false:=by rfl) (hf:X.fn x=true∨X.env.scope.names.lookup x=some .local:=by first | exact .inl rfl | exact .inr rfl | assumption) :
  PS X (.Assign [.Name x pos'] e pos) (yR te (pH i)):=by
 intro pins s σ H D I h
 refine wpAny_Assign_Name (bX (he pins s σ H _ I h) fun v s1 ⟨y,H1,I1,r1,q1⟩ => ?_) hs
 exact gz I1 hN hi hx r1 (fun s2 I2=>⟨_,H1,I2,q1⟩) hf
end
structure It where
 go:Nat→Hp→Prop
 Au:Nat→Hp→V→Hp→Prop
 stop:Nat→Hp→Prop
def lC (X:Cx) (pins:List (Addr×Obj)) (H:Hp) (b:Addr):Prop :=
 H b=none∧b≠X.env.locals∧b ∉ X.fs∧(b∈X.ex∨X.s₀.heap.objs.size≤b)∧(∀ x c,X.env.cells.lookup x=some c→c≠b)∧∀ p∈X.pn++pins,p.1≠b
theorem Inv.zM {X:Cx}{pins:List (Addr×Obj)}{σ:St}{H H':Hp}{s:yai}{b:Addr} (I:Inv X pins σ H s) (hb:s.heap.objs.size≤b) (hn:H' b=none):lC X pins H' b:=by
 refine ⟨hn,zct (zaZ I.lt hb),I.LS hb,.inr (zcs I.sz hb),fun x c e z => ?_,fun p hp z => ?_⟩
 ·obtain ⟨v,q⟩:=I.cell x c e
  exact absurd (zaZ q.lt (by rw [z];exact hb)) (zcj _)
 ·exact absurd (zaZ (zcA (I.pin p hp).1) (by rw [z];exact hb)) (zcj _)
structure Turn (P:yak) (w:yal) (K:yaM) (tg:Expr) (J:It) (fp:List Addr) (it:Addr) (tn:Nat→Heap→Prop):Prop where
 mem:it∈fp
 obj:∀ i h,tn i h→∀ b∈fp,∃ o,h.get? b=some o∧∀ v,o.data ≠ .cell v
 keep:∀ i h h',tn i h→(∀ b∈fp,∀ o,h.get? b=some o→h'.get? b=some o)→tn i h'
 item:∀ (X:Cx),X.prog=P→X.w=w→X.K=K→X.calm=true→∀ (i:Nat) (pins:List (Addr×Obj)) (s:yai) (σ:St) (H:Hp) (E:yaj→yai→Prop),Inv X pins σ H s→(∀ b∈fp,lC X pins H b)→tn i s.heap→J.go i H →
  yas (model P w) X.A (pyNext (.ref it)) (fun r s1=>∃ u,r=some u ∧
   yas (model P w) X.A (letOwnedTupleGo tg (.ref it) u) (fun _ s2=>∃ x H',Inv X pins σ H' s2∧RelV x u∧J.Au i H x H'∧tn (i+1) s2.heap∧∀ b∈fp,H' b=none) E s1) E s
 done:∀ (X:Cx),X.prog=P→X.w=w→X.K=K→X.calm=true→∀ (i:Nat) (pins:List (Addr×Obj)) (s:yai) (σ:St) (H:Hp) (E:yaj→yai→Prop),Inv X pins σ H s→(∀ b∈fp,lC X pins H b)→tn i s.heap→J.stop i H →
  yas (model P w) X.A (pyNext (.ref it)) (fun r s1=>r=none∧Inv X pins σ H s1) E s
 self:∀ (A:yam) (i:Nat) (s:yai) (Q:yaj→yai→Prop) (E:yaj→yai→Prop),tn i s.heap→Q (.ref it) s→yas (model P w) A (pyIter (.ref it)) Q E s
abbrev TI:=St→Hp→(It→Hp→Prop)→Prop
def Pn (X:Cx) (pins:List (Addr×Obj)) (σ:St) (tg:Expr) (R:It→Hp→Prop) (itv:yaj) (s2:yai):Prop :=
 ∃ (it:Addr) (fp:List Addr) (tn:Nat→Heap→Prop) (J:It) (H':Hp),itv = .ref it∧Inv X pins σ H' s2∧Turn X.prog X.w X.K tg J fp it tn∧tn 0 s2.heap∧(∀ b∈fp,lC X pins H' b)∧R J H'
def PI (X:Cx) (tg iter:Expr) (wi:TI):Prop :=
 ∀ (pins:List (Addr×Obj)) (s:yai) (σ:St) (H:Hp) (R:It→Hp→Prop),Inv X pins σ H s→wi σ H R →
  yas (model X.prog X.w) X.A (eval iter X.env) (fun v s1=>yas (model X.prog X.w) X.A (pyIter v) (Pn X pins σ tg R) X.xe s1) X.xe s
theorem yb {M:Model}{A:yam}{E:yaj→yai→Prop}{s:yai}{tg:Expr}{it:Addr}{u:yaj}{o:Obj}{n:String}{vs:Array yaj}{Q:Unit→yai→Prop} (ho:s.heap.get? it=some o) (hc:o.cls = .type n) (hd:o.data = .fields vs)
  (hn:["enumerate","zip","dict_itemiterator","dict_reverseitemiterator","odict_iterator","itertools.zip_longest","itertools.pairwise"].contains n=false) (hQ:Q () s):yas M A (letOwnedTupleGo tg (.ref it) u) Q E s:=by
 unfold letOwnedTupleGo
 cases tg <;> first
  | exact yab hQ
  | (cases u <;> first
    | exact yab hQ
    | (refine yaa (wpAny_load ho ?_);rw [hc,hd];show yas M A (if (["enumerate","zip","dict_itemiterator","dict_reverseitemiterator","odict_iterator","itertools.zip_longest","itertools.pairwise"].contains n&&vs[0]? == some (rawInt _))=true then _ else _) Q E s;rw [yIn (by intro h;rw [hn,Bool.false_and] at h;cases h)];exact yab hQ))
noncomputable def MQ (K:yaM) (a:Addr):It :=
 ⟨fun i H=>∃ xs x,dm K H a xs∧xs[i]? = some x,fun i H x H'=>H'=H∧∀ xs,dm K H a xs→xs[i]? = some x,fun i H=>∃ xs,dm K H a xs∧xs.length≤i⟩
noncomputable def Nr (K:yaM) (a:Addr):It :=
 ⟨fun i H=>∃ xs x,dI K H a xs∧xs[i]? = some x,fun i H x H'=>H'=H∧∀ xs,dI K H a xs→xs[i]? = some x,fun i H=>∃ xs,dI K H a xs∧xs.length≤i⟩
noncomputable def O3 (lo:Int) (n:Nat):It:=⟨fun i _=>i<n,fun i H x H'=>H'=H∧x = .int (lo+i),fun i _=>n≤i⟩
theorem yP {P:yak}{w:yal}{K:yaM}{tg:Expr} (a it:Addr):Turn P w K tg (MQ K a) [it] it (fun i h=>h.IsListIter it a i) where
 mem:=by simp
 obj:=fun i h st b hb=>by
  have e:b=it:=by simpa using hb
  subst e
  obtain ⟨o,e,c,d⟩:=st
  exact ⟨o,e,fun v z=>by rw [d] at z;cases z⟩
 keep:=fun i h h' st k=>st.at fun o e=>k it (by simp) o e
 item:=by
  intro X hP hw hK hc i pins s σ H E I hf st hg
  subst hP hw hK
  obtain ⟨xs,x,hq,hx⟩:=hg
  obtain ⟨its,rv,p,hz⟩:=I.list hq
  obtain ⟨u,hu,ru⟩:=rv.get hx
  obtain ⟨f0,f1,f2,f3,f4,f5⟩:=hf it (by simp)
  refine wpAny_pyNext_list_item st p.isList (x:=u) (by simpa using hu) fun h' st' sb => ?_
  have I1:Inv X pins σ H { s with heap:=h' }:=I.turned (t':=s.toks) (fun b o hb e=>(sb.2 b hb).trans e) f0 f1 f3 f4 f5
  obtain ⟨o,e,c,d⟩:=id st'
  exact ⟨u,rfl,yb (s:={ s with heap:=h' }) e c d (by decide) ⟨x,H,I1,ru,⟨rfl,fun ys hy=>by rw [I.Cj hy hq];exact hx⟩,st',fun b hb=>(hf b hb).1⟩⟩
 done:=by
  intro X hP hw hK hc i pins s σ H E I hf st hg
  subst hP hw hK
  obtain ⟨xs,hq,hx⟩:=hg
  obtain ⟨its,rv,p,hz⟩:=I.list hq
  obtain ⟨f0,f1,f2,f3,f4,f5⟩:=hf it (by simp)
  have hl:=rv.length
  exact wpAny_pyNext_list_end (I.ok.hd hc) st p.isList (by simp;lia) fun h' eb=>⟨rfl,I.turned (t':=s.toks) (fun b o hb e=>eb b o hb e) f0 f1 f3 f4 f5⟩
 self:=fun _ _ _ _ _ st h=>wpAny_pyIter_listiter st h
theorem uJ {P:yak}{w:yal}{K:yaM}{tg:Expr} (a it:Addr):Turn P w K tg (Nr K a) [it] it (fun i h=>h.IsTupleIter it a i) where
 mem:=by simp
 obj:=fun i h st b hb=>by
  have e:b=it:=by simpa using hb
  subst e
  obtain ⟨o,e,c,d⟩:=st
  exact ⟨o,e,fun v z=>by rw [d] at z;cases z⟩
 keep:=fun i h h' st k=>st.at fun o e=>k it (by simp) o e
 item:=by
  intro X hP hw hK hc i pins s σ H E I hf st hg
  subst hP hw hK
  obtain ⟨xs,x,hq,hx⟩:=hg
  obtain ⟨its,rv,p,hz⟩:=I.tuple hq
  obtain ⟨u,hu,ru⟩:=rv.get hx
  obtain ⟨f0,f1,f2,f3,f4,f5⟩:=hf it (by simp)
  refine wpAny_pyNext_tuple_item st (show s.heap.IsTuple a its.toArray from p) (x:=u) (by simpa using hu) fun h' st' sb => ?_
  have I1:Inv X pins σ H { s with heap:=h' }:=I.turned (t':=s.toks) (fun b o hb e=>(sb.2 b hb).trans e) f0 f1 f3 f4 f5
  obtain ⟨o,e,c,d⟩:=id st'
  exact ⟨u,rfl,yb (s:={ s with heap:=h' }) e c d (by decide) ⟨x,H,I1,ru,⟨rfl,fun ys hy=>by rw [I.yQ hy hq];exact hx⟩,st',fun b hb=>(hf b hb).1⟩⟩
 done:=by
  intro X hP hw hK hc i pins s σ H E I hf st hg
  subst hP hw hK
  obtain ⟨xs,hq,hx⟩:=hg
  obtain ⟨its,rv,p,hz⟩:=I.tuple hq
  obtain ⟨f0,f1,f2,f3,f4,f5⟩:=hf it (by simp)
  have hl:=rv.length
  exact wpAny_pyNext_tuple_end (I.ok.hd hc) st (show s.heap.IsTuple a its.toArray from p) (by simp;lia) fun h' eb=>⟨rfl,I.turned (t':=s.toks) (fun b o hb e=>eb b o hb e) f0 f1 f3 f4 f5⟩
 self:=fun _ _ _ _ _ st h=>wpAny_pyIter_tupleiter st h
theorem uK {P:yak}{w:yal}{K:yaM}{tg:Expr} (it:Addr) (lo:Int) (n:Nat):Turn P w K tg (O3 lo n) [it] it (fun i h=>IsRangeIter h it (lo+(i:Nat)*1) ((n:Int) - (i:Nat)) 1) where
 mem:=by simp
 obj:=fun i h st b hb=>by
  have e:b=it:=by simpa using hb
  subst e
  exact ⟨_,st,fun v z=>by
   have z':Data.fields _=Data.cell v:=z
   cases z'⟩
 keep:=fun i h h' st k=>k it (by simp) _ st
 item:=by
  intro X hP hw hK hc i pins s σ H E I hf st hg
  subst hP hw hK
  obtain ⟨f0,f1,f2,f3,f4,f5⟩:=hf it (by simp)
  have W:=Walks.range (prog:=X.prog) (w:=X.w) (I.ok.hd hc) it lo 1 n
  refine W.item i s _ _ hg st fun v h' tk hv st' kk => ?_
  obtain ⟨t,rfl⟩:=hv
  have I1:Inv X pins σ H { s with heap:=h',toks:=tk }:=I.turned (fun b o hb e=>kk b o (by simpa using hb) e) f0 f1 f3 f4 f5
  refine ⟨_,rfl,yb (s:={ s with heap:=h',toks:=tk }) (n := "range_iterator") st' rfl rfl (by decide) ⟨.int (lo+i),H,I1,⟨t,?_⟩,⟨rfl,rfl⟩,st',fun b hb=>(hf b hb).1⟩⟩
  rw [Int.mul_one]
 done:=by
  intro X hP hw hK hc i pins s σ H E I hf st hg
  subst hP hw hK
  obtain ⟨f0,f1,f2,f3,f4,f5⟩:=hf it (by simp)
  exact wpAny_pyNext_range_end (I.ok.hd hc) st (by have:n≤i:=hg;lia) fun h' eb=>⟨rfl,I.turned (t':=s.toks) (fun b o hb e=>eb b o hb e) f0 f1 f3 f4 f5⟩
 self:=fun _ _ _ _ _ st h=>wpAny_pyIter_rangeiter st h
section
variable {X:Cx}{tg:Expr}
theorem BK {pins:List (Addr×Obj)}{σ:St}{H:Hp}{s:yai}{R:It→Hp→Prop}{E:yaj→yai→Prop}{lo hi:Int}{t u v:Tok}{tk:Nat} (I:Inv X pins σ H s) (h1 : -(2 ^ 62)≤lo) (h2:lo<2 ^ 62) (h3 : -(2 ^ 62)≤hi) (h4:hi<2 ^ 62)
  (q:R (O3 lo (hi - lo).toNat) H):yas (model X.prog X.w) X.A (pyIter (.ref s.heap.objs.size)) (Pn X pins σ tg R) E { s with heap:=s.heap.push { cls:=.type "range",data:=.fields #[.int lo t,.int hi u,.int 1 v] },toks:=tk }:=by
 refine wpAny_pyIter_range (IsRange.new ..) (small_one h1 h2 h3 h4) ?_
 have I1:Inv X pins σ H { s with heap:=s.heap.push { cls:=.type "range",data:=.fields #[.int lo t,.int hi u,.int 1 v] },toks:=tk }:=I.kept fun b o e=>zar _ e
 refine ⟨(s.heap.push { cls:=.type "range",data:=.fields #[.int lo t,.int hi u,.int 1 v] }).objs.size,[(s.heap.push { cls:=.type "range",data:=.fields #[.int lo t,.int hi u,.int 1 v] }).objs.size],_,_,H,rfl,
  I1.kept (t':=tk) fun b o e=>zar _ e,uK _ lo (hi - lo).toNat,?_,fun b hb => ?_,q⟩
 ·have e1:lo+((0:Nat):Int)*1=lo:=by simp
  have e2:(((hi - lo).toNat:Nat):Int) - ((0:Nat):Int)=Builtin.Range.rangeSize lo hi 1:=by rw [rangeSize_one];split <;> lia
  show IsRangeIter _ _ (lo+((0:Nat):Int)*1) ((((hi - lo).toNat:Nat):Int) - ((0:Nat):Int)) 1
  rw [e1,e2]
  exact zaR _ rfl
 ·have e:b=(s.heap.push { cls:=.type "range",data:=.fields #[.int lo t,.int hi u,.int 1 v] }).objs.size:=by simpa using hb
  subst e
  exact I1.zM (zcE _) (I1.hok.fresh (zcE _))
def HA (ta:TA):TI:=fun σ H R=>ta σ H fun vs H1=>∃ j:Int,vs=[.int j] ∧ -(2 ^ 62)≤j∧j<2 ^ 62∧R (O3 0 j.toNat) H1
theorem bZ {a:Expr}{ta:TA}{p pos:Pos} (hg:Gl X "range") (hm:X.mg "range" = none) (ha:PA X [a] ta) (hs:yap [a] X.env=[(false,eval a X.env)]:=by rfl):PI X tg (.Call (.Name "range" p) [a] [] pos) (HA ta):=by
 intro pins s σ H R I h
 refine Call_ (qJ I hg hm boot_range (PyProof.Rows.callWith_type1 (bX (ha pos pins s σ H _ I h) fun us s1 ⟨vs,H1,I1,r1,q1⟩ => ?_) hs rfl))
 obtain ⟨j,e,q1,q2,q⟩:=q1
 subst e
 cases r1 with
 | cons r rr =>
  cases rr
  obtain ⟨t,rfl⟩:=r
  exact call_range_1 (BK I1 (by lia) (by lia) q1 q2 (by simpa using q))
def Li (wi:TI) (g:TG) (tb:TS):TS:=fun D σ H=>wi σ H fun J H1=>∃ W:Nat→Nat→St→Hp→Prop,(∃ m,W 0 m σ H1)∧∀ i m σ H,W i m σ H →
 (J.stop i H∧D.nx σ H)∨(J.go i H∧∃ N:St→Hp→Prop,(∀ σ' H',N σ' H'→∃ m',m'<m∧W (i+1) m' σ' H')∧∀ x H',J.Au i H x H'→g x σ H' fun σ2 H2=>tb { D with nx:=N,ct:=N,bk:=D.nx } σ2 H2)
noncomputable def mR (fp:List Addr) (h:Heap):List (Addr×Obj):=fp.filterMap fun b=>(h.get? b).map fun o=>(b,o)
theorem gg {fp:List Addr}{h:Heap}{b:Addr}{o:Obj} (hb:b∈fp) (e:h.get? b=some o):(b,o)∈mR fp h:=List.mem_filterMap.mpr ⟨b,hb,by rw [e];rfl⟩
theorem zk {fp:List Addr}{h:Heap}{p:Addr×Obj} (hp:p∈mR fp h):p.1∈fp∧h.get? p.1=some p.2:=by
 obtain ⟨b,hb,e⟩:=List.mem_filterMap.mp hp
 cases q:h.get? b with
 | none=>rw [q] at e;cases e
 | some o =>
  rw [q] at e
  have e':(b,o)=p:=zcH.inj e
  subst e'
  exact ⟨hb,q⟩
theorem Inv.pinned {pins:List (Addr×Obj)}{σ:St}{H:Hp}{s:yai}{fp:List Addr} (I:Inv X pins σ H s) (hf:∀ b∈fp,lC X pins H b) (ho:∀ b∈fp,∃ o,s.heap.get? b=some o∧∀ v,o.data ≠ .cell v):Inv X (pins++mR fp s.heap) σ H s :=
 I.jz fun p hp=>(zbM.mp hp).elim (fun z=>I.pin p (zau _ z)) fun z=>by
  obtain ⟨hb,e⟩:=zk z
  obtain ⟨f0,f1,f2,_⟩:=hf p.1 hb
  obtain ⟨o,e',d⟩:=ho p.1 hb
  rw [e] at e';cases e'
  exact ⟨e,f0,f1,f2,d⟩
theorem Inv.gw {pins pl:List (Addr×Obj)}{σ:St}{H:Hp}{s:yai} (I:Inv X (pins++pl) σ H s):Inv X pins σ H s:=I.jz fun p hp=>I.pin p (zau _ (zaD _ hp))
theorem fz {iter:Expr}{body:List Stmt}{wi:TI}{g:TG}{tb:TS}{pos:Pos} (hp:PassesOwn (model X.prog X.w) X.A X.env X.xe) (hc:X.calm=true) (hi:PI X tg iter wi) (hg:PG X tg g) (hb:oO X body tb)
  (hs:∀ x,foldedSetIterable iter X.env x=pure x:=by intro _;rfl):PS X (.For tg iter body [] pos) (Li wi g tb):=by
 intro pins s σ H D I h
 refine wpAny_For (bX (hi pins s σ H _ I h) fun v s1 h1=>bX h1 fun itv s2 h2 => ?_) hs
 obtain ⟨it,fp,tn,J,H2,e,I2,T,st2,f2,W,⟨m0,w0⟩,turn⟩:=h2
 subst e
 have Iq:∀ {H':Hp},(∀ b∈fp,H' b=none)→∀ b∈fp,lC X pins H' b:=fun hn b hb=>⟨hn b hb,(f2 b hb).2⟩
 refine codeAny_forLoop_any (fun n s'=>∃ i σ' H',Inv X pins σ' H' s'∧tn i s'.heap∧(∀ b∈fp,H' b=none)∧W i n σ' H') ?_ m0 ⟨0,σ,H2,I2,st2,fun b hb=>(f2 b hb).1,w0⟩
 rintro n s3 ⟨i,σ3,H3,I3,st3,fr3,w3⟩
 rcases turn i n σ3 H3 w3 with ⟨stop,qn⟩ | ⟨go,N,hN,step⟩
 ·refine wpAny_passesOwn hp (bX (T.done X rfl rfl rfl hc i pins s3 σ3 H3 X.xe I3 (Iq fr3) st3 stop) fun r s4 ⟨hr,I4⟩ => ?_)
  subst hr
  exact yaI ⟨σ3,H3,I4,qn⟩
 ·refine wpAny_passesOwn hp (bX (T.item X rfl rfl rfl hc i pins s3 σ3 H3 X.xe I3 (Iq fr3) st3 go) fun r s4 ⟨u,hr,h4⟩ => ?_)
  subst hr
  refine wpAny_passesOwn hp (bX h4 fun _ s5 ⟨x,H5,I5,r5,y5,st5,fr5⟩ => ?_)
  have I5':=I5.pinned (Iq fr5) (T.obj _ _ st5)
  refine wpAny_passesOwn hp (bX (hg _ s5 σ3 H5 x u _ I5' r5 (step x H5 y5)) fun _ s6 ⟨σ6,H6,I6,q6⟩ => ?_)
  refine wpAny_passesOwn hp (bX (hb _ s6 σ6 H6 _ I6 q6) fun f s7 q7 => ?_)
  have again:∀ {σ7:St}{H7:Hp},Inv X (pins++mR fp s5.heap) σ7 H7 s7→N σ7 H7→∃ m,m<n∧∃ i σ' H',Inv X pins σ' H' s7∧tn i s7.heap∧(∀ b∈fp,H' b=none)∧W i m σ' H':=fun {σ7 H7} I7 n7=>by
   obtain ⟨m',hm,w7⟩:=hN σ7 H7 n7
   refine ⟨m',hm,i+1,σ7,H7,I7.gw,T.keep _ _ _ st5 fun b hb o e=>(I7.pin (b,o) (zau _ (zau _ (gg hb e)))).1,fun b hb => ?_,w7⟩
   obtain ⟨o,e,d⟩:=T.obj _ _ st5 b hb
   exact (I7.pin (b,o) (zau _ (zau _ (gg hb e)))).2.1
  cases f with
  | next=>obtain ⟨σ7,H7,I7,n7⟩:=q7;exact again I7 n7
  | cont=>obtain ⟨σ7,H7,I7,n7⟩:=q7;exact again I7 n7
  | brk=>obtain ⟨σ7,H7,I7,q7⟩:=q7;exact ⟨σ7,H7,I7.gw,q7⟩
  | ret v=>obtain ⟨x7,σ7,H7,I7,r7,q7⟩:=q7;exact ⟨x7,σ7,H7,I7.gw,r7,q7⟩
end
abbrev R2:=V→V→Hp→VK→Prop
def fV (X:Cx) (f:yaj→yaj→Sem yaj) (r:R2):Prop :=
 ∀ (pins:List (Addr×Obj)) (s:yai) (σ:St) (H:Hp) (x y:V) (v u:yaj) (Q:VK),Inv X pins σ H s→RelV x v→RelV y u→r x y H Q →
  yas (model X.prog X.w) X.A (f v u) (EP X pins σ Q) X.xe s
def b9 (X:Cx) (f:yaj) (r:List V→Hp→VK→Prop):Prop :=
 ∀ (pins:List (Addr×Obj)) (s:yai) (σ:St) (H:Hp) (xs:List V) (us:List yaj) (Q:VK),Inv X pins σ H s→Vals xs us→r xs H Q →
  yas (model X.prog X.w) X.A (call f us) (EP X pins σ Q) X.xe s
def O0 (X:Cx) (r:V→Hp→(Bool→Hp→Prop)→Prop):Prop :=
 ∀ (pins:List (Addr×Obj)) (s:yai) (σ:St) (H:Hp) (x:V) (v:yaj) (Q:Bool→Hp→Prop),Inv X pins σ H s→RelV x v→r x H Q →
  yas (model X.prog X.w) X.A (truthy v) (TP X pins σ Q) X.xe s
def wM (r:R2) (ta tb:TE):TE:=fun σ H Q=>ta σ H fun x H1=>tb σ H1 fun y H2=>r x y H2 Q
def rI (C:Int→Int→Prop) (g:Int→Int→V):R2:=fun x y H Q=>∃ i j,x = .int i∧y = .int j∧C i j∧Q (g i j) H
def Ec (g:Int→Int→V):R2:=fun x y H Q=>∃ i j,x = .int i∧y = .int j∧Q (g i j) H
section
variable {X:Cx}{a b c:Expr}{ta tb tc:TE}{pos:Pos}
theorem Ks (ha:PE X a ta) (hb:PE X b tb) {pins:List (Addr×Obj)}{s:yai}{σ:St}{H:Hp}{R:V→V→Hp→Prop} (I:Inv X pins σ H s)
  (h:ta σ H fun x H1=>tb σ H1 fun y H2=>R x y H2) {Q:yaj→yai→Prop}{f:yaj→yaj→Sem yaj}
  (hf:∀ v u s2 x y H2,Inv X pins σ H2 s2→RelV x v→RelV y u→R x y H2→yas (model X.prog X.w) X.A (f v u) Q X.xe s2) :
  yas (model X.prog X.w) X.A (eval a X.env) (fun v s₁=>yas (model X.prog X.w) X.A (eval b X.env) (fun u s₂=>yas (model X.prog X.w) X.A (f v u) Q X.xe s₂) X.xe s₁) X.xe s:=by
 refine bX (ha pins s σ H _ I h) fun v s1 ⟨x,H1,I1,r1,q1⟩ => ?_
 refine bX (hb pins s1 σ H1 _ I1 q1) fun u s2 ⟨y,H2,I2,r2,q2⟩ => ?_
 exact hf v u s2 x y H2 I2 r1 r2 q2
theorem aL {op:Operator}{r:R2} (ho:fV X (binaryOp op) r) (ha:PE X a ta) (hb:PE X b tb):PE X (.BinOp a op b pos) (wM r ta tb):=by
 intro pins s σ H Q I h
 exact wpAny_BinOp (Ks ha hb I h fun v u s2 x y H2 I2 rx ry q=>ho pins s2 σ H2 x y v u Q I2 rx ry q)
theorem M4 {f:yaj→yaj→Sem yaj}{C:Int→Int→Prop}{g:Int→Int→Int}
  (rule:∀ (i j:Int) (t u:Tok) (s:yai) (Q:yaj→yai→Prop) (E:yaj→yai→Prop),C i j→Q (.int (g i j) s.toks) { s with toks:=s.toks+1 }→yas (model X.prog X.w) X.A (f (.int i t) (.int j u)) Q E s) :
  fV X f (rI C fun i j=>.int (g i j)):=by
 intro pins s σ H x y v u Q I rx ry h
 obtain ⟨i,j,rfl,rfl,hc,q⟩:=h
 obtain ⟨t,rfl⟩:=rx
 obtain ⟨t',rfl⟩:=ry
 exact rule i j t t' s _ _ hc ⟨.int (g i j),H,I.tok _,⟨_,rfl⟩,q⟩
theorem LN {f:yaj→yaj→Sem yaj}{g:Int→Int→Int}
  (rule:∀ (i j:Int) (t u:Tok) (s:yai) (Q:yaj→yai→Prop) (E:yaj→yai→Prop),Q (.int (g i j) s.toks) { s with toks:=s.toks+1 }→yas (model X.prog X.w) X.A (f (.int i t) (.int j u)) Q E s) :
  fV X f (Ec fun i j=>.int (g i j)):=by
 intro pins s σ H x y v u Q I rx ry h
 obtain ⟨i,j,rfl,rfl,q⟩:=h
 obtain ⟨t,rfl⟩:=rx
 obtain ⟨t',rfl⟩:=ry
 exact rule i j t t' s _ _ ⟨.int (g i j),H,I.tok _,⟨_,rfl⟩,q⟩
theorem JB {f:yaj→yaj→Sem yaj}{g:Int→Int→Bool}
  (rule:∀ (i j:Int) (t u:Tok) (s:yai) (Q:yaj→yai→Prop) (E:yaj→yai→Prop),Q (.bool (g i j)) s→yas (model X.prog X.w) X.A (f (.int i t) (.int j u)) Q E s) :
  fV X f (Ec fun i j=>.bl (g i j)):=by
 intro pins s σ H x y v u Q I rx ry h
 obtain ⟨i,j,rfl,rfl,q⟩:=h
 obtain ⟨t,rfl⟩:=rx
 obtain ⟨t',rfl⟩:=ry
 exact rule i j t t' s _ _ ⟨.bl (g i j),H,I,rfl,q⟩
def Eb (i j:Int):Prop:=0<j∧j<1073741824
def O5 (i j:Int):Prop:=0≤j∧j≤1000000∧i.natAbs<2 ^ 64
def Ar (i j:Int):Prop:=(-(2 ^ 64)<i∧i<2 ^ 64)∨(-(2 ^ 64)<j∧j<2 ^ 64)
theorem Ar.ok {i j:Int} (h:Ar i j):IntMulOk i j:=by
 rcases h with ⟨h1,h2⟩ | ⟨h1,h2⟩
 ·exact .of_left (intBits_le_64 h1 h2)
 ·exact .of_right (intBits_le_64 h1 h2)
theorem gI:fV X (binaryOp .Add) (Ec fun i j=>.int (i+j)):=LN fun _ _ _ _ _ _ _ q=>add_int q
theorem Jt:fV X (binaryOp .Sub) (Ec fun i j=>.int (i - j)):=LN fun _ _ _ _ _ _ _ q=>sub_int q
theorem gc:fV X (binaryOp .Mult) (rI Ar fun i j=>.int (i*j)):=M4 fun _ _ _ _ _ _ _ hc q=>mul_int q hc.ok
theorem xO:fV X (binaryOp .FloorDiv) (rI Eb fun i j=>.int (i / j)):=M4 fun i j _ _ _ _ _ hc q=>by
 have h1:(0:Int)<j:=hc.1
 have h2:j<1073741824:=hc.2
 exact floordiv_int (by lia) (by rw [Int.fdiv_eq_ediv_of_nonneg i (by lia)];exact q) (.inl (PyProof.noPylong_small (by lia)))
theorem gf:fV X (binaryOp .Mod) (rI (fun _ j=>0<j) fun i j=>.int (i % j)):=M4 fun i j _ _ _ _ _ hc q=>by
 have h1:(0:Int)<j:=hc
 exact mod_int' (by lia) (by rw [Int.fmod_eq_emod_of_nonneg i (by lia)];exact q)
theorem Jv:fV X (binaryOp .Pow) (rI O5 fun i j=>.int (i ^ j.toNat)):=M4 fun _ _ _ _ _ _ _ hc q=>pow_int_small hc.1 hc.2.1 hc.2.2 q
end
noncomputable def Ll:V→V→Bool
 | .bw,.bw=>true | .bw,.int _=>true | .int _,.bw=>true | .bw,.bl _=>true | .bl _,.bw=>true | .bw,.str _=>true | .str _,.bw=>true
 | .int _,.int _=>true | .bl _,.bl _=>true | .str _,.str _=>true | .uG _,.uG _=>true
 | .int _,.str _=>true | .str _,.int _=>true | .bl _,.str _=>true | .str _,.bl _=>true
 | _,_=>false
def rEq:R2:=fun x y H Q=>Ll x y=true∧Q (.bl (decide (x=y))) H
def rNe:R2:=fun x y H Q=>Ll x y=true∧Q (.bl (!decide (x=y))) H
theorem yj {i j:Int}:decide (V.int i=V.int j)=(i==j):=by
 rw [Bool.eq_iff_iff]
 simp
theorem CQ {i j:Bool}:decide (V.bl i=V.bl j)=(i==j):=by
 rw [Bool.eq_iff_iff]
 simp
theorem yi {i j:Str}:decide (V.str i=V.str j)=(i==j):=by
 rw [Bool.eq_iff_iff]
 simp
theorem yk {i j:Array UInt8}:decide (V.uG i=V.uG j)=(i.toList==j.toList):=by
 rw [Bool.eq_iff_iff]
 cases i
 cases j
 simp
section
variable {X:Cx}{a b c:Expr}{ta tb tc:TE}{pos:Pos}
theorem aX {pins:List (Addr×Obj)}{σ:St}{H:Hp}{s:yai}{Q:VK}{k k':Bool} (I:Inv X pins σ H s) (q:Q (.bl k) H) (e:k=k'):EP X pins σ Q (.bool k') s:=by
 subst e
 exact ⟨.bl k,H,I,rfl,q⟩
theorem B0:fV X (yao .Eq) rEq:=by
 intro pins s σ H x y v u Q I rx ry h
 obtain ⟨hs,q⟩:=h
 cases x with
 | bw =>
  cases rx
  cases y with
  | bw=>cases ry;exact PySem.EqNone.eq_none_none (aX I q (by simp))
  | bl j=>cases ry;exact PySem.EqNone.eq_none_bool (aX I q (by simp))
  | int j=>obtain ⟨t',rfl⟩:=ry;exact PySem.EqNone.eq_none_int (aX I q (by simp))
  | str j=>obtain ⟨t',rfl⟩:=ry;exact PySem.EqNone.eq_none_str (aX I q (by simp))
  | _=>exact absurd (show false=true from hs) zbb
 | bl i =>
  cases rx
  cases y with
  | bw=>cases ry;exact PySem.EqNone.eq_bool_none (aX I q (by simp))
  | bl j=>cases ry;exact eq_bool (aX I q CQ)
  | str j=>obtain ⟨t',rfl⟩:=ry;exact PySem.EqMixed.eq_bool_str (aX I q (by simp))
  | _=>exact absurd (show false=true from hs) zbb
 | int i =>
  obtain ⟨t,rfl⟩:=rx
  cases y with
  | bw=>cases ry;exact PySem.EqNone.eq_int_none (aX I q (by simp))
  | int j=>obtain ⟨t',rfl⟩:=ry;exact eq_int (aX I q yj)
  | str j=>obtain ⟨t',rfl⟩:=ry;exact PySem.EqMixed.eq_int_str (aX I q (by simp))
  | _=>exact absurd (show false=true from hs) zbb
 | str i =>
  obtain ⟨t,rfl⟩:=rx
  cases y with
  | bw=>cases ry;exact PySem.EqNone.eq_str_none (aX I q (by simp))
  | bl j=>cases ry;exact PySem.EqMixed.eq_str_bool (aX I q (by simp))
  | int j=>obtain ⟨t',rfl⟩:=ry;exact PySem.EqMixed.eq_str_int (aX I q (by simp))
  | str j=>obtain ⟨t',rfl⟩:=ry;exact eq_str (aX I q yi)
  | _=>exact absurd (show false=true from hs) zbb
 | uG i =>
  obtain ⟨t,rfl⟩:=rx
  cases y with
  | uG j=>obtain ⟨t',rfl⟩:=ry;exact PySem.W.eq_bytes (aX I q yk)
  | _=>exact absurd (show false=true from hs) zbb
 | _=>cases y <;> exact absurd (show false=true from hs) zbb
theorem Hq:fV X (yao .NotEq) rNe:=by
 intro pins s σ H x y v u Q I rx ry h
 obtain ⟨hs,q⟩:=h
 cases x with
 | bw =>
  cases rx
  cases y with
  | bw=>cases ry;exact PySem.EqNone.ne_none_none (aX I q (by simp))
  | bl j=>cases ry;exact PySem.EqNone.ne_none_bool (aX I q (by simp))
  | int j=>obtain ⟨t',rfl⟩:=ry;exact PySem.EqNone.ne_none_int (aX I q (by simp))
  | str j=>obtain ⟨t',rfl⟩:=ry;exact PySem.EqNone.ne_none_str (aX I q (by simp))
  | _=>exact absurd (show false=true from hs) zbb
 | bl i =>
  cases rx
  cases y with
  | bw=>cases ry;exact PySem.EqNone.ne_bool_none (aX I q (by simp))
  | bl j=>cases ry;exact ne_bool (aX I q (congrArg not CQ))
  | str j=>obtain ⟨t',rfl⟩:=ry;exact PySem.EqMixed.ne_bool_str (aX I q (by simp))
  | _=>exact absurd (show false=true from hs) zbb
 | int i =>
  obtain ⟨t,rfl⟩:=rx
  cases y with
  | bw=>cases ry;exact PySem.EqNone.ne_int_none (aX I q (by simp))
  | int j=>obtain ⟨t',rfl⟩:=ry;exact ne_int (aX I q (congrArg not yj))
  | str j=>obtain ⟨t',rfl⟩:=ry;exact PySem.EqMixed.ne_int_str (aX I q (by simp))
  | _=>exact absurd (show false=true from hs) zbb
 | str i =>
  obtain ⟨t,rfl⟩:=rx
  cases y with
  | bw=>cases ry;exact PySem.EqNone.ne_str_none (aX I q (by simp))
  | bl j=>cases ry;exact PySem.EqMixed.ne_str_bool (aX I q (by simp))
  | int j=>obtain ⟨t',rfl⟩:=ry;exact PySem.EqMixed.ne_str_int (aX I q (by simp))
  | str j=>obtain ⟨t',rfl⟩:=ry;exact ne_str (aX I q (congrArg not yi))
  | _=>exact absurd (show false=true from hs) zbb
 | uG i =>
  obtain ⟨t,rfl⟩:=rx
  cases y with
  | uG j=>obtain ⟨t',rfl⟩:=ry;exact PySem.W.ne_bytes (aX I q (congrArg not yk))
  | _=>exact absurd (show false=true from hs) zbb
 | _=>cases y <;> exact absurd (show false=true from hs) zbb
theorem Hr:fV X (yao .Lt) (Ec fun i j=>.bl (decide (i<j))):=JB fun _ _ _ _ _ _ _ q=>lt_int q
theorem Hs:fV X (yao .Gt) (Ec fun i j=>.bl (decide (j<i))):=JB fun _ _ _ _ _ _ _ q=>gt_int q
theorem LM:fV X (yao .GtE) (Ec fun i j=>.bl (decide (j≤i))):=JB fun _ _ _ _ _ _ _ q=>ge_int q
theorem zg:fV X (yao .Lt) (fun x y H Q=>∃ i j,x = .str i∧y = .str j∧Q (.bl (decide (i.cps.toList<j.cps.toList))) H):=by
 intro pins s σ H x y v u Q I rx ry h
 obtain ⟨i,j,rfl,rfl,q⟩:=h
 obtain ⟨t,rfl⟩:=rx
 obtain ⟨t',rfl⟩:=ry
 exact lt_str (aX I q rfl)
theorem aQ (b:Expr) {op:CmpOp} (h:op ≠ .In:=by decide) (h2:op ≠ .NotIn:=by decide):behindInMarks op b=false:=by
 have e1:(op==CmpOp.In)=false:=by cases op <;> first | rfl | exact absurd rfl h
 have e2:(op==CmpOp.NotIn)=false:=by cases op <;> first | rfl | exact absurd rfl h2
 cases b <;> simp [behindInMarks,e1,e2]
theorem jE {op:CmpOp}{r:R2} (ho:fV X (yao op) r) (ha:PE X a ta) (hb:PE X b tb) (hm:behindInMarks op b=false):PE X (.Compare a [op] [b] pos) (wM r ta tb):=by
 intro pins s σ H Q I h
 exact wpAny_Compare1 (Ks ha hb I h fun v u s2 x y H2 I2 rx ry q=>ho pins s2 σ H2 x y v u Q I2 rx ry q) hm
def GX (t:TE):TT:=fun σ H Q=>t σ H fun x H'=>∃ k,x = .bl k∧Q k H'
theorem aA {op:CmpOp}{r:R2} (ho:fV X (yao op) r) (ha:PE X a ta) (hb:PE X b tb) (hm:behindInMarks op b=false):PT X (.Compare a [op] [b] pos) (GX (wM r ta tb)):=by
 intro pins s σ H Q I h
 refine wpAny_isTrue_Compare1 (bX (ha pins s σ H _ I h) fun v s1 ⟨x,H1,I1,r1,q1⟩=>bX (hb pins s1 σ H1 _ I1 q1) fun u s2 ⟨y,H2,I2,r2,q2⟩ =>
  bX (ho pins s2 σ H2 x y v u _ I2 r1 r2 q2) fun c s3 ⟨z,H3,I3,r3,k,e,q3⟩ => ?_) hm
 subst e
 cases r3
 exact wpAny_truthy_bool ⟨H3,I3,q3⟩
def DL (K:yaM) (x:V) (H:Hp) (k:Bool):Prop :=
 match x with
 | .bw=>k=false
 | .bl b=>k=b
 | .int i=>k=(i != 0)
 | .str y=>y.length≤yah∧k=((y.length:Int) != 0)
 | .uG y=>y.size≤yah∧k=((y.size:Int) != 0)
 | .ref p=>(∃ xs,dm K H p xs∧k = !xs.isEmpty)∨(∃ xs,dI K H p xs∧k = !xs.isEmpty)∨∃ kvs,H p=some (.dK kvs)∧k = !kvs.isEmpty
 | _=>False
theorem vL {κ:Type}{kvs:List (κ×V)}{vs:List (κ×yaj)} (r:KV kvs vs):(!vs.isEmpty) = !kvs.isEmpty:=by
 cases r <;> rfl
theorem nC {xs:List V}{its:List yaj} (r:Vals xs its):(!its.toArray.isEmpty) = !xs.isEmpty:=by
 cases r <;> simp
theorem nq:(yah:Nat)<2 ^ 63:=by rw [yag];decide
theorem Ib:O0 X (fun x H Q=>∃ k,DL X.K x H k∧Q k H):=by
 intro pins s σ H x v Q I rx h
 obtain ⟨k,e,q⟩:=h
 have hl:=nq
 have hs:yah=16777216:=yag
 cases x with
 | bw =>
  cases rx
  have e':k=false:=e
  subst e'
  exact truthy_none ⟨H,I,q⟩
 | bl b =>
  cases rx
  have e':k=b:=e
  subst e'
  exact wpAny_truthy_bool ⟨H,I,q⟩
 | int i =>
  obtain ⟨t,rfl⟩:=rx
  have e':k=(i != 0):=e
  subst e'
  exact PySem.P.truthy_int ⟨H,I,q⟩
 | str y =>
  obtain ⟨t,rfl⟩:=rx
  obtain ⟨hy,e'⟩:y.length≤yah∧k=((y.length:Int) != 0):=e
  subst e'
  exact PySem.P.truthy_str (by lia) ⟨H,I.tok _,q⟩
 | uG y =>
  obtain ⟨t,rfl⟩:=rx
  obtain ⟨hy,e'⟩:y.size≤yah∧k=((y.size:Int) != 0):=e
  subst e'
  exact PySem.W.truthy_bytes (by lia) ⟨H,I.tok _,q⟩
 | ref p =>
  cases rx
  have e':(∃ xs,dm X.K H p xs∧k = !xs.isEmpty)∨(∃ xs,dI X.K H p xs∧k = !xs.isEmpty)∨∃ kvs,H p=some (.dK kvs)∧k = !kvs.isEmpty:=e
  rcases e' with ⟨xs,hx,e'⟩ | ⟨xs,hx,e'⟩ | ⟨kvs,hx,e'⟩
  ·subst e'
   obtain ⟨its,r,pl,hz⟩:=I.list hx
   have hlen:=r.length
   exact wpAny_truthy_list pl.isList (by simp only [zbg];lia) ⟨H,I.tok _,by rw [nC r];exact q⟩
  ·subst e'
   obtain ⟨its,r,pl,hz⟩:=I.tuple hx
   have hlen:=r.length
   exact truthy_tuple pl (by simp only [zbg];lia) ⟨H,I.tok _,by rw [nC r];exact q⟩
  ·subst e'
   obtain ⟨hz,hS,vs,r,m⟩:kvs.length≤yah∧(p==yat)=false∧∃ vs,KV kvs vs∧s.heap.DictOf (bA X.prog X.w) p vs:=I.hok p _ hx
   have hlen:kvs.length=vs.length:=Paired.length r
   exact wpAny_truthy_dict hS m (by lia) ⟨H,I.tok _,by rw [vL r];exact q⟩
 | _=>exact (show False from e).elim
theorem BP (ha:PE X a ta) (he:∀ whole,isTrue a X.env whole=(do let v ← whole;standAt a.pos;holding [v] (truthy v))) :
  PT X a (fun σ H Q=>ta σ H fun x H'=>∃ k,DL X.K x H' k∧Q k H'):=by
 intro pins s σ H Q I h
 exact isTrue_plain (bX (ha pins s σ H _ I h) fun v s1 ⟨x,H1,I1,r1,q1⟩=>Ib pins s1 σ H1 x v Q I1 r1 q1) (he _)
theorem vq:fV X (binaryOp .Add) (fun x y H Q=>∃ i j,x = .str i∧y = .str j∧i.length+j.length≤yah∧Q (.str (i++j)) H):=by
 intro pins s σ H x y v u Q I rx ry h
 obtain ⟨i,j,rfl,rfl,hz,q⟩:=h
 obtain ⟨t,rfl⟩:=rx
 obtain ⟨t',rfl⟩:=ry
 exact add_str (fun t' tk=>⟨.str (i++j),H,I.tok _,⟨_,rfl⟩,q⟩) hz
theorem vals1 {x:V}{us:List yaj} (r:Vals [x] us):∃ u,us=[u]∧RelV x u:=by
 cases r with
 | cons r1 r2=>cases r2;exact ⟨_,rfl,r1⟩
theorem vals2 {x y:V}{us:List yaj} (r:Vals [x,y] us):∃ u w',us=[u,w']∧RelV x u∧RelV y w':=by
 cases r with
 | cons r1 r2 =>
  cases r2 with
  | cons r3 r4=>cases r4;exact ⟨_,_,rfl,r1,r3⟩
theorem zZ (hc:X.calm=true):b9 X (.builtin "max") (fun xs H Q=>∃ i j,xs=[.int i,.int j]∧Q (.int (if j > i then j else i)) H):=by
 intro pins s σ H xs us Q I r h
 obtain ⟨i,j,rfl,q⟩:=h
 obtain ⟨u,w',rfl,⟨t,rfl⟩,⟨t',rfl⟩⟩:=vals2 r
 refine max_two_ints (I.ok.hd hc) fun h' tk k=>⟨_,H,I.kept k,?_,q⟩
 by_cases hj:j > i
 ·rw [yIp hj,yIp hj];exact ⟨_,rfl⟩
 ·rw [yIn hj,yIn hj];exact ⟨_,rfl⟩
theorem zY (hc:X.calm=true):b9 X (.builtin "min") (fun xs H Q=>∃ i j,xs=[.int i,.int j]∧Q (.int (if j<i then j else i)) H):=by
 intro pins s σ H xs us Q I r h
 obtain ⟨i,j,rfl,q⟩:=h
 obtain ⟨u,w',rfl,⟨t,rfl⟩,⟨t',rfl⟩⟩:=vals2 r
 refine min_two_ints (I.ok.hd hc) fun h' tk k=>⟨_,H,I.kept k,?_,q⟩
 by_cases hj:j<i
 ·rw [yIp hj,yIp hj];exact ⟨_,rfl⟩
 ·rw [yIn hj,yIn hj];exact ⟨_,rfl⟩
def KZ (K:yaM) (x:V) (H:Hp) (n:Nat):Prop :=
 match x with
 | .str y=>y.length≤yah∧n=y.length
 | .uG y=>y.size≤yah∧n=y.size
 | .ref p=>(∃ xs,dm K H p xs∧n=xs.length)∨∃ xs,dI K H p xs∧n=xs.length
 | _=>False
theorem tU:b9 X (.builtin "len") (fun xs H Q=>∃ x n,xs=[x]∧KZ X.K x H n∧Q (.int n) H):=by
 intro pins s σ H xs us Q I r h
 obtain ⟨x,n,rfl,e,q⟩:=h
 obtain ⟨u,rfl,rx⟩:=vals1 r
 have hl:=nq
 have hs:yah=16777216:=yag
 cases x with
 | str y =>
  obtain ⟨t,rfl⟩:=rx
  obtain ⟨hy,e'⟩:y.length≤yah∧n=y.length:=e
  subst e'
  exact len_str (by lia) ⟨.int _,H,I.tok _,⟨_,rfl⟩,q⟩
 | uG y =>
  obtain ⟨t,rfl⟩:=rx
  obtain ⟨hy,e'⟩:y.size≤yah∧n=y.size:=e
  subst e'
  exact PySem.W.len_bytes (by lia) ⟨.int _,H,I.tok _,⟨_,rfl⟩,q⟩
 | ref p =>
  cases rx
  have e':(∃ xs,dm X.K H p xs∧n=xs.length)∨∃ xs,dI X.K H p xs∧n=xs.length:=e
  rcases e' with ⟨xs,hx,e'⟩ | ⟨xs,hx,e'⟩
  ·subst e'
   obtain ⟨its,r',pl,hz⟩:=I.list hx
   have hlen:=r'.length
   exact Calls.call_len_list pl.isList (by simp only [zbg];lia) ⟨.int xs.length,H,I.tok _,⟨_,by simp only [zbg];rw [hlen]⟩,q⟩
  ·subst e'
   obtain ⟨its,r',pl,hz⟩:=I.tuple hx
   have hlen:=r'.length
   exact len_tuple pl (by simp only [zbg];lia) ⟨.int xs.length,H,I.tok _,⟨_,by simp only [zbg];rw [hlen]⟩,q⟩
 | _=>exact (show False from e).elim
end
structure wo (h:Heap) (x dx C:Addr) (mA:Str→Option yaj):Prop where
 obj:h.get? x=some (zbY C dx)
 ns:h.Ns1 dx mA
 ne:dx≠x
theorem kE {h:Heap}{dx:Addr}{mA:Str→Option yaj} (n:h.Ns1 dx mA):∃ od,h.get? dx=some od∧∀ name,PySem.W.lookIn name od=some (mA name):=by
 obtain ⟨o,es,ep,ho,hd,hk,_,hm⟩:=n
 refine ⟨o,ho,fun name => ?_⟩
 have e:=hm name
 unfold nsFind findBy at e
 rw [← Array.find?_toList] at e
 unfold PySem.W.lookIn
 rw [hd]
 dsimp only
 split
 ·rename_i y q
  rw [q] at e
  exact congrArg some e
 ·rename_i q
  rw [q] at e
  have a:es.toList.any (·.refKey)=false:=by
   rw [zbh]
   intro y hy
   obtain ⟨z,t,hkey⟩:=hk y (Array.mem_toList_iff.mp hy)
   simp [DictEntry.refKey,hkey]
  have a' : ¬ es.toList.any (·.refKey)=true:=by rw [a];exact zbb
  rw [yIn a']
  exact congrArg some e
theorem wo.look {h:Heap}{x dx C:Addr}{mA:Str→Option yaj} (I:wo h x dx C mA):∃ od,PySem.W.InstAt h x (zbY C dx) C (some od)∧∀ name,PySem.W.lookIn name od=some (mA name) :=
 let ⟨od,ho,hl⟩:=kE I.ns
 ⟨od,⟨I.obj,rfl,rfl,ho⟩,hl⟩
section
variable {prog:yak}{w:yal}{A:yam}{E:yaj→yai→Prop}{s:yai}{K:yaM}{x dx C f:Addr}{mA:Str→Option yaj}{name:Str}{v:yaj}
theorem get_map {expr:Bool}{Q:yaj→yai→Prop} (X:K.In s.heap) (I:wo s.heap x dx C mA) (hg:zbI K C name=true) (hh:zbt K C=true)
  (ha:zcb K (.ref C) name=some none) (hv:mA name=some v) (hv':PySem.W.handedIn v=true) (h:Q v { s with toks:=s.toks+1 }) :
  yas (model prog w) A (getAttr (.ref x) name expr) Q E s:=by
 obtain ⟨od,J,hl⟩:=I.look
 exact PySem.W.get_value X J (PySem.W.plainGet_of hg).1 (PySem.W.findObj_own hh ha rfl (by rw [hl,hv])) hv' h
theorem Cy {pl:Sem Bool}{Q:yaj×List yaj→yai→Prop} (X:K.In s.heap) (I:wo s.heap x dx C mA) (hg:zbI K C name=true)
  (hf:zcb K (.ref C) name=some (some (.ref f))) (ht:zcx K (.ref f)=true) (hv:mA name=none) (h:Q (.ref f,[.ref x]) s) :
  yas (model prog w) A (yaF (.ref x) name pl) Q E s:=by
 obtain ⟨od,J,hl⟩:=I.look
 exact PySem.W.method_fn X J (PySem.W.plainGet_of hg).1 (PySem.W.plainGet_of hg).2 hf (beq_iff_eq.mp ht) (by show (PySem.W.lookIn name od).map (·.isSome)=some false;rw [hl,hv];rfl) h
theorem EC {ns:List Str}{Q:Unit→yai→Prop} (X:K.In s.heap) (I:wo s.heap x dx C mA)
  (hs:zcb K (.ref C) "__setattr__" = some (some (.builtin "object.__setattr__"))) (hp:PySem.W.plainOver K C=true) (ht:PySem.W.takerIn K C name=some none) (hh:zbt K C=true)
  (hw:PySem.Within mA ns) (hsz:ns.length≤yah)
  (h:∀ h',wo h' x dx C (fun y=>if y=name then some v else mA y)→Heap.SameBut dx s.heap h'→Q () { s with heap:=h',toks:=s.toks+2 }) :
  yas (model prog w) A (setAttr (.ref x) name v) Q E s:=by
 obtain ⟨od,J,hl⟩:=I.look
 refine PySem.W.set_plain X J hs (PySem.W.osa_open (s:={ s with toks:=s.toks+1 }) (r:=none) X J hp ht fun b => ?_)
 obtain ⟨cd,hc,hd'⟩:=PySem.W.any_some hh
 have hx:s.heap.get? x=some ⟨.ref C,some dx,.plain,#[]⟩:=I.obj
 refine yaa (yab (yaa (yaa (yaE hx (yaa (PySem.W.Looks.here (s:={ s with toks:=s.toks+1 }) (PySem.W.looks_clsIn X hc) ?_))))))
 rw [hd']
 refine yab (a:=some dx) (yaa (yab (yaa ?_)))
 refine wpAny_nsSet1 (s:={ s with toks:=s.toks+1 }) I.ns fun h' hn2 hs2 => ?_
 obtain ⟨oD,esD,epD,hoD,Nf,hcD⟩:=hn2.count (PySem.Within.cons name v hw)
 refine yaa (wpAny_lookBehind hoD (by rw [Nf];exact pastItsLine_dict (zcs hcD (by rw [zbx];lia))) ?_)
 exact yab (h _ ⟨(hs2.2 _ (Ne.symm I.ne)).trans I.obj,hn2,I.ne⟩ hs2)
theorem Ce {R:Result→yai→Prop}{vs:List yaj}{kw:List (Str×yaj)} (X:K.In s.heap) (hm:PySem.W.makesIn K C=true)
  (hi:zcb K (.ref C) "__init__" = some (some (.ref f))) (hf:PySem.W.typeIn K (.ref f)=some (.type "function"))
  (h:codeAny (model prog w) (A.under (.builtin "type.__call__" ⟨.ref C::vs,kw⟩)) (.call (.ref f) ⟨.ref (s.heap.objs.size+1)::vs,kw⟩) (PySem.W.InitBack (s.heap.objs.size+1) R)
   { s with heap:=(s.heap.push zbu).push (zbY C s.heap.objs.size) }) :
  codeAny (model prog w) A (.call (.ref C) ⟨vs,kw⟩) R s:=by
 obtain ⟨hh,g,d,t,os⟩:=s
 exact PySem.W.make_core (PySem.W.makes_of X hm) (PySem.W.looks_findIn X hi) (fun self=>PySem.W.bind_fn X self hf) (.inl rfl) h
end
noncomputable def fu (f:Str) (v:V):List (Str×V)→List (Str×V)
 | []=>[(f,v)]
 | (g,x)::r=>if g=f then (g,v)::r else (g,x)::fu f v r
theorem gP (f g:Str) (v:V):∀ fs:List (Str×V),(fu f v fs).lookup g=if g=f then some v else fs.lookup g
 | []=>by
  show zcB g [(f,v)]=_
  by_cases h:g=f
  ·have hb:(g==f)=true:=beq_iff_eq.mpr h
   simp only [zcB,hb,yIp h]
  ·have hb:(g==f)=false:=beq_eq_false_iff_ne.mpr h
   simp only [zcB,hb,yIn h]
 | (k,x)::r=>by
  have ih:=gP f g v r
  rw [show fu f v ((k,x)::r)=(if k=f then (k,v)::r else (k,x)::fu f v r) from rfl]
  by_cases hk:k=f
  ·rw [yIp hk]
   by_cases h:g=k
   ·have hb:(g==k)=true:=beq_iff_eq.mpr h
    simp only [zcB,hb,yIp (h.trans hk)]
   ·have hb:(g==k)=false:=beq_eq_false_iff_ne.mpr h
    simp only [zcB,hb,yIn (fun e:g=f=>h (e.trans hk.symm))]
  ·rw [yIn hk]
   by_cases h:g=k
   ·have hb:(g==k)=true:=beq_iff_eq.mpr h
    simp only [zcB,hb,yIn (fun e:g=f=>hk (h.symm.trans e))]
   ·have hb:(g==k)=false:=beq_eq_false_iff_ne.mpr h
    simp only [zcB,hb]
    exact ih
theorem fL (f:Str) (v:V):∀ fs:List (Str×V),f∈(fu f v fs).map (·.1)∧∀ g,g∈fs.map (·.1)→g∈(fu f v fs).map (·.1)
 | []=>⟨by simp [fu],fun g h=>by simp at h⟩
 | (k,x)::r=>by
  obtain ⟨i1,i2⟩:=fL f v r
  rw [show fu f v ((k,x)::r)=(if k=f then (k,v)::r else (k,x)::fu f v r) from rfl]
  by_cases hk:k=f
  ·rw [yIp hk]
   subst hk
   exact ⟨by simp,fun g h=>by simpa using h⟩
  ·rw [yIn hk]
   refine ⟨?_,fun g h => ?_⟩
   ·rw [zcg]
    exact zaC _ i1
   ·rw [zcg] at h ⊢
    rcases zcf.mp h with e | e
    ·exact zcf.mpr (.inl e)
    ·exact zaC _ (i2 g e)
theorem kP (f:Str) (v:V):∀ fs:List (Str×V),(fu f v fs).length≤fs.length+1
 | []=>by simp [fu]
 | (k,x)::r=>by
  have ih:=kP f v r
  rw [show fu f v ((k,x)::r)=(if k=f then (k,v)::r else (k,x)::fu f v r) from rfl]
  by_cases hk:k=f
  ·rw [yIp hk,zbx,zbx];lia
  ·rw [yIn hk,zbx,zbx];lia
theorem eK.some_of {v:V}{o:Option yaj} (r:eK (some v) o):∃ u,o=some u∧RelV v u:=by
 cases o with
 | none=>exact (show False from r).elim
 | some u=>exact ⟨u,rfl,r⟩
theorem eK.none_of {o:Option yaj} (r:eK none o):o=none:=by
 cases o with
 | none=>rfl
 | some u=>exact (show False from r).elim
theorem pG {v:V}{u:yaj} (r:RelV v u):PySem.W.handedIn u=true:=by
 cases v with
 | bw=>cases (show u=Value.none from r);rfl
 | bl b=>cases (show u=Value.bool b from r);rfl
 | int i=>obtain ⟨t,e⟩:=(show ∃ t,u=Value.int i t from r);cases e;rfl
 | str x=>obtain ⟨t,e⟩:=(show ∃ t,u=Value.str x t from r);cases e;rfl
 | uG b=>obtain ⟨t,e⟩:=(show ∃ t,u=Value.bytes b t from r);cases e;rfl
 | Ng b=>obtain ⟨t,e⟩:=(show ∃ t,u=Value.float b t from r);cases e;rfl
 | ref a=>cases (show u=Value.ref a from r);rfl
 | ty n=>cases (show u=Value.type n from r);rfl
section
variable {P:yak}{w:yal}{H H':Hp}{h h':Heap}{a C dx:Addr}{fs fs':List (Str×V)}
theorem qK (hok:fW P w H h) (e:H a=some (.ins C dx fs)):∃ mA,wo h a dx C mA∧(∀ f,eK (fs.lookup f) (mA f))∧PySem.Within mA (fs.map (·.1))∧fs.length≤1000∧H dx=some (.own a):=by
 obtain ⟨d,z,ne,ob,mA,n,r,q⟩:=(show aW P w H h a (.ins C dx fs) from hok a _ e)
 exact ⟨mA,⟨ob,n,ne⟩,r,q,z,d⟩
end
structure wH (K:yaM) (C:Addr):Prop where
 pg:zbI K C Str.empty=true
 hd:zbt K C=true
 po:PySem.W.plainOver K C=true
 sa:zcb K (.ref C) "__setattr__" = some (some (.builtin "object.__setattr__"))
theorem wH.get {K:yaM}{C:Addr} (c:wH K C) (f:Str):zbI K C f=true:=c.pg
def eN (K:yaM) (C:Addr) (f:Str):Prop:=zcb K (.ref C) f=some none
theorem eN.Lf {K:yaM}{C:Addr}{f:Str} (n:eN K C f):PySem.W.takerIn K C f=some none:=by
 unfold PySem.W.takerIn
 rw [show zcb K (.ref C) f=some none from n]
 rfl
structure Meth (K:yaM) (C:Addr) (m:Str) (f:Addr):Prop where
 at_:zcb K (.ref C) m=some (some (.ref f))
 fn:zcx K (.ref f)=true
 kp:zcc K (.ref f)=true
section
variable {X:Cx}{pins:List (Addr×Obj)}{σ:St}{H:Hp}{s:yai}{a C dx:Addr}{fs:List (Str×V)}{f:Str}{v:V}{A:yam}{E:yaj→yai→Prop}
theorem vM {b:Bool}{Q:yaj→yai→Prop} (I:Inv X pins σ H s) (e:H a=some (.ins C dx fs)) (c:wH X.K C) (n:eN X.K C f) (l:fs.lookup f=some v)
  (h:∀ u s',Inv X pins σ H s'→RelV v u→Q u s'):yas (model X.prog X.w) A (getAttr (.ref a) f b) Q E s:=by
 obtain ⟨mA,O,r,_,_,_⟩:=qK I.hok e
 obtain ⟨u,hu,ru⟩:=eK.some_of (v:=v) (o:=mA f) (by rw [← l];exact r f)
 exact get_map I.iV O (c.get f) c.hd n hu (pG ru) (h u _ (I.tok _) ru)
theorem nE {m:Str}{g:Addr}{pl:Sem Bool}{Q:yaj×List yaj→yai→Prop} (I:Inv X pins σ H s) (e:H a=some (.ins C dx fs)) (c:wH X.K C) (k:Meth X.K C m g) (l:fs.lookup m=none)
  (h:Q (.ref g,[.ref a]) s):yas (model X.prog X.w) A (yaF (.ref a) m pl) Q E s:=by
 obtain ⟨mA,O,r,_,_,_⟩:=qK I.hok e
 have hn:mA m=none:=eK.none_of (by rw [← l];exact r m)
 exact Cy I.iV O (c.get m) k.at_ k.fn hn h
theorem uT {y:V}{u:yaj}{Q:Unit→yai→Prop} (I:Inv X pins σ H s) (e:H a=some (.ins C dx fs)) (c:wH X.K C) (n:eN X.K C f) (hl:fs.length<1000) (ry:RelV y u)
  (h:∀ s',Inv X pins σ (upd H a (.ins C dx (fu f y fs))) s'→Q () s'):yas (model X.prog X.w) A (setAttr (.ref a) f u) Q E s:=by
 obtain ⟨mA,O,r,wi,_,ho⟩:=qK I.hok e
 have hz:(fs.map (·.1)).length≤yah:=by rw [zbN,yag];lia
 refine EC I.iV O c.sa c.po n.Lf c.hd wi hz fun h' O' sb=>h _ ?_
 have hd:∃ o,h'.get? dx=some o:=let ⟨o,_,_,e',_⟩:=O'.ns;⟨o,e'⟩
 refine I.write (x:=a) (e:=dx) (by rw [e];exact True.intro) (.inr ho) (fun b q hb z=>(sb.2 b hb).trans z) hd ?_
 refine ⟨by rw [av O.ne];exact ho,?_,O.ne,O'.obj,_,O'.ns,fun g => ?_,fun g hg => ?_⟩
 ·have:=kP f y fs;lia
 ·show eK ((fu f y fs).lookup g) (if g=f then some u else mA g)
  rw [gP]
  by_cases q:g=f
  ·rw [yIp q,yIp q];exact ry
  ·rw [yIn q,yIn q];exact r g
 ·by_cases q:g=f
  ·rw [q];exact (fL f y fs).1
  ·refine (fL f y fs).2 g (wi g fun z=>hg ?_)
   show (if g=f then some u else mA g)=none
   rw [yIn q];exact z
theorem Inv.made (I:Inv X pins σ H s):Inv X pins σ (upd (upd H s.heap.objs.size (.own (s.heap.objs.size+1))) (s.heap.objs.size+1) (.ins C s.heap.objs.size []))
  { s with heap:=(s.heap.push zbu).push (zbY C s.heap.objs.size) }:=by
 have e1:(s.heap.push zbu).get? s.heap.objs.size=some zbu:=zaR s.heap rfl
 have e2:((s.heap.push zbu).push (zbY C s.heap.objs.size)).get? (s.heap.objs.size+1)=some (zbY C s.heap.objs.size):=by
  have:=zaR (s.heap.push zbu) (o:=zbY C s.heap.objs.size) rfl
  rwa [Heap.size_push] at this
 have e3:(s.heap.push zbu).Ns s.heap.objs.size (fun _=>none):=⟨zbu,#[],_,e1,rfl,(fun e he=>absurd he (by simp)),fun _=>rfl⟩
 have I1:=I.laid (a:=s.heap.objs.size) (o:=.own (s.heap.objs.size+1)) (h':=s.heap.push zbu) (t':=s.toks) (fun b u q=>zar _ q) (zcE _) ⟨_,e1⟩
 refine I1.laid (a:=s.heap.objs.size+1) (o:=.ins C s.heap.objs.size []) (t':=s.toks) (fun b u q=>zar _ q) (Nat.le_of_eq (Heap.size_push _ _)) ?_
 have ne:s.heap.objs.size≠s.heap.objs.size+1:=zcr (Nat.lt_succ_self _)
 refine ⟨by rw [av ne,au],zcF _,ne,e2,fun _=>none,(Heap.Ns1.of_empty e3).at fun o q=>zar _ q,fun _=>True.intro,fun y hy=>absurd rfl hy⟩
theorem yx {prog:yak}{w:yal}{env:Env}{e:Expr}{f:Str}{pos:Pos}{s:yai}{Q:yaj→yai→Prop} (hb:attributeBase e f env (eval e env)=eval e env)
  (h:yas (model prog w) A (eval e env) (fun o s₁=>yas (model prog w) A (getAttr o f true) Q E s₁) E s):yas (model prog w) A (eval (.Attribute e f pos) env) Q E s :=
 Attribute_any_ h (by rw [arm_eval_Attribute,hb])
end
def NG (K:yaM) (ta:TE) (f:Str):TE:=fun σ H Q=>ta σ H fun x H1=>∃ a C dx fs v,x = .ref a∧H1 a=some (.ins C dx fs)∧wH K C∧eN K C f∧fs.lookup f=some v∧Q v H1
def NR (K:yaM) (ta tv:TE) (f:Str):TS:=fun D σ H=>tv σ H fun y H1=>ta σ H1 fun x H2=>∃ a C dx fs,x = .ref a∧H2 a=some (.ins C dx fs)∧wH K C∧eN K C f∧fs.length<1000 ∧
 D.nx σ (upd H2 a (.ins C dx (fu f y fs)))
section
variable {X:Cx}{o e value:Expr}{f:Str}{pos pos' tpos:Pos}{ta tv:TE}
theorem bu (he:PE X e ta) (hb:attributeBase e f X.env (eval e X.env)=eval e X.env):PE X (.Attribute e f pos) (NG X.K ta f):=by
 intro pins s σ H Q I h
 refine yx hb (bX (he pins s σ H _ I h) fun u s1 ⟨x,H1,I1,rx,a,C,dx,fs,v,ex,ea,c,n,l,q⟩ => ?_)
 subst ex
 obtain rfl:u=Value.ref a:=rx
 exact vM I1 ea c n l fun u' s2 I2 ru=>⟨v,H1,I2,ru,q⟩
theorem mL (ha:PE X o ta) (hv:PE X value tv) (hs:yau value (some (.Attribute o f pos')) pos.line X.env=pure false):PS X (.Assign [.Attribute o f pos'] value pos) (NR X.K ta tv f):=by
 intro pins s σ H D I h
 refine plainObj_wpAny_Assign_Attribute (bX (hv pins s σ H _ I h) fun u s1 ⟨y,H1,I1,ry,q⟩=>bX (ha pins s1 σ H1 _ I1 q) fun ov s2 ⟨x,H2,I2,rx,a,C,dx,fs,ex,ea,c,n,l,q2⟩ => ?_) hs
 subst ex
 obtain rfl:ov=Value.ref a:=rx
 exact uT I2 ea c n l ry fun s3 I3=>⟨σ,_,I3,q2⟩
end
structure aU (k:Nat) (A:yam):Prop where
 hd:A.handled=none
 dp:A.depth+3*k+5<yaA
 un:A.units+16*k+200<cLine
 gd:A.guards=some []
theorem aU.mono {j k:Nat}{A:yam} (r:aU k A) (h:j≤k):aU j A:=⟨r.hd,by have:=r.dp;lia,by have:=r.un;lia,r.gd⟩
theorem aU.deeper {k:Nat}{A:yam} (r:aU (k+1) A) (env:Env):aU k (A.deeper env) :=
 ⟨r.hd,by have:=r.dp;show A.depth+1+3*k+5<_;lia,by have:=r.un;show A.units+3+16*k+200<_;lia,r.gd⟩
theorem vE {A:yam}{C:Addr}{us:List yaj}{kw:List (Str×yaj)}:(A.under (.builtin "type.__call__" ⟨.ref C::us,kw⟩)).depth=A.depth+1:=by
 first | rfl | simp [Around.under,Code.weight,Code.isCreation,Code.isGuard,Code.isCaller,Code.frames,Code.isFrame,guardIds]
theorem vD {A:yam}{C:Addr}{us:List yaj}{kw:List (Str×yaj)}:(A.under (.builtin "type.__call__" ⟨.ref C::us,kw⟩)).units=A.units+1:=by
 first | rfl | simp [Around.under,Code.cUnits,Code.frames,Code.isFrame]
theorem aU.make {k:Nat}{A:yam} (r:aU (k+1) A) (C:Addr) (us:List yaj) (kw:List (Str×yaj)):aU k (A.under (.builtin "type.__call__" ⟨.ref C::us,kw⟩)) :=
 ⟨r.hd,by have:=r.dp;rw [vE];lia,by have:=r.un;rw [vD];lia,r.gd⟩
theorem aU.depth {k:Nat}{A:yam} (r:aU k A):A.depth<yaA:=by have:=r.dp;lia
theorem aU.units {k:Nat}{A:yam} (r:aU k A):A.units+64<cLine:=by have:=r.un;lia
def uN:TA:=fun _ H Q=>Q [] H
def l0 (ta:TE) (tr:TA):TA:=fun σ H Q=>ta σ H fun x H1=>tr σ H1 fun xs H2=>Q (x::xs) H2
section
variable {X:Cx}{e:Expr}{es:List Expr}{te:TE}{t:TA}{pos:Pos}
theorem aa:PA X [] uN:=fun _ _ _ _ H Q I h=>Calls.spliced_nil ⟨[],H,I,.nil,h⟩
theorem Fd (ha:PE X e te) (hr:PA X es t) (hs:yap (e::es) X.env=(false,eval e X.env)::yap es X.env:=by rfl):PA X (e::es) (l0 te t):=by
 intro pos pins s σ H Q I h
 rw [hs]
 show yas _ _ (spliced ((false,eval e X.env)::yav pos (yap es X.env))) _ _ s
 refine zbf (bX (ha pins s σ H _ I h) fun u s1 ⟨x,H1,I1,r1,q1⟩ => ?_)
 exact bX (hr pos pins s1 σ H1 _ I1 q1) fun us s2 ⟨xs,H2,I2,r2,q2⟩=>⟨x::xs,H2,I2,.cons r1 r2,q2⟩
def Ih (t:TA):TE:=fun σ H Q=>t σ H fun xs H1=>xs.length≤yah∧∀ p,H1 p=none→Q (.ref p) (upd H1 p (.tup xs))
def Im (t:TA):TE:=fun σ H Q=>t σ H fun xs H1=>xs.length≤yah∧∀ p,H1 p=none→Q (.ref p) (upd H1 p (.lst xs))
theorem aD {x1} (h:PA X es t):PE X (.Tuple es x1 pos) (Ih t):=by
 intro pins s σ H Q I hq
 refine wpAny_Tuple_spliced (bX (h pos pins s σ H _ I hq) fun us s1 ⟨xs,H1,I1,r,z,q⟩=>⟨by rw [← r.length];exact z,?_⟩)
 have hf:H1 s1.heap.objs.size=none:=I1.hok.fresh (zcE _)
 refine ⟨.ref s1.heap.objs.size,upd H1 s1.heap.objs.size (.tup xs),I1.laid (t':=s1.toks) (fun b u e=>zar _ e) (zcE _) ?_,rfl,q _ hf⟩
 exact ⟨z,us,r,⟨_,zaR _ rfl,rfl,_,rfl⟩⟩
theorem bI (h:PA X es t):PE X (.List es pos) (Im t):=by
 intro pins s σ H Q I hq
 refine wpAny_List_spliced (bX (h pos pins s σ H _ I hq) fun us s1 ⟨xs,H1,I1,r,z,q⟩=>⟨by rw [← r.length];exact z,?_⟩)
 have hf:H1 s1.heap.objs.size=none:=I1.hok.fresh (zcE _)
 refine ⟨.ref s1.heap.objs.size,upd H1 s1.heap.objs.size (.lst xs),I1.laid (t':=s1.toks) (fun b u e=>zar _ e) (zcE _) ?_,rfl,q _ hf⟩
 exact ⟨z,us,0,r,zaR _ rfl⟩
end
abbrev Sp:=List V→Hp→VK→XK→Prop
abbrev uI:=List Env→Hp→yai→XK→yaj→yai→Prop
structure rF (P:yak) (w:yal) (K:yaM) (mg:Str→Option yaj) (base:Heap) (A:yam) (outer:List Env) (s:yai) (H:Hp):Prop where
 frames:A.frames=some outer
 mod:Mod K mg base
 bs:∀ b o,base.get? b=some o→s.heap.get? b=some o∧H b=none
 Di:base.objs.size≤s.heap.objs.size
 jK:s.heap.FunFrames base outer
 FY:∀ b∈frs outer,H b=none
 hok:fW P w H s.heap
 bare:AllBare s.gens
def CE (outer:List Env) (P:yak) (w:yal) (H:Hp) (s:yai) (Q:VK) (u:yaj) (s':yai):Prop :=
 ∃ v H',s'.os=s.os∧AllBare s'.gens∧Un (frs outer) [] H H' s.heap s'.heap∧fW P w H' s'.heap∧RelV v u∧Q v H'
def CR (CX:uI) (outer:List Env) (P:yak) (w:yal) (H:Hp) (s:yai) (Q:VK) (E:XK) (r:Result) (s':yai):Prop :=
 match r with
 | .ok (.ret u)=>CE outer P w H s Q u s'
 | .ok _=>False
 | .error e=>CX outer H s E e s'
structure bW (P:yak) (w:yal) (K:yaM) (mg:Str→Option yaj) (base:Heap) (CX:uI) (k:Nat) (f:Addr) (fd:yaq) (ps:List Str) (sp:Sp):Prop where
 len:∀ vs H Q E,sp vs H Q E→vs.length=ps.length
 run:∀ (A:yam) (outer:List Env) (s:yai) (H:Hp) (args:Args) (us:List yaj) (vs:List V) (Q:VK) (E:XK),aU k A→rF P w K mg base A outer s H→yaD s fd args (ps.zip us)→Vals vs us→sp vs H Q E →
  codeAny (model P w) A (.call (.ref f) args) (CR CX outer P w H s Q E) s
theorem bW.imp {P:yak}{w:yal}{K:yaM}{mg:Str→Option yaj}{base:Heap}{CX:uI}{k:Nat}{f:Addr}{fd:yaq}{ps:List Str}{sp sp':Sp} (F:bW P w K mg base CX k f fd ps sp)
  (h:∀ vs H Q E,sp' vs H Q E→sp vs H Q E):bW P w K mg base CX k f fd ps sp' :=
 ⟨fun vs H Q E q=>F.len vs H Q E (h _ _ _ _ q),fun A outer s H args us vs Q E hr he hb hv hs=>F.run A outer s H args us vs Q E hr he hb hv (h _ _ _ _ hs)⟩
theorem rF.make {P:yak}{w:yal}{K:yaM}{mg:Str→Option yaj}{base:Heap}{A:yam}{outer:List Env}{s:yai}{H:Hp} (e:rF P w K mg base A outer s H) (C:Addr) (us:List yaj) (kw:List (Str×yaj)) :
  rF P w K mg base (A.under (.builtin "type.__call__" ⟨.ref C::us,kw⟩)) outer s H:=⟨by first | exact e.frames | (simpa [Around.under,Code.envs,Code.isFrame,pushEnvs] using e.frames),e.mod,e.bs,e.Di,e.jK,e.FY,e.hok,e.bare⟩
section
variable {X:Cx}{pins:List (Addr×Obj)}{σ:St}{H:Hp}{s s':yai}
theorem Inv.CL (I:Inv X pins σ H s):rF X.prog X.w X.K X.mg X.base X.A X.stack s H :=
 ⟨I.ok.frames,I.ok.mod,I.bs,zcs I.ok.Di I.sz,I.stack,I.qb,I.hok,I.bare⟩
theorem Inv.after {Q:VK}{u:yaj} (I:Inv X pins σ H s) (h:CE X.stack X.prog X.w H s Q u s'):EP X pins σ Q u s':=by
 obtain ⟨v,H',os,bare,un,hok,r,q⟩:=h
 obtain ⟨hh,g,d,t,os'⟩:=s'
 obtain rfl:os'=s.os:=os
 exact ⟨v,H',I.call (h':=hh) (g':=g) (d':=d) (t':=t) (ch:=[]) un hok bare (fun b z=>absurd z (by simp)),r,q⟩
end
def wO (sp:Sp) (dvs:List V) (E:XK) (t:TA):TE:=fun σ H Q=>t σ H fun vs H1=>sp (vs++dvs) H1 Q E
def AH (C:Addr) (m:Str) (sp:Sp) (dvs:List V) (E:XK) (ta:TE) (t:TA):TE:=fun σ H Q=>ta σ H fun x H1=>∃ a dx fs,x = .ref a∧H1 a=some (.ins C dx fs)∧fs.lookup m=none ∧
 t σ H1 fun vs H2=>sp (x::(vs++dvs)) H2 Q E
def Lh (C:Addr) (sp:Sp) (dvs:List V) (E:XK) (t:TA):TE:=fun σ H Q=>t σ H fun vs H1=>∀ x dx,H1 x=none→H1 dx=none→dx≠x →
 sp (.ref x::(vs++dvs)) (upd (upd H1 dx (.own x)) x (.ins C dx [])) (fun v H2=>v = .bw∧Q (.ref x) H2) E
def Binds (K:yaM) (fd:yaq) (ps:List Str) (ds:List yaj):Prop :=
 ∀ (s:yai) (us:List yaj),K.In s.heap→(us++ds).length=ps.length→yaD s fd ⟨us,[]⟩ (ps.zip (us++ds))
theorem Binds.all {K:yaM}{fd:yaq}{ps:List Str} (h:∀ us:List yaj,us.length=ps.length→yaC fd ⟨us,[]⟩=pure (ps.zip us)):Binds K fd ps []:=fun s us _ hl=>by
 rw [zbO] at hl ⊢
 exact .of_eq (h us hl)
def Passes (CX:uI) (X:Cx) (E:XK):Prop:=∀ (pins:List (Addr×Obj)) (σ:St) (H:Hp) (s:yai) (e:yaj) (s':yai),Inv X pins σ H s→CX X.stack H s E e s'→X.xe e s'
section
variable {X:Cx}{CX:uI}{k:Nat}{f C:Addr}{fd:yaq}{ps:List Str}{sp:Sp}{dvs:List V}{ds:List yaj}{E:XK}{x m:Str}{p pos apos:Pos}{e o:Expr}{es:List Expr}{ta:TE}{t:TA}
theorem ve {pins:List (Addr×Obj)}{σ:St}{H:Hp}{s:yai}{Q:VK}{us:List yaj}{vs:List V} (F:bW X.prog X.w X.K X.mg X.base CX k f fd ps sp) (hr:aU k X.A) (hb:Binds X.K fd ps ds) (hd:Vals dvs ds) (hx:Passes CX X E)
  (I:Inv X pins σ H s) (r:Vals vs us) (h:sp (vs++dvs) H Q E):yas (model X.prog X.w) X.A (call (.ref f) us) (EP X pins σ Q) X.xe s:=by
 have r2:Vals (vs++dvs) (us++ds):=r.append hd
 have hl:(us++ds).length=ps.length:=by rw [← r2.length];exact F.len _ _ _ _ h
 refine yaL (yay (F.run X.A X.stack s H ⟨us,[]⟩ (us++ds) (vs++dvs) Q E hr I.CL (hb s us I.iV hl) r2 h) fun r s' hq => ?_)
 cases r with
 | error e=>exact hx pins σ H s e s' I hq
 | ok fl =>
  cases fl with
  | ret u=>exact I.after hq
  | next=>exact False.elim hq
  | brk=>exact False.elim hq
  | cont=>exact False.elim hq
theorem E9 (F:bW X.prog X.w X.K X.mg X.base CX k f fd ps sp) (hr:aU k X.A) (hg:Gl X x) (hm:X.mg x=some (.ref f)) (hk:zcc X.K (.ref f)=true) (hb:Binds X.K fd ps ds) (hd:Vals dvs ds) (hx:Passes CX X E)
  (ha:PA X (e::es) t) (hdb:(x==("__debug__" : Str))=false:=by decide) (he:yap (e::es) X.env=(false,eval e X.env)::yap es X.env:=by rfl) (hpl:(yav pos (yap es X.env)).any (·.1)=false:=by rfl) :
  PE X (.Call (.Name x p) (e::es) [] pos) (wO sp dvs E t):=by
 intro pins s σ H Q I h
 refine wpAny_Call_Name_kw (e7 I hg hm ?_ hdb)
 refine zbd (h₀:=X.base) I.ok.mod.Hw hk (bX (ha pos pins s σ H _ I h) fun us s1 ⟨vs,H1,I1,r,q⟩=>⟨I1.iV,?_⟩) he hpl
 exact ve F hr hb hd hx I1 r q
theorem bh {pl:Sem Bool} (he:PE X o ta) (c:wH X.K C) (hm:Meth X.K C m f) (F:bW X.prog X.w X.K X.mg X.base CX k f fd ps sp) (hr:aU k X.A) (hb:Binds X.K fd ps ds) (hd:Vals dvs ds) (hx:Passes CX X E) (ha:PA X (e::es) t)
  (hst:yap (e::es) X.env=(false,eval e X.env)::yap es X.env:=by rfl) (hpl:(yav pos (yap es X.env)).any (·.1)=false:=by rfl)
  (ht:eval (.Call (.Attribute o m apos) (e::es) [] pos) X.env=(do
   let ov ← eval o X.env
   standAt apos.atName
   let (f,first) ← holding [ov] (yaF ov m pl)
   yaB pos f first (yav pos (yap (e::es) X.env)) (yaH pos (yaG [] X.env))):=by rfl) :
  PE X (.Call (.Attribute o m apos) (e::es) [] pos) (AH C m sp dvs E ta t):=by
 intro pins s σ H Q I h
 refine zaA (pl:=pl) (bX (he pins s σ H _ I h) fun u s1 ⟨x,H1,I1,rx,a,dx,fs,ex,ea,l,q⟩ => ?_) ht
 subst ex
 obtain rfl:u=Value.ref a:=rx
 refine nE I1 ea c hm l ?_
 refine zbd (first:=[.ref a]) (h₀:=X.base) I.ok.mod.Hw hm.kp (bX (ha pos pins s1 σ H1 _ I1 q) fun us s2 ⟨vs,H2,I2,r,q2⟩=>⟨I2.iV,?_⟩) hst hpl
 exact ve (us:=.ref a::us) (vs:=.ref a::vs) F hr hb hd hx I2 (.cons rfl r) q2
theorem gG {pl:Sem Bool} (he:PE X o ta) (c:wH X.K C) (hm:Meth X.K C m f) (F:bW X.prog X.w X.K X.mg X.base CX k f fd ps sp) (hr:aU k X.A) (hb:Binds X.K fd ps ds) (hd:Vals dvs ds) (hx:Passes CX X E)
  (ht:eval (.Call (.Attribute o m apos) [] [] pos) X.env=(do
   let ov ← eval o X.env
   standAt apos.atName
   let (f,first) ← holding [ov] (yaF ov m pl)
   yaB pos f first (yav pos (yap [] X.env)) (yaH pos (yaG [] X.env))):=by rfl) :
  PE X (.Call (.Attribute o m apos) [] [] pos) (AH C m sp dvs E ta uN):=by
 intro pins s σ H Q I h
 refine zaA (pl:=pl) (bX (he pins s σ H _ I h) fun u s1 ⟨x,H1,I1,rx,a,dx,fs,ex,ea,l,q⟩ => ?_) ht
 subst ex
 obtain rfl:u=Value.ref a:=rx
 refine nE I1 ea c hm l ?_
 exact PySem.W.callWith_K0 (first:=[.ref a]) I1.iV hm.kp (ve (us:=[.ref a]) (vs:=[.ref a]) F hr hb hd hx I1 (.cons rfl .nil) q)
structure Mk (K:yaM) (C f:Addr):Prop where
 makes:PySem.W.makesIn K C=true
 init:zcb K (.ref C) "__init__" = some (some (.ref f))
 fn:zcx K (.ref f)=true
 kp:zcc K (.ref C)=true
theorem BD {pins:List (Addr×Obj)}{σ:St}{H:Hp}{s:yai}{Q:VK}{us:List yaj}{vs:List V} (M:Mk X.K C f) (F:bW X.prog X.w X.K X.mg X.base CX k f fd ps sp) (hr:aU (k+1) X.A) (hb:Binds X.K fd ps ds) (hd:Vals dvs ds)
  (hx:Passes CX X E) (I:Inv X pins σ H s) (r:Vals vs us)
  (h:∀ x dx,H x=none→H dx=none→dx≠x→sp (.ref x::(vs++dvs)) (upd (upd H dx (.own x)) x (.ins C dx [])) (fun v H2=>v = .bw∧Q (.ref x) H2) E) :
  yas (model X.prog X.w) X.A (call (.ref C) us) (EP X pins σ Q) X.xe s:=by
 have hq:=h (s.heap.objs.size+1) s.heap.objs.size (I.hok.fresh (Nat.le_succ _)) (I.hok.fresh (zcE _)) (zcr (Nat.lt_succ_self _))
 have I2:=Inv.made (C:=C) I
 have r2:Vals (V.ref (s.heap.objs.size+1)::(vs++dvs)) (Value.ref (s.heap.objs.size+1)::(us++ds)):=.cons rfl (r.append hd)
 have hl:(Value.ref (s.heap.objs.size+1)::us++ds).length=ps.length:=by
  have e:=r2.length
  rw [F.len _ _ _ _ hq] at e
  exact e.symm
 refine yaL (Ce (f:=f) I.iV M.makes M.init (beq_iff_eq.mp M.fn) (yay (F.run _ X.stack _ _ ⟨Value.ref (s.heap.objs.size+1)::us,[]⟩ (Value.ref (s.heap.objs.size+1)::(us++ds)) _ _ E (hr.make C us [])
  (I2.CL.make C us []) (hb _ (Value.ref (s.heap.objs.size+1)::us) I2.iV hl) r2 hq) fun r s' hq' => ?_))
 cases r with
 | error e=>exact hx pins σ _ _ e s' I2 hq'
 | ok fl =>
  cases fl with
  | ret u =>
   obtain ⟨v,H',I3,rv,ev,q3⟩:=I2.after hq'
   subst ev
   exact ⟨rv,⟨V.ref (s.heap.objs.size+1),H',I3,rfl,q3⟩⟩
  | next=>exact False.elim hq'
  | brk=>exact False.elim hq'
  | cont=>exact False.elim hq'
theorem mU (M:Mk X.K C f) (F:bW X.prog X.w X.K X.mg X.base CX k f fd ps sp) (hr:aU (k+1) X.A) (hg:Gl X x) (hm:X.mg x=some (.ref C)) (hb:Binds X.K fd ps ds) (hd:Vals dvs ds) (hx:Passes CX X E)
  (hdb:(x==("__debug__" : Str))=false:=by decide):PE X (.Call (.Name x p) [] [] pos) (Lh C sp dvs E uN):=by
 intro pins s σ H Q I h
 refine wpAny_Call_Name_kw (e7 I hg hm ?_ hdb)
 exact PySem.W.callWith_K0 I.iV M.kp (BD (us:=[]) M F hr hb hd hx I .nil h)
end
structure aE (N P:List Str) (sc:Scope):Prop where
 kind:sc.kind = .function
 co:sc.isCoroutine=false
 gen:sc.isGenerator=false
 nd:N.Nodup
 pre:N.take P.length=P
 par:∀ x∈P,sc.names.lookup x=some .local∨sc.names.lookup x=some .cell
 JF:∀ y∈sc.names,y.2 ≠ .free
theorem pR {kindOf:Str→Option NameKind}{x:Str}:∀ {binds:List (Str×yaj)}{m:Str→Option yaj},(∀ v,(x,v) ∉ binds)→bindL kindOf binds m x=m x
 | [],_,_=>rfl
 | (n,v)::r,m,h=>by
  unfold bindL
  rw [pR fun w hw=>h w (zaC _ hw)]
  split
  ·have:x≠n:=by rintro rfl;exact h v zaS
   simp [this]
  ·rfl
theorem pT {kindOf:Str→Option NameKind}{x:Str}:∀ {binds:List (Str×yaj)}{m:Str→Option yaj},(∀ v,(x,v) ∉ binds)→bindC kindOf binds m x=m x
 | [],_,_=>rfl
 | (n,v)::r,m,h=>by
  unfold bindC
  rw [pT fun w hw=>h w (zaC _ hw)]
  split
  ·rfl
  ·have:x≠n:=by rintro rfl;exact h v zaS
   simp [this]
theorem pS {kindOf:Str→Option NameKind}{x:Str}{v:yaj}:∀ {P:List Str}{vs:List yaj}{i:Nat}{m:Str→Option yaj},P.Nodup→P[i]? = some x→vs[i]? = some v→kindOf x=some .local →
  bindL kindOf (P.zip vs) m x=some v
 | [],_,_,_,_,h,_,_=>by simp at h
 | _::_,[],_,_,_,_,h,_=>by simp at h
 | p::P,w::vs,0,m,nd,h1,h2,hk=>by
  simp at h1 h2;subst h1;subst h2
  show bindL kindOf ((p,w)::P.zip vs) m p=_
  unfold bindL
  rw [pR fun v hv=>(zbP.mp nd).1 (zbQ hv).1,yIp hk]
  simp
 | p::P,w::vs,i+1,m,nd,h1,h2,hk=>by
  show bindL kindOf ((p,w)::P.zip vs) m x=_
  unfold bindL
  exact pS (i:=i) (zbP.mp nd).2 (by simpa using h1) (by simpa using h2) hk
theorem pU {kindOf:Str→Option NameKind}{x:Str}{v:yaj}:∀ {P:List Str}{vs:List yaj}{i:Nat}{m:Str→Option yaj},P.Nodup→P[i]? = some x→vs[i]? = some v→kindOf x≠some .local →
  bindC kindOf (P.zip vs) m x=some v
 | [],_,_,_,_,h,_,_=>by simp at h
 | _::_,[],_,_,_,_,h,_=>by simp at h
 | p::P,w::vs,0,m,nd,h1,h2,hk=>by
  simp at h1 h2;subst h1;subst h2
  show bindC kindOf ((p,w)::P.zip vs) m p=_
  unfold bindC
  rw [pT fun v hv=>(zbP.mp nd).1 (zbQ hv).1,yIn hk]
  simp
 | p::P,w::vs,i+1,m,nd,h1,h2,hk=>by
  show bindC kindOf ((p,w)::P.zip vs) m x=_
  unfold bindC
  exact pU (i:=i) (zbP.mp nd).2 (by simpa using h1) (by simpa using h2) hk
noncomputable def start (N:List Str) (vs:List V):St:=vs.map some++zca (N.length - vs.length) none
noncomputable def d7 (CX:uI) (P:yak) (w:yal) (K:yaM) (mg:Str→Option yaj) (base:Heap) (N:List Str) (qual:Str) (scope:Scope) (f:Addr) (cd:yaj) (A:yam) (outer:List Env) (s:yai) (H:Hp) (E:XK):Cx where
 prog:=P
 w:=w
 K:=K
 mg:=mg
 base:=base
 A:=A.deeper (envOfC qual scope s.heap.objs.size f cd)
 N:=N
 s₀:=s
 H₀:=H
 env:=envOfC qual scope s.heap.objs.size f cd
 outer:=outer
 stack:=envOfC qual scope s.heap.objs.size f cd::outer
 ex:=[]
 calm:=true
 fn:=fun _=>true
 pn:=[]
 xe:=fun e s'=>yas (model P w) (A.deeper (envOfC qual scope s.heap.objs.size f cd)) (leaving (envOfC qual scope s.heap.objs.size f cd) e) (fun _ s''=>CX outer H s E e s'') (fun e' s''=>CX outer H s E e' s'') s'
theorem tR {sc:Scope}{n:Nat}{x:Str} (h:sc.names.lookup x=some .cell):∃ c,(cellsFrom n sc.names []).lookup x=some c:=by
 have q:=zaq sc.names n [] (.inl h)
 exact Option.isSome_iff_exists.mp q
theorem pF {CX:uI}{P:yak}{w:yal}{K:yaM}{mg:Str→Option yaj}{base:Heap}{N ps:List Str}{qual:Str}{scope:Scope}{f:Addr}{cd:yaj}{A:yam}{outer:List Env}{s s1:yai}{H:Hp}{E:XK}{us:List yaj}{vs:List V}
  (S:aE N ps scope) (hd:A.handled=none) (e0:rF P w K mg base A outer s H) (hl:vs.length=ps.length) (r:Vals vs us)
  (x:InCallC s s.heap.objs.size (bindL (envOfC qual scope s.heap.objs.size f cd).kindOf (ps.zip us) fun _=>none) (cellsFrom (s.heap.objs.size+1) scope.names []) (bindC (envOfC qual scope s.heap.objs.size f cd).kindOf (ps.zip us) fun _=>none) s1) :
  Inv (d7 CX P w K mg base N qual scope f cd A outer s H E) [] (start N vs) H s1:=by
 have hpl:ps.length≤N.length:=by have:=congrArg zcC S.pre;rw [zby] at this;lia
 obtain ⟨h1,tk,rfl,hk⟩:=x.done
 have noA:∀ b:Addr,b ∉ (d7 CX P w K mg base N qual scope f cd A outer s H E).ex:=fun b z=>absurd (show b∈([]:List Addr) from z) (by simp)
 refine ⟨⟨e0.mod,S.kind,rfl,rfl,zcE _,fun y z c h1 h2 => ?_,fun y hy => ?_,fun y c _ h => ?_,fun _=>hd,Around.frames_deeper e0.frames,.inr ⟨rfl,rfl⟩,fun b z=>absurd z (noA b),e0.bs,e0.Di,fun b _ _=>noA b,fun b z=>absurd z (noA b),e0.jK,e0.FY⟩,
  rfl,e0.bare,Un.kept hk,⟨_,x.toInCall.ns,fun i y v h1 h2 h3 => ?_⟩,fun y c h=>⟨_,x.cell y c h⟩,e0.hok.fresh (zcE _),fun y c h => ?_,fun p hp=>absurd (show p∈([]:List (Addr×Obj)) from hp) (by simp),e0.hok.kept hk,?_⟩
 ·exact name_of_addr x.apart (PySem.mem_of_lookup h1) (PySem.mem_of_lookup h2)
 ·have hy:scope.names.lookup y=some .cell∨scope.names.lookup y=some .free:=hy
  rcases hy with hy | hy
  ·exact tR hy
  ·exact absurd rfl (S.JF _ (PySem.mem_of_lookup hy))
 ·exact Nat.le_of_lt (x.above y c (PySem.mem_of_lookup h))
 ·have hi:i<vs.length:=by
   unfold start at h2
   by_cases hi:i<vs.length
   ·exact hi
   ·rw [zab (by simpa using hi)] at h2
    rw [List.getElem?_replicate] at h2
    split at h2 <;> cases h2
  have ha:vs[i]? = some v:=by
   unfold start at h2
   rw [zag (by simpa using hi),zbi] at h2
   cases e:vs[i]? with
   | none=>rw [e] at h2;cases h2
   | some a=>rw [e] at h2;cases h2;rfl
  obtain ⟨u,hu,rv⟩:=r.get ha
  have hp:ps[i]? = some y:=by
   rw [← S.pre,List.getElem?_take_of_lt (by lia)];exact h1
  have ndP:ps.Nodup:=by rw [← S.pre];exact S.nd.sublist (zbj _ _)
  refine ⟨u,rv,?_⟩
  rcases S.par y (zaF hp) with k | k
  ·exact .inl ⟨k,pS ndP hp hu k⟩
  ·obtain ⟨c,e⟩:=tR (n:=s.heap.objs.size+1) k
   refine .inr ⟨.inl k,c,e,?_⟩
   have q:=x.cell y c e
   rw [pU ndP hp hu (by show scope.names.lookup y≠_;rw [k];decide)] at q
   exact q
 ·exact e0.hok.fresh (Nat.le_of_lt (x.above y c (PySem.mem_of_lookup h)))
 ·unfold start
  show _=N.length
  rw [zaT,zbN,List.length_replicate]
  lia
theorem HC {CX:uI}{P:yak}{w:yal}{K:yaM}{mg:Str→Option yaj}{base:Heap}{k:Nat}{f:Addr}{name qual:Str}{params:Arguments}{body:List Stmt}{scope:Scope}{dV kV doc pm cdv ct oc:yaj}{an od:Option Addr}
  {osl:Array (Option yaj)}{N ps:List Str}{sp:Sp} (lk:K.lookup f=some ⟨oc,od,.func (zcy name qual params body scope dV kV doc pm an cdv ct),osl⟩) (hcd:zcd K cdv qual=true) (S:aE N ps scope)
  (len:∀ vs H Q E,sp vs H Q E→vs.length=ps.length)
  (hbody:∀ (A:yam) (outer:List Env) (s:yai) (H:Hp) (vs:List V) (Q:VK) (E:XK),aU k (A.deeper (envOfC qual scope s.heap.objs.size f cdv))→sp vs H Q E →
   ∃ t,oO (d7 CX P w K mg base N qual scope f cdv A outer s H E) body t∧t { nx:=fun _ H'=>Q .bw H',rt:=Q } (start N vs) H) :
  bW P w K mg base CX (k+1) f (zcy name qual params body scope dV kV doc pm an cdv ct) ps sp:=by
 refine ⟨len,fun A outer s H args us vs Q E hr e0 hb r hsp => ?_⟩
 have hl:=len _ _ _ _ hsp
 have KX:K.In s.heap:=e0.mod.Hw.keeps fun b o e=>(e0.bs b o e).1
 have lim:s.heap.NoLimit:=e0.mod.nolimit.keeps fun b o e=>(e0.bs b o e).1
 have hkind:∀ y∈ps.zip us,scope.names.lookup y.1=some .local∨(scope.names.lookup y.1=some .cell∧((cellsFrom (s.heap.objs.size+1) scope.names []).lookup y.1).isSome=true):=fun ⟨n,v⟩ hy=>by
  rcases S.par n (zbQ hy).1 with q | q
  ·exact .inl q
  ·exact .inr ⟨q,zaq _ _ _ (.inl q)⟩
 refine codeAny_call_function hr.depth (KX _ _ lk) rfl S.co S.gen rfl (PySem.W.codeRec_of KX hcd) (hb _ _ _ _ ?_)
 refine wpAny_newFunctionEnv_cells S.kind hkind fun env he s1 x => ?_
 subst he
 refine ⟨lim.keeps x.toInCall.keep,codeAny_func ?_⟩
 obtain ⟨t,ht,hq⟩:=hbody A outer s H vs Q E (hr.deeper _) hsp
 have I:Inv (d7 CX P w K mg base N qual scope f cdv A outer s H E) [] (start N vs) H s1:=pF S hr.hd e0 hl r x
 refine yac (ht [] s1 (start N vs) H _ I hq) (fun fl s' hs => ?_) fun e s' hs=>hs
 have fin:∀ {σ':St}{H':Hp}{v:V}{u:yaj},Inv (d7 CX P w K mg base N qual scope f cdv A outer s H E) [] σ' H' s'→RelV v u→Q v H'→CE outer P w H s Q u s' :=
  fun {σ' H' v u} J rv q=>⟨v,H',J.os,J.bare,J.base,J.hok,rv,q⟩
 cases fl with
 | ret u =>
  obtain ⟨v,σ',H',J,rv,q⟩:=hs
  exact fin J rv q
 | next =>
  obtain ⟨σ',H',J,q⟩:=hs
  exact fin (v:=V.bw) (u:=Value.none) J rfl q
 | brk =>
  obtain ⟨_,_,_,q⟩:=hs
  exact False.elim q
 | cont =>
  obtain ⟨_,_,_,q⟩:=hs
  exact False.elim q
section
variable {X:Cx}{x:Str}{p pos:Pos}{e:Expr}{es:List Expr}{t:TA}{id T:String}{r:List V→Hp→VK→Prop}
def K7 (r:List V→Hp→VK→Prop) (t:TA):TE:=fun σ H Q=>t σ H fun vs H1=>r vs H1 Q
theorem BY (hc:b9 X (.builtin id) r) (hg:Gl X x) (hm:X.mg x=none) (hv:bootBuiltins x=some (.builtin id)) (ha:PA X (e::es) t) (hn:x ≠ "__name__" := by decide) (hdb:(x==("__debug__" : Str))=false:=by decide)
  (he:yap (e::es) X.env=(false,eval e X.env)::yap es X.env:=by rfl) (hpl:(yav pos (yap es X.env)).any (·.1)=false:=by rfl):PE X (.Call (.Name x p) (e::es) [] pos) (K7 r t):=by
 intro pins s σ H Q I h
 refine wpAny_Call_Name_kw (qJ I hg hm hv ?_ hn hdb)
 exact PyProof.Rows.callWith_builtin1 (bX (ha pos pins s σ H _ I h) fun us s1 ⟨vs,H1,I1,r1,q1⟩=>hc pins s1 σ H1 vs us Q I1 r1 q1) he hpl
theorem zd (hc:b9 X (.type T) r) (hg:Gl X x) (hm:X.mg x=none) (hv:bootBuiltins x=some (.type T)) (ha:PA X (e::es) t) (hn:x ≠ "__name__" := by decide) (hdb:(x==("__debug__" : Str))=false:=by decide)
  (he:yap (e::es) X.env=(false,eval e X.env)::yap es X.env:=by rfl) (hpl:(yav pos (yap es X.env)).any (·.1)=false:=by rfl):PE X (.Call (.Name x p) (e::es) [] pos) (K7 r t):=by
 intro pins s σ H Q I h
 refine wpAny_Call_Name_kw (qJ I hg hm hv ?_ hn hdb)
 exact PyProof.Rows.callWith_type1 (bX (ha pos pins s σ H _ I h) fun us s1 ⟨vs,H1,I1,r1,q1⟩=>hc pins s1 σ H1 vs us Q I1 r1 q1) he hpl
end
section
variable {κ:Type} [DecidableEq κ]
noncomputable def eO (kvs:List (κ×V)) (k:κ):Option V:=(kvs.find? fun kv=>decide (kv.1=k)).map (·.2)
noncomputable def putK (kvs:List (κ×V)) (k:κ) (v:V):List (κ×V) :=
 if (kvs.any fun kv=>decide (kv.1=k))=true then kvs.map (fun kv=>if kv.1=k then (kv.1,v) else kv) else kvs++[(k,v)]
noncomputable def kT (kvs:List (κ×V)) (k:κ):List (κ×V):=kvs.filter fun kv=>decide (kv.1≠k)
theorem lV {p:κ×V}{r:List (κ×V)}{k:κ} (e:p.1=k):eO (p::r) k=some p.2:=by simp [eO,zbR,e]
theorem lW {p:κ×V}{r:List (κ×V)}{k:κ} (e : ¬ p.1=k):eO (p::r) k=eO r k:=by simp [eO,zbR,e]
theorem lX (k:κ):∀ kvs:List (κ×V),(kvs.any fun kv=>decide (kv.1=k))=(eO kvs k).isSome
 | []=>rfl
 | p::r=>by
  rw [zch]
  by_cases e:p.1=k
  ·simp only [lV e,yDt e,Bool.true_or,Option.isSome_some]
  ·rw [lW e,yDf e,Bool.false_or];exact lX k r
theorem eZ (kvs:List (κ×V)) (k:κ) (v:V):(putK kvs k v).length≤kvs.length+1:=by
 unfold putK
 split
 ·rw [zbN];lia
 ·rw [zaT,zbx,zbS];lia
theorem eK.fM {o:Option V}{u:Option yaj} (r:eK o u):o.isSome=u.isSome:=by
 cases o with
 | none=>cases u with
  | none=>rfl
  | some _=>exact (show False from r).elim
 | some _=>cases u with
  | none=>exact (show False from r).elim
  | some _=>rfl
theorem KV.val {kvs:List (κ×V)}{vs:List (κ×yaj)} (r:KV kvs vs) (k:κ):eK (eO kvs k) (valueAt vs k):=by
 unfold KV at r
 induction r with
 | nil=>exact True.intro
 | @cons p q ps qs h t ih =>
  obtain ⟨h1,h2⟩:=h
  by_cases e:p.1=k
  ·have e':q.1=k:=h1.symm.trans e
   have b:valueAt (q::qs) k=some q.2:=by simp [valueAt,zbR,e']
   rw [lV e,b];exact h2
  ·have e' : ¬ q.1=k:=fun z=>e (h1.trans z)
   have b:valueAt (q::qs) k=valueAt qs k:=by simp [valueAt,zbR,e']
   rw [lW e,b];exact ih
theorem KV.any {kvs:List (κ×V)}{vs:List (κ×yaj)} (r:KV kvs vs) (k:κ):(kvs.any fun kv=>decide (kv.1=k))=vs.any fun kv=>decide (kv.1=k):=by
 unfold KV at r
 induction r with
 | nil=>rfl
 | cons h t ih=>rw [zch,zch,ih,h.1]
theorem KV.repl {kvs:List (κ×V)}{vs:List (κ×yaj)} (r:KV kvs vs) (k:κ) {y:V}{u:yaj} (ry:RelV y u) :
  KV (kvs.map fun kv=>if kv.1=k then (kv.1,y) else kv) (vs.map fun kv=>if kv.1=k then (kv.1,u) else kv):=by
 unfold KV at r ⊢
 induction r with
 | nil=>exact .nil
 | @cons p q ps qs h t ih =>
  rw [zcg,zcg]
  refine .cons ?_ ih
  obtain ⟨h1,h2⟩:=h
  by_cases e:p.1=k
  ·rw [yIp e,yIp (h1.symm.trans e)];exact ⟨h1,ry⟩
  ·rw [yIn e,yIn (fun z=>e (h1.trans z))];exact ⟨h1,h2⟩
theorem KV.put {kvs:List (κ×V)}{vs:List (κ×yaj)} (r:KV kvs vs) (k:κ) {y:V}{u:yaj} (ry:RelV y u):KV (putK kvs k y) (stored vs k u):=by
 unfold putK stored
 rw [r.any k]
 by_cases e:(vs.any fun kv=>decide (kv.1=k))=true
 ·rw [yIp e,yIp e];exact r.repl k ry
 ·rw [yIn e,yIn e];exact Paired.snoc r ⟨rfl,ry⟩
theorem KV.drop {kvs:List (κ×V)}{vs:List (κ×yaj)} (r:KV kvs vs) (k:κ):KV (kT kvs k) (without vs k):=by
 unfold KV at r ⊢
 unfold kT without
 induction r with
 | nil=>exact .nil
 | @cons p q ps qs h t ih =>
  obtain ⟨h1,h2⟩:=h
  rw [zbz,zbz]
  by_cases e:p.1=k
  ·have a : ¬ decide (p.1≠k)=true:=by simp [e]
   have b : ¬ decide (q.1≠k)=true:=by simp [h1.symm.trans e]
   rw [yIn a,yIn b];exact ih
  ·have e' : ¬ q.1=k:=fun z=>e (h1.trans z)
   have a:decide (p.1≠k)=true:=by simp [e]
   have b:decide (q.1≠k)=true:=by simp [e']
   rw [yIp a,yIp b];exact .cons ⟨h1,h2⟩ ih
theorem KV.length {kvs:List (κ×V)}{vs:List (κ×yaj)} (r:KV kvs vs):kvs.length=vs.length:=Paired.length r
theorem CM (kvs:List (κ×V)) (k:κ):(kT kvs k).length≤kvs.length:=zav _ _
end
theorem kQ {P:yak}{w:yal}{k:Key}{u:yaj} (r:RelV (kV k) u):(bA P w).is k u=true:=by
 cases k with
 | inl i=>obtain ⟨t,e⟩:=(show ∃ t,u=Value.int i t from r);subst e;exact sL P w i t
 | inr x=>obtain ⟨t,e⟩:=(show ∃ t,u=Value.str x t from r);subst e;exact sJ P w x t
theorem pD {P:yak}{w:yal}:∀ {ks:List Key}{us:List yaj},Vals (ks.map kV) us→ItemsAre (bA P w) ks us
 | [],_,r=>by rw [zcm] at r;cases r;exact .nil
 | k::ks,_,r=>by
  rw [zcg] at r
  cases r with
  | cons h t=>exact .cons (kQ h) (pD t)
abbrev KT (H:Hp):List (List Key×V)→List (List Key×Addr×yaj)→Prop:=Paired fun p q=>p.1=q.1∧H q.2.1=some (.tup (p.1.map kV))∧RelV p.2 q.2.2
theorem KT.val {H:Hp}{kvs:List (List Key×V)}{xs:List (List Key×Addr×yaj)} (r:KT H kvs xs) (k:List Key):eK (eO kvs k) ((atKey xs k).map (·.2)):=by
 induction r with
 | nil=>exact True.intro
 | @cons p q ps qs h t ih =>
  obtain ⟨h1,_,h2⟩:=h
  by_cases e:p.1=k
  ·have e':q.1=k:=h1.symm.trans e
   have b:atKey (q::qs) k=some q.2:=by simp [atKey,zbR,e']
   rw [lV e,b];exact h2
  ·have e' : ¬ q.1=k:=fun z=>e (h1.trans z)
   have b:atKey (q::qs) k=atKey qs k:=by simp [atKey,zbR,e']
   rw [lW e,b];exact ih
theorem KT.repl {H:Hp}{kvs:List (List Key×V)}{xs:List (List Key×Addr×yaj)} (r:KT H kvs xs) (k:List Key) {y:V}{u:yaj} (ry:RelV y u) :
  KT H (kvs.map fun kv=>if kv.1=k then (kv.1,y) else kv) (xs.map (putAt k u)):=by
 induction r with
 | nil=>exact .nil
 | @cons p q ps qs h t ih =>
  rw [zcg,zcg]
  refine .cons ?_ ih
  obtain ⟨h1,h2,h3⟩:=h
  unfold putAt
  by_cases e:p.1=k
  ·rw [yIp e,yIp (h1.symm.trans e)];exact ⟨h1,h2,ry⟩
  ·rw [yIn e,yIn (fun z=>e (h1.trans z))];exact ⟨h1,h2,h3⟩
theorem KT.put {H:Hp}{kvs:List (List Key×V)}{xs:List (List Key×Addr×yaj)} (r:KT H kvs xs) (k:List Key) {b:Addr}{y:V}{u:yaj} (hb:H b=some (.tup (k.map kV))) (ry:RelV y u) :
  KT H (putK kvs k y) (storedH xs k b u):=by
 have e:(kvs.any fun kv=>decide (kv.1=k))=(atKey xs k).isSome:=by
  rw [lX,(r.val k).fM,zbw]
 unfold putK storedH
 rw [e]
 by_cases q:(atKey xs k).isSome=true
 ·rw [yIp q,yIp q];exact r.repl k ry
 ·rw [yIn q,yIn q];exact Paired.snoc r ⟨rfl,hb,ry⟩
theorem KT.keeps {H H':Hp}{kvs:List (List Key×V)}{xs:List (List Key×Addr×yaj)} (r:KT H kvs xs) (ht:∀ b ys,H b=some (.tup ys)→H' b=some (.tup ys)):KT H' kvs xs :=
 Paired.JL r fun _ _ z=>⟨z.1,ht _ _ z.2.1,z.2.2⟩
section
variable {P:yak}{w:yal}{H:Hp}{h:Heap}{a:Addr}
theorem Hh {u:HO} (ok:fW P w H h) (e:Rd H a u):aW P w H h a u:=e.ok ok
theorem nK {kvs:List (Key×V)} (ok:fW P w H h) (e:Rd H a (.dK kvs)):kvs.length≤yah∧(a==yat)=false∧∃ vs,KV kvs vs∧h.DictOf (bA P w) a vs :=
 show aW P w H h a (.dK kvs) from Hh ok e
theorem yh {kvs:List (Key×V)} (ok:fW P w H h) (e:H a=some (.dK kvs)):kvs.length≤yah∧(a==yat)=false∧∃ vs,KV kvs vs∧h.DictOf (bA P w) a vs:=nK ok (.inl e)
theorem nu {ks:List Key} (ok:fW P w H h) (e:H a=some (.tup (ks.map kV))):(tupleKind (bA P w)).is h ks a:=by
 obtain ⟨_,its,r,o,h1,h2,n,h3⟩:=(show aW P w H h a (.tup (ks.map kV)) from ok a _ e)
 exact ⟨o,its.toArray,n,h1,h2,h3,by simpa using pD r⟩
theorem pN {kvs:List (List Key×V)} (ok:fW P w H h) (e:Rd H a (.dT kvs)):kvs.length≤yah∧(a==yat)=false ∧
  ∃ xs,KT H kvs xs∧h.DictOfH (tupleKind (bA P w)) a xs:=by
 obtain ⟨z,y,xs,r,o,es,ep,h1,h2,h3,h4,h5⟩:=(show aW P w H h a (.dT kvs) from Hh ok e)
 refine ⟨z,y,xs,r,o,es,ep,h1,h2,h3,h4,fun x hx => ?_,h5⟩
 have all:∀ {l:List (List Key×V)}{m:List (List Key×Addr×yaj)},KT H l m→∀ x∈m,(tupleKind (bA P w)).is h x.1 x.2.1:=by
  intro l m q
  induction q with
  | nil=>intro x hx;exact nomatch hx
  | @cons p q ps qs hq t ih =>
   intro x hx
   rcases zcf.mp hx with e | hx
   ·subst e
    exact nu ok (by rw [← hq.1];exact hq.2.1)
   ·exact ih x hx
 exact all r x hx
theorem Mj {kvs:List (List Key×V)} (ok:fW P w H h) (e:H a=some (.dT kvs)):kvs.length≤yah∧(a==yat)=false ∧
  ∃ xs,KT H kvs xs∧h.DictOfH (tupleKind (bA P w)) a xs:=pN ok (.inl e)
end
def iP (H:Hp) (a:Addr) (y:V) (r:Option V):Prop :=
 (∃ kvs k,Rd H a (.dK kvs)∧y=kV k∧r=eO kvs k)∨∃ kvs k b,Rd H a (.dT kvs)∧y = .ref b∧H b=some (.tup (k.map kV))∧r=eO kvs k
def wG (H:Hp) (a:Addr) (y v:V) (H':Hp):Prop :=
 (∃ kvs k,H a=some (.dK kvs)∧y=kV k∧kvs.length<yah∧H'=upd H a (.dK (putK kvs k v))) ∨
 ∃ kvs k b,H a=some (.dT kvs)∧y = .ref b∧H b=some (.tup (k.map kV))∧kvs.length<yah∧H'=upd H a (.dT (putK kvs k v))
theorem iP.k {H:Hp}{a:Addr}{kvs:List (Key×V)}{k:Key} (e:H a=some (.dK kvs)):iP H a (kV k) (eO kvs k):=.inl ⟨kvs,k,.inl e,rfl,rfl⟩
theorem wG.k {H:Hp}{a:Addr}{kvs:List (Key×V)}{k:Key}{v:V} (e:H a=some (.dK kvs)) (hl:kvs.length<yah):wG H a (kV k) v (upd H a (.dK (putK kvs k v))):=.inl ⟨kvs,k,e,rfl,hl,rfl⟩
section
variable {X:Cx}{pins:List (Addr×Obj)}{σ:St}{H:Hp}{s:yai}{a:Addr}{y v:V}{u r:yaj}{o:Option V}{A:yam}{E:yaj→yai→Prop}
theorem Inv.big (I:Inv X pins σ H s):yat<s.heap.objs.size:=by
 have h:yar<s.heap.objs.size:=(I.mod.glob.keeps I.bk).lt
 exact Nat.lt_trans (by decide) h
theorem zR {Q:yaj→yai→Prop} (hu:A.units+1<cLine) (I:Inv X pins σ H s) (g:iP H a y (some v)) (ry:RelV y u) (h:∀ w' s',Inv X pins σ H s'→RelV v w'→Q w' s') :
  yas (model X.prog X.w) A (getItem (.ref a) u) Q E s:=by
 rcases g with ⟨kvs,k,e,ey,l⟩ | ⟨kvs,k,b,e,ey,eb,l⟩
 ·subst ey
  obtain ⟨z,hd,vs,rel,dd⟩:=nK I.hok e
  obtain ⟨w',hw,rw'⟩:=eK.some_of (v:=v) (o:=valueAt vs k) (by rw [l];exact rel.val k)
  exact wpAny_getItem_of (kQ ry) dd.mapOf hw (h w' _ (I.tok _) rw')
 ·subst ey
  cases (show u=Value.ref b from ry)
  obtain ⟨z,hd,xs,rel,dd⟩:=pN I.hok e
  obtain ⟨w',hw,rw'⟩:=eK.some_of (v:=v) (o:=(atKey xs k).map (·.2)) (by rw [l];exact rel.val k)
  obtain ⟨p,hp,hp2⟩:=Option.map_eq_some_iff.mp hw
  refine wpAny_getItem_heap (tupleKind_room_in1 hu) (nu I.hok eb) dd hp ?_
  rw [hp2]
  exact h w' _ (I.tok _) rw'
theorem OL {Q:yaj→yai→Prop} (hu:A.units+1<cLine) (I:Inv X pins σ H s) (g:iP H a y o) (ry:RelV y u) (h:∀ s',Inv X pins σ H s'→Q (.bool o.isSome) s') :
  yas (model X.prog X.w) A (yao .In u (.ref a)) Q E s:=by
 rcases g with ⟨kvs,k,e,ey,l⟩ | ⟨kvs,k,b,e,ey,eb,l⟩
 ·subst ey
  obtain ⟨z,hd,vs,rel,dd⟩:=nK I.hok e
  refine wpAny_in_of (kQ ry) hd dd.mapOf ?_
  rw [← (rel.val k).fM,← l]
  exact h _ (I.tok _)
 ·subst ey
  cases (show u=Value.ref b from ry)
  obtain ⟨z,hd,xs,rel,dd⟩:=pN I.hok e
  refine wpAny_in_heap (tupleKind_room_in1 hu) (nu I.hok eb) hd dd ?_
  have q:=(rel.val k).fM
  rw [zbw] at q
  rw [← q,← l]
  exact h _ (I.tok _)
theorem F4 {Q:yaj→yai→Prop} (hu:A.units+1<cLine) (I:Inv X pins σ H s) (g:iP H a y o) (ry:RelV y u) (h:∀ s',Inv X pins σ H s'→Q (.bool (!o.isSome)) s') :
  yas (model X.prog X.w) A (yao .NotIn u (.ref a)) Q E s:=by
 rcases g with ⟨kvs,k,e,ey,l⟩ | ⟨kvs,k,b,e,ey,eb,l⟩
 ·subst ey
  obtain ⟨z,hd,vs,rel,dd⟩:=nK I.hok e
  refine wpAny_notIn_of (kQ ry) hd dd.mapOf ?_
  rw [← (rel.val k).fM,← l]
  exact h _ (I.tok _)
 ·subst ey
  cases (show u=Value.ref b from ry)
  obtain ⟨z,hd,xs,rel,dd⟩:=pN I.hok e
  refine wpAny_notIn_heap (tupleKind_room_in1 hu) (nu I.hok eb) hd dd ?_
  have q:=(rel.val k).fM
  rw [zbw] at q
  rw [← q,← l]
  exact h _ (I.tok _)
theorem iF {h':Heap}{t':Nat}{ob:HO} (I:Inv X pins σ H s) (mu:KY (H a)) (hs:Heap.SameBut a s.heap h') (he:∃ q,h'.get? a=some q) (new:aW X.prog X.w (upd H a ob) h' a ob) :
  Inv X pins σ (upd H a ob) { s with heap:=h',toks:=t' } :=
 I.write (x:=a) (e:=a) mu (.inl rfl) (fun b q hb z=>(hs.2 b hb).trans z) he new
theorem vR {P:yak}{w:yal}{H':Hp}{h':Heap}{kvs:List (Key×V)}{vs:List (Key×yaj)} (z:kvs.length≤yah) (hd:(a==yat)=false) (rel:KV kvs vs) (dd:h'.DictOf (bA P w) a vs) :
  aW P w H' h' a (.dK kvs):=⟨z,hd,vs,rel,dd⟩
theorem zQ {H':Hp}{Q:Unit→yai→Prop} (hu:A.units+1<cLine) (I:Inv X pins σ H s) (g:wG H a y v H') (ry:RelV y u) (rv:RelV v r) (h:∀ s',Inv X pins σ H' s'→Q () s') :
  yas (model X.prog X.w) A (setItem (.ref a) u r) Q E s:=by
 rcases g with ⟨kvs,k,e,ey,l,eH⟩ | ⟨kvs,k,b,e,ey,eb,l,eH⟩
 ·subst ey eH
  obtain ⟨z,hd,vs,rel,dd⟩:=yh I.hok e
  have hz:vs.length≤yah:=by rw [← rel.length];exact z
  have hl:(putK kvs k v).length≤yah:=by have:=eZ kvs k v;lia
  refine wpAny_setItem_pairs (hsz:=hz) (kQ ry) dd fun h' dd' hs=>h _ ?_
  have he:∃ q,h'.get? a=some q:=let ⟨q,_,_,hq,_⟩:=dd';⟨q,hq⟩
  exact iF I (by rw [e];exact True.intro) hs he (vR hl hd (rel.put k rv) dd')
 ·subst ey eH
  cases (show u=Value.ref b from ry)
  obtain ⟨z,hd,xs,rel,dd⟩:=Mj I.hok e
  have hz:xs.length≤yah:=by rw [← Paired.length rel];exact z
  have hl:(putK kvs k v).length≤yah:=by have:=eZ kvs k v;lia
  refine wpAny_setItem_heap (hsz:=hz) (tupleKind_room_in1 hu) (nu I.hok eb) dd fun h' dd' hs=>h _ ?_
  obtain ⟨q,es,ep,hq,h2,h3,h4,_,h5⟩:=dd'
  refine iF I (by rw [e];exact True.intro) hs ⟨q,hq⟩ ⟨hl,hd,_,(rel.put k eb rv).keeps fun c ys ec => ?_,q,es,ep,hq,h2,h3,h4,h5⟩
  rw [av (LV ec e (fun z=>nomatch z))]
  exact ec
end
section
variable {X:Cx}{pins:List (Addr×Obj)}{σ:St}{H:Hp}{s:yai}{a:Addr}{kvs:List (Key×V)}{k:Key}{u:yaj}{A:yam}{E:yaj→yai→Prop}
theorem Mm {v:V}{more:List yaj}{Q:yaj→yai→Prop} (I:Inv X pins σ H s) (e:H a=some (.dK kvs)) (ry:RelV (kV k) u) (l:eO kvs k=some v) (hm:more=[]∨∃ x,more=[x])
  (h:∀ w' s',Inv X pins σ (upd H a (.dK (kT kvs k))) s'→RelV v w'→Q w' s'):yas (model X.prog X.w) A (call (.builtin "dict.pop") (.ref a::u::more)) Q E s:=by
 obtain ⟨z,hd,vs,rel,dd⟩:=yh I.hok e
 obtain ⟨w',hw,rw'⟩:=eK.some_of (v:=v) (o:=valueAt vs k) (by rw [← l];exact rel.val k)
 have hp:(keyPart u).isSome=true:=by
  cases k with
  | inl i=>obtain ⟨t,q⟩:=(show ∃ t,u=Value.int i t from ry);subst q;rfl
  | inr x=>obtain ⟨t,q⟩:=(show ∃ t,u=Value.str x t from ry);subst q;rfl
 have ha:argsOk "dict.pop" ⟨.ref a::u::more,[]⟩:=by
  rcases hm with q | ⟨x,q⟩
  ·subst q;exact PySem.F.args_dict_pop_2 _ _
  ·subst q;exact PySem.F.args_dict_pop_3 _ _ _
 refine call_meetsIn PySem.F.slot_dict_pop dd.typeIs PySem.F.entry_dict_pop ha (meets_dict_pop_there (bA X.prog X.w) a (kQ ry) more hm hp)
  ⟨vs,w',dd,by rw [← rel.length];exact z,hw,fun h' dd' hs=>h w' _ ?_ rw'⟩
 have he:∃ q,h'.get? a=some q:=let ⟨q,_,_,hq,_⟩:=dd';⟨q,hq⟩
 exact iF I (by rw [e];exact True.intro) hs he (vR (zcs (CM kvs k) z) hd (rel.drop k) dd')
theorem Mn {Q:yaj→yai→Prop} (I:Inv X pins σ H s) (e:Rd H a (.dK kvs)) (h:∀ t s',Inv X pins σ H s'→Q (.int kvs.length t) s'):yas (model X.prog X.w) A (call (.builtin "len") [.ref a]) Q E s:=by
 obtain ⟨z,hd,vs,rel,dd⟩:=nK I.hok e
 refine call_len_dict hd dd (by rw [← rel.length];rw [yag] at z;lia) ?_
 rw [← rel.length]
 exact h _ _ (I.tok _)
end
def GN (i:Expr):Prop:=∀ ov iv,subscripted i false ov iv=operate [ov,iv] (getItem ov iv)
theorem Ew {prog:yak}{w:yal}{A:yam}{E:yaj→yai→Prop}{s:yai}{env:Env}{value slice:Expr}{pos:Pos}{T id:String}{Q:yaj→yai→Prop}
  (hl:typeLookup (.type T) "__getitem__" = pure (some (.builtin id))) (hs:GN slice)
  (h:yas (model prog w) A (eval value env) (fun o s₁=>yas (model prog w) A (eval slice env) (fun i s₂=>s₂.TypeIs o T∧yas (model prog w) A (getItem o i) Q E s₂) E s₁) E s) :
  yas (model prog w) A (eval (.Subscript value slice pos) env) Q E s:=by
 refine Subscript_ (yac h (fun o s₁ h₁=>yac h₁ (fun i s₂ h₂ => ?_) fun _ _ x=>x) fun _ _ x=>x)
 obtain ⟨hT,h₂⟩:=h₂
 unfold subscriptTail
 refine yaa ?_
 rw [getitemInPython_of_ne hT.not_modules]
 refine yaa (wpAny_specialOf hT hl ?_)
 have fin:yas (model prog w) A (subscripted slice false o i) (fun r s₃=>yas (model prog w) A (letTemporaryGo value o r >>= fun _=>pure r) Q E s₃) E s₂:=by
  rw [hs o i]
  exact wpAny_operating (yac h₂ (fun r s₃ h₃=>yaa (wpAny_letTemporaryGo (yab h₃))) fun _ _ x=>x)
 first
  | exact yab (yaa fin)
  | exact yaa (yab (yaa fin))
  | exact yaa fin
theorem tE {X:Cx}{pins:List (Addr×Obj)}{σ:St}{H:Hp}{s:yai}{a:Addr}{y:V}{o:Option V} (I:Inv X pins σ H s) (g:iP H a y o):s.TypeIs (.ref a) "dict" := by
 rcases g with ⟨kvs,k,e,_,_⟩ | ⟨kvs,k,b,e,_,_,_⟩
 ·obtain ⟨_,_,vs,_,dd⟩:=nK I.hok e
  exact dd.typeIs
 ·obtain ⟨_,_,xs,_,dd⟩:=pN I.hok e
  exact dd.typeIs
def AR (td ty:TE):TE:=fun σ H Q=>td σ H fun x H1=>ty σ H1 fun y H2=>∃ a v,x = .ref a∧iP H2 a y (some v)∧Q v H2
def BB (td ty tv:TE):TS:=fun D σ H=>tv σ H fun v H1=>td σ H1 fun x H2=>ty σ H2 fun y H3=>∃ a H4,x = .ref a∧wG H3 a y v H4∧D.nx σ H4
section
variable {X:Cx}{o i e value:Expr}{pos pos' tpos:Pos}{td ty tv:TE}
theorem c6 (hu:X.A.units+1<cLine) (ho:PE X o td) (hi:PE X i ty) (hs:GN i):PE X (.Subscript o i pos) (AR td ty):=by
 intro pins s σ H Q I h
 refine Ew PySem.F.slot_dict_getitem.lookup hs (bX (ho pins s σ H _ I h) fun u s1 ⟨x,H1,I1,rx,q1⟩=>bX (hi pins s1 σ H1 _ I1 q1) fun iv s2 ⟨y,H2,I2,ry,a,v,ex,g,q2⟩ => ?_)
 subst ex
 obtain rfl:u=Value.ref a:=rx
 exact ⟨tE I2 g,zR hu I2 g ry fun w' s3 I3 rw'=>⟨v,H2,I3,rw',q2⟩⟩
theorem jy (hu:X.A.units+1<cLine) (ho:PE X o td) (hi:PE X i ty) (hv:PE X value tv) (hs:yau value (some (.Subscript o i pos')) pos.line X.env=pure false) :
  PS X (.Assign [.Subscript o i pos'] value pos) (BB td ty tv):=by
 intro pins s σ H D I h
 refine wpAny_Assign_Subscript (bX (hv pins s σ H _ I h) fun r s1 ⟨v,H1,I1,rv,q1⟩=>bX (ho pins s1 σ H1 _ I1 q1) fun u s2 ⟨x,H2,I2,rx,q2⟩=>bX (hi pins s2 σ H2 _ I2 q2) fun iv s3 ⟨y,H3,I3,ry,a,H4,ex,g,q3⟩ => ?_) hs
 subst ex
 obtain rfl:u=Value.ref a:=rx
 exact zQ hu I3 g ry rv fun s4 I4=>⟨σ,H4,I4,q3⟩
end
theorem tD {P:yak}{w:yal}{H:Hp} (h:Heap) (hb:yat<h.objs.size):aW P w H (h.push { cls:=.type "dict",data:=.dict #[] }) h.objs.size (.dK []) :=
 ⟨zcF _,beq_eq_false_iff_ne.mpr (Ne.symm (zcr hb)),[],.nil,Heap.DictOf.new h⟩
def AQ:TE:=fun _ H Q=>∀ p,H p=none→Q (.ref p) (upd H p (.dK []))
section
variable {X:Cx}{pos:Pos}
theorem jD:PE X (.Dict [] [] pos) AQ:=fun pins s σ H Q I h =>
 wpAny_Dict_empty ⟨.ref s.heap.objs.size,_,I.laid (a:=s.heap.objs.size) (o:=.dK []) (t':=s.toks) (fun _ _ q=>zar _ q) (zcE _) (tD s.heap I.big),rfl,h _ (I.hok.fresh (zcE _))⟩
end
def uM:List (TE×TE)→St→Hp→(List (V×V)→Hp→Prop)→Prop
 | [],_,H,Q=>Q [] H
 | (tk,tv)::r,σ,H,Q=>tk σ H fun x H1=>tv σ H1 fun y H2=>uM r σ H2 fun ps H3=>Q ((x,y)::ps) H3
abbrev VV:List (V×V)→List (yaj×yaj)→Prop:=Paired fun p q=>RelV p.1 q.1∧RelV p.2 q.2
def MN (X:Cx) (pos:Pos) (keys:List (Option Expr)) (values:List Expr) (p7:List (TE×TE)):Prop :=
 ∀ (pins:List (Addr×Obj)) (s:yai) (σ:St) (H:Hp) (Q:List (V×V)→Hp→Prop),Inv X pins σ H s→uM p7 σ H Q →
  yas (model X.prog X.w) X.A (evalPairs (pairTrees keys values X.env pos)) (fun vs s'=>∃ ps H',Inv X pins σ H' s'∧VV ps vs∧Q ps H') X.xe s
theorem qy {X:Cx}{pos:Pos}:MN X pos [] [] []:=fun pins s σ H Q I h=>pairTrees_nil_walk ⟨[],H,I,.nil,h⟩
theorem gF {X:Cx}{pos:Pos}{k v:Expr}{ks:List (Option Expr)}{vs:List Expr}{tk tv:TE}{p7:List (TE×TE)} (hk:PE X k tk) (hv:PE X v tv) (hr:MN X pos ks vs p7) :
  MN X pos (some k::ks) (v::vs) ((tk,tv)::p7):=fun pins s σ H Q I h =>
 pairTrees_cons_walk (bX (hk pins s σ H _ I h) fun u s1 ⟨x,H1,I1,rx,q1⟩=>bX (hv pins s1 σ H1 _ I1 q1) fun w2 s2 ⟨y,H2,I2,ry,q2⟩ =>
  bX (hr pins s2 σ H2 _ I2 q2) fun ws s3 ⟨ps,H3,I3,rel,q3⟩=>⟨(x,y)::ps,H3,I3,.cons ⟨rx,ry⟩ rel,q3⟩)
noncomputable def nh (kvs more:List (Key×V)):List (Key×V):=more.foldl (fun acc kv=>putK acc kv.1 kv.2) kvs
theorem KV.merge:∀ {more:List (Key×V)}{rs:List (Key×yaj)}{kvs:List (Key×V)}{vs:List (Key×yaj)},KV more rs→KV kvs vs→KV (nh kvs more) (merged vs rs):=by
 intro more rs kvs vs r
 unfold KV at r
 induction r generalizing kvs vs with
 | nil=>intro q;exact q
 | @cons p q ps qs h t ih =>
  intro r0
  have e:KV (putK kvs p.1 p.2) (stored vs q.1 q.2):=by
   have:=r0.put p.1 h.2
   rw [← h.1];exact this
  exact ih e
theorem iU:∀ (more kvs:List (Key×V)),(nh kvs more).length≤kvs.length+more.length
 | [],kvs=>by show kvs.length≤kvs.length+0;lia
 | p::r,kvs=>by
  have h1:=iU r (putK kvs p.1 p.2)
  have h2:=eZ kvs p.1 p.2
  show (nh (putK kvs p.1 p.2) r).length≤_
  rw [zbx];lia
theorem nV {P:yak}{w:yal}:∀ {kvs:List (Key×V)}{ws:List (yaj×yaj)},VV (kvs.map fun kv=>(kV kv.1,kv.2)) ws→∃ rs,Carries (bA P w) ws rs∧KV kvs rs
 | [],_,r=>by rw [zcm] at r;cases r;exact ⟨[],True.intro,.nil⟩
 | p::kvs,_,r=>by
  rw [zcg] at r
  cases r with
  | @cons a b as bs h t =>
   obtain ⟨rs,c,q⟩:=nV (P:=P) (w:=w) t
   obtain ⟨b1,b2⟩:=b
   exact ⟨(p.1,b2)::rs,⟨kQ h.1,rfl,c⟩,.cons ⟨rfl,h.2⟩ q⟩
def G3 (p7:List (TE×TE)):TE:=fun σ H Q=>∀ p,H p=none→uM p7 σ (upd H p (.dK [])) fun ps H2=>H2 p=some (.dK [])∧∃ kvs:List (Key×V),ps=kvs.map (fun kv=>(kV kv.1,kv.2))∧kvs.length≤15∧Q (.ref p) (upd H2 p (.dK (nh [] kvs)))
theorem qA {X:Cx}{pos:Pos}{keys:List (Option Expr)}{values:List Expr}{p7:List (TE×TE)} (h:MN X pos keys values p7) (hall:keys.all (·.isSome)=true) (hl:keys.length=values.length) (h0:keys≠[])
  (h15:keys.length≤15):PE X (.Dict keys values pos) (G3 p7):=by
 intro pins s σ H Q I q
 have hn:=I.hok.fresh (zcE s.heap.objs.size)
 have I1:=I.laid (a:=s.heap.objs.size) (o:=.dK []) (h':=s.heap.push { cls:=.type "dict",data:=.dict #[] }) (t':=s.toks) (fun _ _ q=>zar _ q) (zcE _) (tD s.heap I.big)
 refine wpAny_Dict_walk (knd:=bA X.prog X.w) hall hl h0 h15 (bX (h pins _ σ _ _ I1 (q _ hn)) fun ws s2 ⟨ps,H2,I2,rel,e,kvs,ep,lk,q2⟩ => ?_)
 subst ep
 obtain ⟨rs,c,rk⟩:=nV (P:=X.prog) (w:=X.w) rel
 obtain ⟨z,hd,vs0,r0,dd⟩:=yh I2.hok e
 cases r0
 refine ⟨rs,c,dd,fun h' dd' hs=>⟨.ref s.heap.objs.size,_,?_,rfl,q2⟩⟩
 have hz:(nh [] kvs).length≤yah:=by
  have h1:=iU kvs []
  rw [zbS] at h1
  rw [yag];lia
 have he:∃ q,h'.get? s.heap.objs.size=some q:=let ⟨q,_,_,hq,_⟩:=dd';⟨q,hq⟩
 exact iF I2 (by rw [e];exact True.intro) hs he (vR hz hd (rk.merge .nil) dd')
structure M1 (X:Cx) (o:Expr) (m:Str) (apos:Pos) (e:Expr) (cpos:Pos):Prop where
 base:attributeBase o m X.env (eval o X.env)=eval o X.env
 few:((yav cpos (yap [e] X.env)).all (fun x => !x.1)&&(yaH cpos (yaG [] X.env)).all (fun x=>x.1.isSome)
  && decide (([e]:List Expr).length+([]:List Keyword).length+(if ([]:List Keyword).isEmpty then 0 else 1)<30))=true
 line:(apos.endLine==cpos.line)=true
 trees:yav cpos (yap [e] X.env)=[(false,eval e X.env)]
structure M2 (X:Cx) (o:Expr) (m:Str) (apos:Pos) (e f:Expr) (cpos:Pos):Prop where
 base:attributeBase o m X.env (eval o X.env)=eval o X.env
 few:((yav cpos (yap [e,f] X.env)).all (fun x => !x.1)&&(yaH cpos (yaG [] X.env)).all (fun x=>x.1.isSome)
  && decide (([e,f]:List Expr).length+([]:List Keyword).length+(if ([]:List Keyword).isEmpty then 0 else 1)<30))=true
 line:(apos.endLine==cpos.line)=true
 trees:yav cpos (yap [e,f] X.env)=[(false,eval e X.env),(false,eval f X.env)]
def Pq (H:Hp) (a:Addr):Prop:=(∃ kvs,Rd H a (.dK kvs))∨∃ kvs,Rd H a (.dT kvs)
theorem JV {X:Cx}{pins:List (Addr×Obj)}{σ:St}{H:Hp}{s:yai}{a:Addr} (I:Inv X pins σ H s) (d:Pq H a) :
  s.TypeIs (.ref a) "dict" ∧ (∀ b,Value.ref a = .ref b→∃ ob,s.heap.get? b=some ob∧ob.dict=none)∧(a==yat)=false:=by
 rcases d with ⟨kvs,e⟩ | ⟨kvs,e⟩
 ·obtain ⟨_,hd,vs,_,dd⟩:=nK I.hok e
  refine ⟨dd.typeIs,fun b q => ?_,hd⟩
  cases q
  obtain ⟨ob,_,_,h1,h2,_⟩:=dd
  exact ⟨ob,h1,h2.2.1⟩
 ·obtain ⟨_,hd,xs,_,dd⟩:=pN I.hok e
  refine ⟨dd.typeIs,fun b q => ?_,hd⟩
  cases q
  obtain ⟨ob,_,_,h1,h2,_⟩:=dd
  exact ⟨ob,h1,h2.2.1⟩
def AJ (td ty:TE):TE:=fun σ H Q=>td σ H fun x H1=>∃ a,x = .ref a∧Pq H1 a∧ty σ H1 fun y H2=>∃ kvs k v,H2 a=some (.dK kvs)∧y=kV k∧eO kvs k=some v∧Q v (upd H2 a (.dK (kT kvs k)))
section
variable {X:Cx}{o e f:Expr}{apos cpos:Pos}{td ty tx:TE}
theorem BX (ho:PE X o td) (he:PE X e ty) (m:M1 X o "pop" apos e cpos):PE X (.Call (.Attribute o "pop" apos) [e] [] cpos) (AJ td ty):=by
 intro pins s σ H Q I h
 refine wpAny_Call_method m.base m.few m.line PySem.F.plainAttrs_dict PySem.F.slot_dict_pop PySem.F.type_dict_pop (bX (ho pins s σ H _ I h) fun u s1 ⟨x,H1,I1,rx,a,ex,d,q1⟩ => ?_)
 subst ex
 obtain rfl:u=Value.ref a:=rx
 obtain ⟨t1,t2,_⟩:=JV I1 d
 refine ⟨t1,t2,?_⟩
 rw [m.trees]
 refine zat rfl (Calls.evalArgs_plain (zbf (bX (he pins s1 σ H1 _ I1 q1) fun iv s2 ⟨y,H2,I2,ry,kvs,k,v,ea,ey,l,q2⟩=>Calls.spliced_nil ?_)))
 subst ey
 exact Mm I2 ea ry l (.inl rfl) fun w' s3 I3 rw'=>⟨v,_,I3,rw',q2⟩
end
end L2
namespace HT
open PySem PyProof.Rows
section
variable {prog:yak}{w:yal}{A:yam}{E:yaj→yai→Prop}{s:yai}
theorem Gn {t b:Addr}{vs ws:List yaj}{Q:yaj→yai→Prop} (ht:IsTup s.heap t vs.toArray) (hb:IsTup s.heap b ws.toArray) (hv:vs≠[])
  (h1:ws=[]→Q (.ref t) s) (h2:ws≠[]→Q (.ref s.heap.objs.size) { s with heap:=s.heap.push { cls:=.type "tuple",data:=.seq (vs++ws).toArray } })
  (hsz:vs.length+ws.length≤yah):yas (model prog w) A (binaryOp .Add (.ref t) (.ref b)) Q E s:=by
 obtain ⟨⟨cls,dd,data,sl⟩,ho,hc,n,hd⟩:=id ht
 obtain ⟨⟨cls2,dd2,data2,sl2⟩,ho2,hc2,n2,hd2⟩:=id hb
 simp only at hc hd hc2 hd2
 subst hc hd hc2 hd2
 have e:vs.toArray++ws.toArray=(vs++ws).toArray:=by simp
 by_cases hw:ws=[]
 ·exact concat_meets ⟨_,ho,rfl⟩ ⟨_,ho2,rfl⟩ noFill_tuple_add seq_tuple_add PySem.F.slot_tuple_add PySem.F.entry_tuple_add (PySem.F.args_tuple_add_2 _ _)
   (tuple_addW1 t b vs.toArray ws.toArray n n2 dd dd2 sl sl2 (by simpa using hv) (by simp [hw])) ⟨ho,ho2,h1 hw⟩
 ·refine concat_meets ⟨_,ho,rfl⟩ ⟨_,ho2,rfl⟩ noFill_tuple_add seq_tuple_add PySem.F.slot_tuple_add PySem.F.entry_tuple_add (PySem.F.args_tuple_add_2 _ _)
   (tuple_addW2 t b vs.toArray ws.toArray n n2 dd dd2 sl sl2 (by simpa using hv) (by simpa using hw) (by rw [zbg,zbg];exact hsz)) ⟨ho,ho2,?_⟩
  rw [e]
  exact h2 hw
noncomputable def b6 (n d:Nat):Option Int→Nat
 | none=>d
 | some v=>if v<0 then (v+(n:Int)).toNat else min v.toNat n
theorem xC (n d k:Nat):b6 n d (some (k:Int))=min k n:=by
 show (if (k:Int)<0 then ((k:Int)+(n:Int)).toNat else min (k:Int).toNat n)=min k n
 rw [yIn (by lia),Int.toNat_natCast]
theorem Je (n d:Nat) (hd:d≤n) (o:Option Int):b6 n d o≤n:=by
 cases o with
 | none=>exact hd
 | some v =>
  show (if v<0 then (v+(n:Int)).toNat else min v.toNat n)≤n
  by_cases hv:v<0
  ·rw [yIp hv];lia
  ·rw [yIn hv];exact Nat.min_le_right _ _
theorem ym (v:Int) (n d:Nat):(if v<0 then max (v+(n:Int)) 0 else min v (n:Int))=((b6 n d (some v):Nat):Int):=by
 show (if v<0 then max (v+(n:Int)) 0 else min v (n:Int))=(((if v<0 then (v+(n:Int)).toNat else min v.toNat n):Nat):Int)
 by_cases hv:v<0
 ·simp only [yIp hv];lia
 ·simp only [yIn hv];lia
theorem vY (lo hi:Option Int) (n:Nat):Builtin.Slice.sliceAdjust lo hi 1 (n:Int)=(((b6 n 0 lo:Nat):Int),((b6 n n hi:Nat):Int)):=by
 have h1 : ¬ ((1:Int)<0):=by lia
 unfold Builtin.Slice.sliceAdjust
 simp only [h1,if_false]
 refine Prod.ext ?_ ?_
 ·cases lo with
  | none=>rfl
  | some v=>exact ym v n 0
 ·cases hi with
  | none=>rfl
  | some v=>exact ym v n n
theorem vj (i j:Nat):Builtin.Slice.slicePlaces (i:Int) (j:Int) 1=j - i:=by
 unfold Builtin.Slice.slicePlaces
 have h1:(1:Int) > 0:=by lia
 simp only [h1,if_true,Int.ediv_one]
 split <;> lia
theorem mh {v:yaj}{o:Option Int}{Q:Option Int→yai→Prop} (p:IsPart v o) (h:Q o s):yas (model prog w) A (Builtin.Slice.slicePartIndex v) Q E s:=by
 cases p with
 | none=>exact slicePart_none h
 | int i t=>exact slicePart_int h
theorem fH {sl:Addr}{vl vu:yaj}{lo hi:Option Int}{n:Nat}{Q:Int×Int×Nat→yai→Prop} (hs:s.heap.IsSliceOf sl vl vu .none) (pl:IsPart vl lo) (pu:IsPart vu hi)
  (h:Q (((b6 n 0 lo:Nat):Int),1,b6 n n hi - b6 n 0 lo) s):yas (model prog w) A (Builtin.Slice.sliceApplied (.ref sl) (pure (n:Int))) Q E s:=by
 obtain ⟨os,hos,hcs,hds⟩:=id hs
 unfold Builtin.Slice.sliceApplied Builtin.Slice.sliceFields
 refine yaa (yaa (wpAny_field hos hds (x:=vl) rfl (yaa (wpAny_field hos hds (x:=vu) rfl (yaa (wpAny_field hos hds (x:=.none) rfl (yab ?_)))))))
 refine yaa (slicePart_none ?_)
 show yas _ _ (if ((1:Int)==0)=true then _ else _) _ _ s
 rw [yIn (by decide)]
 refine yaa (mh pl (yaa (mh pu (yaa (yab ?_)))))
 show yas _ _ (match Builtin.Slice.sliceAdjust lo hi 1 (n:Int) with | (lo,hi)=>pure (lo,(1:Int),Builtin.Slice.slicePlaces lo hi 1)) _ _ s
 rw [vY lo hi n]
 show yas _ _ (pure (((b6 n 0 lo:Nat):Int),(1:Int),Builtin.Slice.slicePlaces ((b6 n 0 lo:Nat):Int) ((b6 n n hi:Nat):Int) 1)) _ _ s
 rw [vj]
 exact yab h
theorem BS (xs:Array yaj) (i k:Nat):((zcI k).filterMap fun (m:Nat)=>xs[((i:Int)+(m:Int)*1).toNat]?).toArray=((xs.toList.drop i).take k).toArray:=by
 have e:(fun (m:Nat)=>xs[((i:Int)+(m:Int)*1).toNat]?)=fun m=>xs[i+m]? := by
  funext m
  have:((i:Int)+(m:Int)*1).toNat=i+m:=by lia
  rw [this]
 rw [e]
 have:=pick_run xs i k
 rw [List.filterMap_map] at this
 have e2:((fun x=>xs[x]?) ∘ fun x=>i+x)=fun m=>xs[i+m]? := rfl
 rw [e2] at this
 rw [this]
theorem jJ {t sl:Addr}{items:Array yaj}{vl vu:yaj}{lo hi:Option Int}{Q:yaj→yai→Prop} (ht:IsTup s.heap t items) (hs:s.heap.IsSliceOf sl vl vu .none) (pl:IsPart vl lo) (pu:IsPart vu hi)
  (hw : ¬ (b6 items.size 0 lo=0∧b6 items.size items.size hi=items.size))
  (h:Q (.ref s.heap.objs.size) { s with heap:=s.heap.push { cls:=.type "tuple",data:=.seq ((items.toList.drop (b6 items.size 0 lo)).take (b6 items.size items.size hi - b6 items.size 0 lo)).toArray } })
  (hsz:items.size≤yah):yas (model prog w) A (getItem (.ref t) (.ref sl)) Q E s:=by
 have x8:sizeOk (.seq ((items.toList.drop (b6 items.size 0 lo)).take (b6 items.size items.size hi - b6 items.size 0 lo)).toArray):=by
  show ((items.toList.drop (b6 items.size 0 lo)).take (b6 items.size items.size hi - b6 items.size 0 lo)).toArray.size≤yah
  rw [zbg,zby,zbA,zaP]
  lia
 have hj:b6 items.size items.size hi≤items.size:=Je _ _ (zcE _) hi
 obtain ⟨os,hos,hcs,hds⟩:=id hs
 have hTs:s.TypeIs (.ref sl) "slice" := ⟨os,hos,hcs⟩
 unfold getItem
 try with_reducible refine yad ?_
 first | refine yaa (yab ?_) | skip
 refine yaa (wpAny_sequenceKey ht.typeIs (by decide) ?_)
 refine yaa (wpAny_callSpecial?_slot (name:=Str.ofString "__getitem__") ht.typeIs PyProof.Rows.slot_tuple_getitem
  (wpAny_call_entry PyProof.Rows.slot_tuple_getitem ht.typeIs entry_tuple_getitem ?_ (args_tuple_getitem _ _)))
 show yas _ _ (Builtin.Tuple.tupleItemsOf (.ref t) >>= _) _ _ s
 refine yaa (tupleItemsOf_ ht ?_)
 refine yaa (wpAny_typeOf hTs ?_)
 rw [yIp (by decide)]
 refine yaa (fH hs pl pu ?_)
 have hno : ¬ ((((b6 items.size 0 lo:Nat):Int)==0&&(1:Int)==1&&(b6 items.size items.size hi - b6 items.size 0 lo)==items.size)=true):=by
  intro q
  rw [zbH,zbH] at q
  have q1:((b6 items.size 0 lo:Nat):Int)=0:=eq_of_beq q.1.1
  have q2:b6 items.size items.size hi - b6 items.size 0 lo=items.size:=eq_of_beq q.2
  exact hw ⟨by lia,by lia⟩
 show yas _ _ (if (((b6 items.size 0 lo:Nat):Int)==0&&(1:Int)==1&&(b6 items.size items.size hi - b6 items.size 0 lo)==items.size)=true then _ else _) _ _ s
 rw [yIn hno,BS]
 first
  | exact yaa (m:=Builtin.Tuple.tupleExact _) (yaf (yab ⟨_,rfl,yab h⟩) x8)
  | exact yaa (m:=Builtin.Tuple.tupleExact _) (yaf (yaa (yab (yab ⟨_,rfl,yab h⟩))) x8)
  | exact yaa (yaa (m:=Builtin.Tuple.tupleExact _) (yaf (yab (yab ⟨_,rfl,yab h⟩)) x8))
  | exact yaa (yaa (m:=Builtin.Tuple.tupleExact _) (yaf (yab ⟨_,rfl,yab h⟩) x8))
end
end HT
namespace L2
open PySem PySem.Spec PyProof.Rows
abbrev TO:=St→Hp→(Option Int→Hp→Prop)→Prop
def PO (X:Cx) (e:Option Expr) (t:TO):Prop :=
 ∀ (pins:List (Addr×Obj)) (s:yai) (σ:St) (H:Hp) (Q:Option Int→Hp→Prop),Inv X pins σ H s→t σ H Q →
  yas (model X.prog X.w) X.A (evalPart e X.env) (fun u s'=>∃ o H',Inv X pins σ H' s'∧IsPart u o∧Q o H') X.xe s
def wN:TO:=fun _ H Q=>Q none H
def GY (t:TE):TO:=fun σ H Q=>t σ H fun x H1=>∃ i,x = .int i∧Q (some i) H1
section
variable {X:Cx}{e:Expr}{te:TE}{lo hi:Option Expr}{tl th:TO}{pos p2:Pos}
theorem dS:PO X none wN:=by
 intro pins s σ H Q I h
 rw [evalPart_none]
 exact yab ⟨none,H,I,.none,h⟩
theorem cZ (h:PE X e te):PO X (some e) (GY te):=by
 intro pins s σ H Q I hw
 rw [evalPart_some]
 refine bX (h pins s σ H _ I hw) fun u s1 ⟨x,H1,I1,r1,q1⟩ => ?_
 obtain ⟨i,rfl,q⟩:=q1
 obtain ⟨t,rfl⟩:=r1
 exact ⟨some i,H1,I1,.int i t,q⟩
def Ek (X:Cx) (r:V→Option Int→Option Int→Hp→VK→Prop):Prop :=
 ∀ (pins:List (Addr×Obj)) (s:yai) (σ:St) (H:Hp) (x:V) (v vl vu:yaj) (lo hi:Option Int) (sl:Addr) (Q:VK),Inv X pins σ H s→RelV x v→s.heap.IsSliceOf sl vl vu .none→IsPart vl lo→IsPart vu hi→r x lo hi H Q →
  ∃ T id,typeLookup (.type T) "__getitem__" = pure (some (.builtin id))∧s.TypeIs v T∧yas (model X.prog X.w) X.A (getItem v (.ref sl)) (EP X pins σ Q) X.xe s
theorem Ek.or {r r':V→Option Int→Option Int→Hp→VK→Prop} (h:Ek X r) (h':Ek X r'):Ek X (fun x lo hi H Q=>r x lo hi H Q∨r' x lo hi H Q):=by
 intro pins s σ H x v vl vu lo hi sl Q I rx hs pl pu q
 rcases q with q | q
 ·exact h pins s σ H x v vl vu lo hi sl Q I rx hs pl pu q
 ·exact h' pins s σ H x v vl vu lo hi sl Q I rx hs pl pu q
def O7 (r:V→Option Int→Option Int→Hp→VK→Prop) (te:TE) (tl th:TO):TE:=fun σ H Q=>te σ H fun x H1=>tl σ H1 fun l H2=>th σ H2 fun u H3=>r x l u H3 Q
theorem cL {r:V→Option Int→Option Int→Hp→VK→Prop} (hr:Ek X r) (he:PE X e te) (hl:PO X lo tl) (hu:PO X hi th):PE X (.Subscript e (.Slice lo hi none p2) pos) (O7 r te tl th):=by
 intro pins s σ H Q I h
 refine Subscript_ (bX (he pins s σ H _ I h) fun v s1 ⟨x,H1,I1,r1,q1⟩ => ?_)
 refine wpAny_Slice (bX (hl pins s1 σ H1 _ I1 q1) fun vl s2 ⟨l,H2,I2,pl,q2⟩=>bX (hu pins s2 σ H2 _ I2 q2) fun vu s3 ⟨u,H3,I3,pu,q3⟩ => ?_)
 rw [evalPart_none]
 refine yab ?_
 have I4:Inv X pins σ H3 { s3 with heap:=s3.heap.push { cls:=.type "slice",data:=.fields #[vl,vu,.none] } }:=I3.kept (t':=s3.toks) fun b ob q=>zar _ q
 obtain ⟨T,id,hT,ht,hg⟩:=hr pins { s3 with heap:=s3.heap.push { cls:=.type "slice",data:=.fields #[vl,vu,.none] } } σ H3 x v vl vu l u s3.heap.objs.size Q I4 r1 (Heap.IsSliceOf.new ..) pl pu q3
 show yas (model X.prog X.w) X.A (subscriptTail e (.Slice lo hi none p2) v (.ref s3.heap.objs.size)) (EP X pins σ Q) X.xe { s3 with heap:=s3.heap.push { cls:=.type "slice",data:=.fields #[vl,vu,.none] } }
 exact tail_any (ops:=[.ref s3.heap.objs.size,v]) ht hT hg (by with_unfolding_all rfl)
noncomputable def tK (xs:List V) (lo hi:Option Int):List V:=(xs.drop (HT.b6 xs.length 0 lo)).take (HT.b6 xs.length xs.length hi - HT.b6 xs.length 0 lo)
theorem kY (xs:List V) (lo hi:Option Int):(tK xs lo hi).length≤xs.length:=by
 unfold tK
 rw [zby,zbA]
 lia
def NV (K:yaM):V→Option Int→Option Int→Hp→VK→Prop:=fun x lo hi H Q=>∃ a xs,x = .ref a∧dI K H a xs ∧
 ¬ (HT.b6 xs.length 0 lo=0∧HT.b6 xs.length xs.length hi=xs.length)∧∀ p,H p=none→Q (.ref p) (upd H p (.tup (tK xs lo hi)))
theorem Iz:Ek X (NV X.K):=by
 intro pins s σ H x v vl vu lo hi sl Q I rx hs pl pu h
 obtain ⟨a,xs,rfl,hx,hw,q⟩:=h
 cases rx
 obtain ⟨its,r,ht,hz⟩:=I.tuple hx
 have hlen:its.toArray.size=xs.length:=by rw [zbg];exact r.length.symm
 refine ⟨"tuple",_,PyProof.Rows.slot_tuple_getitem.lookup,ht.typeIs,?_⟩
 refine HT.jJ ht hs pl pu (by rw [hlen];exact hw) ?_ (by rw [hlen];exact hz)
 rw [hlen]
 refine ⟨.ref s.heap.objs.size,_,I.laid (t':=s.toks) (o:=.tup (tK xs lo hi)) (fun b ob q=>zar _ q) (zcE _) ?_,rfl,q _ (I.hok.fresh (zcE _))⟩
 exact ⟨zcs (kY xs lo hi) hz,_,(r.drop (HT.b6 xs.length 0 lo)).take (HT.b6 xs.length xs.length hi - HT.b6 xs.length 0 lo),IsTup.new _ _⟩
def LJ (K:yaM):R2:=fun x y H Q=>∃ a b xs ys,x = .ref a∧y = .ref b∧dI K H a xs∧dI K H b ys∧xs≠[]∧xs.length+ys.length≤yah ∧
 (ys=[]→Q (.ref a) H)∧(ys≠[]→∀ p,H p=none→Q (.ref p) (upd H p (.tup (xs++ys))))
theorem Vals.qF {xs:List V}{us:List yaj} (r:Vals xs us):us=[]↔xs=[]:=by
 cases r with
 | nil=>simp
 | cons _ _=>simp
theorem Fg:fV X (binaryOp .Add) (LJ X.K):=by
 intro pins s σ H x y v u Q I rx ry h
 obtain ⟨a,b,xs,ys,rfl,rfl,ha,hb,hx,hz,q1,q2⟩:=h
 cases rx
 cases ry
 obtain ⟨its,r1,p1,_⟩:=I.tuple ha
 obtain ⟨its2,r2,p2,_⟩:=I.tuple hb
 refine HT.Gn p1 p2 (fun z=>hx (r1.qF.mp z)) (fun z=>⟨.ref a,H,I,rfl,q1 (r2.qF.mp z)⟩) (fun z => ?_) (by rw [← r1.length,← r2.length];exact hz)
 refine ⟨.ref s.heap.objs.size,_,I.laid (t':=s.toks) (o:=.tup (xs++ys)) (fun b ob q=>zar _ q) (zcE _) ?_,rfl,q2 (fun w=>z (r2.qF.mpr w)) _ (I.hok.fresh (zcE _))⟩
 exact ⟨by rw [zaT];exact hz,_,r1.append r2,IsTup.new _ _⟩
end
noncomputable def Hy (n:Nat) (i:Int):Option Nat:=if 0≤i then (if i<n then some i.toNat else none) else if -(n:Int)≤i then some (i+n).toNat else none
noncomputable def jT {α:Type} (xs:List α) (i:Int):Option α:=(Hy xs.length i).bind fun j=>xs[j]?
theorem FF {n:Nat}{i:Int}{j:Nat} (h:Hy n i=some j):seqIndex? i n=some j∧j<n ∧ -(n:Int)≤i∧i<n:=by
 unfold Hy at h
 by_cases h0:0≤i
 ·rw [yIp h0] at h
  by_cases h1:i<n
  ·rw [yIp h1] at h
   have e:i.toNat=j:=zcH.inj h
   exact ⟨by rw [seqIndex_of h0 h1,e],by lia,by lia,h1⟩
  ·rw [yIn h1] at h;cases h
 ·rw [yIn h0] at h
  by_cases h1 : -(n:Int)≤i
  ·rw [yIp h1] at h
   have e:(i+n).toNat=j:=zcH.inj h
   exact ⟨by rw [seqIndex_neg (by lia) h1,e],by lia,h1,by lia⟩
  ·rw [yIn h1] at h;cases h
theorem qX {α:Type}{xs:List α}{i:Int}{v:α} (h:jT xs i=some v):∃ j,seqIndex? i xs.length=some j∧xs[j]? = some v∧j<xs.length ∧ -(xs.length:Int)≤i∧i<xs.length:=by
 unfold jT at h
 cases e:Hy xs.length i with
 | none=>rw [e] at h;cases h
 | some j =>
  rw [e] at h
  obtain ⟨h1,h2,h3,h4⟩:=FF e
  exact ⟨j,h1,h,h2,h3,h4⟩
theorem cG {α:Type}{xs:List α}{j:Nat}{v:α} (h:xs[j]? = some v):jT xs (j:Int)=some v:=by
 have hj:j<xs.length:=(zaf.mp h).1
 have e:Hy xs.length (j:Int)=some j:=by
  unfold Hy
  rw [yIp (by lia),yIp (by lia)];simp
 unfold jT;rw [e];exact h
def rj (b:Expr):Prop:=∀ o i,subscripted b false o i=operate [o,i] (getItem o i)
def Ao (X:Cx) (r:R2):Prop :=
 ∀ (value slice:Expr) (pins:List (Addr×Obj)) (s:yai) (σ:St) (H:Hp) (x y:V) (v u:yaj) (Q:VK),Inv X pins σ H s→RelV x v→RelV y u→r x y H Q →
  subscripted slice false v u=operate [v,u] (getItem v u)→yas (model X.prog X.w) X.A (subscriptTail value slice v u) (EP X pins σ Q) X.xe s
def GP (X:Cx) (id:String) (r:V→List V→Hp→VK→Prop):Prop :=
 ∀ (pins:List (Addr×Obj)) (s:yai) (σ:St) (H:Hp) (x:V) (xs:List V) (v:yaj) (us:List yaj) (Q:VK),Inv X pins σ H s→RelV x v→Vals xs us→r x xs H Q →
  yas (model X.prog X.w) X.A (call (.builtin id) (v::us)) (EP X pins σ Q) X.xe s
section
variable {X:Cx}{a b:Expr}{ta tb:TE}{pos:Pos}
theorem Ao.or {r r':R2} (h:Ao X r) (h':Ao X r'):Ao X (fun x y H Q=>r x y H Q∨r' x y H Q):=by
 intro value slice pins s σ H x y v u Q I rx ry q hs
 rcases q with q | q
 ·exact h value slice pins s σ H x y v u Q I rx ry q hs
 ·exact h' value slice pins s σ H x y v u Q I rx ry q hs
theorem aF {r:R2} (hr:Ao X r) (ha:PE X a ta) (hb:PE X b tb) (hs:rj b):PE X (.Subscript a b pos) (wM r ta tb):=by
 intro pins s σ H Q I h
 exact Subscript_ (Ks ha hb I h fun v u s2 x y H2 I2 rx ry q=>hr a b pins s2 σ H2 x y v u Q I2 rx ry q (hs _ _))
def Jl (K:yaM):R2:=fun x y H Q=>∃ p xs i v,x = .ref p∧y = .int i∧dm K H p xs∧jT xs i=some v∧Q v H
def EZ (K:yaM):R2:=fun x y H Q=>∃ p xs i v,x = .ref p∧y = .int i∧dI K H p xs∧jT xs i=some v∧Q v H
def LH:R2:=fun x y H Q=>∃ z i c,x = .str z∧y = .int i∧z.length≤yah∧jT z.cps.toList i=some c∧Q (.str ⟨#[c]⟩) H
theorem xY:Ao X (Jl X.K):=by
 intro value slice pins s σ H x y v u Q I rx ry h hs
 obtain ⟨p,xs,i,z,rfl,rfl,hq,he,q⟩:=h
 cases rx
 obtain ⟨t,rfl⟩:=ry
 obtain ⟨its,r,pl,hz⟩:=I.list hq
 obtain ⟨j,h1,h2,h3,h4,h5⟩:=qX he
 obtain ⟨w,ew,rw'⟩:=r.get h2
 have hl:=r.length
 have hn:=nq
 have fin:EP X pins σ Q w s:=⟨z,H,I,rw',q⟩
 by_cases h0:0≤i
 ·have hj:i.toNat=j:=by
   rw [seqIndex_of h0 h5] at h1
   exact zcH.inj h1
  exact item_listR pl.isList h0 (by lia) (by rw [hj];simpa using ew) fin hs
 ·have hj:(i+(its.toArray.size:Int)).toNat=j:=by
   rw [seqIndex_neg (by lia) h4] at h1
   rw [zbg,← hl]
   exact zcH.inj h1
  exact subscriptTail_builtinR (x:=w) pl.isList.typeIs slot_list_getitem.lookup
   (wpAny_getItem_list_neg (Q:=fun r s'=>r=w∧EP X pins σ Q r s') pl.isList (by lia) (by rw [zbg] <;> lia) (by lia) (by rw [hj];simpa using ew) ⟨rfl,fin⟩) hs
theorem vI:Ao X (EZ X.K):=by
 intro value slice pins s σ H x y v u Q I rx ry h hs
 obtain ⟨p,xs,i,z,rfl,rfl,hq,he,q⟩:=h
 cases rx
 obtain ⟨t,rfl⟩:=ry
 obtain ⟨its,r,pl,hz⟩:=I.tuple hq
 obtain ⟨j,h1,h2,h3,h4,h5⟩:=qX he
 obtain ⟨w,ew,rw'⟩:=r.get h2
 have hl:=r.length
 have hn:=nq
 have fin:EP X pins σ Q w s:=⟨z,H,I,rw',q⟩
 exact subscriptTail_builtinR (x:=w) pl.typeIs slot_tuple_getitem.lookup
  (getItem_tuple (j:=j) (Q:=fun r s'=>r=w∧EP X pins σ Q r s') pl (by lia) (by lia) (by rw [zbg,← hl];exact h1) (by simpa using ew) ⟨rfl,fin⟩) hs
theorem JT:Ao X LH:=by
 intro value slice pins s σ H x y v u Q I rx ry h hs
 obtain ⟨z,i,c,rfl,rfl,hz,he,q⟩:=h
 obtain ⟨t,rfl⟩:=rx
 obtain ⟨t',rfl⟩:=ry
 obtain ⟨j,h1,h2,h3,h4,h5⟩:=qX he
 have hl:z.cps.toList.length=z.length:=by simp [Str.length]
 rw [hl] at h1 h4 h5
 have hn:=nq
 exact tail_any (typeIs_str s z t) slot_str_getitem.lookup (getItem_str (c:=c) (by
  have e1:decide (i < -(2 ^ 63:Int))=false:=yDf (by lia)
  have e2:decide (i≥2 ^ 63)=false:=yDf (by lia)
  rw [e1,e2,Bool.or_false]) (by rw [h1];simpa using h2) ⟨.str ⟨#[c]⟩,H,I.tok _,⟨_,rfl⟩,q⟩) hs
def rIx (K:yaM):R2:=fun x y H Q=>Jl K x y H Q∨EZ K x y H Q∨LH x y H Q
theorem JU:Ao X (rIx X.K):=xY.or (vI.or JT)
theorem qf (lo hi:Option Int) (n:Nat):(sliceBounds lo hi none n).1=((HT.b6 n 0 lo:Nat):Int)∧(sliceBounds lo hi none n).2.1=((HT.b6 n n hi:Nat):Int)∧(sliceBounds lo hi none n).2.2=1:=by
 refine ⟨?_,?_,rfl⟩
 ·cases lo with
  | none=>simp [sliceBounds,HT.b6]
  | some i =>
   simp only [sliceBounds,HT.b6,Option.getD_none,show (1:Int) > 0 by decide,if_true]
   by_cases h:i<0
   ·simp only [h,if_true] <;> lia
   ·simp only [h,if_false] <;> lia
 ·cases hi with
  | none=>simp [sliceBounds,HT.b6]
  | some i =>
   simp only [sliceBounds,HT.b6,Option.getD_none,show (1:Int) > 0 by decide,if_true]
   by_cases h:i<0
   ·simp only [h,if_true] <;> lia
   ·simp only [h,if_false] <;> lia
theorem oE (its:List yaj) (lo hi:Option Int):slicePick its.toArray lo hi none=((its.drop (HT.b6 its.length 0 lo)).take (HT.b6 its.length its.length hi - HT.b6 its.length 0 lo)).toArray:=by
 obtain ⟨h1,h2,h3⟩:=qf lo hi its.toArray.size
 unfold slicePick
 rw [h1,h2,h3]
 simp only [sliceRange_one,pick_run,zbg] <;> rfl
def NW (K:yaM):V→Option Int→Option Int→Hp→VK→Prop:=fun x lo hi H Q=>∃ a xs,x = .ref a∧dm K H a xs∧∀ p,H p=none→Q (.ref p) (upd H p (.lst (tK xs lo hi)))
theorem EB:Ek X (NW X.K):=by
 intro pins s σ H x v vl vu lo hi sl Q I rx hs pl pu h
 obtain ⟨a,xs,rfl,hx,q⟩:=h
 cases rx
 obtain ⟨its,r,ht,hz⟩:=I.list hx
 have hlen:=r.length
 refine ⟨"list",_,slot_list_getitem.lookup,ht.isList.typeIs,?_⟩
 refine wpAny_getItem_list_slice ht.isList hs pl pu .none (by simp) ?_ (by rw [zbg] <;> lia)
 rw [oE,← hlen]
 refine ⟨.ref s.heap.objs.size,_,I.laid (t':=s.toks) (o:=.lst (tK xs lo hi)) (fun b ob q=>zar _ q) (zcE _) ?_,rfl,q _ (I.hok.fresh (zcE _))⟩
 exact ⟨zcs (kY xs lo hi) hz,_,0,(r.drop (HT.b6 xs.length 0 lo)).take (HT.b6 xs.length xs.length hi - HT.b6 xs.length 0 lo),zaR _ rfl⟩
noncomputable def kR:V→Bool
 | .bw=>true
 | .bl _=>true
 | .int _=>true
 | .str _=>true
 | _=>false
noncomputable def HF:V→V→Bool
 | .bw,.bw=>true
 | .bl a,.bl b=>a==b
 | .bl a,.int b=>(if a then 1 else 0)==b
 | .int a,.bl b=>a==(if b then 1 else 0)
 | .int a,.int b=>a==b
 | .str a,.str b=>a==b
 | _,_=>false
theorem J0 {A:yam}{s:yai}{y x:V}{u v:yaj} (ry:RelV y u) (rx:RelV x v) (fy:kR y=true) (fx:kR x=true):SeqAt.EqAt A s u v (HF y x):=by
 cases y with
 | bw =>
  cases ry
  cases x with
  | bw=>cases rx;exact SeqAt.EqAt.same _
  | bl b=>cases rx;exact SeqAt.EqAt.none_bool b
  | int b=>obtain ⟨t,rfl⟩:=rx;exact SeqAt.EqAt.none_int b t
  | str b=>obtain ⟨t,rfl⟩:=rx;exact SeqAt.EqAt.none_str b t
  | _=>exact absurd (show false=true from fx) zbb
 | bl a =>
  cases ry
  cases x with
  | bw=>cases rx;exact SeqAt.EqAt.bool_none a
  | bl b=>cases rx;exact SeqAt.EqAt.bool_bool a b
  | int b=>obtain ⟨t,rfl⟩:=rx;exact SeqAt.EqAt.bool_int a b t
  | str b=>obtain ⟨t,rfl⟩:=rx;exact SeqAt.EqAt.bool_str a b t
  | _=>exact absurd (show false=true from fx) zbb
 | int a =>
  obtain ⟨t',rfl⟩:=ry
  cases x with
  | bw=>cases rx;exact SeqAt.EqAt.int_none a t'
  | bl b=>cases rx;exact SeqAt.EqAt.int_bool a t' b
  | int b=>obtain ⟨t,rfl⟩:=rx;exact SeqAt.EqAt.int_int a t' b t
  | str b=>obtain ⟨t,rfl⟩:=rx;exact SeqAt.EqAt.int_str a t' b t
  | _=>exact absurd (show false=true from fx) zbb
 | str a =>
  obtain ⟨t',rfl⟩:=ry
  cases x with
  | bw=>cases rx;exact SeqAt.EqAt.str_none a t'
  | bl b=>cases rx;exact SeqAt.EqAt.str_bool a t' b
  | int b=>obtain ⟨t,rfl⟩:=rx;exact SeqAt.EqAt.str_int a t' b t
  | str b=>obtain ⟨t,rfl⟩:=rx;exact SeqAt.EqAt.str_str a t' b t
  | _=>exact absurd (show false=true from fx) zbb
 | _=>exact absurd (show false=true from fy) zbb
noncomputable def F3 (x:V) (u:yaj):Bool:=match u with
 | .none=>HF .bw x
 | .bool b=>HF (.bl b) x
 | .int i _=>HF (.int i) x
 | .str z _=>HF (.str z) x
 | _=>false
theorem CJ {x y:V}{u:yaj} (r:RelV y u) (f:kR y=true):F3 x u=HF y x:=by
 cases y with
 | bw=>cases r;rfl
 | bl b=>cases r;rfl
 | int i=>obtain ⟨t,rfl⟩:=r;rfl
 | str z=>obtain ⟨t,rfl⟩:=r;rfl
 | _=>exact absurd (show false=true from f) zbb
theorem qZ {x:V}:∀ {xs:List V}{us:List yaj},Vals xs us→xs.all kR=true→us.any (F3 x)=xs.any fun y=>HF y x
 | _,_,.nil,_=>rfl
 | y::xs,u::us,.cons r t,f=>by
  rw [zci,zbH] at f
  rw [zch,zch,CJ r f.1,qZ t f.2]
theorem nj {A:yam}{s:yai}{x:V}{v:yaj} (rx:RelV x v) (fx:kR x=true):∀ {xs:List V}{us:List yaj},Vals xs us→xs.all kR=true→∀ u∈us,SeqAt.EqAt A s u v (F3 x u)
 | _,_,.nil,_=>fun u hu=>by cases hu
 | y::xs,u::us,.cons r t,f=>fun u' hu=>by
  rw [zci,zbH] at f
  rcases zcf.mp hu with rfl | hu
  ·rw [CJ r f.1];exact J0 r rx f.1 fx
  ·exact nj rx fx t f.2 u' hu
noncomputable def Ot (x:V) (xs:List V):Bool:=xs.any fun y=>HF y x
def O9 (K:yaM) (neg:Bool):R2:=fun x y H Q=>∃ p xs,y = .ref p∧(dm K H p xs∨dI K H p xs)∧kR x=true∧xs.all kR=true∧Q (.bl (if neg then !Ot x xs else Ot x xs)) H
theorem zh:fV X (yao .In) (O9 X.K false):=by
 intro pins s σ H x y v u Q I rx ry h
 obtain ⟨p,xs,rfl,hq,fx,fs,q⟩:=h
 cases ry
 rcases hq with hq | hq
 ·obtain ⟨its,r,pl,hz⟩:=I.list hq
  refine SeqAt.in_listAt (F3 x) pl.isList (fun w hw=>nj rx fx r fs w (by simpa using hw)) ⟨.bl _,H,I,rfl,?_⟩
  rw [show its.toArray.any (F3 x)=its.any (F3 x) by simp,qZ r fs]
  exact q
 ·obtain ⟨its,r,pl,hz⟩:=I.tuple hq
  refine SeqAt.in_tupleAt (F3 x) pl (fun w hw=>nj rx fx r fs w (by simpa using hw)) ⟨.bl _,H,I,rfl,?_⟩
  rw [show its.toArray.any (F3 x)=its.any (F3 x) by simp,qZ r fs]
  exact q
theorem qU:b9 X (.type "list") (fun xs H Q=>∃ p ys,xs=[.ref p]∧(dm X.K H p ys∨dI X.K H p ys)∧∀ l,H l=none→Q (.ref l) (upd H l (.lst ys))):=by
 intro pins s σ H xs us Q I r h
 obtain ⟨p,ys,rfl,hq,q⟩:=h
 obtain ⟨u,rfl,rx⟩:=vals1 r
 cases rx
 have fin:∀ (its:List yaj),Vals ys its→ys.length≤yah→∀ (h':Heap) (c':Nat),(∀ b o',s.heap.get? b=some o'→h'.get? b=some o') →
   h'.get? s.heap.objs.size=some { cls:=.type "list",dict:=none,data:=.seq its.toArray c',slots := #[] }→EP X pins σ Q (.ref s.heap.objs.size) { s with heap:=h' }:=fun its r' hz h' c' kp e =>
  ⟨.ref s.heap.objs.size,_,I.laid (t':=s.toks) kp (zcE _) (show aW X.prog X.w _ h' _ (.lst ys) from ⟨hz,its,c',r',e⟩),rfl,q _ (I.hok.fresh (zcE _))⟩
 rcases hq with hq | hq
 ·obtain ⟨its,r',pl,hz⟩:=I.list hq
  have hlen:=r'.length
  obtain ⟨o,ho,hc,n,hd⟩:=pl.isList
  exact call_list_seq p (.inl rfl) ho hc hd (fun h' c' kp e=>fin its r' hz h' c' kp e) (by simp only [zbg] <;> lia)
 ·obtain ⟨its,r',pl,hz⟩:=I.tuple hq
  have hlen:=r'.length
  obtain ⟨o,ho,hc,n,hd⟩:=pl
  exact call_list_seq p (.inr rfl) ho hc hd (fun h' c' kp e=>fin its r' hz h' c' kp e) (by simp only [zbg] <;> lia)
theorem oK:b9 X (.type "tuple") (fun xs H Q=>∃ p ys,xs=[.ref p]∧((dm X.K H p ys∧∀ l,H l=none→Q (.ref l) (upd H l (.tup ys)))∨(dI X.K H p ys∧Q (.ref p) H))):=by
 intro pins s σ H xs us Q I r h
 obtain ⟨p,ys,rfl,h⟩:=h
 obtain ⟨u,rfl,rx⟩:=vals1 r
 cases rx
 rcases h with ⟨hq,q⟩ | ⟨hq,q⟩
 ·obtain ⟨its,r',pl,hz⟩:=I.list hq
  have hlen:=r'.length
  refine call_tuple_list pl.isList (fun h' kp => ?_) (by simp only [zbg] <;> lia)
  have I1:Inv X pins σ H { s with heap:=h' }:=I.kept (t':=s.toks) kp
  have I2:Inv X pins σ (upd H h'.objs.size (.tup ys)) { s with heap:=h'.push { cls:=.type "tuple",data:=.seq its.toArray } } :=
   I1.laid (t':=s.toks) (fun b o e=>zar _ e) (zcE _) (show aW X.prog X.w _ _ _ (.tup ys) from ⟨hz,its,r',IsTup.new _ _⟩)
  exact ⟨.ref h'.objs.size,_,I2,rfl,q _ (I1.hok.fresh (zcE _))⟩
 ·obtain ⟨its,r',pl,hz⟩:=I.tuple hq
  exact call_tuple_same pl ⟨.ref p,H,I,rfl,q⟩
def Nv (K:yaM) (T:String) (x:V) (H:Hp):Prop:=match x with
 | .str _=>T = "str"
 | .int _=>T = "int"
 | .ref p=>(T = "list" ∧ ∃ xs,dm K H p xs)∨(T = "tuple" ∧ ∃ o,K.lookup p=some o∧o.cls = .type "tuple" ∧ o.dict=none) ∨
   (T = "dict" ∧ ((∃ kvs,H p=some (.dK kvs))∨∃ kvs,H p=some (.dT kvs)))∨(T = "set" ∧ ∃ S n,H p=some (.set S n))
 | _=>False
theorem Ia {pins:List (Addr×Obj)}{σ:St}{H:Hp}{s:yai}{T:String}{x:V}{v:yaj} (I:Inv X pins σ H s) (r:RelV x v) (ty:Nv X.K T x H) :
  s.TypeIs v T∧∀ a,v = .ref a→∃ ob,s.heap.get? a=some ob∧ob.dict=none:=by
 cases x with
 | str z =>
  obtain ⟨t,rfl⟩:=r
  cases (show T = "str" from ty)
  exact ⟨typeIs_str s z t,fun _ e=>nomatch e⟩
 | int i =>
  obtain ⟨t,rfl⟩:=r
  cases (show T = "int" from ty)
  exact ⟨typeIs_int s i t,fun _ e=>nomatch e⟩
 | ref p =>
  cases r
  rcases ty with ⟨rfl,xs,hq⟩ | ⟨rfl,o,hk,hc,hd⟩ | ⟨rfl,hk⟩ | ⟨rfl,S,n,hk⟩
  ·obtain ⟨its,_,pl,_⟩:=I.list hq
   refine ⟨pl.isList.typeIs,fun a e => ?_⟩
   cases e
   obtain ⟨o,n,e,c,hd,_⟩:=pl
   exact ⟨o,e,hd⟩
  ·refine ⟨⟨o,I.iV p o hk,hc⟩,fun a e => ?_⟩
   cases e
   exact ⟨o,I.iV _ o hk,hd⟩
  ·have z:∃ o,s.heap.get? p=some o∧o.ExactDict:=by
    rcases hk with ⟨kvs,hk⟩ | ⟨kvs,hk⟩
    ·obtain ⟨_,_,_,_,o,_,_,e,ex,_⟩:=I.hok p _ hk
     exact ⟨o,e,ex⟩
    ·obtain ⟨_,_,_,_,o,_,_,e,ex,_⟩:=I.hok p _ hk
     exact ⟨o,e,ex⟩
   obtain ⟨o,e,ex⟩:=z
   refine ⟨⟨o,e,ex.1⟩,fun a e2 => ?_⟩
   cases e2
   exact ⟨o,e,ex.2.1⟩
  ·obtain ⟨o,_,_,_,e,ex,_⟩:=I.hok p _ hk
   refine ⟨⟨o,e,ex.1⟩,fun a e2 => ?_⟩
   cases e2
   exact ⟨o,e,ex.2.1⟩
 | _=>exact False.elim ty
def MY (K:yaM) (T:String) (r:V→List V→Hp→VK→Prop) (to:TE) (t:TA):TE:=fun σ H Q=>to σ H fun x H1=>Nv K T x H1∧t σ H1 fun xs H2=>r x xs H2 Q
variable {o e:Expr}{es:List Expr}{to:TE}{t:TA}{name:Str}{apos cpos:Pos}{T id:String}{r:V→List V→Hp→VK→Prop}
theorem mY (pa:PlainAttrs T) (slot:Slot T name id) (hty:typeOf (.builtin id)=pure (.type "method_descriptor")) (hm:GP X id r) (ho:PE X o to) (ha:PA X (e::es) t)
  (hbase:attributeBase o name X.env (eval o X.env)=eval o X.env:=by rfl)
  (hfew:((yav cpos (yap (e::es) X.env)).all (fun x => !x.1)&&(yaH cpos (yaG [] X.env)).all (fun x=>x.1.isSome)
   && decide ((e::es).length+([]:List Keyword).length+(if ([]:List Keyword).isEmpty then 0 else 1)<30))=true:=by rfl)
  (hline:(apos.endLine==cpos.line)=true:=by rfl) (hs:yap (e::es) X.env=(false,eval e X.env)::yap es X.env:=by rfl) (hplain:(yav cpos (yap es X.env)).any (·.1)=false:=by rfl) :
  PE X (.Call (.Attribute o name apos) (e::es) [] cpos) (MY X.K T r to t):=by
 intro pins s σ H Q I h
 refine wpAny_Call_method_late hbase hfew hline rfl (bX (ho pins s σ H _ I h) fun v s1 ⟨x,H1,I1,r1,ty,q1⟩ => ?_)
 obtain ⟨h1,h2⟩:=Ia I1 r1 ty
 refine ⟨T,id,pa,slot,hty,h1,h2,?_⟩
 have hA:=ha cpos pins s1 σ H1 _ I1 q1
 rw [hs] at hA ⊢
 refine zat (by show (false||(yav cpos (yap es X.env)).any (·.1))=false;rw [hplain] <;> rfl) (Calls.evalArgs_plain ?_)
 exact bX hA fun us s2 ⟨vs,H2,I2,r2,q2⟩=>hm pins s2 σ H2 x vs v us Q I2 r1 r2 q2
end
def MtM (X:Cx) (id:String) (r:V→List V→Hp→VK→Prop):Prop :=
 ∀ (pins:List (Addr×Obj)) (s:yai) (σ:St) (H:Hp) (x:V) (xs:List V) (v:yaj) (us:List yaj) (Q:VK),Inv X pins σ H s→RelV x v→Vals xs us→r x xs H Q →
  yas (model X.prog X.w) X.A (call (.builtin id) (v::us)) (EP X pins σ Q) X.xe s
theorem Vals.one:∀ {x:V}{us:List yaj},Vals [x] us→∃ u,us=[u]∧RelV x u
 | _,_,.cons r .nil=>⟨_,rfl,r⟩
theorem Vals.rep {xs:List V}{us:List yaj} (h:Vals xs us):∀ k:Nat,Vals (zca k xs).flatten (zca k us).flatten
 | 0=>.nil
 | k+1=>by
  rw [zaK,zaK,zbk,zbk]
  exact Vals.append h (Vals.rep h k)
theorem foldl_rep (its:List yaj):∀ (k:Nat) (acc:List yaj),
  List.foldl (fun x1 x2=>x1++x2) acc.toArray (zca k its.toArray)=(acc++(zca k its).flatten).toArray
 | 0,acc=>by simp
 | k+1,acc=>by
  have e:acc.toArray++its.toArray=(acc++its).toArray:=by simp
  have e2:(acc++its)++(zca k its).flatten=acc++(zca (k+1) its).flatten:=by
   rw [zaK,zbk,zbl]
  rw [← e2,← foldl_rep its k (acc++its),← e,zaK,zbT]
section
variable {X:Cx}{pins:List (Addr×Obj)}{σ:St}{H:Hp}{s:yai}{l b:Addr}{xs ys zs:List V}
theorem Inv.Oi {its its':List yaj}{n:Nat}{f:Array yaj→Array yaj}{t':Nat} (I:Inv X pins σ H s) (hH:H l=some (.lst xs))
  (e:s.heap.get? l=some { cls:=.type "list",data:=.seq its.toArray n }) (hf:f its.toArray=its'.toArray) (hv:Vals ys its') (hz:ys.length≤yah) :
  Inv X pins σ (upd H l (.lst ys)) { s with heap:=s.heap.update l (Obj.mapSeq f),toks:=t' }:=by
 have q:=PySem.IsL.update e f
 rw [hf] at q
 refine I.write (x:=l) (e:=l) (by rw [hH];exact trivial) (.inl rfl) (fun b' u hb hu=>(zas s.heap (Obj.mapSeq f) (Ne.symm hb)).trans hu) ⟨_,q⟩ ?_
 exact ⟨hz,its',_,hv,q⟩
theorem Inv.L5 {its:List yaj}{t':Nat} (I:Inv X pins σ H s) (hv:Vals ys its) (hz:ys.length≤yah) :
  Inv X pins σ (upd H s.heap.objs.size (.lst ys)) { s with heap:=s.heap.push { cls:=.type "list",data:=.seq its.toArray },toks:=t' } :=
 I.laid (fun _ _ q=>zar _ q) (zcE _) ⟨hz,its,0,hv,zaR _ rfl⟩
theorem Inv.fresh (I:Inv X pins σ H s):H s.heap.objs.size=none:=I.hok.fresh (zcE _)
theorem Inv.Fz (I:Inv X pins σ H s) (hH:H l=some (.lst xs)):xs.length≤yah∧∃ (its:List yaj) (n:Nat),Vals xs its∧xs.length=its.length∧s.heap.get? l=some { cls:=.type "list",data:=.seq its.toArray n }:=by
 obtain ⟨z,its,n,r,e⟩:=I.hok l _ hH
 exact ⟨z,its,n,r,r.length,e⟩
theorem B8 {n:Nat} (h:n≤yah):Builtin.List.listTooLong n=false:=by
 unfold Builtin.List.listTooLong
 exact yDf (by lia)
end
section
variable {X:Cx}
def xK:V→List V→Hp→VK→Prop:=fun x vs H Q=>∃ l xs y,x = .ref l∧vs=[y]∧H l=some (.lst xs)∧xs.length<yah∧Q .bw (upd H l (.lst (xs++[y])))
theorem zv:MtM X "list.append" xK:=by
 intro pins s σ H x vs v us Q I rx rv h
 obtain ⟨l,xs,y,rfl,rfl,hH,hz,q⟩:=h
 cases rx
 obtain ⟨u,rfl,ru⟩:=rv.one
 obtain ⟨z,its,n,r,hl,e⟩:=I.Fz hH
 refine call_meets F.slot_list_append ⟨_,e,rfl⟩ F.entry_list_append (F.args_list_append_2 _ _) (PySem.list_append l its.toArray n u (by rw [zbg];lia)) ⟨e,?_⟩
 refine ⟨.bw,_,I.Oi (its':=its++[u]) hH e (by simp) (r.append (.cons ru .nil)) ?_,rfl,q⟩
 rw [zaT,List.length_singleton]
 lia
def Od:R2:=fun x y H Q=>∃ l b xs zs,x = .ref l∧y = .ref b∧H l=some (.lst xs)∧H b=some (.lst zs)∧xs.length+zs.length≤yah∧∀ p,H p=none→Q (.ref p) (upd H p (.lst (xs++zs)))
theorem kq:fV X (binaryOp .Add) Od:=by
 intro pins s σ H x y v u Q I rx ry h
 obtain ⟨l,b,xs,zs,rfl,rfl,hH,hB,hz,q⟩:=h
 cases rx
 cases ry
 obtain ⟨z,its,n,r,hl,e⟩:=I.Fz hH
 obtain ⟨z2,its2,n2,r2,hl2,e2⟩:=I.Fz hB
 refine PySem.P.add_list e e2 ?_ (by rw [zbg,zbg];lia)
 have ea:its.toArray++its2.toArray=(its++its2).toArray:=by simp
 rw [ea]
 exact ⟨.ref _,_,I.L5 (t':=s.toks) (r.append r2) (by rw [zaT];lia),rfl,q _ I.fresh⟩
def NY:R2:=fun x y H Q=>∃ l k xs,x = .ref l∧y = .int k∧H l=some (.lst xs) ∧ -(2 ^ 63)≤k∧k<2 ^ 63∧xs.length*k.toNat≤yah ∧
 ∀ p,H p=none→Q (.ref p) (upd H p (.lst (zca k.toNat xs).flatten))
theorem len_rep {α:Type} (xs:List α) (k:Nat):(zca k xs).flatten.length=k*xs.length:=by
 induction k with
 | zero=>simp
 | succ k ih=>rw [zaK,zbk,zaT,ih,Nat.succ_mul,Nat.add_comm]
theorem Ju:fV X (binaryOp .Mult) NY:=by
 intro pins s σ H x y v u Q I rx ry h
 obtain ⟨l,k,xs,rfl,rfl,hH,h1,h2,hz,q⟩:=h
 cases rx
 obtain ⟨t,rfl⟩:=ry
 obtain ⟨z,its,n,r,hl,e⟩:=I.Fz hH
 have hlen:its.toArray.size*k.toNat≤yah:=by rw [zbg,← hl];exact hz
 have hcap : ¬ its.toArray.size*k.toNat > (2 ^ 63 - 1) / 8:=by
  have:(yah:Nat)≤(2 ^ 63 - 1) / 8:=by decide
  lia
 have hfit : ¬ (!Builtin.List.listFitsIndex k)=true:=by
  rw [fitsIndex_both h1 h2]
  exact zbb
 have Mc : ¬ Builtin.List.listTooLong (its.toArray.size*k.toNat)=true:=by
  rw [B8 hlen]
  exact zbb
 have hnew:List.foldl (fun x1 x2=>x1++x2) #[] (zca (if its.toArray.isEmpty=true then 0 else k.toNat) its.toArray)=(zca k.toNat its).flatten.toArray:=by
  have f0:∀ m:Nat,List.foldl (fun x1 x2=>x1++x2) #[] (zca m its.toArray)=(zca m its).flatten.toArray:=fun m=>by
   have:=foldl_rep its m []
   rw [zbU] at this
   exact this
  rw [f0]
  cases its with
  | nil=>simp
  | cons a r'=>rw [yIn (by simp)]
 refine wpAny_binaryOp_repeat_ref (T := "list") (U := "int") (by decide) ⟨_,e,rfl⟩ (fun s'=>typeIs_int s' k t) noFill_list_mul F.fills_int_mul F.slot_int_rmul repeat_list F.slot_int_index.lookup
  (call_meets F.slot_int_rmul (typeIs_int s k t) F.entry_int_rmul (F.args_int_rmul_2 _ _) (int___rmul___int_list k t l its.toArray n)
   ⟨e,rfl,⟨_,e,rfl⟩,call_meets F.slot_list_mul ⟨_,e,rfl⟩ F.entry_list_mul (F.args_list_mul_2 _ _) (AutoListH.list___mul___list_int_3 l its.toArray n k t hfit hcap Mc) ⟨e,?_⟩⟩)
 rw [hnew]
 exact ⟨.ref _,_,I.L5 (t':=s.toks) (r.rep k.toNat) (by rw [len_rep,Nat.mul_comm];exact hz),rfl,q _ I.fresh⟩
end
end L2
namespace Att
open PySem PySem.W PySem.Calls PyProof.Rows
theorem lz {P:Params}{h:Heap}:∀ (ns:List Int) (vs:List yaj),WellAll P h vs (ns.map WData.int)→IntsAre vs ns:=by
 intro ns
 induction ns with
 | nil =>
  intro vs w
  rw [zcm] at w
  cases w
  exact .nil
 | cons n ns ih =>
  intro vs w
  rw [zcg] at w
  cases w with
  | cons a b =>
   cases a
   exact .cons _ _ (ih _ b)
theorem yX {l:OpenLaw}{n:Nat} (hn:l.most=some n) {P:Params}{h:Heap}{args:List WData}{vals:List yaj}
  (hpre:l.row.toRowW.claim.pre args=true) (hwl:WellAll P h vals args) :
  ∃ a vs ns,vals=[Value.ref a]∧args=[WData.list (ns.map WData.int)]∧h.get? a=some { cls:=.type "list",data:=.seq vs.toArray }∧IntsAre vs ns∧ns.length≤n:=by
 have hsh:WShape.hasAll [] args [.list .int]=true:=(pre_splitW hpre).1
 have hc:l.pre.holds [] { args:=args }=true:=(pre_splitW hpre).2
 obtain ⟨d,r,rfl,h1,h2⟩:=hasAllW_cons hsh
 obtain rfl:=hasAllW_nil h2
 obtain ⟨xs,rfl,h3⟩:=hasW_list h1
 obtain ⟨ns,rfl⟩:=items_int h3
 have hlen:ns.length≤n:=by
  unfold OpenLaw.pre at hc
  have h4:(WTm.not (.lt (.lit (.int (n:Int))) (.len (.arg 0)))).holds [] { args:=[.list (ns.map .int)] }=true:=by
   have h4:=(holds_andW hc).1
   rw [hn] at h4
   exact h4
  have h5:=condW_of h4 (w_not (w_lt w_lit (w_len_list (w_arg rfl))))
  rw [zbN] at h5
  refine Nat.le_of_not_lt fun q => ?_
  have q':(n:Int)<((ns.length:Nat):Int):=by lia
  first
   | (rw [yDt q'] at h5;exact absurd h5 (by decide))
   | (simp at h5;lia)
 cases hwl with
 | cons w1 w2 =>
  cases w2
  cases w1 with
  | list ho hall=>exact ⟨_,_,ns,rfl,rfl,ho,lz ns _ hall,hlen⟩
theorem zc (l:OpenLaw) (args:List WData):l.row.toRowW.claim.post args (.bool true) args=true :=
 postW_of (r:=l.row.toRowW) (X:=(true==true))
  (show WShape.has [] (.bool true) .bool=true by first | rfl | decide | simp [WShape.has,WShape.arms,WShape.armsAll])
  (show (WTm.eq .res (.lit (.bool true))).value [] { args:=args,res:=some (.bool true),after:=args }=some (.bool (true==true)) from w_eq_bool (w_res rfl) w_lit) rfl
theorem tW {l:OpenLaw}{n:Nat}{q:yak}{loose:List Str}{XP:(Str→Option yaj)→Heap→Prop}{YP:yal→Heap→Prop}{d:DefRec}
  (hn:l.most=some n) (hdf:d.params.defaults=[])
  (call:∀ (w:yal) (s₀ s₁:yai) (mg mb:Str→Option yaj) (fa:Addr) (o:Obj) (pm cd doc:yaj) (a:Addr) (vs:List yaj) (ns:List Int),
   Ground q loose [] XP w s₀ mg mb s₁.heap→YP w s₁.heap →
   s₁.heap.get? fa=some o→o.data = .func (docDef d.name d.params d.body d.scope pm cd doc)→s₁.heap.CodeRec cd d.name→mg d.name=some (.ref fa) →
   s₁.heap.get? a=some { cls:=.type "list",data:=.seq vs.toArray }→IntsAre vs ns→ns.length≤n→s₁.gens = #[] →
   codeAny (model l.prog w) callerA (.call (.ref fa) ⟨[.ref a],[]⟩) (fun r s'=>r = .ok (.ret (.bool true))∧OldK s₁.heap s'.heap∧s'.os=s₁.os∧AllBare s'.gens) s₁) :
  WalkO q loose XP YP l.row.toRowW d [] (fun f vs=>PySem.call f vs):=by
 intro w s₀ s₁ mg mb G Y fa o pm cd doc dV kV ho hd hcd hD hmg hg args vals as hpre hlay hrd hwl hlo
 obtain rfl:dV = .none:=Dflts.none hD hdf
 obtain rfl:kV = .none:=Dflts.noKw hD
 obtain ⟨a,vs,ns,rfl,rfl,hobj,hints,hlen⟩:=yX hn hpre hwl
 refine enter_call (yay (call w s₀ s₁ mg mb fa o pm cd doc a vs ns G Y ho (fd_plain hd) hcd hmg hobj hints hlen hg) fun r s' hq => ?_)
 obtain ⟨rfl,h2,h3,h4⟩:=hq
 exact ⟨.inl ⟨.bool true,.bool true,[],rfl,fun _=>rfl,.bool true,zc l _,fun _=>⟨List.Pairwise.nil,fun _ hm=>(nomatch hm)⟩⟩,h2,h3,h4⟩
end Att
namespace L2
open PySem PySem.Spec PyProof.Rows
theorem oU:∀ {vs:List yaj}{ns:List Int},IntsAre vs ns→Vals (ns.map V.int) vs
 | _,_,.nil=>.nil
 | _,_,.cons n t h=>.cons ⟨t,rfl⟩ (oU h)
def KU (H:Hp):Prop:=∀ b,H b=none∨∃ o xs,H b=some (.Eg o (.lst xs))
theorem Ck {P:yak}{w:yal}{K:yaM}{mg mb:Str→Option yaj}{CX:uI}{k:Nat}{fa a:Addr}{fd:yaq}{x:Str}{sp:Sp}{s₁:yai}{vs:List yaj}{ns:List Int}
  (KX:K.In s₁.heap) (hns:s₁.heap.Ns yar mg) (hb:s₁.heap.Ns builtinsNs mb) (hbb:∀ x:Str,x ≠ "__name__" → mb x=bootBuiltins x) (hlim:s₁.heap.NoLimit) (hg:s₁.gens = #[])
  (ha:s₁.heap.get? a=some { cls:=.type "list",data:=.seq vs.toArray }) (hi:IntsAre vs ns) (hl:ns.length≤yah) (hr:aU k callerA)
  (F:∀ base:Heap,K.In base→base.Ns yar mg→bW P w K mg base CX k fa fd [x] sp) (hbind:∀ (s:yai) (u:yaj),yaD s fd ⟨[u],[]⟩ [(x,u)])
  (hsp:∀ H:Hp,KU H→dm K H a (ns.map V.int)→sp [.ref a] H (fun v _=>v = .bl true) fun _ _ _=>False)
  (hCX:∀ H e s',CX [] H s₁ (fun _ _ _=>False) e s'→False) :
  codeAny (model P w) callerA (.call (.ref fa) ⟨[.ref a],[]⟩) (fun r s'=>r = .ok (.ret (.bool true))∧OldK s₁.heap s'.heap∧s'.os=s₁.os∧AllBare s'.gens) s₁:=by
 have rv:=oU hi
 have Oj:=hi.length
 have core:∀ H:Hp,KU H→dm K H a (ns.map V.int)→fW P w H s₁.heap→(∀ b,H b≠none→b=a)→(H a≠none→K.lookup a=none) →
   codeAny (model P w) callerA (.call (.ref fa) ⟨[.ref a],[]⟩) (fun r s'=>r = .ok (.ret (.bool true))∧OldK s₁.heap s'.heap∧s'.os=s₁.os∧AllBare s'.gens) s₁:=by
  intro H hO hS hok hA hK
  have yp:∀ {b:Addr}{o:Obj},s₁.heap.get? b=some o→H b=none→(qM s₁.heap H).get? b=some o:=fun e n=>Cu e n
  have noA:∀ {b:Addr}{o:Obj}{es:Array yaw}{ep:Nat},s₁.heap.get? b=some o→o.data = .dict es ep→H b=none:=fun {b o es ep} e d=>by
   cases q:H b with
   | none=>rfl
   | some u =>
    have e':b=a:=hA b (by rw [q];simp)
    subst e'
    rw [ha] at e;cases e
    have d':Data.seq vs.toArray _=Data.dict es ep:=d
    cases d'
  have nsK:∀ {b:Addr}{m:Str→Option yaj},s₁.heap.Ns b m→(qM s₁.heap H).Ns b m:=fun {b m} ⟨o,es,ep,e,d,r⟩=>⟨o,es,ep,yp e (noA e d),d,r⟩
  have hKb:K.In (qM s₁.heap H):=fun b o e=>yp (KX b o e) (by
   cases q:H b with
   | none=>rfl
   | some u =>
    have e':b=a:=hA b (by rw [q];simp)
    subst e'
    rw [hK (by rw [q];simp)] at e;cases e)
  have hM:Mod K mg (qM s₁.heap H):=⟨hKb,nsK hns,⟨mb,nsK hb,hbb⟩,let ⟨mc,h1,h2⟩:=hlim;⟨mc,nsK h1,h2⟩⟩
  have e0:rF P w K mg (qM s₁.heap H) callerA [] s₁ H:=⟨rfl,hM,fun b o e=>Fj e,Nat.le_of_eq (zK _ _),trivial,fun b hb=>absurd (show b∈([]:List Addr) from hb) (by simp),hok,.of_eq hg⟩
  refine yay ((F _ hKb (nsK hns)).run callerA [] s₁ H ⟨[.ref a],[]⟩ [.ref a] [.ref a] _ _ hr e0 (hbind s₁ (.ref a)) (.cons rfl .nil) (hsp H hO hS)) fun r s' h => ?_
  cases r with
  | error e=>exact (hCX H e s' h).elim
  | ok fl =>
   cases fl with
   | next=>exact False.elim h
   | brk=>exact False.elim h
   | cont=>exact False.elim h
   | ret u =>
    obtain ⟨v,H',os,bare,un,hok',r',q⟩:=h
    have q':v = .bl true:=q
    subst q'
    obtain rfl:u=Value.bool true:=r'
    refine ⟨rfl,OldK.of_keep fun b o e => ?_,os,bare⟩
    cases q:H b with
    | none=>exact un.keep b o e q (by intro z;exact absurd (show b∈([]:List Addr) from z) (by simp)) (by simp)
    | some u =>
     rcases hO b with z | ⟨ob,xs,z⟩
     ·rw [q] at z;cases z
     ·have z2:=un.nG b ob _ z
      obtain ⟨e1,_⟩:=hok b _ z
      obtain ⟨e2,_⟩:=hok' b _ z2
      rw [e] at e1;cases e1
      exact e2
 cases hk:K.lookup a with
 | some o =>
  have e:=KX a o hk
  rw [ha] at e
  cases e
  refine core (fun _=>none) (fun _=>.inl rfl) (.inr ⟨_,vs.toArray,_,hk,rfl,rfl,rfl,by rw [zbg,Oj];exact hl,by simpa using rv⟩) (fun b u z=>by have z':(none:Option HO)=some u:=z;cases z') (fun b z=>absurd rfl z) fun z=>absurd rfl z
 | none =>
  refine core (fun b=>if b=a then some (.Eg { cls:=.type "list",data:=.seq vs.toArray } (.lst (ns.map V.int))) else none) (fun b => ?_) (.inl (.inr ⟨{ cls:=.type "list",data:=.seq vs.toArray },yIp rfl⟩)) (fun b u z => ?_) (fun b z => ?_) fun _=>hk
  ·by_cases hb:b=a
   ·exact .inr ⟨_,_,yIp hb⟩
   ·exact .inl (yIn hb)
  ·by_cases hb:b=a
   ·have z':=(yIp hb).symm.trans z
    cases z'
    subst hb
    exact ⟨ha,by rw [zbN];exact hl,vs,_,rv,ha⟩
   ·have z':=(yIn hb).symm.trans z
    cases z'
  ·by_cases hb:b=a
   ·exact hb
   ·exact absurd (yIn hb) z
theorem En {l:PySem.W.OpenLaw}{n k:Nat}{q:yak}{loose:List Str}{XP:(Str→Option yaj)→Heap→Prop}{YP:yal→Heap→Prop}{d:DefRec}{K:Params→yaM}{CX:yal→uI}{sp:yal→Sp}{x:Str}
  (hn:l.most=some n) (hn2:n≤yah) (hdf:d.params.defaults=[]) (hr:aU k callerA)
  (hY:∀ (w:yal) (h:Heap),YP w h→(K w.params).In h)
  (F:∀ (w:yal) (mg:Str→Option yaj) (fa:Addr) (h:Heap),(K w.params).In h→h.Ns yar mg→mg d.name=some (.ref fa) →
   ∃ fd:yaq,(∀ (s:yai) (u:yaj),yaD s fd ⟨[u],[]⟩ [(x,u)]) ∧
    ∀ base:Heap,(K w.params).In base→base.Ns yar mg→bW l.prog w (K w.params) mg base (CX w) k fa fd [x] (sp w))
  (hsp:∀ (w:yal) (H:Hp) (a:Addr) (ns:List Int),ns.length≤n→KU H→dm (K w.params) H a (ns.map V.int)→sp w [.ref a] H (fun v _=>v = .bl true) fun _ _ _=>False)
  (hCX:∀ (w:yal) (H:Hp) (s:yai) (e:yaj) (s':yai),CX w [] H s (fun _ _ _=>False) e s'→False) :
  PySem.W.WalkO q loose XP YP l.row.toRowW d [] (fun f vs=>PySem.call f vs):=by
 refine Att.tW hn hdf fun w s₀ s₁ mg mb fa o pm cd doc a vs ns G Y ho hd hcd hmg hobj hints hlen hg => ?_
 have KX:=hY w _ Y
 obtain ⟨fd,hb,hF⟩:=F w mg fa _ KX G.T.g hmg
 exact Ck KX G.T.g G.T.b G.T.builtins G.T.nolimit hg hobj hints (zcs hlen hn2) hr hF hb (fun H hO hS=>hsp w H a ns hlen hO hS) fun H e s'=>hCX w H s₁ e s'
noncomputable def inClass (s:Stmt) (j:Nat):Stmt:=match s with
 | .ClassDef _ _ _ body _ _ _ _ _ _ _=>body.getD j (.Pass ⟨0,0,0,0⟩)
 | _=>.Pass ⟨0,0,0,0⟩
noncomputable def cF (s:Stmt):Arguments:=match s with
 | .FunctionDef _ a _ _ _ _ _ _ _ _=>a
 | _=>{ posonlyargs:=[],args:=[],vararg:=none,kwonlyargs:=[],kw_defaults:=[],kwarg:=none,defaults:=[] }
noncomputable def aV (s:Stmt):List Stmt:=match s with
 | .FunctionDef _ _ b _ _ _ _ _ _ _=>b
 | _=>[]
noncomputable def ai (s:Stmt):Scope:=match s with
 | .FunctionDef _ _ _ _ _ _ sc _ _ _=>sc
 | _=>{ kind:=.function,names:=[],isGenerator:=false,isCoroutine:=false }
abbrev iZ:uI:=fun _ _ _ _ _ _=>False
abbrev E0:XK:=fun _ _ _=>False
theorem sG {X:Cx}:Passes iZ X E0:=fun _ _ _ _ _ _ _ h=>h.elim
structure uz (K:yaM) (x qual:Str) (st:Stmt) (f:Addr) (fd:yaq):Prop where
 ex:∃ (oc:yaj) (od:Option Addr) (kV doc pm:yaj) (an:Option Addr) (cdv ct:yaj) (osl:Array (Option yaj)),
  fd=zcy x qual (cF st) (aV st) (ai st) .none kV doc pm an cdv ct∧K.lookup f=some ⟨oc,od,.func fd,osl⟩∧zcd K cdv qual=true
 kp:zcc K (.ref f)=true
section
variable {P:yak}{w:yal}{K:yaM}{mg:Str→Option yaj}{base:Heap}
theorem uz.ok {x qual:Str}{st:Stmt}{f:Addr}{fd:yaq}{N ps:List Str}{k:Nat}{sp:Sp} (F:uz K x qual st f fd) (S:aE N ps (ai st)) (len:∀ vs H Q E,sp vs H Q E→vs.length=ps.length)
  (hbody:∀ (cdv:yaj) (A:yam) (outer:List Env) (s:yai) (H:Hp) (vs:List V) (Q:VK) (E:XK),aU k (A.deeper (envOfC qual (ai st) s.heap.objs.size f cdv))→sp vs H Q E →
   ∃ t,oO (d7 iZ P w K mg base N qual (ai st) f cdv A outer s H E).Ed (aV st) t∧t { nx:=fun _ H'=>Q .bw H',rt:=Q } (start N vs) H):bW P w K mg base iZ (k+1) f fd ps sp:=by
 obtain ⟨oc,od,kV,doc,pm,an,cdv,ct,osl,rfl,lk,hcd⟩:=F.ex
 refine HC lk hcd S len fun A outer s H vs Q E hr hsp => ?_
 obtain ⟨t,h,q⟩:=hbody cdv A outer s H vs Q E hr hsp
 exact ⟨t,h.Ed,q⟩
theorem uz.binds {x qual:Str}{st:Stmt}{f:Addr}{fd:yaq}{ps:List Str} (F:uz K x qual st f fd)
  (h:∀ (kV doc pm:yaj) (an:Option Addr) (cdv ct:yaj) (us:List yaj),us.length=ps.length→yaC (zcy x qual (cF st) (aV st) (ai st) .none kV doc pm an cdv ct) ⟨us,[]⟩=pure (ps.zip us)):Binds K fd ps []:=by
 obtain ⟨oc,od,kV,doc,pm,an,cdv,ct,osl,rfl,lk,hcd⟩:=F.ex
 exact .all (h kV doc pm an cdv ct)
theorem jc {x qual:Str}{st:Stmt}{f:Addr}{oc:yaj}{od an:Option Addr}{osl:Array (Option yaj)}{kV doc pm cdv ct:yaj} (l:K.lookup f=some ⟨oc,od,.func (zcy x qual (cF st) (aV st) (ai st) .none kV doc pm an cdv ct),osl⟩)
  (c:zcd K cdv qual=true) (k:zcc K (.ref f)=true):uz K x qual st f (zcy x qual (cF st) (aV st) (ai st) .none kV doc pm an cdv ct):=⟨⟨oc,od,kV,doc,pm,an,cdv,ct,osl,rfl,l,c⟩,k⟩
end
theorem e8 {A:yam}{k:Nat} (hr:aU k A):A.units+1<cLine:=Nat.lt_of_le_of_lt (Nat.add_le_add_left (by decide:1≤64) _) hr.units
section
variable {X:Cx}
theorem pv (i:Nat) {x:Str}{pos:Pos} (hN:X.N[i]? = some x:=by rfl) (hv:ML X.env.scope x:=by first | exact Or.inl rfl | exact Or.inr (Or.inl rfl) | exact Or.inr (Or.inr rfl)) (hd:(x==("__debug__" : Str))=false:=by decide)
  (hcd:(x==("__classdict__" : Str))=false:=by decide):PE X (.Name x pos) (p9 i):=BU hN hv hd hcd
theorem z7:b9 X (.builtin "len") (fun xs H Q=>∃ a kvs,xs=[V.ref a]∧H a=some (.dK kvs)∧Q (.int kvs.length) H):=by
 intro pins s σ H xs us Q I r h
 obtain ⟨a,kvs,rfl,ha,q⟩:=h
 obtain ⟨u,rfl,ru⟩:=vals1 r
 cases ru
 exact Mn I (.inl ha) fun t s' I'=>⟨.int kvs.length,H,I',⟨t,rfl⟩,q⟩
end
theorem ny {A B:Prop} (h:B):if false=true then A else B:=by
 rw [yIn zbb]
 exact h
theorem zJ {A B:Prop} (h:A):if true=true then A else B:=by
 rw [yIp rfl]
 exact h
theorem vJ {c A B:Prop} [Decidable c] (h1:c→A) (h2 : ¬ c→B):if c then A else B:=by
 by_cases h:c
 ·rw [yIp h]
  exact h1 h
 ·rw [yIn h]
  exact h2 h
theorem Ma {c A B:Prop} [Decidable c] (hc:c) (h:B):if (!decide c)=true then A else B:=by
 rw [yDt hc]
 exact ny h
def cT (H H':Hp):Prop:=∀ b o,H b=some o→H' b=some o
theorem cT.refl (H:Hp):cT H H:=fun _ _ h=>h
theorem cT.trans {H H1 H2:Hp} (a:cT H H1) (b:cT H1 H2):cT H H2:=fun c o h=>b c o (a c o h)
theorem cT.free {H H':Hp} (e:cT H H') {l:Addr} (h:H' l=Option.none):H l=Option.none:=by
 cases q:H l with
 | none=>rfl
 | some o =>
  rw [e l o q] at h
  cases h
theorem cT.seq {K:yaM}{H H':Hp}{a:Addr}{xs:List V} (e:cT H H') (h:dm K H a xs):dm K H' a xs:=by
 rcases h with (h | ⟨o,h⟩) | h
 ·exact .inl (.inl (e _ _ h))
 ·exact .inl (.inr ⟨o,e _ _ h⟩)
 ·exact .inr h
end L2
set_option maxHeartbeats 4000000
namespace L2
open PySem PySem.Spec PyProof.Rows
section
variable {X:Cx}{pins:List (Addr×Obj)}{σ:List (Option V)}{H:Hp}{s:yai}
theorem fW.wK {P:yak}{w:yal}{h:Heap}{D:Addr}{o:HO} (ok:fW P w H h) (hn:H D=none) (new:aW P w (upd H D o) h D o):fW P w (upd H D o) h:=fun b u e=>by
 by_cases hb:b=D
 ·subst hb;rw [au] at e;cases e;exact new
 ·rw [av hb] at e
  refine (ok b u e).stay (fun _ _ _ q=>q) (fun c q => ?_) (fun c xs q => ?_)
  ·rw [av (aK q hn)];exact q
  ·rw [av (aK q hn)];exact q
theorem Inv.wK {D:Addr}{o:HO} (I:Inv X pins σ H s) (hn:H D=none) (hD:X.s₀.heap.objs.size≤D) (hL:D≠X.env.locals) (hc:∀ x c,X.env.cells.lookup x=some c→c≠D) (hp:∀ p∈X.pn++pins,p.1≠D)
  (new:aW X.prog X.w (upd H D o) s.heap D o):Inv X pins σ (upd H D o) s:=by
 refine ⟨I.ok,I.os,I.bare,⟨I.base.keep,I.base.slot,fun b ob e n hx => ?_,I.base.there,fun b xs e => ?_,fun b ob u e => ?_,fun b ps e => ?_⟩,I.loc,I.cell,?_,fun x c e => ?_,fun p hp' => ?_,I.hok.wK hn new,I.len⟩
 ·rw [av (zcr (zaZ (zcA e) hD))];exact I.base.free b ob e n hx
 ·have q:=I.base.tups b xs e;rw [av (aK q hn)];exact q
 ·have q:=I.base.nG b ob u e;rw [av (aK q hn)];exact q
 ·obtain ⟨m,q⟩:=I.base.oz b ps e;exact ⟨m,by rw [av (aK q hn)];exact q⟩
 ·rw [av (Ne.symm hL)];exact I.free
 ·rw [av (hc x c e)];exact I.eG x c e
 ·obtain ⟨e,n,a,b,d⟩:=I.pin p hp'
  exact ⟨e,by rw [av (hp p hp')];exact n,a,b,d⟩
end
noncomputable def jQ (env:Env):List (Str×NameKind)→List (Str×Addr)→List (Str×Addr)
 | [],acc=>acc
 | (n,k)::r,acc=>jQ env r (if k==NameKind.free then (n,(env.cells.lookup n).getD 0)::acc else acc)
theorem jf (env:Env):∀ (l:List (Str×NameKind)) (acc:List (Str×Addr)),(∀ n,(n,NameKind.free)∈l→∃ c,env.cells.lookup n=some c) →
  (forIn l acc (fun (x:Str×NameKind) (r:List (Str×Addr))=>if (x.2==NameKind.free)=true then (do let a ← cellOf env x.1;pure (ForInStep.yield ((x.1,a)::r))) else pure (ForInStep.yield r)):Sem (List (Str×Addr)))=pure (jQ env l acc)
 | [],acc,_=>rfl
 | (n,k)::r,acc,h=>by
  rw [List.forIn_cons]
  by_cases hk:(k==NameKind.free)=true
  ·have e:k = .free:=by simpa using hk
   subst e
   obtain ⟨c,hc⟩:=h n zaS
   have e1:cellOf env n=pure c:=by unfold cellOf;rw [hc]
   have e2:((NameKind.free==NameKind.free)=true)=True:=by simp
   simp only [e2,if_true,e1,pure_bind]
   rw [jf env r _ fun m hm=>h m (zaC _ hm)]
   show _=pure (jQ env r (if (NameKind.free==NameKind.free)=true then (n,(env.cells.lookup n).getD 0)::acc else acc))
   simp only [e2,if_true,hc,zbJ]
  ·simp only [yIn hk,pure_bind]
   rw [jf env r _ fun m hm=>h m (zaC _ hm)]
   show _=pure (jQ env r (if (k==NameKind.free)=true then (n,(env.cells.lookup n).getD 0)::acc else acc))
   rw [yIn hk]
theorem iX {scope:Scope}{env:Env} (h:∀ n,(n,NameKind.free)∈scope.names→∃ c,env.cells.lookup n=some c):closureFor scope env=pure (jQ env scope.names []):=by
 unfold closureFor
 have e:=jf env scope.names [] h
 first
  | exact e
  | (simp only [bind_pure];exact e)
  | (rw [show (forIn scope.names ([]:List (Str×Addr)) _:Sem (List (Str×Addr)))=_ from e];rfl)
theorem tO (env:Env):∀ (l:List (Str×NameKind)) (acc:List (Str×Addr)) (x:Str) (c:Addr),(jQ env l acc).lookup x=some c→acc.lookup x=some c∨(x,NameKind.free)∈l∧c=(env.cells.lookup x).getD 0
 | [],acc,x,c,h=>.inl h
 | (n,k)::r,acc,x,c,h=>by
  rcases tO env r _ x c h with e | ⟨e1,e2⟩
  ·by_cases hk:(k==NameKind.free)=true
   ·rw [yIp hk] at e
    have ek:k = .free:=by simpa using hk
    subst ek
    rw [zbB] at e
    by_cases hx:(x==n)=true
    ·have ex:x=n:=by simpa using hx
     subst ex
     rw [hx] at e
     exact .inr ⟨zaS,(zcH.inj e).symm⟩
    ·have hx':(x==n)=false:=by simpa using hx
     rw [hx'] at e
     exact .inl e
   ·rw [yIn hk] at e
    exact .inl e
  ·exact .inr ⟨zaC _ e1,e2⟩
theorem nS (env:Env):∀ (l:List (Str×NameKind)) (acc:List (Str×Addr)) (x:Str),((x,NameKind.free)∈l∨∃ c,acc.lookup x=some c)→∃ c,(jQ env l acc).lookup x=some c
 | [],acc,x,h=>by
  rcases h with h | h
  ·simp at h
  ·exact h
 | (n,k)::r,acc,x,h=>by
  refine nS env r _ x ?_
  rcases h with h | ⟨c,h⟩
  ·rcases zcf.mp h with e | e
   ·injection e with e1 e2
    subst e1 e2
    right
    exact ⟨(env.cells.lookup x).getD 0,by rw [yIp (by rfl),zbB];simp⟩
   ·exact .inl e
  ·right
   by_cases hk:(k==NameKind.free)=true
   ·rw [yIp hk,zbB]
    by_cases hx:(x==n)=true
    ·rw [hx];exact ⟨_,rfl⟩
    ·have hx':(x==n)=false:=by simpa using hx
     rw [hx'];exact ⟨c,h⟩
   ·rw [yIn hk];exact ⟨c,h⟩
theorem gO {scope:Scope}{env:Env}{x:Str}{k:NameKind}:∀ {names:List (Str×NameKind)},(names.map fun (n,k)=>if (k==NameKind.free&&env.scope.kind == .function&&env.kindOf n==some .cell) then (n,NameKind.cell) else (n,k)).lookup x=some k →
  names.lookup x=some k∨(k = .cell∧names.lookup x=some .free)
 | [],h=>by simp at h
 | (n,j)::r,h=>by
  have ih:=@gO scope env x k r
  rw [zcg,zbB] at h
  rw [zbB]
  by_cases hc:(j==NameKind.free&&env.scope.kind == .function&&env.kindOf n==some .cell)=true
  ·simp only [hc,if_true] at h
   cases hx:x==n with
   | true =>
    rw [hx] at h
    have ej:j = .free:=by
     simp only [zbH] at hc
     simpa using hc.1.1
    exact .inr ⟨(zcH.inj h).symm,by rw [ej]⟩
   | false=>rw [hx] at h;exact ih h
  ·simp only [yIn hc] at h
   cases hx:x==n with
   | true=>rw [hx] at h;exact .inl h
   | false=>rw [hx] at h;exact ih h
theorem jv {scope:Scope}{env:Env}{x:Str}:∀ {names:List (Str×NameKind)},names.lookup x=some .free→∃ k,(k=NameKind.cell∨k = .free) ∧
  (names.map fun (n,k)=>if (k==NameKind.free&&env.scope.kind == .function&&env.kindOf n==some .cell) then (n,NameKind.cell) else (n,k)).lookup x=some k
 | [],h=>by simp at h
 | (n,j)::r,h=>by
  have ih:=@jv scope env x r
  rw [zbB] at h
  rw [zcg,zbB]
  by_cases hc:(j==NameKind.free&&env.scope.kind == .function&&env.kindOf n==some .cell)=true
  ·simp only [hc,if_true]
   cases hx:x==n with
   | true=>exact ⟨.cell,.inl rfl,rfl⟩
   | false=>rw [hx] at h;exact ih h
  ·simp only [yIn hc]
   cases hx:x==n with
   | true=>rw [hx] at h;exact ⟨.free,.inr rfl,h⟩
   | false=>rw [hx] at h;exact ih h
noncomputable def oJ (caps:List (Option Nat)) (σ:St):St:=caps.map fun o=>o.bind fun i=>(σ[i]?).getD none
noncomputable def jR (XN:List Str) (env:Env) (scope:Scope) (N:List Str) (caps:List (Option Nat)):Bool :=
 caps.length==N.length&&(caps.zip N).all fun p=>match p.1 with
  | none=>scope.names.lookup p.2==some .local
  | some i=>XN[i]? == some p.2&&scope.names.lookup p.2==some .free&&(env.scope.names.lookup p.2==some .cell||env.scope.names.lookup p.2==some .free)
noncomputable def kg (X:Cx) (scope:Scope) (N:List Str) (s₀:yai) (H₀:Hp) (C:Addr) (fp:List Addr):Cx where
 prog:=X.prog
 w:=X.w
 K:=X.K
 mg:=X.mg
 base:=X.base
 A:=X.A
 N:=N
 s₀:=s₀
 H₀:=H₀
 env:=compEnvC scope (jQ X.env scope.names []) C X.env
 outer:=X.stack
 stack:=X.stack
 ex:=fp
 fn:=fun _=>false
 calm:=X.calm
 pn:=[]
 xe:=fun _ _=>False
structure dM (scope:Scope) (N:List Str):Prop where
 kind:scope.kind = .function
 nd:N.Nodup
 B9:∀ y∈scope.names,y.2 ≠ .cell
 names:∀ y∈scope.names,scope.names.lookup y.1=some y.2
section
variable {X:Cx}{pins:List (Addr×Obj)}{σ:List (Option V)}{H:Hp}{s:yai}
theorem De {XN:List Str}{env:Env}{scope:Scope}{N:List Str}{caps:List (Option Nat)} (h:jR XN env scope N caps=true) :
  caps.length=N.length∧∀ (j i:Nat) (x:Str),caps[j]? = some (some i)→N[j]? = some x→XN[i]? = some x∧scope.names.lookup x=some .free∧(env.kindOf x=some .cell∨env.kindOf x=some .free):=by
 unfold jR at h
 rw [zbH] at h
 obtain ⟨h1,h2⟩:=h
 refine ⟨by simpa using h1,fun j i x e1 e2 => ?_⟩
 have hm:(some i,x)∈caps.zip N:=by
  refine zaF (i:=j) ?_
  rw [List.getElem?_zip_eq_some]
  exact ⟨e1,e2⟩
 have q:=zbC.mp h2 _ hm
 simp only [zbH,Bool.or_eq_true,beq_iff_eq] at q
 exact ⟨q.1.1,q.1.2,q.2⟩
theorem Inv.block {scope:Scope}{N:List Str}{caps:List (Option Nat)}{C:Addr}{fp:List Addr}{s1:yai}{h1:Heap}{tk:Nat}{m:Str→Option yaj} (S:dM scope N) (hcap:jR X.N X.env scope N caps=true)
  (hfree:∀ n,(n,NameKind.free)∈scope.names→∃ c,X.env.cells.lookup n=some c)
  (I:Inv X pins σ H s) (hf:∀ b∈fp,lC X pins H b) (hfl:∀ b∈fp,b<s.heap.objs.size) (hC:s.heap.objs.size≤C) (hk:∀ b o,s.heap.get? b=some o→h1.get? b=some o) (hn:h1.Ns C m) :
  Inv (kg X scope N s H C fp) [] (oJ caps σ) H { s with heap:=h1,toks:=tk }:=by
 obtain ⟨hlen,hat⟩:=De hcap
 have pQ:∀ x c,(jQ X.env scope.names []).lookup x=some c→X.env.cells.lookup x=some c:=fun x c e=>by
  rcases tO X.env scope.names [] x c e with z | ⟨z1,z2⟩
  ·simp at z
  ·obtain ⟨c',hc'⟩:=hfree x z1
   rw [hc',z2,hc'];rfl
 have clt:∀ x c,X.env.cells.lookup x=some c→c<s.heap.objs.size:=fun x c e=>by
  obtain ⟨v,o,ho,_⟩:=I.cell x c e
  exact zcA ho
 have NT:∀ x,((compEnvC scope (jQ X.env scope.names []) C X.env).kindOf x=some .cell∨(compEnvC scope (jQ X.env scope.names []) C X.env).kindOf x=some .free)→(x,NameKind.free)∈scope.names:=fun x hx=>by
  have sub:∀ k,(compEnvC scope (jQ X.env scope.names []) C X.env).kindOf x=some k→scope.names.lookup x=some k∨(k = .cell∧scope.names.lookup x=some .free):=fun k e=>gO (scope:=scope) (env:=X.env) e
  rcases hx with e | e
  ·rcases sub _ e with z | ⟨_,z⟩
   ·exact absurd rfl (S.B9 _ (PySem.mem_of_lookup z))
   ·exact PySem.mem_of_lookup z
  ·rcases sub _ e with z | ⟨z,_⟩
   ·exact PySem.mem_of_lookup z
   ·cases z
 refine ⟨⟨I.ok.mod,S.kind,I.ok.glob,I.ok.blt,hC,fun x y c e1 e2=>I.ok.inj x y c (pQ x c e1) (pQ y c e2),fun x hx => ?_,fun x c z _=>absurd (show false=true from z) zbb,I.ok.hd,I.ok.frames,.inl rfl,fun b hb => ?_,I.bs,zcs I.ok.Di I.sz,fun b o e hb => ?_,fun b hb hb2 => ?_,I.stack,I.qb⟩,
  rfl,I.bare,Un.kept hk,⟨m,hn,fun j x v e1 e2 e3 => ?_⟩,fun x c e => ?_,I.hok.fresh hC,fun x c e=>I.eG x c (pQ x c e),fun p hp=>absurd (show p∈([]:List (Addr×Obj)) from hp) (by simp),I.hok.kept hk,?_⟩
 ·exact nS X.env scope.names [] x (.inl (NT x hx))
 ·exact ⟨zcr (zaZ (hfl b hb) hC),fun x c e=>(hf b hb).2.2.2.2.1 x c (pQ x c e)⟩
 ·rcases (hf b hb).2.2.2.1 with z | z
  ·exact I.ok.zo b o e z
  ·exact absurd (zaZ (zcA e) (zcs I.ok.Di z)) (zcj _)
 ·rcases zcf.mp (I.l7 b hb2) with z | z
  ·exact (hf b hb).2.1 z
  ·exact (hf b hb).2.2.1 z
 ·have e2':(oJ caps σ)[j]? = some (some v):=e2
  unfold oJ at e2'
  rw [zbi] at e2'
  cases hc:caps[j]? with
  | none=>rw [hc] at e2';cases e2'
  | some o =>
   rw [hc] at e2'
   cases o with
   | none=>cases e2'
   | some i =>
    have e4:(σ[i]?).getD none=some v:=zcH.inj e2'
    have e5:σ[i]? = some (some v):=by
     cases q:σ[i]? with
     | none=>rw [q] at e4;cases e4
     | some y=>rw [q] at e4;exact congrArg some e4
    obtain ⟨a1,a2,a3⟩:=hat j i x hc e1
    obtain ⟨mX,hnX,hl⟩:=I.loc
    obtain ⟨u,r,l⟩:=hl i x v a1 e5 (a3.elim (fun z=>.inr (.inl z)) fun z=>.inr (.inr z))
    refine ⟨u,r,.inr ?_⟩
    obtain ⟨c,hcx,cell⟩:∃ c,X.env.cells.lookup x=some c∧s.heap.IsCell c (some u):=by
     rcases l with ⟨k,_⟩ | ⟨_,z⟩
     ·rw [k] at a3;rcases a3 with z | z <;> cases z
     ·exact z
    obtain ⟨k,hk2,hk3⟩:=jv (scope:=scope) (env:=X.env) a2
    obtain ⟨c',hc'⟩:=nS X.env scope.names [] x (.inl (PySem.mem_of_lookup a2))
    have hcc:c'=c:=zcH.inj ((pQ x c' hc').symm.trans hcx)
    subst hcc
    refine ⟨?_,c',hc',?_⟩
    ·rcases hk2 with z | z
     ·subst z;exact .inl hk3
     ·subst z;exact .inr hk3
    ·obtain ⟨o,ho,hd⟩:=cell
     exact ⟨o,hk _ _ ho,hd⟩
 ·obtain ⟨v,o,ho,hd⟩:=I.cell x c (pQ x c e)
  exact ⟨v,o,hk _ _ ho,hd⟩
 ·show (oJ caps σ).length=N.length
  unfold oJ;rw [zbN];exact hlen
end
theorem gV {prog:yak}{w:yal}{A:yam}{R:Result→yai→Prop}{s:yai}{elt target iter:Expr}{ifs:List Expr}{scope:Scope}{pos:Pos}{it acc:yaj}{env:Env} (I:Nat→yai→Prop)
  (turn:∀ n s,I n s→yas (model prog w) A (pyNext it) (fun r s₁=>match r with
   | none=>R (.ok .next) s₁
   | some v=>yas (model prog w) A (letOwnedTupleGo target it v) (fun _ s₁'=>yas (model prog w) A (assign target env v) (fun _ s₂ =>
     yas (model prog w) A (forIn ifs true fun c r=>if r=true then do let ok ← isTrue c env (eval c env);pure (ForInStep.yield ok) else pure (ForInStep.yield r)) (fun ok s₃ =>
      if ok=true then yas (model prog w) A (eval elt env) (fun x s₄ =>
       yas (model prog w) A (call (.builtin "list.append") [acc,x]) (fun _ s₅=>∃ m,m<n∧I m s₅) (fun _ _=>False) s₄) (fun _ _=>False) s₃
      else ∃ m,m<n∧I m s₃) (fun _ _=>False) s₂) (fun _ _=>False) s₁') (fun _ _=>False) s₁) (fun _ _=>False) s)
  (n:Nat) (h:I n s) :
  codeAny (model prog w) A (.compLoop (.ListComp elt [⟨target,iter,ifs,0⟩] scope pos) 0 it acc env) R s:=by
 refine codeAny_loop rfl I (fun n s hI => ?_) n h
 show yas _ A ((compTurn (.ListComp elt [⟨target,iter,ifs,0⟩] scope pos) 0 it acc env).onRaise (fun x=>do noteFrame x env;theTreesLotGoes x)) _ _ s
 refine wpAny_noted ?_
 rw [compTurn_list]
 refine wpAny_noRaise ?_
 refine yaa (yaz (yaa (yac (turn n s hI) (fun r s₁ h₁ => ?_) fun _ _ h'=>h')))
 cases r with
 | none=>exact yab h₁
 | some v =>
  refine yaa (yac h₁ (fun _ s₁' h₁' => ?_) fun _ _ h'=>h')
  refine yaa (yac h₁' (fun _ s₂ h₂=>yaa (yac h₂ (fun ok s₃ h₃ => ?_) fun _ _ h'=>h')) fun _ _ h'=>h')
  cases ok with
  | false=>exact yab ⟨rfl,h₃⟩
  | true =>
   exact yaa (yaa (yac h₃ (fun x s₄ h₄=>yaa (yac h₄ (fun _ s₅ h₅=>yab (yab ⟨rfl,h₅⟩)) fun _ _ h'=>h')) fun _ _ h'=>h'))
def HU (X:Cx) (ifs:List Expr) (t:TT):Prop :=
 ∀ (pins:List (Addr×Obj)) (s:yai) (σ:St) (H:Hp) (Q:Bool→Hp→Prop),Inv X pins σ H s→t σ H Q →
  yas (model X.prog X.w) X.A (forIn ifs true fun c r=>if r=true then do let ok ← isTrue c X.env (eval c X.env);pure (ForInStep.yield ok) else pure (ForInStep.yield r)) (TP X pins σ Q) X.xe s
def Lg:TT:=fun _ H Q=>Q true H
theorem dz {X:Cx}:HU X [] Lg:=fun _ _ _ H _ I h=>wpAny_tests_nil ⟨H,I,h⟩
theorem lI {X:Cx}{c:Expr}{t:TT} (h:PT X c t):HU X [c] t:=fun pins s σ H Q I hw=>wpAny_tests_one (h pins s σ H Q I hw)
def G0 (J:It) (g:TG) (tt:TT) (te:TE) (τ0:St) (H:Hp) (Qd:List V→Hp→Prop):Prop :=
 ∃ W:Nat→Nat→List V→St→Hp→Prop,(∃ m,W 0 m [] τ0 H)∧∀ i m xs τ H,W i m xs τ H →
  (J.stop i H∧Qd xs H)∨(J.go i H∧∃ M:List V→St→Hp→Prop,(∀ ys τ' H',M ys τ' H'→∃ m',m'<m∧W (i+1) m' ys τ' H')∧∀ x H',J.Au i H x H'→g x τ H' fun τ2 H2=>tt τ2 H2 fun b H3 =>
   if b=true then te τ2 H3 fun v H4=>xs.length<yah∧M (xs++[v]) τ2 H4 else M xs τ2 H3)
section
variable {X:Cx}{pins:List (Addr×Obj)}{σ:List (Option V)}{s:yai}
noncomputable abbrev lobj (its:List yaj) (k:Nat):Obj:={ cls:=.type "list",data:=.seq its.toArray k }
theorem tM {elt tg iter:Expr}{ifs:List Expr}{scope:Scope}{N:List Str}{caps:List (Option Nat)}{pos:Pos}{g:TG}{tt:TT}{te:TE}{J:It}{fp:List Addr}{it:Addr}{tn:Nat→Heap→Prop}{H2:Hp}{s2:yai}{Qd:List V→Hp→Prop}
  {E:yaj→yai→Prop}{RR:yaj→Addr→Result→yai→Prop}
  (S:dM scope N) (hcap:jR X.N X.env scope N caps=true) (hfree:∀ n,(n,NameKind.free)∈scope.names→∃ c,X.env.cells.lookup n=some c) (hc:X.calm=true)
  (hg:∀ s₀ H₀ C fp,PG (kg X scope N s₀ H₀ C fp) tg g) (ht:∀ s₀ H₀ C fp,HU (kg X scope N s₀ H₀ C fp) ifs tt) (he:∀ s₀ H₀ C fp,PE (kg X scope N s₀ H₀ C fp) elt te)
  (I2:Inv X pins σ H2 s2) (T:Turn X.prog X.w X.K tg J fp it tn) (st2:tn 0 s2.heap) (f2:∀ b∈fp,lC X pins H2 b) (h:G0 J g tt te (oJ caps σ) H2 Qd)
  (hRR:∀ (D C:Addr) m xs H3 (s4:yai),Inv X pins σ (upd H3 D (.lst xs)) s4→H3 D=none→s4.heap.Ns C m→lC X pins (upd H3 D (.lst xs)) C→Qd xs H3→RR (.ref D) C (.ok .next) s4) :
  yas (model X.prog X.w) X.A (newList []) (fun acc s₃=>yas (model X.prog X.w) X.A (newFunctionEnv scope X.env.globals (jQ X.env scope.names []) [] X.env.qual none .none (some X.env)) (fun cenv s₄ =>
   codeAny (model X.prog X.w) X.A (.compStart (.ListComp elt [⟨tg,iter,ifs,0⟩] scope pos) 0 (.ref it) acc { cenv with scope:=relabel scope X.env }) (RR acc cenv.locals) s₄) E s₃) E s2:=by
 have hfl:∀ b∈fp,b<s2.heap.objs.size:=fun b hb=>by
  obtain ⟨o,e,_⟩:=T.obj 0 s2.heap st2 b hb
  exact zcA e
 refine yaf (wpAny_newFunctionEnv S.B9 (by intro y hy;simp at hy) (fun h₁ hns hsb => ?_) S.kind)
 dsimp only at hns hsb ⊢
 generalize hHD:s2.heap.push { cls:=.type "list",dict:=none,data:=.seq ([]:List yaj).toArray }=HD at hns hsb ⊢
 have hC:HD.objs.size=s2.heap.objs.size+1:=by rw [← hHD,Heap.size_push]
 have hDC:s2.heap.objs.size≠HD.objs.size:=by rw [hC];exact zcr (Nat.lt_succ_self _)
 have JX:s2.heap.objs.size≤HD.objs.size:=by rw [hC];exact Nat.le_succ _
 have old:∀ b o,s2.heap.get? b=some o→h₁.get? b=some o:=fun b o e =>
  hsb.extBut b o (by rw [hC];exact zcr (Nat.lt_succ_of_lt (zcA e))) (zar _ (hHD ▸ zar _ e))
 have hacc:h₁.get? s2.heap.objs.size=some (lobj [] 0):=hsb.extBut _ _ hDC (zar _ (hHD ▸ zaR _ rfl))
 obtain ⟨W,⟨m0,w0⟩,turn⟩:=h
 have IY0:=Inv.block (caps:=caps) (C:=HD.objs.size) (fp:=fp) (s1:=s2) (h1:=h₁) (tk:=s2.toks+([]:List (Str×yaj)).length) S hcap hfree I2 f2 hfl JX old hns
 have freshD:H2 s2.heap.objs.size=none:=I2.hok.fresh (zcE _)
 have Hl:∀ {τ:St}{H':Hp}{s':yai}{its:List yaj}{k:Nat},Inv (kg X scope N s2 H2 HD.objs.size fp) [] τ H' s'→H' s2.heap.objs.size=none→s'.heap.get? s2.heap.objs.size=some (lobj its k) →
   Inv (kg X scope N s2 H2 HD.objs.size fp) [(s2.heap.objs.size,lobj its k)] τ H' s':=fun {τ H' s' its k} I hn e=>I.jz fun p hp=>by
  have ep:p=(s2.heap.objs.size,lobj its k):=by simpa using hp
  subst ep
  exact ⟨e,hn,hDC,fun z=>by
   rcases zcf.mp (I2.l7 _ z) with q | q
   ·exact absurd (q ▸ I2.lt) (zcj _)
   ·exact I2.LS (zcE _) q,fun v z=>by cases z⟩
 have fY:∀ {H':Hp}{its:List yaj}{k:Nat},(∀ b∈fp,H' b=none)→∀ b∈fp,lC (kg X scope N s2 H2 HD.objs.size fp) [(s2.heap.objs.size,lobj its k)] H' b:=fun {H' its k} hn b hb=>by
  have z:=f2 b hb
  refine ⟨hn b hb,zcr (zaZ (hfl b hb) JX),fun q => ?_,.inl hb,fun x c e=>IY0.ok.Ni b hb |>.2 x c e,fun p hp => ?_⟩
  ·rcases zcf.mp (I2.l7 b q) with q | q
   ·exact z.2.1 q
   ·exact z.2.2.1 q
  ·have ep:p=(s2.heap.objs.size,lobj its k):=by
    have:p∈[]++[(s2.heap.objs.size,lobj its k)]:=hp
    simpa using this
   subst ep
   exact zct (hfl b hb)
 have fin:∀ {τ:St}{H3:Hp}{s4:yai}{xs:List V}{its:List yaj}{k:Nat},Inv (kg X scope N s2 H2 HD.objs.size fp) [(s2.heap.objs.size,lobj its k)] τ H3 s4→Vals xs its→xs.length≤yah→Qd xs H3 →
   RR (.ref s2.heap.objs.size) HD.objs.size (.ok .next) s4:=fun {τ H3 s4 xs its k} I r hz q=>by
  have hD:=I.pin (s2.heap.objs.size,lobj its k) (by show _∈[]++[_];simp)
  have IX:Inv X pins σ H3 s4:=I2.Dg (s':=s4) (ch:=fp) I.os I.base I.hok I.bare fun b hb=>⟨(f2 b hb).2.2.2.1,(f2 b hb).2.1,(f2 b hb).2.2.2.2.1,(f2 b hb).2.2.2.2.2⟩
  have fD:lC X pins H3 s2.heap.objs.size:=I2.zM (zcE _) hD.2.1
  have fC:lC X pins H3 HD.objs.size:=I2.zM JX I.free
  have IT:Inv X pins σ (upd H3 s2.heap.objs.size (.lst xs)) s4:=IX.wK hD.2.1 I2.sz fD.2.1 (fun x c e=>fD.2.2.2.2.1 x c e) (fun p hp=>fD.2.2.2.2.2 p hp) ⟨hz,its,k,r,hD.1⟩
  obtain ⟨m,hn,_⟩:=I.loc
  exact hRR _ _ m xs H3 s4 IT hD.2.1 hn ⟨by rw [av (Ne.symm hDC)];exact fC.1,fC.2⟩ q
 have loop:∀ s₃:yai,s₃={ s2 with heap:=h₁,toks:=s2.toks+([]:List (Str×yaj)).length } →
   codeAny (model X.prog X.w) X.A (.compLoop (.ListComp elt [⟨tg,iter,ifs,0⟩] scope pos) 0 (.ref it) (.ref s2.heap.objs.size) (compEnvC scope (jQ X.env scope.names []) HD.objs.size X.env)) (RR (.ref s2.heap.objs.size) HD.objs.size) s₃:=by
  rintro s₃ rfl
  refine gV (fun n s'=>∃ i xs its k τ H',Inv (kg X scope N s2 H2 HD.objs.size fp) [(s2.heap.objs.size,lobj its k)] τ H' s'∧tn i s'.heap∧(∀ b∈fp,H' b=none)∧Vals xs its∧xs.length≤yah∧W i n xs τ H') ?_ m0
   ⟨0,[],[],0,_,_,Hl IY0 freshD hacc,T.keep 0 _ _ st2 fun b _ o e=>old b o e,fun b hb=>(f2 b hb).1,.nil,zcF _,w0⟩
  rintro n s3 ⟨i,xs,its,k,τ,H3,I3,st3,fr3,r3,z3,w3⟩
  rcases turn i n xs τ H3 w3 with ⟨stop,qn⟩ | ⟨go,M,hM,step⟩
  ·refine yac (T.done (kg X scope N s2 H2 HD.objs.size fp) rfl rfl rfl hc i _ s3 τ H3 (fun _ _=>False) I3 (fY fr3) st3 stop) (fun r s4 ⟨hr,I4⟩ => ?_) fun _ _ z=>z
   subst hr
   exact fin I4 r3 z3 qn
  ·refine yac (T.item (kg X scope N s2 H2 HD.objs.size fp) rfl rfl rfl hc i _ s3 τ H3 (fun _ _=>False) I3 (fY fr3) st3 go) (fun r s4 ⟨u,hr,h4⟩ => ?_) fun _ _ z=>z
   subst hr
   refine yac h4 (fun _ s5 ⟨x,H5,I5,r5,y5,st5,fr5⟩ => ?_) fun _ _ z=>z
   have I5':=I5.pinned (fY fr5) (T.obj _ _ st5)
   have Hx:∀ {τ7:St}{H7:Hp}{s7:yai},Inv (kg X scope N s2 H2 HD.objs.size fp) ([(s2.heap.objs.size,lobj its k)]++mR fp s5.heap) τ7 H7 s7→tn (i+1) s7.heap∧∀ b∈fp,H7 b=none:=fun {τ7 H7 s7} I7=>by
    refine ⟨T.keep _ _ _ st5 fun b hb o e=>(I7.pin (b,o) (zau _ (zau _ (gg hb e)))).1,fun b hb => ?_⟩
    obtain ⟨o,e,d⟩:=T.obj _ _ st5 b hb
    exact (I7.pin (b,o) (zau _ (zau _ (gg hb e)))).2.1
   refine yac (hg _ _ _ _ _ s5 τ H5 x u _ I5' r5 (step x H5 y5)) (fun _ s6 ⟨τ6,H6,I6,q6⟩ => ?_) fun _ _ z=>z
   refine yac (ht _ _ _ _ _ s6 τ6 H6 _ I6 q6) (fun ok s7 ⟨H7,I7,q7⟩ => ?_) fun _ _ z=>z
   cases ok with
   | false =>
    rw [yIn zbb] at q7 ⊢
    obtain ⟨m',hm,w7⟩:=hM _ _ _ q7
    obtain ⟨a1,a2⟩:=Hx I7
    exact ⟨m',hm,i+1,xs,its,k,τ6,H7,I7.gw,a1,a2,r3,z3,w7⟩
   | true =>
    rw [yIp rfl] at q7 ⊢
    refine yac (he _ _ _ _ _ s7 τ6 H7 _ I7 q7) (fun v s8 ⟨y,H8,I8,r8,q8⟩ => ?_) fun _ _ z=>z
    obtain ⟨hz,q8⟩:=q8
    obtain ⟨m',hm,w8⟩:=hM _ _ _ q8
    obtain ⟨a1,a2⟩:=Hx I8
    have hD:=I8.pin (s2.heap.objs.size,lobj its k) (zau _ (zaD _ (by simp)))
    have hlen:=r3.length
    refine wpAny_list_append_plain (items:=its.toArray) ⟨k,hD.1⟩ (fun h' hp hs => ?_) (by rw [zbg];lia)
    obtain ⟨k',hp⟩:=hp
    have I9:Inv (kg X scope N s2 H2 HD.objs.size fp) [] τ6 H8 { s8 with heap:=h' } :=
     (I8.jz (pins':=[]) (by simp)).turned (t':=s8.toks) (it:=s2.heap.objs.size) (fun b o hb e=>(hs.2 b hb).trans e) hD.2.1 hD.2.2.1 (.inr (zcE _))
      (fun x c e z=>by
       have q:=IY0.cell x c e
       obtain ⟨v,o,ho,hd⟩:=I8.cell x c e
       have e1:s8.heap.get? s2.heap.objs.size=some (lobj its k):=hD.1
       rw [z,e1] at ho
       cases ho
       cases hd) (by intro p hp;exact absurd (show p∈([]:List (Addr×Obj))++[] from hp) (by simp))
    have hp':({ s8 with heap:=h' }:yai).heap.get? s2.heap.objs.size=some (lobj (its++[v]) k'):=by
     show h'.get? _=_
     rw [hp];simp
    have hkt:tn (i+1) h':=T.keep _ _ _ a1 fun b hb o e=>(hs.2 b (zcr (hfl b hb))).trans e
    refine ⟨m',hm,i+1,xs++[y],its++[v],k',τ6,H8,Hl I9 hD.2.1 hp',hkt,a2,r3.append (.cons r8 .nil),?_,w8⟩
    rw [zaT]
    exact hz
 exact codeAny_compStart_list (loop _ rfl) (T.self X.A 0 _ _ _ (T.keep 0 _ _ st2 fun b _ o e=>old b o e) (loop _ rfl))
noncomputable def freeOk (env:Env) (scope:Scope):Bool:=scope.names.all fun p=>p.2 != .free||env.scope.names.lookup p.1==some .cell||env.scope.names.lookup p.1==some .free
theorem Inv.freeOk {H:Hp}{scope:Scope} (I:Inv X pins σ H s) (h:freeOk X.env scope=true):∀ n,(n,NameKind.free)∈scope.names→∃ c,X.env.cells.lookup n=some c:=fun n hn=>by
 have q:=zbC.mp h _ hn
 simp only [Bool.or_eq_true,beq_iff_eq,bne_iff_ne] at q
 refine I.ok.has n ?_
 rcases q with (q | q) | q
 ·exact absurd rfl q
 ·exact .inl q
 ·exact .inr q
def AU (caps:List (Option Nat)) (wi:TI) (g:TG) (tt:TT) (te:TE):TE:=fun σ H Q=>wi σ H fun J H1=>G0 J g tt te (oJ caps σ) H1 fun xs H3=>∀ p,H3 p=none→Q (.ref p) (upd H3 p (.lst xs))
theorem iy {elt tg iter:Expr}{ifs:List Expr}{scope:Scope}{N:List Str}{caps:List (Option Nat)}{pos:Pos}{wi:TI}{g:TG}{tt:TT}{te:TE}
  (S:dM scope N) (hcap:jR X.N X.env scope N caps=true) (hfr:L2.freeOk X.env scope=true) (hc:X.calm=true) (hi:PI X tg iter wi)
  (hg:∀ s₀ H₀ C fp,PG (kg X scope N s₀ H₀ C fp) tg g) (ht:∀ s₀ H₀ C fp,HU (kg X scope N s₀ H₀ C fp) ifs tt) (he:∀ s₀ H₀ C fp,PE (kg X scope N s₀ H₀ C fp) elt te)
  (hs:∀ x,foldedSetIterable iter X.env x=pure x:=by intro _;rfl):PE X (.ListComp elt [⟨tg,iter,ifs,0⟩] scope pos) (AU caps wi g tt te):=by
 intro pins s σ H Q I h
 rw [eval_ListComp]
 refine wpAny_comprehension_free (use:=none) rfl hs (iX (I.freeOk hfr)) S.kind (fun x hx hl=>hl ▸ S.names x hx) ?_
 refine bX (hi pins s σ H _ I h) fun v s1 h1=>bX h1 fun itv s2 h2 => ?_
 obtain ⟨it,fp,tn,J,H2,rfl,I2,T,st2,f2,hl⟩:=h2
 refine tM (RR:=fun acc C=>compPost (model X.prog X.w) X.A X.xe none (EP X pins σ Q) acc C) S hcap (I.freeOk hfr) hc hg ht he I2 T st2 f2 hl ?_
 intro D C m xs H3 s4 IT hD hn fC q
 refine ⟨m,hn,fun h' sb=>⟨.ref D,_,?_,rfl,q D hD⟩⟩
 exact IT.turned (t':=s4.toks) (it:=C) (fun b o hb e=>(sb.2 b hb).trans e) fC.1 fC.2.1 fC.2.2.2.1 fC.2.2.2.2.1 fC.2.2.2.2.2
theorem cz {elt tg iter:Expr}{ifs:List Expr}{scope:Scope}{N:List Str}{caps:List (Option Nat)}{pos pos' spos:Pos}{wi:TI}{g:TG}{tt:TT}{te:TE}{i:Nat}{x:Str}
  (hN:X.N.Nodup) (hix:X.N[i]? = some x) (hx:X.env.scope.names.lookup x=some .local)
  (S:dM scope N) (hcap:jR X.N X.env scope N caps=true) (hfr:L2.freeOk X.env scope=true) (hc:X.calm=true) (hi:PI X tg iter wi)
  (hg:∀ s₀ H₀ C fp,PG (kg X scope N s₀ H₀ C fp) tg g) (ht:∀ s₀ H₀ C fp,HU (kg X scope N s₀ H₀ C fp) ifs tt) (he:∀ s₀ H₀ C fp,PE (kg X scope N s₀ H₀ C fp) elt te)
  (hsw:yau (.ListComp elt [⟨tg,iter,ifs,0⟩] scope pos) (some (.Name x pos')) spos.line X.env=pure true:=by rfl)
  (hs:∀ x,foldedSetIterable iter X.env x=pure x:=by intro _;rfl):PS X (.Assign [.Name x pos'] (.ListComp elt [⟨tg,iter,ifs,0⟩] scope pos) spos) (yR (AU caps wi g tt te) (pH i)):=by
 intro pins s σ H D I h
 rw [exec_Assign_Name_used _ _ _ _ hsw]
 refine yaa (yaz (yaa ?_))
 show yas _ X.A (do let _ ← comprehension (.ListComp elt [⟨tg,iter,ifs,0⟩] scope pos) scope X.env _ (newList []) false (eval iter X.env) (some (assign (.Name x pos') X.env))) _ _ s
 refine yaa (yac (wpAny_comprehension_free (use:=some (assign (.Name x pos') X.env)) (Q:=fun _ s'=>SP X pins D .next s') rfl hs (iX (I.freeOk hfr)) S.kind (fun x hx hl=>hl ▸ S.names x hx)
  (bX (hi pins s σ H _ I h) fun v s1 h1=>bX h1 fun itv s2 h2 => ?_)) (fun _ s' hq=>yab (yab hq)) fun _ _ e=>e)
 obtain ⟨it,fp,tn,J,H2,rfl,I2,T,st2,f2,hl⟩:=h2
 refine tM (RR:=fun acc C=>compPost (model X.prog X.w) X.A X.xe (some (assign (.Name x pos') X.env)) (fun _ s'=>SP X pins D .next s') acc C) S hcap (I.freeOk hfr) hc hg ht he I2 T st2 f2 hl ?_
 intro Dl C m xs H3 s4 IT hD hn fC q
 show yas _ X.A (assign (.Name x pos') X.env (.ref Dl)) _ _ _
 obtain ⟨oC,es,ep,hoC,hdC,rC⟩:=id hn
 have IP:Inv X (pins++[(C,oC)]) σ (upd H3 Dl (.lst xs)) s4:=IT.jz fun p hp=>(zbM.mp hp).elim (fun z=>IT.pin p (zau _ z)) fun z=>by
  have e:p=(C,oC):=by simpa using z
  subst e
  exact ⟨hoC,fC.1,fC.2.1,fC.2.2.1,fun v z=>by rw [hdC] at z;cases z⟩
 refine wpAny_assign_Name (gz (v:=.ref Dl) IP hN hix (.inl hx) rfl (fun s5 I5 => ?_) (.inr hx))
 have hC5:=I5.pin (C,oC) (zau _ (zau _ (by simp)))
 refine ⟨m,⟨oC,es,ep,hC5.1,hdC,rC⟩,fun h' sb=>⟨_,_,?_,q Dl hD⟩⟩
 exact I5.gw.turned (t':=s5.toks) (it:=C) (fun b o hb e=>(sb.2 b hb).trans e) fC.1 fC.2.1 fC.2.2.2.1 fC.2.2.2.2.1 fC.2.2.2.2.2
end
noncomputable def Nt (x:Str):It:=⟨fun i _=>i<x.cps.size,fun i H v H'=>H'=H∧∃ c,x.cps[i]? = some c∧v = .str ⟨#[c]⟩,fun i _=>i=x.cps.size⟩
theorem oQ {prog:yak}{w:yal}{A:yam} (hh:A.handled=none) (I:Addr) (x:Str) (t:Tok):Walks prog w A I [I] [I] x.cps.size (SignAt x) (fun i h=>h.IsStrIter I (strIterType x) x t i):=by
 unfold strIterType
 split
 ·exact Walks.strAscii hh I x t
 ·exact Walks.strWide hh I x t
theorem Ax {P:yak}{w:yal}{K:yaM}{tg:Expr} (it:Addr) (x:Str) (t:Tok):Turn P w K tg (Nt x) [it] it (fun i h=>h.IsStrIter it (strIterType x) x t i) where
 mem:=by simp
 obj:=fun i h st b hb=>by
  have e:b=it:=by simpa using hb
  subst e
  obtain ⟨o,e,c,d⟩:=st
  exact ⟨o,e,fun v z=>by rw [d] at z;cases z⟩
 keep:=fun i h h' st k=>let ⟨o,ho,r⟩:=st;⟨o,k it (by simp) o ho,r⟩
 item:=by
  intro X hP hw hK hc i pins s σ H E I hf st hg
  subst hP hw hK
  obtain ⟨f0,f1,f2,f3,f4,f5⟩:=hf it (by simp)
  have W:=oQ (prog:=X.prog) (w:=X.w) (I.ok.hd hc) it x t
  refine W.item i s _ _ hg st fun v h' tk hv st' kk => ?_
  obtain ⟨c,u,hcx,rfl⟩:=hv
  have I1:Inv X pins σ H { s with heap:=h',toks:=tk }:=I.turned (fun b o hb e=>kk b o (by simpa using hb) e) f0 f1 f3 f4 f5
  obtain ⟨o,ho,hcl,hda⟩:=id st'
  refine ⟨_,rfl,yb (s:={ s with heap:=h',toks:=tk }) ho hcl hda (by unfold strIterType;split <;> decide) ⟨.str ⟨#[c]⟩,H,I1,⟨u,rfl⟩,⟨rfl,c,hcx,rfl⟩,st',fun b hb=>(hf b hb).1⟩⟩
 done:=by
  intro X hP hw hK hc i pins s σ H E I hf st hg
  subst hP hw hK
  obtain ⟨f0,f1,f2,f3,f4,f5⟩:=hf it (by simp)
  have W:=oQ (prog:=X.prog) (w:=X.w) (I.ok.hd hc) it x t
  have e:i=x.cps.size:=hg
  subst e
  exact W.done s _ _ st fun h' tk kk=>⟨rfl,I.turned (t':=tk) (fun b o hb e=>kk b o (by simpa using hb) e) f0 f1 f3 f4 f5⟩
 self:=fun A i s Q E st h=>by
  have st:s.heap.IsStrIter it (strIterType x) x t i:=st
  unfold strIterType at st
  split at st
  ·exact wpAny_pyIter_striter_ascii st h
  ·exact wpAny_pyIter_striter_wide st h
mutual
def bB (K:yaM) (H:Hp):yan→V→Prop
 | .none,v=>v = .bw
 | .bool b,v=>v = .bl b
 | .int i,v=>v = .int i
 | .str x,v=>v = .str x
 | .list ds,v=>∃ a xs,v = .ref a∧dm K H a xs∧b8 K H ds xs
 | .tuple ds,v=>∃ a xs,v = .ref a∧dI K H a xs∧b8 K H ds xs
 | .dict _,_=>False
def b8 (K:yaM) (H:Hp):List yan→List V→Prop
 | [],xs=>xs=[]
 | d::ds,xs=>∃ x r,xs=x::r∧bB K H d x∧b8 K H ds r
end
theorem dI.same {K:yaM}{H H':Hp}{a:Addr}{xs:List V} (e:∀ b o,H b=some o→H' b=some o) (h:dI K H a xs):dI K H' a xs:=by
 rcases h with (h | ⟨o,h⟩) | h
 ·exact .inl (.inl (e _ _ h))
 ·exact .inl (.inr ⟨o,e _ _ h⟩)
 ·exact .inr h
mutual
theorem bB.noDict {K:yaM}{H:Hp}:∀ (d:yan) (v:V),bB K H d v→d.hasDict=false
 | .none,_,_=>rfl
 | .bool _,_,_=>rfl
 | .int _,_,_=>rfl
 | .str _,_,_=>rfl
 | .list ds,v,h=>by
  simp only [bB] at h
  obtain ⟨a,xs,_,_,h3⟩:=h
  simp only [PyData.hasDict]
  exact b8.noDict ds xs h3
 | .tuple ds,v,h=>by
  simp only [bB] at h
  obtain ⟨a,xs,_,_,h3⟩:=h
  simp only [PyData.hasDict]
  exact b8.noDict ds xs h3
 | .dict _,_,h=>by simp only [bB] at h
theorem b8.noDict {K:yaM}{H:Hp}:∀ (ds:List yan) (xs:List V),b8 K H ds xs→PyData.hasDictAll ds=false
 | [],_,_=>rfl
 | d::ds,xs,h=>by
  simp only [b8] at h
  obtain ⟨x,r,_,h2,h3⟩:=h
  simp only [PyData.hasDictAll,bB.noDict d x h2,b8.noDict ds r h3,Bool.or_false]
end
section
variable {X:Cx}{pins:List (Addr×Obj)}{σ:St}{H:Hp}{s:yai}
mutual
theorem Inv.reads (I:Inv X pins σ H s):∀ (d:yan) (v:V) (u:yaj),bB X.K H d v→RelV v u→∃ as,Reads s.heap u d as
 | .none,v,u,h,r=>by
  simp only [bB] at h
  subst h
  cases r
  exact ⟨_,.none⟩
 | .bool b,v,u,h,r=>by
  simp only [bB] at h
  subst h
  cases r
  exact ⟨_,.bool b⟩
 | .int i,v,u,h,r=>by
  simp only [bB] at h
  subst h
  obtain ⟨t,rfl⟩:=r
  exact ⟨_,.int i t⟩
 | .str x,v,u,h,r=>by
  simp only [bB] at h
  subst h
  obtain ⟨t,rfl⟩:=r
  exact ⟨_,.str x t⟩
 | .list ds,v,u,h,r=>by
  simp only [bB] at h
  obtain ⟨a,xs,rfl,h2,h3⟩:=h
  cases r
  obtain ⟨its,rv,⟨o,n,e,hc,_,hd⟩,_⟩:=I.list h2
  obtain ⟨as,q⟩:=Inv.readsAll I ds xs its h3 rv
  exact ⟨_,.list e hc hd (by simpa using q)⟩
 | .tuple ds,v,u,h,r=>by
  simp only [bB] at h
  obtain ⟨a,xs,rfl,h2,h3⟩:=h
  cases r
  obtain ⟨its,rv,⟨o,e,hc,n,hd⟩,_⟩:=I.tuple h2
  obtain ⟨as,q⟩:=Inv.readsAll I ds xs its h3 rv
  exact ⟨_,.tuple e hc hd (by simpa using q)⟩
 | .dict _,_,_,h,_=>by simp only [bB] at h
theorem Inv.readsAll (I:Inv X pins σ H s):∀ (ds:List yan) (xs:List V) (us:List yaj),b8 X.K H ds xs→Vals xs us→∃ as,ReadsAll s.heap us ds as
 | [],xs,us,h,r=>by
  simp only [b8] at h
  subst h
  cases r
  exact ⟨_,.nil⟩
 | d::ds,xs,us,h,r=>by
  simp only [b8] at h
  obtain ⟨x,rr,rfl,h2,h3⟩:=h
  cases r with
  | cons r1 r2 =>
   obtain ⟨as,q1⟩:=Inv.reads I d x _ h2 r1
   obtain ⟨bs,q2⟩:=Inv.readsAll I ds rr _ h3 r2
   exact ⟨_,.cons q1 q2⟩
end
def LF (K:yaM):List V→Hp→VK→Prop:=fun xs H Q=>∃ x d,xs=[x]∧bB K H d x∧d.showable=true∧d.depth≤100∧d.shown.length≤yah∧Q (.str d.shown) H
theorem zX {k:Nat} (hr:aU k X.A):b9 X (.builtin "repr") (LF X.K):=by
 intro pins s σ H xs us Q I r h
 obtain ⟨x,d,rfl,hd,hs,hdp,hz,q⟩:=h
 obtain ⟨u,rfl,rx⟩:=vals1 r
 have big:∀ a,u = .ref a→yas (model X.prog X.w) X.A (call (.builtin "repr") [u]) (EP X pins σ Q) X.xe s:=fun a e=>by
  subst e
  obtain ⟨as,rd⟩:=I.reads d x _ hd rx
  refine repr_of_reads' rd hs (fun z => ?_) hr.gd (by have:=hr.un;lia) (fun b o e=>e) (fun h' u tk hk => ?_) hz
  ·rw [bB.noDict d x hd] at z;cases z
  ·exact ⟨.str d.shown,H,I.kept (t':=tk) hk,⟨_,rfl⟩,q⟩
 cases d with
 | none=>simp only [bB] at hd;subst hd;cases rx;exact PySem.P.repr_of_none ⟨.str _,H,I.tok _,⟨_,rfl⟩,q⟩
 | bool b=>simp only [bB] at hd;subst hd;cases rx;exact PySem.P.repr_of_bool ⟨.str _,H,I.tok _,⟨_,rfl⟩,by simpa only [PyData.shown] using q⟩
 | int i =>
  simp only [bB] at hd
  subst hd
  obtain ⟨t,rfl⟩:=rx
  exact PySem.P.repr_of_int (by simpa [PyData.showable] using hs) ⟨.str _,H,I.tok _,⟨_,rfl⟩,by simpa only [PyData.shown] using q⟩
 | str y =>
  simp only [bB] at hd
  subst hd
  obtain ⟨t,rfl⟩:=rx
  exact PySem.P.repr_of_str ⟨.str _,H,I.tok _,⟨_,rfl⟩,by simpa only [PyData.shown] using q⟩ (by simpa only [PyData.shown] using hz)
 | list ds =>
  simp only [bB] at hd
  obtain ⟨a,xs,rfl,_⟩:=hd
  exact big a rx
 | tuple ds =>
  simp only [bB] at hd
  obtain ⟨a,xs,rfl,_⟩:=hd
  exact big a rx
 | dict _=>simp only [bB] at hd
theorem Hg {n:String}:RelV (.ty n) (.type n)∧∀ u',RelV (.ty n) u'→u' = .type n:=⟨rfl,fun u' h=>h⟩
theorem BJ {a:Addr}:RelV (.ref a) (.ref a)∧∀ u',RelV (.ref a) u'→u' = .ref a:=⟨rfl,fun u' h=>h⟩
theorem Dk:∀ {bs:List Bool}{its:List yaj},Vals (bs.map V.bl) its→its=bs.map Value.bool
 | [],_,.nil=>rfl
 | b::bs,_,.cons r t=>by rw [zcg,Dk t,show _=Value.bool b from r]
theorem vp:fV X (binaryOp .Mult) (fun x y H Q=>∃ i n,x = .str i∧y = .int n∧MulOk i n∧Q (.str (Txt.mul i n)) H):=by
 intro pins s σ H x y v u Q I rx ry h
 obtain ⟨i,n,rfl,rfl,hk,q⟩:=h
 obtain ⟨t,rfl⟩:=rx
 obtain ⟨t',rfl⟩:=ry
 exact SB.mul hk fun t' k=>⟨.str _,H,I.tok _,⟨_,rfl⟩,q⟩
theorem IA:Ek X (fun x lo hi H Q=>∃ y,x = .str y∧y.length≤yah∧Q (.str (Txt.slice y lo hi)) H):=by
 intro pins s σ H x v vl vu lo hi sl Q I rx hs pl pu h
 obtain ⟨y,rfl,hz,q⟩:=h
 obtain ⟨t,rfl⟩:=rx
 have fin:∀ (l u:Option (Int×Tok)),vl=partValue l→vu=partValue u→lo=l.map (·.1)→hi=u.map (·.1)→yas (model X.prog X.w) X.A (getItem (.str y t) (.ref sl)) (EP X pins σ Q) X.xe s:=fun l u e1 e2 e3 e4=>by
  obtain ⟨o,ho,hc,hd⟩:=hs
  refine wpAny_getItem_str_slice (l:=l) (u:=u) (st:=none) ⟨o,ho,hc,by rw [hd,e1,e2];rfl⟩ rfl ?_
  subst e3 e4
  exact post_val_or_str ⟨zcs (Txt.slice_le y _ _) hz,fun t' k=>⟨.str _,H,I.tok _,⟨_,rfl⟩,q⟩⟩
 refine ⟨"str",_,PySem.F.slot_str_getitem.lookup,typeIs_str _ _ _,?_⟩
 cases pl with
 | none =>
  cases pu with
  | none=>exact fin none none rfl rfl rfl rfl
  | int j tj=>exact fin none (some (j,tj)) rfl rfl rfl rfl
 | int i ti =>
  cases pu with
  | none=>exact fin (some (i,ti)) none rfl rfl rfl rfl
  | int j tj=>exact fin (some (i,ti)) (some (j,tj)) rfl rfl rfl rfl
theorem qa:∀ {ys:List Str}{its:List yaj},Vals (ys.map V.str) its→StrsAre its ys
 | [],_,.nil=>.nil
 | y::ys,_,.cons r t=>by
  obtain ⟨tk,e⟩:=(show ∃ t,_=Value.str y t from r)
  subst e
  exact .cons y tk (qa t)
theorem Ft:GP X "str.join" (fun x vs H Q=>∃ (y:Str) (a:Addr) (ys:List Str),x = .str y∧vs=[.ref a]∧dm X.K H a (ys.map V.str)∧(ys.map (·.length)).sum+ys.length*y.length≤16777216∧Q (.str (Txt.join y ys)) H):=by
 intro pins s σ H x vs v us Q I rx rv h
 obtain ⟨y,a,ys,rfl,rfl,ha,hz,q⟩:=h
 obtain ⟨t,rfl⟩:=rx
 obtain ⟨u,rfl,ru⟩:=vals1 rv
 cases ru
 obtain ⟨its,r,pl,_⟩:=I.list ha
 exact join_list pl.isList (by simpa using qa r) hz fun t' k=>⟨.str _,H,I.tok _,⟨_,rfl⟩,q⟩
end
noncomputable def notStar:Expr→Bool
 | .Starred _ _=>false
 | _=>true
theorem bU {e:Expr} (es:List Expr) (env:Env) (h:notStar e=true):yap (e::es) env=(false,eval e env)::yap es env:=by
 cases e <;> first | rfl | cases h
theorem cC {pos:Pos}{env:Env}:∀ (es:List Expr),es.all notStar=true→(yav pos (yap es env)).any (·.1)=false
 | [],_=>rfl
 | e::es,h=>by
  rw [zci,zbH] at h
  rw [bU es env h.1]
  show (false||(yav pos (yap es env)).any (·.1))=false
  rw [cC es h.2];rfl
theorem rQ {pos:Pos}{env:Env}:∀ (es:List Expr),es.all notStar=true→(yav pos (yap es env)).all (fun x => !x.1)=true
 | [],_=>rfl
 | e::es,h=>by
  rw [zci,zbH] at h
  rw [bU es env h.1]
  show (true&&(yav pos (yap es env)).all (fun x => !x.1))=true
  rw [rQ es h.2];rfl
section
variable {X:Cx}{e:Expr}{es:List Expr}{te:TE}{t:TA}{x:Str}{p pos:Pos}{id T:String}{r:List V→Hp→VK→Prop}
theorem ak (ha:PE X e te) (hr:PA X es t) (hs:notStar e=true:=by rfl):PA X (e::es) (l0 te t):=Fd ha hr (bU es X.env hs)
theorem eE (hc:b9 X (.builtin id) r) (hg:Gl X x) (hm:X.mg x=none) (hv:bootBuiltins x=some (.builtin id)) (ha:PA X (e::es) t) (hn:x ≠ "__name__" := by decide +kernel) (hdb:(x==("__debug__" : Str))=false:=by decide +kernel)
  (hs:(e::es).all notStar=true:=by rfl):PE X (.Call (.Name x p) (e::es) [] pos) (K7 r t):=by
 have h2:=hs
 rw [zci,zbH] at h2
 exact BY hc hg hm hv ha hn hdb (bU es X.env h2.1) (cC es h2.2)
theorem Fc (hc:b9 X (.type T) r) (hg:Gl X x) (hm:X.mg x=none) (hv:bootBuiltins x=some (.type T)) (ha:PA X (e::es) t) (hn:x ≠ "__name__" := by decide +kernel) (hdb:(x==("__debug__" : Str))=false:=by decide +kernel)
  (hs:(e::es).all notStar=true:=by rfl):PE X (.Call (.Name x p) (e::es) [] pos) (K7 r t):=by
 have h2:=hs
 rw [zci,zbH] at h2
 exact zd hc hg hm hv ha hn hdb (bU es X.env h2.1) (cC es h2.2)
end
structure Src (K:yaM) (mg:Str→Option yaj) (x:Str) (ps:List Str) (st:Stmt):Prop where
 ex:∃ f fd,uz K x x st f fd∧mg x=some (.ref f)∧Binds K fd ps []
structure Def (P:yak) (w:yal) (K:yaM) (mg:Str→Option yaj) (base:Heap) (k:Nat) (x:Str) (ps:List Str) (sp:Sp):Prop where
 ex:∃ f fd,bW P w K mg base iZ k f fd ps sp∧mg x=some (.ref f)∧zcc K (.ref f)=true∧Binds K fd ps []
section
variable {P:yak}{w:yal}{K:yaM}{mg:Str→Option yaj}{base:Heap}
theorem Src.def {x:Str}{st:Stmt}{N ps:List Str}{k:Nat}{sp:Sp} (F:Src K mg x ps st) (S:aE N ps (ai st)) (len:∀ vs H Q E,sp vs H Q E→vs.length=ps.length)
  (hbody:∀ (f:Addr) (cdv:yaj) (A:yam) (outer:List Env) (s:yai) (H:Hp) (vs:List V) (Q:VK) (E:XK),aU k (A.deeper (envOfC x (ai st) s.heap.objs.size f cdv))→sp vs H Q E →
   ∃ t,oO (d7 iZ P w K mg base N x (ai st) f cdv A outer s H E).Ed (aV st) t∧t { nx:=fun _ H'=>Q .bw H',rt:=Q } (start N vs) H):Def P w K mg base (k+1) x ps sp:=by
 obtain ⟨f,fd,F,hm,hb⟩:=F.ex
 exact ⟨f,fd,F.ok S len (hbody f),hm,F.kp,hb⟩
end
theorem Def.imp {P:yak}{w:yal}{K:yaM}{mg:Str→Option yaj}{base:Heap}{k:Nat}{x:Str}{ps:List Str}{sp sp':Sp} (D:Def P w K mg base k x ps sp) (h:∀ vs H Q E,sp' vs H Q E→sp vs H Q E):Def P w K mg base k x ps sp':=by
 obtain ⟨f,fd,F,hm,hk,hb⟩:=D.ex
 exact ⟨f,fd,F.imp h,hm,hk,hb⟩
section
variable {X:Cx}{e:Expr}{es:List Expr}{t:TA}{x:Str}{p pos:Pos}{k:Nat}{ps:List Str}{sp:Sp}
theorem vm (D:Def X.prog X.w X.K X.mg X.base k x ps sp) (hr:aU k X.A) (hg:Gl X x) (hx:Passes iZ X E0) (ha:PA X (e::es) t) (hdb:(x==("__debug__" : Str))=false:=by decide +kernel) (hs:(e::es).all notStar=true:=by rfl) :
  PE X (.Call (.Name x p) (e::es) [] pos) (wO sp [] E0 t):=by
 obtain ⟨f,fd,F,hm,hk,hb⟩:=D.ex
 have h2:=hs
 rw [zci,zbH] at h2
 exact E9 F hr hg hm hk hb .nil hx ha hdb (bU es X.env h2.1) (cC es h2.2)
theorem BV (T:String) (hg:Gl X x) (hm:X.mg x=none) (hv:bootBuiltins x=some (.type T)) (hn:x ≠ "__name__" := by decide +kernel) (hd:(x==("__debug__" : Str))=false:=by decide +kernel):PE X (.Name x pos) (tC (.ty T)) :=
 Fb hg hm hv rfl hn hd
end
noncomputable def My (scope:Scope) (N:List Str):Bool :=
 (match scope.kind with | .function=>true | _=>false)&&decide N.Nodup&&scope.names.all fun y=>y.2 != .cell&&scope.names.lookup y.1==some y.2
theorem iY {scope:Scope}{N:List Str} (h:My scope N=true):dM scope N:=by
 unfold My at h
 rw [zbH,zbH] at h
 obtain ⟨⟨h1,h2⟩,h3⟩:=h
 have h3:=zbC.mp h3
 refine ⟨?_,of_decide_eq_true h2,fun y hy => ?_,fun y hy => ?_⟩
 ·cases e:scope.kind <;> rw [e] at h1 <;> first | rfl | cases h1
 ·have:=h3 y hy
  rw [zbH] at this
  simpa using this.1
 ·have:=h3 y hy
  rw [zbH] at this
  simpa using this.2
section
variable {X:Cx}{K:yaM}
def Oa (K:yaM):List V→Hp→VK→Prop:=fun xs H Q=>∃ x n,xs=[x]∧KZ K x H n∧Q (.int n) H
theorem Dh (hK:X.K=K:=by rfl):b9 X (.builtin "len") (Oa K):=by subst hK;exact tU
theorem Oo (hK:X.K=K:=by rfl):Ao X (Jl K):=by subst hK;exact xY
theorem K8 (hK:X.K=K:=by rfl):Ao X (EZ K):=by subst hK;exact vI
theorem Fl (hK:X.K=K:=by rfl):fV X (yao .In) (O9 K false):=by subst hK;exact zh
variable {o e:Expr}{es:List Expr}{to:TE}{t:TA}{name:Str}{apos cpos:Pos}{T id:String}{r:V→List V→Hp→VK→Prop}
theorem mV (pa:PlainAttrs T) (slot:Slot T name id) (hty:typeOf (.builtin id)=pure (.type "method_descriptor")) (hm:GP X id r) (ho:PE X o to) (ha:PA X (e::es) t)
  (hbase:attributeBase o name X.env (eval o X.env)=eval o X.env:=by rfl) (hs:(e::es).all notStar=true:=by rfl) (hfew:decide ((e::es).length+0+0<30)=true:=by rfl)
  (hline:(apos.endLine==cpos.line)=true:=by rfl) (hK:X.K=K:=by rfl):PE X (.Call (.Attribute o name apos) (e::es) [] cpos) (MY K T r to t):=by
 subst hK
 have h2:=hs
 rw [zci,zbH] at h2
 refine mY pa slot hty hm ho ha hbase ?_ hline (bU es X.env h2.1) (cC es h2.2)
 rw [rQ _ hs]
 show (true&&true&&decide ((e::es).length+0+0<30))=true
 rw [hfew];rfl
end
def HY (x:Str):Prop:=∀ c∈x.cps.toList,c<128
mutual
noncomputable def wt:yan→Nat
 | .none | .bool _ | .dict _=>5
 | .int i=>(PyData.shown (.int i)).length
 | .str x=>10*x.length+2
 | .list ds | .tuple ds=>gu ds+3
noncomputable def gu:List yan→Nat
 | []=>0
 | d::ds=>wt d+2+gu ds
end
mutual
def pP:yan→Prop
 | .none | .bool _=>True
 | .int i=>i.natAbs.log2<1920
 | .str x=>∀ c∈x.cps.toList,c<16 ^ 8
 | .list ds | .tuple ds=>cJ ds
 | .dict _=>False
def cJ:List yan→Prop
 | []=>True
 | d::ds=>pP d∧cJ ds
end
theorem sR (ts:List Str):(listText ts).length≤piled ts+3:=by
 cases ts with
 | nil=>decide +kernel
 | cons t r =>
  have h:=textFrom_length_pos r 1 (("[" : Str)++(if (0:Nat) > 0 then ", " else "" : String)++t) (Nat.succ_pos 0)
  have e:((("[" : Str)++(if (0:Nat) > 0 then ", " else "" : String)++t)).length=1+t.length:=by
   rw [strLen_append,strLen_append];rfl
  have hX:(listText (t::r)).length=(textFrom 0 "[" (t::r)).length+1:=by
   show (textFrom 0 "[" (t::r) ++ "]").length=_
   rw [strLen_append];rfl
  have hY:(textFrom 0 "[" (t::r)).length=(textFrom 1 (("[" : Str)++(if (0:Nat) > 0 then ", " else "" : String)++t) r).length:=rfl
  rw [hX,hY,h,e,piled_cons];lia
theorem p6 (ts:List Str):(tupleText ts).length≤piled ts+3:=by
 unfold tupleText
 rw [strLen_append,strLen_append]
 have h1:("(" : Str).length=1:=rfl
 have h2:((if (ts.length==1)=true then ",)" else ")" : String):Str).length≤2:=by split <;> decide +kernel
 by_cases hn:ts=[]
 ·subst hn
  have h3:(Str.join ", " []).length=0:=rfl
  lia
 ·have:=join_length_add ts hn
  lia
mutual
theorem shown_le:∀ d:yan,pP d→d.shown.length≤wt d
 | .none,_=>by simp only [PyData.shown,wt];decide +kernel
 | .bool b,_=>by cases b <;> (simp only [PyData.shown,wt];decide +kernel)
 | .int i,_=>by simp only [wt];exact zcE _
 | .str x,h=>by
  simp only [pP] at h
  simp only [PyData.shown,wt]
  exact StrLaws.reprText_len x h
 | .list ds,h=>by
  simp only [pP] at h
  simp only [PyData.shown,wt]
  have h1:=shownAll_le ds h
  have h2:=sR (PyData.shownAll ds)
  lia
 | .tuple ds,h=>by
  simp only [pP] at h
  simp only [PyData.shown,wt]
  have h1:=shownAll_le ds h
  have h2:=p6 (PyData.shownAll ds)
  lia
 | .dict _,h=>by simp only [pP] at h
theorem shownAll_le:∀ ds:List yan,cJ ds→piled (PyData.shownAll ds)≤gu ds
 | [],_=>by simp only [PyData.shownAll,gu];exact zcE _
 | d::ds,h=>by
  simp only [cJ] at h
  simp only [PyData.shownAll,gu]
  rw [piled_cons]
  have h1:=shown_le d h.1
  have h2:=shownAll_le ds h.2
  lia
end
mutual
theorem pP.show:∀ d:yan,pP d→d.showable=true
 | .none,_=>rfl
 | .bool b,_=>rfl
 | .int i,h=>by simp only [pP] at h;simp only [PyData.showable];exact yDt h
 | .str x,h=>rfl
 | .list ds,h=>by simp only [pP] at h;simp only [PyData.showable];exact cJ.show ds h
 | .tuple ds,h=>by simp only [pP] at h;simp only [PyData.showable];exact cJ.show ds h
 | .dict _,h=>by simp only [pP] at h
theorem cJ.show:∀ ds:List yan,cJ ds→PyData.showableAll ds=true
 | [],_=>rfl
 | d::ds,h=>by
  simp only [cJ] at h
  simp only [PyData.showableAll,pP.show d h.1,cJ.show ds h.2,Bool.and_self]
end
theorem HY.ok {x:Str} (h:HY x):∀ c∈x.cps.toList,c<16 ^ 8:=fun c hc=>Nat.lt_trans (h c hc) (by decide)
noncomputable def OQ (x:Str):Bool:=x.cps.toList.all fun c=>decide (c<128)
theorem kG {x:Str} (h:OQ x=true):HY x:=fun c hc=>of_decide_eq_true (zbC.mp h c hc)
end L2
set_option maxHeartbeats 400000
namespace PySem.W
open PySem PySem.Calls PyProof.Rows Builtin Builtin.ObjectAttr
noncomputable abbrev bL (C:Addr) (od:Option Addr) (vs:Array yaj):Obj:={ cls:=.ref C,dict:=od,data:=.fields vs }
section
variable {prog:yak}{w:yal}{A:yam}{E:yaj→yai→Prop}{s:yai}{K:Frag}{x C:Addr}{ox:Obj}{od:Option Obj}{name:Str}{expr:Bool}{Q:yaj→yai→Prop}
theorem nk {M:Model}{h:Heap}{T:String} (X:K.In h) (I:InstAt h x ox C od) (hs:subIn K (.ref C) (.type T)=some true):Looks M h (isInstance (.ref x) (.type T)) true:=by
 have L0:=I.type (M:=M)
 have L1:=looks_subIn (M:=M) X hs
 unfold isInstance
 exact L0.andThen L1
theorem FW:builtinKind "BaseException.__getattribute__" = some .slot:=by decide +kernel
theorem CC:splitId "BaseException.__getattribute__" = some ("BaseException","__getattribute__"):=by decide +kernel
theorem Dd {M:Model}{nameV:yaj}{Q:Unit→yai→Prop} (LI:Looks M s.heap (isInstance (.ref x) (.type "BaseException")) true) (q:Q () s) :
  yas M A (checkBuiltinCall "BaseException.__getattribute__" ⟨[.ref x,nameV],[]⟩) Q E s:=by
 have ha:=F.args_bexc_ga (.ref x) nameV
 have h:=@check_slot M A E s "BaseException.__getattribute__" "BaseException" "__getattribute__" (.ref x) [nameV] [] Q FW CC LI
 generalize argsOk "BaseException.__getattribute__" { pos:=[Value.ref x,nameV] }=p at ha h
 exact h ha q
theorem FU {v:yaj} (X:K.In s.heap) (I:InstAt s.heap x ox C od) (hga:findIn K (.ref C) "__getattribute__" = some (some (.builtin "BaseException.__getattribute__"))) (hgn:findIn K (.ref C) "__getattr__" = some none)
  (hs:subIn K (.ref C) (.type "BaseException")=some true)
  (hf:findObj K C od name=some (.value v)) (hh:handedIn v=true) (h:Q v { s with toks:=s.toks+1 }):yas (model prog w) A (getAttr (.ref x) name expr) Q E s:=by
 obtain ⟨hp,g,d,t,os⟩:=s
 have L0:=I.type (M:=model prog w)
 have L1:=looks_findIn (M:=model prog w) X hga
 have L2:=looks_findIn (M:=model prog w) X hgn
 have L3:=looks_find (M:=model prog w) X I hf
 have LI:=nk (M:=model prog w) X I hs
 have hx0:(expr&&onTheHeap (Value.builtin "BaseException.__getattribute__"))=false:=by cases expr <;> rfl
 have hx2:(Value.builtin "BaseException.__getattribute__" == Value.builtin "object.__getattribute__")=false:=by decide +kernel
 have hb:=F.excAttr_ValueError.ga.bind (.ref x)
 unfold getAttr getAttrBy
 refine yaa (wpAny_mkText (yad (yaa (L0.at (yaa (L1.at ?_))))))
 show yas _ _ (if (onTheHeap (Value.ref C)&&Value.builtin "BaseException.__getattribute__" == Value.builtin "object.__getattribute__")=true then _ else _) _ _ _
 rw [hx2,Bool.and_false,yIn (by decide)]
 unfold getAttrByItsOwn hookBefore
 show yas _ _ (typeLookup (.ref C) "__getattr__" >>= _) _ _ _
 refine yaa (L2.at (yaa (wpAny_attempt (yad ?_))))
 unfold callGetattribute
 rw [hx0,yIn (by decide)]
 unfold boundAndCalled
 rw [hb]
 refine yaa (yab ?_)
 refine yaL (codeAny_call_builtin F.excAttr_ValueError.ga.plain F.entry_bexc_ga ?_)
 show yas _ _ (checkBuiltinCall "BaseException.__getattribute__" ⟨[.ref x,.str name t],[]⟩) _ _ _
 refine Dd ?_ ?_
 ·exact LI
 unfold Builtin.«object.__getattribute__»
 refine yaa (yab (yaa (yab (yaa (L0.at (yaa (L3.at ?_)))))))
 refine yab ?_
 show yas _ _ (handedOut v) _ _ _
 rw [handedOut_of hh];exact yab h
noncomputable def kM:List yaj→Bool
 | .ref _::r=>kM r
 | l=>l==[.type "ValueError",.type "Exception",.type "BaseException",.type "object"]
theorem qx (self:yaj):refuseLoop self "__setattr__" [.type "ValueError",.type "Exception",.type "BaseException",.type "object"]=pure ():=by kernel_rfl
theorem ki:kM []=false:=by decide +kernel
theorem uL {n:String}{r:List yaj} (e:kM (.type n::r)=true):(.type n::r)=[.type "ValueError",.type "Exception",.type "BaseException",.type "object"]:=by
 have e':((.type n::r:List yaj)==[.type "ValueError",.type "Exception",.type "BaseException",.type "object"])=true:=e
 exact beq_iff_eq.mp e'
theorem lZ:∀ {l:List yaj},kM l=true→l=[.type "ValueError",.type "Exception",.type "BaseException",.type "object"]∨∃ c r,l = .ref c::r∧kM r=true
 | [],e=>by rw [ki] at e;cases e
 | .ref c::r,e=>.inr ⟨c,r,rfl,e⟩
 | .type n::r,e=>.inl (uL e)
 | .none::r,e=>.inl (beq_iff_eq.mp (show ((.none::r:List yaj)==_)=true from e))
 | .bool b::r,e=>.inl (beq_iff_eq.mp (show ((.bool b::r:List yaj)==_)=true from e))
 | .int b t::r,e=>.inl (beq_iff_eq.mp (show ((.int b t::r:List yaj)==_)=true from e))
 | .float b t::r,e=>.inl (beq_iff_eq.mp (show ((.float b t::r:List yaj)==_)=true from e))
 | .str b t::r,e=>.inl (beq_iff_eq.mp (show ((.str b t::r:List yaj)==_)=true from e))
 | .bytes b t::r,e=>.inl (beq_iff_eq.mp (show ((.bytes b t::r:List yaj)==_)=true from e))
 | .builtin b::r,e=>.inl (beq_iff_eq.mp (show ((.builtin b::r:List yaj)==_)=true from e))
 | v::r,e=>by
  first
   | (cases v <;> first | exact .inl (beq_iff_eq.mp e) | exact .inr ⟨_,_,rfl,e⟩)
theorem sr (self:yaj):∀ {l:List yaj},kM l=true→refuseLoop self "__setattr__" l=pure ():=by
 intro l
 induction l with
 | nil=>intro e;rw [ki] at e;cases e
 | cons v r ih =>
  intro e
  rcases lZ e with e | ⟨c,r',e1,e2⟩
  ·rw [e];exact qx self
  ·cases e1
   rw [refuseLoop_ref];exact ih e2
theorem AB:∀ {l:List yaj},kM l=true→l.contains (.type "object")=true∧l.isEmpty=false:=by
 intro l
 induction l with
 | nil=>intro e;rw [ki] at e;cases e
 | cons v r ih =>
  intro e
  refine ⟨?_,rfl⟩
  rcases lZ e with e | ⟨c,r',e1,e2⟩
  ·rw [e];decide +kernel
  ·cases e1
   rw [zaU,(ih e2).1,Bool.or_true]
noncomputable def jL (K:Frag) (C:Addr):Bool:=(clsIn K C).any fun cd=>kM cd.mro&&cd.hasDict
theorem Ff {name:Str}{tk:Tok}{v:yaj}{R:Result→yai→Prop} (X:K.In s.heap) (I:InstAt s.heap x ox C od) (hp:jL K C=true) (ha:findIn K (.ref C) name=some none)
  (h:yas (model prog w) A.in1 (storeInOwnDict (.ref x) (.ref C) (.str name tk) name v false)
   (fun fin s'=>match fin with | .done f=>R (.ok f) s' | .again c'=>c'.quiet=true∧codeAny (model prog w) A c' R s') (fun e s'=>R (.error e) s') s) :
  codeAny (model prog w) A (.call (.builtin "object.__setattr__") ⟨[.ref x,.str name tk,v],[]⟩) R s:=by
 have SF:=PySem.F.store_object
 obtain ⟨cd,hc,ho⟩:=any_some hp
 rw [zbH] at ho
 obtain ⟨t1,t2⟩:=AB ho.1
 have sub:Looks (model prog w) s.heap (isInstance (.ref x) (.type "object")) true:=I.type.andThen (looks_mroIn X (by unfold mroIn;rw [hc,zbK,yIn (by rw [t2];decide),t1]))
 refine codeAny_call_builtin SF.slot.plain SF.entry (@check_slot (model prog w) _ _ s "object.__setattr__" "object" "__setattr__" (.ref x) [.str name tk,v] [] _ SF.kind SF.split sub (SF.args (.ref x) (.str name tk) v) ?_)
 have hm:Looks (model prog w) s.heap (mroOf (.ref C)) cd.mro:=(looks_clsIn X hc).andThen .now
 rw [osa_eq,refuse_eq]
 refine yaa (yaa (I.type.here (yaa (hm.here ?_))))
 rw [sr _ ho.1]
 refine yab (yaa (I.type.here (yaa ((looks_findIn X ha).here (yaa (yab ?_))))))
 exact h
theorem Fp {h:Heap}{a:Addr} (e:h.get? a=some emptyDict):h.Ns1 a fun _=>none :=
 ⟨emptyDict,#[],_,e,rfl,fun y hy=>absurd hy (by simp),by first | exact fun _ _ hi=>absurd hi (by simp) | simp [UniqKeys] | (unfold UniqKeys;simp) ,fun name=>rfl⟩
theorem Bf {name:Str}{v:yaj}{vs:Array yaj}{Q:Unit→yai→Prop} (X:K.In s.heap) (hx:s.heap.get? x=some (bL C none vs))
  (hs:findIn K (.ref C) "__setattr__" = some (some (.builtin "object.__setattr__"))) (hp:jL K C=true) (ha:findIn K (.ref C) name=some none)
  (h:∀ h',h'.Ns1 s.heap.objs.size (fun y=>if y=name then some v else none)→h'.get? x=some (bL C (some s.heap.objs.size) vs)→(∀ b o,b≠x→s.heap.get? b=some o→h'.get? b=some o)→Q () { s with heap:=h',toks:=s.toks+2 }) :
  yas (model prog w) A (setAttr (.ref x) name v) Q E s:=by
 have I:InstAt s.heap x (bL C none vs) C none:=⟨hx,rfl,rfl,trivial⟩
 refine set_plain X I hs (Ff (s:={ s with toks:=s.toks+1 }) X I hp ha ?_)
 obtain ⟨cd,hc,hd'⟩:=any_some hp
 rw [zbH] at hd'
 have hlt:x<s.heap.objs.size:=zcA hx
 refine yaa (yab (yaa (yaa (yaE hx (yaa (PySem.W.Looks.here (s:={ s with toks:=s.toks+1 }) (PySem.W.looks_clsIn X hc) ?_))))))
 rw [hd'.2]
 have hx2:(s.heap.push emptyDict).get? x=some (bL C none vs):=zar _ hx
 refine yaa (wpAny_alloc (yaa (wpAny_update hx2 ?_)))
 have hx3:((s.heap.push emptyDict).update x fun o=>{ o with dict:=some s.heap.objs.size }).get? x=some (bL C (some s.heap.objs.size) vs):=by rw [zaB _ hx2 rfl]
 have hd3:((s.heap.push emptyDict).update x fun o=>{ o with dict:=some s.heap.objs.size }).get? s.heap.objs.size=some emptyDict:=by
  rw [zas _ _ (zcr hlt)]
  exact zaR _ rfl
 have hk3:∀ b o,b≠x→s.heap.get? b=some o→((s.heap.push emptyDict).update x fun o=>{ o with dict:=some s.heap.objs.size }).get? b=some o:=fun b o hb e=>by
  rw [zas _ _ (Ne.symm hb)]
  exact zar _ e
 refine yab (yaa (yab (yaa ?_)))
 refine wpAny_nsSet1 (s:={ s with heap:=(s.heap.push emptyDict).update x fun o=>{ o with dict:=some s.heap.objs.size },toks:=s.toks+1 }) (Fp hd3) fun h' hn2 hs2 => ?_
 obtain ⟨oD,esD,epD,hoD,Nf,hcD⟩:=hn2.count (PySem.Within.cons (ns:=[]) name v (fun y hy=>absurd rfl hy))
 refine yaa (wpAny_lookBehind hoD (by rw [Nf];exact pastItsLine_dict (zcs hcD (by rw [zbx,yag];simp))) ?_)
 exact yab (h _ hn2 ((hs2.2 _ (zcr hlt)).trans hx3) fun b o hb e=>(hs2.2 b (zcr (zcA e))).trans (hk3 b o hb e))
end
section
variable {prog:yak}{w:yal}{A:yam}{E:yaj→yai→Prop}{s:yai}{K:Frag}{x C:Addr}{ox:Obj}{od:Option Obj}
variable {nm q:Str}{N:Addr}{bs bm:List yaj}{hdct:Bool}{sn:List Str}{sub:List yaj}{ab:Bool}{col:Option Bool}{dd:Option Addr}{k0 k1 k2 k3 k5:Option yaj}{newId:String}
theorem Dc {M:Model}{hp:Heap}{g:Array yax}{d:Drawn}{t:Nat}{os:yaK}{ws:List yaj}{Q:Unit→yai→Prop} (hC:hp.get? C=some (excClassObj nm q C N bs bm hdct sn sub ab col dd k0 k1 k2 k3 k5 newId))
  (he:hp.get? x=some ox) (hcls:ox.cls = .ref C) (hB:bm.contains (.type "ValueError")=true) (hq:Q () ⟨hp,g,d,t,os⟩) :
  yas M A (checkBuiltinCall "ValueError.__init__" ⟨.ref x::ws,[]⟩) Q E ⟨hp,g,d,t,os⟩:=by
 have F:=PySem.F.excCall_ValueError
 have hcB:(Value.ref C::bm).contains (.type "ValueError")=true:=by rw [zaU,hB,Bool.or_true]
 have Ou:=F.noStar
 simp only [checkBuiltinCall,F.initKind,F.initSplit,F.initRow]
 repeat (first | (with_reducible refine yae he ?_;rw [hcls]) | with_reducible refine yae hC ?_ | (with_reducible refine wpAny_isSubtype_exc hC ?_;rw [hcB]) | wp_step)
 refine wpAny_onRaise ?_
 rw [show ∀ (a b:String) (n:Nat),Bind.check ⟨.positional,"*","ValueError",.self,[⟨"args",.varPos,false⟩]⟩ a b n (List.map (fun x=>x.fst) ({ pos:=Value.ref x::ws }:Args).kw)=pure () from
  fun a b n=>check_star_args _ _ _ _ _ _]
 exact yab hq
theorem Cq {ws:List yaj}{d0:Option Addr}{t0:Addr}{a1 a2 a3 a4 a5:yaj}{Q:yaj→yai→Prop} (hC:s.heap.get? C=some (excClassObj nm q C N bs bm hdct sn sub ab col dd k0 k1 k2 k3 k5 newId)) (hB:bm.contains (.type "ValueError")=true)
  (hx:s.heap.get? x=some (bL C d0 #[.ref t0,a1,a2,a3,a4,a5])) (hz:ws.length≤yah)
  (h:∀ h',h'.get? x=some (bL C d0 #[.ref s.heap.objs.size,a1,a2,a3,a4,a5])→(∀ b o,b≠x→s.heap.get? b=some o→h'.get? b=some o)→Q .none { s with heap:=h' }) :
  yas (model prog w) A (call (.builtin "ValueError.__init__") (.ref x::ws)) Q E s:=by
 have F:=PySem.F.excCall_ValueError
 obtain ⟨hp,g,d,t,os⟩:=s
 refine yaL (codeAny_call_builtin F.init.plain F.initEntry (Dc hC hx rfl hB ?_))
 have hx:hp.get? x=some (bL C d0 #[.ref t0,a1,a2,a3,a4,a5]):=hx
 wp_walk
 refine h _ ?_ (fun b o hb e => ?_)
 ·rw [zaB _ (zar _ hx) rfl];rfl
 ·rw [zas _ _ (Ne.symm hb)];exact zar _ e
theorem Gm {hp:Heap}{g:Array yax}{d:Drawn}{t:Nat}{os:yaK}{M:Model}{rest:List yaj}{Q:Unit→yai→Prop} (hC:hp.get? C=some (excClassObj nm q C N bs bm hdct sn sub ab col dd k0 k1 k2 k3 k5 "ValueError.__new__"))
  (hB:bm.contains (.type "ValueError")=true) (hq:Q () ⟨hp,g,d,t,os⟩):yas M A (checkBuiltinCall "ValueError.__new__" ⟨.ref C::rest,[]⟩) Q E ⟨hp,g,d,t,os⟩:=by
 have Fn:=PySem.F.excBase_ValueError
 have Mg:(Value.ref C::bm).contains (.type "ValueError")=true:=by rw [zaU,hB,Bool.or_true]
 have hstar:=Fn.noStar
 simp only [checkBuiltinCall,Fn.newKind,Fn.newSplit,Fn.newRow]
 repeat (first | refine yae hC ?_ | (refine wpAny_isSubtype_exc hC ?_;rw [Mg]) | refine wpAny_staticBase_exc hC ?_ | refine wpAny_madeBy_exc hC ?_ | simp only [bne_self_eq_false,zbc,if_false] | wp_step)
 exact hq
theorem Fq {hp:Heap}{g:Array yax}{d:Drawn}{t:Nat}{os:yaK}{R:Result→yai→Prop}{rest:List yaj} (hC:hp.get? C=some (excClassObj nm q C N bs bm hdct sn sub ab col dd k0 k1 k2 k3 k5 "ValueError.__new__"))
  (hB:bm.contains (.type "ValueError")=true) (hA:bm.contains (.type "AttributeError")=false) (hN:bm.contains (.type "NameError")=false) (hz:rest.length≤yah)
  (hq:R (.ok (.ret (.ref (hp.objs.size+1)))) ⟨(hp.push { cls:=.type "tuple",data:=.seq rest.toArray }).push (bL C none #[.ref hp.objs.size,.none,.none,.none,.bool false,.none]),g,d,t,os⟩) :
  codeAny (model prog w) A (.builtin "ValueError.__new__" ⟨.ref C::rest,[]⟩) R ⟨hp,g,d,t,os⟩:=by
 have Fn:=PySem.F.excBase_ValueError
 have Pd:=Fn.ends
 have hcB:(Value.ref C::bm).contains (.type "ValueError")=true:=by rw [zaU,hB,Bool.or_true]
 have hcA:(Value.ref C::bm).contains (.type "AttributeError")=false:=by rw [zaU,hA];rfl
 have hcN:(Value.ref C::bm).contains (.type "NameError")=false:=by rw [zaU,hN];rfl
 refine codeAny_builtinAt Fn.entry ?_
 unfold Builtin.«BaseException.__new__»
 refine wpAt_bind ?_
 show wpAt _ _ _ (stack >>= _) _ _ _
 refine wpAt_bind (wpAt_stack fun p below=>wpAt_of_wpAny ?_)
 wp_walk
 refine wpAt_of_wpAny ?_
 rw [Fn.owner]
 repeat (first | with_reducible refine wpAny_madeHere_exc Fn.canon hC ?_ | with_reducible refine yae hC ?_ | (with_reducible refine wpAny_isSubtype_exc hC ?_;first | rw [hcB] | rw [hcA] | rw [hcN]) | wp_step)
 show R _ _
 rw [Heap.size_push]
 exact hq
theorem Cf {hp:Heap}{g:Array yax}{d:Drawn}{t:Nat}{os:yaK}{R:Result→yai→Prop}{rest:List yaj}{f:Addr} (hC:hp.get? C=some (excClassObj nm q C N bs bm hdct sn sub ab col dd k0 k1 k2 k3 k5 "ValueError.__new__"))
  (hB:bm.contains (.type "ValueError")=true) (hA:bm.contains (.type "AttributeError")=false) (hN:bm.contains (.type "NameError")=false) (hz:rest.length≤yah)
  (hi:Looks (model prog w) hp (typeLookup (.ref C) "__init__") (some (.ref f))) (hb:∀ self,Looks (model prog w) hp (bindSpecial (.ref f) self) (.ref f,[self]))
  (hq:codeAny (model prog w) (A.under (.builtin "type.__call__" ⟨.ref C::rest,[]⟩)) (.call (.ref f) ⟨.ref (hp.objs.size+1)::rest,[]⟩) (InitBack (hp.objs.size+1) R)
   ⟨(hp.push { cls:=.type "tuple",data:=.seq rest.toArray }).push (bL C none #[.ref hp.objs.size,.none,.none,.none,.bool false,.none]),g,d,t,os⟩) :
  codeAny (model prog w) A (.call (.ref C) ⟨rest,[]⟩) R ⟨hp,g,d,t,os⟩:=by
 have Fn:=PySem.F.excBase_ValueError
 have f1:=tc_lookup
 have f2:=tc_bind (.ref C)
 have hT:(⟨hp,g,d,t,os⟩:yai).TypeIs (.ref C) "type" := ⟨_,hC,rfl⟩
 refine codeAny_of_tree ?_
 show yas _ _ (callAny (.ref C) _) _ _ _
 repeat (any_goals (first | assumption | with_reducible refine yae hC ?_ | wp_step))
 refine ⟨rfl,?_⟩
 refine codeAny_call_builtin_at (Code.quiet_builtin _ (by decide +kernel)) entry_typeCall (wpAny_check_type_call_sub hC ?_)
 repeat (first | with_reducible refine yae hC ?_ | with_reducible refine wpAny_madeBy_exc hC ?_ | wp_step)
 refine codeAny_call_builtin_code (Code.quiet_builtin _ Fn.quiet) (Gm hC hB ?_)
 refine Fq hC hB hA hN hz ?_
 show yas _ _ _ _ _ _
 have k:∀ b o,hp.get? b=some o→((hp.push { cls:=.type "tuple",data:=.seq rest.toArray }).push (bL C none #[.ref hp.objs.size,.none,.none,.none,.bool false,.none])).get? b=some o:=fun b o e=>zar _ (zar _ e)
 have hx:((hp.push { cls:=.type "tuple",data:=.seq rest.toArray }).push (bL C none #[.ref hp.objs.size,.none,.none,.none,.bool false,.none])).get? (hp.objs.size+1)=some (bL C none #[.ref hp.objs.size,.none,.none,.none,.bool false,.none]):=by heap_get
 have self:Looks (model prog w) hp (isSubtype (.ref C) (.ref C)) true:=by
  intro A' Q' E' s' k' q'
  obtain ⟨hh,g',d',t',os'⟩:=s'
  refine wpAny_isSubtype_exc (k' _ _ hC) ?_
  rw [show (Value.ref C::bm).contains (.ref C)=true by simp]
  exact q'
 have t1:Looks (model prog w) ((hp.push { cls:=.type "tuple",data:=.seq rest.toArray }).push (bL C none #[.ref hp.objs.size,.none,.none,.none,.bool false,.none])) (typeOf (.ref (hp.objs.size+1))) (.ref C):=(Looks.ld hx).andThen .now
 have s1:=self.keeps k
 have i1:=hi.keeps k
 have b1:=(hb (.ref (hp.objs.size+1))).keeps k
 unfold isInstance callSpecial? specialOf
 show yas (model prog w) (A.under (Code.builtin "type.__call__" ⟨.ref C::rest,[]⟩)) _ _ _ ⟨(hp.push { cls:=.type "tuple",data:=.seq rest.toArray }).push (bL C none #[.ref hp.objs.size,.none,.none,.none,.bool false,.none]),g,d,t,os⟩
 repeat (first | with_reducible refine yaL ?_ | lk)
 refine yay hq fun r s' z => ?_
 rcases r with e | (v | _ | _ | _) <;> first | exact z | exact z.elim | skip
 obtain ⟨rfl,z⟩:=z
 exact yab (yab z)
end
end PySem.W
set_option maxHeartbeats 1000000
namespace L2
open PySem PySem.Spec PyProof.Rows
noncomputable def XO (C:Addr) (d0:Option Addr) (x:Addr):HO:=.ext fun h=>∃ (t0:Addr) (a1 a2 a3 a4 a5:yaj),h.get? x=some (PySem.W.bL C d0 #[.ref t0,a1,a2,a3,a4,a5])
noncomputable def we (fs:List (Str×V)) (dx:Addr):HO:=.ext fun h=>fs.length≤900∧∃ mA,h.Ns1 dx mA∧(∀ f,eK (fs.lookup f) (mA f))∧PySem.Within mA (fs.map (·.1))
section
variable {P:yak}{w:yal}{H:Hp}{h:Heap}
theorem XO.ok {C x:Addr}{d0:Option Addr}{t0:Addr}{a1 a2 a3 a4 a5:yaj} (e:h.get? x=some (PySem.W.bL C d0 #[.ref t0,a1,a2,a3,a4,a5])):aW P w H h x (XO C d0 x) :=
 ⟨⟨t0,a1,a2,a3,a4,a5,e⟩,⟨_,e⟩,fun h1 h2 ⟨t,b1,b2,b3,b4,b5,q⟩ k=>⟨t,b1,b2,b3,b4,b5,k _ q⟩⟩
theorem XO.get {C x:Addr}{d0:Option Addr} (ok:fW P w H h) (e:H x=some (XO C d0 x)):∃ (t0:Addr) (a1 a2 a3 a4 a5:yaj),h.get? x=some (PySem.W.bL C d0 #[.ref t0,a1,a2,a3,a4,a5]):=(ok x _ e).1
theorem we.ok {dx:Addr}{fs:List (Str×V)}{mA:Str→Option yaj} (l:fs.length≤900) (n:h.Ns1 dx mA) (r:∀ f,eK (fs.lookup f) (mA f)) (wi:PySem.Within mA (fs.map (·.1))):aW P w H h dx (we fs dx) :=
 ⟨⟨l,mA,n,r,wi⟩,let ⟨o,_,_,e,_⟩:=n;⟨o,e⟩,fun h1 h2 ⟨l,m,n,r,wi⟩ k=>⟨l,m,n.at k,r,wi⟩⟩
theorem we.get {dx:Addr}{fs:List (Str×V)} (ok:fW P w H h) (e:H dx=some (we fs dx)):fs.length≤900∧∃ mA,h.Ns1 dx mA∧(∀ f,eK (fs.lookup f) (mA f))∧PySem.Within mA (fs.map (·.1)):=(ok dx _ e).1
end
noncomputable def excIn (K:yaM) (C:Addr):Bool:=match K.lookup C with
 | some ⟨.type T,_,.cls cd,sl⟩=>T == "type" && (match cd.mro with | .ref D::bm=>D==C&&bm.contains (.type "ValueError") && !bm.contains (.type "AttributeError") && !bm.contains (.type "NameError") | _=>false) && !cd.hasDel &&
   (match sl.toList with | [_,_,_,_,some (.builtin n),_]=>n == "ValueError.__new__" | _=>false)
 | _=>false
structure XCls (K:yaM) (C:Addr):Prop where
 ex:excIn K C=true
 ga:zcb K (.ref C) "__getattribute__" = some (some (.builtin "BaseException.__getattribute__"))
 gn:zcb K (.ref C) "__getattr__" = some none
 sa:zcb K (.ref C) "__setattr__" = some (some (.builtin "object.__setattr__"))
 ov:PySem.W.jL K C=true
 sb:zck K (.ref C) (.type "BaseException")=some true
structure OY (K:yaM) (C f:Addr):Prop extends XCls K C where
 init:zcb K (.ref C) "__init__" = some (some (.ref f))
 fn:zcx K (.ref f)=true
 kp:zcc K (.ref C)=true
theorem qP {K:yaM}{C:Addr} (e:excIn K C=true):∃ nm q N bs bm hdct sn sub ab col dd k0 k1 k2 k3 k5,K.lookup C=some (excClassObj nm q C N bs bm hdct sn sub ab col dd k0 k1 k2 k3 k5 "ValueError.__new__") ∧
  bm.contains (.type "ValueError")=true∧bm.contains (.type "AttributeError")=false∧bm.contains (.type "NameError")=false:=by
 unfold excIn at e
 split at e
 ·rename_i T dd cd sl ho
  rw [zbH,zbH,zbH] at e
  obtain ⟨⟨⟨e1,e2⟩,e3⟩,e4⟩:=e
  obtain ⟨nm,bs,mro,ns,q,hdct,sn,sub,ab,col,hd⟩:=cd
  dsimp only at e2 e3
  split at e2
  ·rename_i _ D bm
   rw [zbH,zbH,zbH] at e2
   obtain ⟨⟨⟨f1,f2⟩,f3⟩,f4⟩:=e2
   split at e4
   ·rename_i k0 k1 k2 k3 n k5 hs
    have hsl:sl = #[k0,k1,k2,k3,some (.builtin n),k5]:=by
     rw [← Array.toArray_toList (xs:=sl),hs]
    have e1:T = "type" := beq_iff_eq.mp e1
    have f1:D=C:=beq_iff_eq.mp f1
    have e4:n = "ValueError.__new__" := beq_iff_eq.mp e4
    have e3:hd=false:=by simpa using e3
    subst e1 f1 e4 e3 hsl
    exact ⟨nm,q,ns,bs,bm,hdct,sn,sub,ab,col,dd,k0,k1,k2,k3,k5,ho,f2,by simpa using f3,by simpa using f4⟩
   ·cases e4
  ·cases e2
 ·cases e
section
variable {X:Cx}{pins:List (Addr×Obj)}{σ:St}{H:Hp}{s:yai}
theorem FT {b:Bool}{A:yam}{E:yaj→yai→Prop}{x C dx:Addr}{fs:List (Str×V)}{f:Str}{v:V}{Q:yaj→yai→Prop} (I:Inv X pins σ H s) (e:H x=some (XO C (some dx) x)) (e2:H dx=some (we fs dx)) (c:XCls X.K C)
  (n:zcb X.K (.ref C) f=some none) (l:fs.lookup f=some v) (h:∀ u s',Inv X pins σ H s'→RelV v u→Q u s'):yas (model X.prog X.w) A (getAttr (.ref x) f b) Q E s:=by
 obtain ⟨t0,a1,a2,a3,a4,a5,hx⟩:=XO.get I.hok e
 obtain ⟨_,mA,hn,r,_⟩:=we.get I.hok e2
 obtain ⟨od,ho,hl⟩:=kE hn
 obtain ⟨u,hu,ru⟩:=eK.some_of (v:=v) (o:=mA f) (by rw [← l];exact r f)
 obtain ⟨cd,hc,hd'⟩:=PySem.W.any_some c.ov
 rw [zbH] at hd'
 have J:PySem.W.InstAt s.heap x (PySem.W.bL C (some dx) #[.ref t0,a1,a2,a3,a4,a5]) C (some od):=⟨hx,rfl,rfl,ho⟩
 have hh:zbt X.K C=true:=by unfold zbt;rw [hc];exact hd'.2
 exact PySem.W.FU I.iV J c.ga c.gn c.sb (PySem.W.findObj_own hh n rfl (by rw [hl,hu])) (pG ru) (h u _ (I.tok _) ru)
theorem BN {f g:Str}{y:V}{u:yaj}{fs:List (Str×V)}{mA:Str→Option yaj} (ry:RelV y u) (r:∀ g,eK (fs.lookup g) (mA g)):eK ((fu f y fs).lookup g) (if g=f then some u else mA g):=by
 rw [gP]
 by_cases q:g=f
 ·rw [yIp q,yIp q];exact ry
 ·rw [yIn q,yIn q];exact r g
theorem E6 {f:Str}{y:V}{u:yaj}{fs:List (Str×V)}{mA:Str→Option yaj} (wi:PySem.Within mA (fs.map (·.1))):PySem.Within (fun g=>if g=f then some u else mA g) ((fu f y fs).map (·.1)):=fun g hg=>by
 by_cases q:g=f
 ·rw [q];exact (fL f y fs).1
 ·refine (fL f y fs).2 g (wi g fun z=>hg ?_)
  show (if g=f then some u else mA g)=none
  rw [yIn q];exact z
end
def G1 (K:yaM) (ta:TE) (f:Str):TE:=fun σ H Q=>ta σ H fun x H1=>∃ a C dx fs v,x = .ref a∧H1 a=some (XO C (some dx) a)∧H1 dx=some (we fs dx)∧XCls K C∧zcb K (.ref C) f=some none∧fs.lookup f=some v∧Q v H1
section
variable {X:Cx}{o e value:Expr}{es:List Expr}{f d:Str}{pos pos' apos p:Pos}{ta tv:TE}{t:TA}{K:yaM}
theorem qz (he:PE X e ta) (hb:attributeBase e f X.env (eval e X.env)=eval e X.env:=by rfl) (hK:X.K=K:=by rfl):PE X (.Attribute e f pos) (G1 K ta f):=by
 subst hK
 intro pins s σ H Q I h
 refine yx hb (bX (he pins s σ H _ I h) fun u s1 hh => ?_)
 obtain ⟨x,H1,I1,rx,a,C,dx,fs,v,ex,ea,ed,c,n,l,q⟩:=hh
 subst ex
 obtain rfl:u=Value.ref a:=rx
 exact FT I1 ea ed c n l fun u' s2 I2 ru=>⟨v,H1,I2,ru,q⟩
structure HP (K:yaM) (B:Addr):Prop where
 rd:PySem.W.readsIn K B (.type "type")=true
 fc:PySem.W.findCls K (.ref B) (.type "type") "__init__" = some (.val (.builtin "ValueError.__init__"))
 ga:zbv K (.ref B) "__getattribute__" = some (some (.builtin "type.__getattribute__"))
end
end L2
namespace PySem.W
open PySem PySem.Calls PyProof.Rows Builtin Builtin.ObjectAttr
section
variable {prog:yak}{w:yal}{A:yam}{E:yaj→yai→Prop}{s:yai}{K:Frag}{x C:Addr}{ox:Obj}{od:Option Obj}
theorem zW {Q:Option yaj→yai→Prop} (X:K.In s.heap) (I:InstAt s.heap x ox C od) (hga:findIn K (.ref C) "__getattribute__" = some (some (.builtin "BaseException.__getattribute__"))) (hgn:findIn K (.ref C) "__getattr__" = some none)
  (hs:subIn K (.ref C) (.type "BaseException")=some true) (hf:findObj K C od "__class__" = some (.bind (.builtin "getset_descriptor.__get__") (.builtin "object.__class__"))) (hm:mroIn K C (.type "object")=some true)
  (h:Q (some (.ref C)) { s with toks:=s.toks+1 }):yas (model prog w) A (getAttr? (.ref x) "__class__") Q E s:=by
 obtain ⟨hp,g,d,t,os⟩:=s
 have L0:=I.type (M:=model prog w)
 have L1:=looks_findIn (M:=model prog w) X hga
 have L2:=looks_findIn (M:=model prog w) X hgn
 have L3:=looks_find (M:=model prog w) X I hf
 have LI:=nk (M:=model prog w) X I hs
 have hx2:(Value.builtin "BaseException.__getattribute__" == Value.builtin "object.__getattribute__")=false:=by decide +kernel
 have hb:=F.excAttr_ValueError.ga.bind (.ref x)
 unfold getAttr? getAttrBy? getAttrBy
 refine yaa (wpAny_mkText (yaa (wpAny_attempt (yad (yaa (L0.at (yaa (L1.at ?_))))))))
 show yas _ _ (if (onTheHeap (Value.ref C)&&Value.builtin "BaseException.__getattribute__" == Value.builtin "object.__getattribute__")=true then _ else _) _ _ _
 rw [hx2,Bool.and_false,yIn (by decide)]
 unfold getAttrByItsOwn hookBefore
 show yas _ _ (typeLookup (.ref C) "__getattr__" >>= _) _ _ _
 refine yaa (L2.at (yaa (wpAny_attempt (yad ?_))))
 unfold callGetattribute
 rw [show (false&&onTheHeap (Value.builtin "BaseException.__getattribute__"))=false from rfl,yIn (by decide)]
 unfold boundAndCalled
 rw [hb]
 refine yaa (yab ?_)
 refine yaL (codeAny_call_builtin F.excAttr_ValueError.ga.plain F.entry_bexc_ga ?_)
 show yas _ _ (checkBuiltinCall "BaseException.__getattribute__" ⟨[.ref x,.str "__class__" t],[]⟩) _ _ _
 refine Dd ?_ ?_
 ·exact LI
 unfold Builtin.«object.__getattribute__»
 refine yaa (yab (yaa (yab (yaa (L0.at (yaa (L3.at ?_)))))))
 show yas _ _ (holding [.builtin "object.__class__"] (call (.builtin "getset_descriptor.__get__") [.builtin "object.__class__",.ref x,.ref C]) >>= ret) _ _ _
 refine yaa (yad (yaL (class_get (s:=⟨hp,g,d,t+1,os⟩) (ox:=ox) (od:=od) X I hm ?_)))
 refine yab ?_
 show yas _ _ (handedOut (.ref C)) _ _ _
 exact handed_on rfl (yab h)
theorem sY {a g:yaj}{name:Str} (hc:(clsIn K C).isSome=true) (ha:findIn K (.ref C) name=some (some a)) (hg:specialIn K a "__get__" = some (some g)) (ht:takesIn K a=some true):findObj K C od name=some (.bind g a):=by
 obtain ⟨cd,hc⟩:=Option.isSome_iff_exists.mp hc
 unfold findObj
 rw [hc,zbK,ha,zbK]
 dsimp only
 rw [hg,zbK]
 dsimp only
 rw [ht,zbK]
theorem Cm (hov:jL K C=true) (hga:findIn K (.ref C) "__getattribute__" = some (some (.builtin "BaseException.__getattribute__"))) (hgn:findIn K (.ref C) "__getattr__" = some none)
  (hs:subIn K (.ref C) (.type "BaseException")=some true) (ha:findIn K (.ref C) "__class__" = some (some (.builtin "object.__class__")))
  (hn:specialIn K (.builtin "object.__class__") "__get__" = some (some (.builtin "getset_descriptor.__get__"))) (htk:takesIn K (.builtin "object.__class__")=some true) (hm:mroIn K C (.type "object")=some true) :
  KitX K (.ref x) (.ref C) (fun h=>InstAt h x ox C od) where
 ty:=fun _ _ _ I=>I.type
 it:=fun _ _ X _=>by
  obtain ⟨cdD,hcD,_⟩:=any_some hov
  unfold clsIn at hcD
  split at hcD
  ·rename_i c' d' cd' sl' ho
   intro A' Q' E' s' k q
   unfold isType loadHead
   exact yaa (yaE (k _ _ (X _ _ ho)) (yab q))
  ·cases hcD
 ne:=fun h tp dd its n sl X htp=>by
  obtain ⟨cdD,hcD,_⟩:=any_some hov
  refine Bool.eq_false_iff.mpr fun q => ?_
  have e:C=tp:=Value.ref.inj (beq_iff_eq.mp q)
  subst e
  unfold clsIn at hcD
  split at hcD
  ·rename_i c' d' cd' sl' ho
   have z:=(X _ _ ho).symm.trans htp
   cases z
  ·cases hcD
 ca:=fun X I k=>zW X I hga hgn hs (sY (by obtain ⟨cd,hc,_⟩:=any_some hov;rw [hc];rfl) ha hn htk) hm k
end
end PySem.W
namespace L2
open PySem PySem.Spec PyProof.Rows
structure OZ (K:yaM) (C:Addr):Prop extends XCls K C where
 ca:zcb K (.ref C) "__class__" = some (some (.builtin "object.__class__"))
 cg:zbv K (.builtin "object.__class__") "__get__" = some (some (.builtin "getset_descriptor.__get__"))
 ct:PySem.W.takesIn K (.builtin "object.__class__")=some true
 mo:PySem.W.mroIn K C (.type "object")=some true
def Hi (K:yaM):List V→Hp→VK→Prop:=fun xs H Q=>∃ x C d0 c u b,xs=[.ref x,c]∧H x=some (XO C d0 x)∧(d0=none∨∃ dx fs,d0=some dx∧H dx=some (we fs dx))∧OZ K C∧RelV c u∧(∀ u',RelV c u'→u'=u)∧zce K (.ref C) u=some b∧Q (.bl b) H
section
variable {X:Cx}{K:yaM}
theorem cS (hK:X.K=K:=by rfl):b9 X (.builtin "isinstance") (Hi K):=by
 subst hK
 intro pins s σ H xs us Q I r h
 obtain ⟨x,C,d0,c,u,b,rfl,ex,hd,xi,rc,uc,e,q⟩:=h
 obtain ⟨v,w',rfl,rx,rw'⟩:=vals2 r
 obtain rfl:v=Value.ref x:=rx
 cases uc w' rw'
 obtain ⟨t0,a1,a2,a3,a4,a5,hx⟩:=XO.get I.hok ex
 have fin:∀ od,PySem.W.InstAt s.heap x (PySem.W.bL C d0 #[.ref t0,a1,a2,a3,a4,a5]) C od→yas (model X.prog X.w) X.A (call (.builtin "isinstance") [.ref x,u]) (EP X pins σ Q) X.xe s:=fun od J =>
  PySem.W.kia_one (PySem.W.Cm xi.ov xi.ga xi.gn xi.sb xi.ca xi.cg xi.ct xi.mo) I.iV J e (fun z=>nomatch z) fun tk=>⟨.bl b,H,I.tok tk,rfl,q⟩
 rcases hd with rfl | ⟨dx,fs,rfl,ed⟩
 ·exact fin none ⟨hx,rfl,rfl,trivial⟩
 ·obtain ⟨_,mA,hn,_⟩:=we.get I.hok ed
  obtain ⟨od,ho,_⟩:=kE hn
  exact fin (some od) ⟨hx,rfl,rfl,ho⟩
variable {C f:Addr}{fd:yaq}{ps:List Str}{k:Nat}{sp:Sp}{ds:List yaj}{dvs:List V}{CX:uI}{E:XK}
structure iO (P:yak) (w:yal) (K:yaM) (mg:Str→Option yaj) (base:Heap) (k:Nat) (x:Str) (C:Addr) (ps:List Str) (sp:Sp):Prop where
 ex:∃ f fd,OY K C f∧bW P w K mg base iZ k f fd ps sp∧Binds K fd ps []
 at_:mg x=some (.ref C)
def XAt (C:Addr) (H:Hp) (x:Addr) (fs:List (Str×V)):Prop:=∃ dx,H x=some (XO C (some dx) x)∧H dx=some (we fs dx)∧dx≠x
end
section
variable {X:Cx}{K:yaM}
theorem nL {K:yaM}{H:Hp}:∀ bs:List Bool,b8 K H (bs.map PyData.bool) (bs.map V.bl)
 | []=>by simp only [zcm,b8]
 | b::r=>by
  simp only [zcg,b8]
  exact ⟨_,_,rfl,by simp only [bB],nL r⟩
theorem nX:∀ bs:List Bool,(bs.map PyData.bool).all Shape.bool.has=true
 | []=>rfl
 | b::r=>by rw [zcg,zci,nX r];rfl
theorem jO (k:Bool):∀ bs:List Bool,countIn (.bool k) (bs.map PyData.bool)=(bs.count k:Int)
 | []=>rfl
 | b::r=>by
  rw [zcg,countIn,jO k r,List.count_cons]
  simp only [same]
  cases b <;> cases k <;> simp <;> lia
def E3 (K:yaM):V→List V→Hp→VK→Prop:=fun x vs H Q=>∃ (a:Addr) (bs:List Bool) (k:Bool),x = .ref a∧vs=[.bl k]∧dm K H a (bs.map V.bl)∧Q (.int (bs.count k:Nat)) H
theorem zu (hK:X.K=K:=by rfl):GP X "list.count" (E3 K):=by
 subst hK
 intro pins s σ H x vs v us Q I rx rv h
 obtain ⟨a,bs,k,rfl,rfl,ha,q⟩:=h
 obtain rfl:v=Value.ref a:=rx
 obtain ⟨u,rfl,ru⟩:=vals1 rv
 obtain rfl:u=Value.bool k:=ru
 obtain ⟨its,r,pl,_⟩:=I.list ha
 obtain ⟨as,ra⟩:=I.readsAll _ _ its (nL bs) r
 refine count_list_bools pl.isList ra (nX bs) ?_
 rw [jO]
 exact ⟨.int _,H,I.tok _,⟨_,rfl⟩,q⟩
theorem Cp (k:Bool) {bs:List Bool} (j:Nat) (h:j<(bs.map Value.bool).length):isBoolOf k ((bs.map Value.bool)[j])=(bs[j]'(by simpa using h)==k):=by
 simp [isBoolOf]
def E1 (K:yaM):V→List V→Hp→VK→Prop:=fun x vs H Q=>∃ (a:Addr) (bs:List Bool) (k:Bool) (j:Nat),x = .ref a∧vs=[.bl k]∧dm K H a (bs.map V.bl)∧bs[j]? = some k∧(∀ m,m<j→bs[m]? ≠ some k)∧Q (.int (j:Nat)) H
theorem zq (hK:X.K=K:=by rfl):GP X "list.index" (E1 K):=by
 subst hK
 intro pins s σ H x vs v us Q I rx rv h
 obtain ⟨a,bs,k,j,rfl,rfl,ha,hj,hm,q⟩:=h
 obtain rfl:v=Value.ref a:=rx
 obtain ⟨u,rfl,ru⟩:=vals1 rv
 obtain rfl:u=Value.bool k:=ru
 obtain ⟨its,r,pl,hz⟩:=I.list ha
 obtain ⟨as,ra⟩:=I.readsAll _ _ its (nL bs) r
 have eb:=Dk r
 have hlt:j<bs.length:=(zaf.mp hj).1
 have Mb:j<its.length:=by rw [eb,zbN];exact hlt
 obtain ⟨⟨cls,dd,data,sl⟩,ho,hc,n,hd⟩:=id pl.isList
 simp only at hc hd
 subst hc hd
 refine call_meets PySem.F.slot_list_index ⟨_,ho,rfl⟩ PySem.F.entry_list_index (PySem.F.args_list_index_2 _ _)
  (PySem.SeqAt.list_indexAt a its.toArray n dd sl (.bool k) (isBoolOf k) j (by simpa using Mb) (by rw [zbN,yag] at hz;lia) ?_ ?_) ⟨ho,fun y hy=>eq_isBoolOf k ra (nX bs) y (by simpa using hy) _ _,⟨.int _,H,I.tok _,⟨_,rfl⟩,q⟩⟩
 ·subst eb
  show isBoolOf k ((bs.map Value.bool)[j])=true
  rw [Cp k j Mb]
  have:bs[j]=k:=(zaf.mp hj).2
  rw [this];simp
 ·intro m hms hlm
  subst eb
  show isBoolOf k ((bs.map Value.bool)[m]'(by simpa using hms))=false
  rw [Cp k m (by simpa using hms)]
  have hmm:m<bs.length:=by simpa using hms
  have:=hm m hlm
  rw [zak hmm] at this
  simpa using fun z=>this (congrArg some z)
end
theorem oF {t u:TS}{D:Ends}{σ:St}{H:Hp} (h:∀ N:St→Hp→Prop,(∀ σ' H',u D σ' H'→N σ' H')→t { D with nx:=N } σ H):Eu t u D σ H:=h (u D) fun _ _ z=>z
end L2
set_option maxHeartbeats 4000000
namespace J
open PySem PySem.Spec PyProof.Rows L2
structure QE (X:Cx) (e:Expr) (t:TE):Prop where
 p:PE X e t
structure QT (X:Cx) (e:Expr) (t:TT):Prop where
 p:PT X e t
structure QW (X:Cx) (e:Expr) (t:TT):Prop where
 p:PW X e t
structure QA (X:Cx) (e:List Expr) (t:TA):Prop where
 p:PA X e t
structure QS (X:Cx) (e:Stmt) (t:TS):Prop where
 p:PS X e t
structure HS (X:Cx) (e:List Stmt) (t:TS):Prop where
 p:oO X e t
structure Nq (X:Cx) (pos:Pos) (keys:List (Option Expr)) (values:List Expr) (p7:List (TE×TE)):Prop where
 p:MN X pos keys values p7
theorem pw_pt {X:Cx}{e:Expr}{t:TT} (h:QW X e t):QT X e t:=⟨h.p.pt⟩
theorem aJ {X:Cx}:HS X [] AF:=⟨L2.aJ ⟩
theorem ah {X:Cx}{st:Stmt}{rest:List Stmt}{t:TS}{u:TS} (h1:QS X st t) (h2:HS X rest u):HS X (st::rest) (Eu t u):=⟨L2.ah h1.p h2.p⟩
theorem aq {X:Cx}{st:Stmt}{t:TS} (h1:QS X st t):HS X [st] t:=⟨L2.aq h1.p⟩
theorem aS {X:Cx}{e:Expr}{te:TE}{pos:Pos} (he:QE X e te):QS X (.Return (some e) pos) (AD te):=⟨L2.aS he.p⟩
theorem bC {X:Cx}{t:TS}{u:TS}{pos:Pos}{c:Expr}{a b:List Stmt}{tc:TT} (hc:QT X c tc) (ha:HS X a t) (hb:HS X b u):QS X (.If c a b pos) (Ip tc t u):=⟨L2.bC hc.p ha.p hb.p⟩
theorem aH {X:Cx}{pos:Pos}{i:Nat}{x:Str}{e:Expr}{te:TE}{pos':Pos} (hN:X.N.Nodup) (hi:X.N[i]? = some x) (hx:Loc X.env.scope x) (he:QE X e te) (hs:yau e (some (.Name x pos')) pos.line X.env=pure false:=by rfl) (hf:X.fn x=true∨X.env.scope.names.lookup x=some .local:=by first | exact .inl rfl | exact .inr rfl | assumption) :
  QS X (.Assign [.Name x pos'] e pos) (yR te (pH i)):=⟨L2.aH hN hi hx he.p hs hf⟩
theorem jy {X:Cx}{o:Expr}{i:Expr}{value:Expr}{pos:Pos}{pos':Pos}{td:TE}{ty:TE}{tv:TE} (hu:X.A.units+1<cLine) (ho:QE X o td) (hi:QE X i ty) (hv:QE X value tv) (hs:yau value (some (.Subscript o i pos')) pos.line X.env=pure false) :
  QS X (.Assign [.Subscript o i pos'] value pos) (BB td ty tv):=⟨L2.jy hu ho.p hi.p hv.p hs⟩
theorem aa {X:Cx}:QA X [] uN:=⟨L2.aa ⟩
theorem ak {X:Cx}{e:Expr}{es:List Expr}{te:TE}{t:TA} (ha:QE X e te) (hr:QA X es t) (hs:notStar e=true:=by rfl):QA X (e::es) (l0 te t):=⟨L2.ak ha.p hr.p hs⟩
theorem gk {X:Cx}{b j pos}:QE X (.Constant (.bool b) j pos) (tC (.bl b)):=⟨L2.gk ⟩
theorem aj {X:Cx}{i j pos}:QE X (.Constant (.int i) j pos) (tC (.int i)):=⟨L2.aj ⟩
theorem ao {X:Cx}{x j pos}:QE X (.Constant (.str x) j pos) (tC (.str x)):=⟨L2.ao ⟩
theorem pv {X:Cx} (i:Nat) {x:Str}{pos:Pos} (hN:X.N[i]? = some x:=by rfl) (hv:ML X.env.scope x:=by first | exact Or.inl rfl | exact Or.inr (Or.inl rfl) | exact Or.inr (Or.inr rfl)) (hd:(x==("__debug__" : Str))=false:=by decide)
  (hcd:(x==("__classdict__" : Str))=false:=by decide):QE X (.Name x pos) (p9 i):=⟨L2.pv i hN hv hd hcd⟩
theorem BV {X:Cx}{x:Str}{pos:Pos} (T:String) (hg:Gl X x) (hm:X.mg x=none) (hv:bootBuiltins x=some (.type T)) (hn:x ≠ "__name__" := by decide +kernel) (hd:(x==("__debug__" : Str))=false:=by decide +kernel):QE X (.Name x pos) (tC (.ty T)):=⟨L2.BV T hg hm hv hn hd⟩
theorem aL {X:Cx}{a:Expr}{b:Expr}{ta:TE}{tb:TE}{pos:Pos}{op:Operator}{r:R2} (ho:fV X (binaryOp op) r) (ha:QE X a ta) (hb:QE X b tb):QE X (.BinOp a op b pos) (wM r ta tb):=⟨L2.aL ho ha.p hb.p⟩
theorem bI {X:Cx}{es:List Expr}{t:TA}{pos:Pos} (h:QA X es t):QE X (.List es pos) (Im t):=⟨L2.bI h.p⟩
theorem qA  {X:Cx}{pos:Pos}{keys:List (Option Expr)}{values:List Expr}{p7:List (TE×TE)} (h:Nq X pos keys values p7) (hall:keys.all (·.isSome)=true) (hl:keys.length=values.length) (h0:keys≠[])
  (h15:keys.length≤15):QE X (.Dict keys values pos) (G3 p7):=⟨L2.qA h.p hall hl h0 h15⟩
theorem qy  {X:Cx}{pos:Pos}:Nq X pos [] [] []:=⟨L2.qy ⟩
theorem gF  {X:Cx}{pos:Pos}{k v:Expr}{ks:List (Option Expr)}{vs:List Expr}{tk tv:TE}{p7:List (TE×TE)} (hk:QE X k tk) (hv:QE X v tv) (hr:Nq X pos ks vs p7) :
  Nq X pos (some k::ks) (v::vs) ((tk,tv)::p7):=⟨L2.gF hk.p hv.p hr.p⟩
theorem c6 {X:Cx}{o:Expr}{i:Expr}{pos:Pos}{td:TE}{ty:TE} (hu:X.A.units+1<cLine) (ho:QE X o td) (hi:QE X i ty) (hs:GN i):QE X (.Subscript o i pos) (AR td ty):=⟨L2.c6 hu ho.p hi.p hs⟩
theorem aF {X:Cx}{a:Expr}{b:Expr}{ta:TE}{tb:TE}{pos:Pos}{r:R2} (hr:Ao X r) (ha:QE X a ta) (hb:QE X b tb) (hs:rj b):QE X (.Subscript a b pos) (wM r ta tb):=⟨L2.aF hr ha.p hb.p hs⟩
theorem eE {X:Cx}{e:Expr}{es:List Expr}{t:TA}{x:Str}{p:Pos}{pos:Pos}{id:String}{r:List V→Hp→VK→Prop} (hc:b9 X (.builtin id) r) (hg:Gl X x) (hm:X.mg x=none) (hv:bootBuiltins x=some (.builtin id)) (ha:QA X (e::es) t) (hn:x ≠ "__name__" := by decide +kernel) (hdb:(x==("__debug__" : Str))=false:=by decide +kernel)
  (hs:(e::es).all notStar=true:=by rfl):QE X (.Call (.Name x p) (e::es) [] pos) (K7 r t):=⟨L2.eE hc hg hm hv ha.p hn hdb hs⟩
theorem mV {X:Cx}{K:yaM}{o:Expr}{e:Expr}{es:List Expr}{to:TE}{t:TA}{name:Str}{apos:Pos}{cpos:Pos}{T:String}{id:String}{r:V→List V→Hp→VK→Prop} (pa:PlainAttrs T) (slot:Slot T name id) (hty:typeOf (.builtin id)=pure (.type "method_descriptor")) (hm:GP X id r) (ho:QE X o to) (ha:QA X (e::es) t)
  (hbase:attributeBase o name X.env (eval o X.env)=eval o X.env:=by rfl) (hs:(e::es).all notStar=true:=by rfl) (hfew:decide ((e::es).length+0+0<30)=true:=by rfl)
  (hline:(apos.endLine==cpos.line)=true:=by rfl) (hK:X.K=K:=by rfl):QE X (.Call (.Attribute o name apos) (e::es) [] cpos) (MY K T r to t):=⟨L2.mV pa slot hty hm ho.p ha.p hbase hs hfew hline hK⟩
theorem aA {X:Cx}{a:Expr}{b:Expr}{ta:TE}{tb:TE}{pos:Pos}{op:CmpOp}{r:R2} (ho:fV X (yao op) r) (ha:QE X a ta) (hb:QE X b tb) (hm:behindInMarks op b=false):QT X (.Compare a [op] [b] pos) (GX (wM r ta tb)):=⟨L2.aA ho ha.p hb.p hm⟩
theorem ko {X:Cx}{a:Expr}{pos:Pos}{tA:TT} (ha:QT X a tA):QT X (.UnaryOp .Not a pos) (Ij tA):=⟨L2.ko ha.p⟩
theorem i8 {X:Cx}{e:Expr}{t:TE} (h:QE X e t) (he:∀ whole,isTrue e X.env whole=(do let v ← whole;standAt e.pos;holding [v] (truthy v)):=by intro _;rfl):QT X e (tB t):=⟨L2.i8 h.p he⟩
theorem pw_or {X:Cx}{a:Expr}{b:Expr}{pos:Pos}{tA:TT}{tB':TT}{rest:List Expr} (ha:QT X a tA) (hb:QW X (.BoolOp .Or (b::rest) pos) tB'):QW X (.BoolOp .Or (a::b::rest) pos) (NF tA tB'):=⟨L2.pw_or ha.p hb.p⟩
theorem pw_or1 {X:Cx}{a:Expr}{pos:Pos}{tA:TT} (ha:QT X a tA):QW X (.BoolOp .Or [a] pos) tA:=⟨L2.pw_or1 ha.p⟩
section
variable {P:yak}{w:yal}{K:yaM}{mg:Str→Option yaj}{base:Heap}
theorem J3 {x:Str}{st:Stmt}{N ps:List Str}{k:Nat}{sp:Sp} (F:Src K mg x ps st) (S:aE N ps (ai st)) (len:∀ vs H Q E,sp vs H Q E→vs.length=ps.length)
  (hbody:∀ (f:Addr) (cdv:yaj) (A:yam) (outer:List Env) (s:yai) (H:Hp) (vs:List V) (Q:VK) (E:XK),aU k (A.deeper (envOfC x (ai st) s.heap.objs.size f cdv))→sp vs H Q E →
   ∃ t,HS (d7 iZ P w K mg base N x (ai st) f cdv A outer s H E).Ed (aV st) t∧t { nx:=fun _ H'=>Q .bw H',rt:=Q } (start N vs) H):Def P w K mg base (k+1) x ps sp :=
 F.def S len fun f cdv A outer s H vs Q E hr h=>by
  obtain ⟨t,a,b⟩:=hbody f cdv A outer s H vs Q E hr h
  exact ⟨t,a.p,b⟩
theorem Gp {p:List yaj→Prop} (h:∀ a,p [a]) (us:List yaj) (e:us.length=1):p us:=by
 cases us with
 | nil=>cases e
 | cons a r =>
  have e:r=[]:=zaa (Nat.succ.inj e)
  subst e;exact h a
theorem vX {p:List yaj→Prop} (h:∀ a b,p [a,b]) (us:List yaj) (e:us.length=2):p us:=by
 cases us with
 | nil=>cases e
 | cons a r=>exact Gp (p:=fun r=>p (a::r)) (h a) r (Nat.succ.inj e)
theorem La {p:List yaj→Prop} (h:∀ a b c,p [a,b,c]) (us:List yaj) (e:us.length=3):p us:=by
 cases us with
 | nil=>cases e
 | cons a r=>exact vX (p:=fun r=>p (a::r)) (h a) r (Nat.succ.inj e)
theorem by4 {p:List yaj→Prop} (h:∀ a b c d,p [a,b,c,d]) (us:List yaj) (e:us.length=4):p us:=by
 cases us with
 | nil=>cases e
 | cons a r=>exact La (p:=fun r=>p (a::r)) (h a) r (Nat.succ.inj e)
theorem Iu {x:Str}{st:Stmt}{f:Addr}{oc:yaj}{od an:Option Addr}{osl:Array (Option yaj)}{kV doc pm cdv ct:yaj}{h:Heap}{ps:List Str} (X:K.In h) (G:h.Ns yar mg)
  (a:zcz K yar x=some (some (.ref f))) (l:K.lookup f=some ⟨oc,od,.func (zcy x x (cF st) (aV st) (ai st) .none kV doc pm an cdv ct),osl⟩)
  (c:zcd K cdv x=true) (k:zcc K (.ref f)=true)
  (b:∀ (kV doc pm:yaj) (an:Option Addr) (cdv ct:yaj) (us:List yaj),us.length=ps.length→yaC (zcy x x (cF st) (aV st) (ai st) .none kV doc pm an cdv ct) ⟨us,[]⟩=pure (ps.zip us)):Src K mg x ps st :=
 ⟨f,_,jc (st:=st) l c k,zcl X G a,(jc (st:=st) l c k).binds b⟩
end
end J
namespace M
open PySem L2
inductive D where
 | bw | bl (b:Bool) | int (i:Int) | str (x:Str) | tup (ds:List D) | lst (ds:List D) | dct (ks:List Key) (ds:List D) | loc (n:Nat) | ty (n:String) | lE (ns:List Int) | yT (xs:List Str) | fd | fn (a:Addr)
inductive MO where
 | lst (ds:List D) | dct (ks:List Key) (ds:List D) | feed (n:Nat) | ins (C:Addr) (ks:List Str) (ds:List D) | Eh (F:Addr→List Addr→Heap→Prop) (ks:List D)
noncomputable def vP (l s d:Int):List (Key×V):=[(.inr "left",.int l),(.inr "seed",.int s),(.inr "drawn",.int d)]
abbrev aG:=List (Option MO)
noncomputable def MO.d:MO→D
 | .lst ds=>.lst ds
 | .dct ks ds=>.dct ks ds
 | .feed _=>.fd
 | .ins _ _ _=>.fd
 | .Eh _ _=>.fd
inductive R where
 | dat (d:D) | new (o:MO)
noncomputable def R.d:R→D
 | .dat d=>d
 | .new o=>o.d
theorem al {H:Hp}{p:Addr}{o:HO} (hp:H p=none):cT H (upd H p o):=fun b o' e=>by rw [av (aK e hp)];exact e
structure Wd where
 B:Hp
 r:Nat→Option Addr
structure Wd.le (w w':Wd):Prop where
 b:cT w.B w'.B
 r:∀ n a,w.r n=some a→w'.r n=some a
theorem Wd.le.refl {w:Wd}:w.le w:=⟨cT.refl _,fun _ _ h=>h⟩
theorem Wd.le.trans {w w1 w2:Wd} (h:w.le w1) (g:w1.le w2):w.le w2:=⟨h.b.trans g.b,fun n a e=>g.r n a (h.r n a e)⟩
mutual
def Rep (K:yaM) (w:Wd):D→V→Prop
 | .bw,v=>v = .bw
 | .bl b,v=>v = .bl b
 | .int i,v=>v = .int i
 | .str x,v=>v = .str x
 | .ty n,v=>v = .ty n
 | .fd,v=>∃ a,v = .ref a
 | .fn a,v=>v = .ref a
 | .loc n,v=>∃ a,w.r n=some a∧v = .ref a
 | .tup ds,v=>∃ a xs,v = .ref a∧w.B a=some (.tup xs)∧az K w ds xs
 | .yT ss,v=>∃ a,v = .ref a∧dI K w.B a (ss.map V.str)
 | .lst ds,v=>∃ a xs,v = .ref a∧w.B a=some (.lst xs)∧az K w ds xs
 | .lE ns,v=>∃ a,v = .ref a∧dm K w.B a (ns.map V.int)
 | .dct ks ds,v=>∃ a kvs,v = .ref a∧w.B a=some (.dK kvs)∧kvs.map (·.1)=ks∧az K w ds (kvs.map (·.2))
def az (K:yaM) (w:Wd):List D→List V→Prop
 | [],xs=>xs=[]
 | d::ds,xs=>∃ x r,xs=x::r∧Rep K w d x∧az K w ds r
end
mutual
theorem Rep.le {K:yaM}{w w':Wd} (e:w.le w'):∀ (d:D) (v:V),Rep K w d v→Rep K w' d v
 | .bw,_,h=>by simpa [Rep] using h
 | .bl b,_,h=>by simpa [Rep] using h
 | .int i,_,h=>by simpa [Rep] using h
 | .str x,_,h=>by simpa [Rep] using h
 | .ty x,_,h=>by simpa [Rep] using h
 | .fd,_,h=>by simpa [Rep] using h
 | .fn _,_,h=>by simpa [Rep] using h
 | .loc n,v,h=>by
  simp only [Rep] at h ⊢
  obtain ⟨a,h1,h2⟩:=h
  exact ⟨a,e.r _ _ h1,h2⟩
 | .lst ds,v,h=>by
  simp only [Rep] at h ⊢
  obtain ⟨a,xs,h1,h2,h3⟩:=h
  exact ⟨a,xs,h1,e.b _ _ h2,az.le e ds xs h3⟩
 | .lE ns,v,h=>by
  simp only [Rep] at h ⊢
  obtain ⟨a,h1,h2⟩:=h
  exact ⟨a,h1,e.b.seq h2⟩
 | .tup ds,v,h=>by
  simp only [Rep] at h ⊢
  obtain ⟨a,xs,h1,h2,h3⟩:=h
  exact ⟨a,xs,h1,e.b _ _ h2,az.le e ds xs h3⟩
 | .yT ns,v,h=>by
  simp only [Rep] at h ⊢
  obtain ⟨a,h1,h2⟩:=h
  exact ⟨a,h1,dI.same e.b h2⟩
 | .dct ks ds,v,h=>by
  simp only [Rep] at h ⊢
  obtain ⟨a,xs,h1,h2,h3,h4⟩:=h
  exact ⟨a,xs,h1,e.b _ _ h2,h3,az.le e ds _ h4⟩
theorem az.le {K:yaM}{w w':Wd} (e:w.le w'):∀ (ds:List D) (xs:List V),az K w ds xs→az K w' ds xs
 | [],_,h=>by simpa [az] using h
 | d::ds,xs,h=>by
  simp only [az] at h ⊢
  obtain ⟨x,r,h1,h2,h3⟩:=h
  exact ⟨x,r,h1,Rep.le e d x h2,az.le e ds r h3⟩
end
section
variable {K:yaM}{w w':Wd}
theorem az.nil:az K w [] []:=by simp [az]
theorem az.cons {d:D}{v:V}{ds:List D}{vs:List V} (h:Rep K w d v) (t:az K w ds vs):az K w (d::ds) (v::vs):=by
 simp only [az];exact ⟨v,vs,rfl,h,t⟩
theorem az.length:∀ {ds:List D}{vs:List V},az K w ds vs→vs.length=ds.length
 | [],_,h=>by simp only [az] at h;subst h;rfl
 | d::ds,vs,h=>by
  simp only [az] at h
  obtain ⟨x,r,rfl,_,h⟩:=h
  simp [az.length h]
theorem az.get:∀ {ds:List D}{vs:List V}{i:Nat}{d:D},az K w ds vs→ds[i]? = some d→∃ v,vs[i]? = some v∧Rep K w d v
 | [],_,_,_,_,e=>by simp at e
 | d::ds,vs,0,d',h,e=>by
  simp only [az] at h
  obtain ⟨x,r,rfl,h1,h⟩:=h
  simp at e;subst e
  exact ⟨x,rfl,h1⟩
 | d::ds,vs,i+1,d',h,e=>by
  simp only [az] at h
  obtain ⟨x,r,rfl,h1,h⟩:=h
  obtain ⟨v,e1,e2⟩:=az.get (i:=i) h (by simpa using e)
  exact ⟨v,by simpa using e1,e2⟩
theorem az.append:∀ {ds es:List D}{vs us:List V},az K w ds vs→az K w es us→az K w (ds++es) (vs++us)
 | [],_,_,_,h,g=>by simp only [az] at h;subst h;exact g
 | d::ds,es,vs,us,h,g=>by
  simp only [az] at h
  obtain ⟨x,r,rfl,h1,h⟩:=h
  exact az.cons h1 (az.append h g)
theorem az.snoc {ds:List D}{vs:List V}{d:D}{v:V} (h:az K w ds vs) (g:Rep K w d v):az K w (ds++[d]) (vs++[v]):=h.append (.cons g .nil)
theorem az.take:∀ (n:Nat) {ds:List D}{vs:List V},az K w ds vs→az K w (ds.take n) (vs.take n)
 | 0,_,_,_=>by simp [az]
 | n+1,[],_,h=>by simp only [az] at h;subst h;simp [az]
 | n+1,d::ds,vs,h=>by
  simp only [az] at h
  obtain ⟨x,r,rfl,h1,h⟩:=h
  exact az.cons h1 (az.take n h)
theorem az.drop:∀ (n:Nat) {ds:List D}{vs:List V},az K w ds vs→az K w (ds.drop n) (vs.drop n)
 | 0,_,_,h=>h
 | n+1,[],_,h=>by simp only [az] at h;subst h;simp [az]
 | n+1,d::ds,vs,h=>by
  simp only [az] at h
  obtain ⟨x,r,rfl,h1,h⟩:=h
  exact az.drop n h
end
def jV (K:yaM) (w:Wd):MO→HO→Prop
 | .lst ds,u=>∃ xs,u = .lst xs∧az K w ds xs
 | .dct ks ds,u=>∃ kvs,u = .dK kvs∧kvs.map (·.1)=ks∧az K w ds (kvs.map (·.2))
 | .feed n,u=>∃ l s:Int,u = .dK (vP l s n)∧0≤l∧0≤s∧s<1000003
 | .ins C ks ds,u=>∃ dx fs,u = .ins C dx fs∧fs.map (·.1)=ks∧az K w ds (fs.map (·.2))
 | .Eh F ks,u=>∃ (a:Addr) (bs:List Addr),u = .ext (F a bs)∧az K w ks (bs.map V.ref)
theorem jV.le {K:yaM}{w w':Wd} (e:w.le w'):∀ {o:MO}{u:HO},jV K w o u→jV K w' o u
 | .lst ds,u,⟨xs,h1,h2⟩=>⟨xs,h1,h2.le e⟩
 | .dct ks ds,u,⟨xs,h1,h2,h3⟩=>⟨xs,h1,h2,h3.le e⟩
 | .feed n,u,h=>h
 | .ins C ks ds,u,⟨dx,fs,h1,h2,h3⟩=>⟨dx,fs,h1,h2,h3.le e⟩
 | .Eh F ks,u,⟨a,bs,h1,h2⟩=>⟨a,bs,h1,h2.le e⟩
structure Ok (K:yaM) (w:Wd) (H:Hp) (S:aG):Prop where
 base:cT w.B H
 live:∀ n o,S[n]? = some (some o)→∃ a u,w.r n=some a∧w.B a=none∧H a=some u∧jV K w o u
 inj:∀ n m o o',S[n]? = some (some o)→S[m]? = some (some o')→w.r n=w.r m→n=m
 top:∀ n,S.length≤n→w.r n=none
def wm (K:yaM) (w:Wd) (H:Hp) (S:aG):R→V→Prop
 | .dat d,v=>Rep K w d v
 | .new o,v=>∃ a u,v = .ref a∧w.B a=none∧H a=some u∧jV K w o u∧∀ n o',S[n]? = some (some o')→w.r n≠some a
def ee (K:yaM) (w:Wd) (δ:List (Option D)) (σ:St):Prop:=δ.length=σ.length∧∀ (i:Nat) (d:D),δ[i]? = some (some d)→∃ v,σ[i]? = some (some v)∧Rep K w d v
theorem ee.le {K:yaM}{w w':Wd}{δ:List (Option D)}{σ:St} (h:ee K w δ σ) (e:w.le w'):ee K w' δ σ:=⟨h.1,fun i d q=>by
 obtain ⟨v,h1,h2⟩:=h.2 i d q
 exact ⟨v,h1,h2.le e⟩⟩
theorem ee.set {K:yaM}{w:Wd}{δ:List (Option D)}{σ:St}{d:D}{v:V} (h:ee K w δ σ) (g:Rep K w d v) (i:Nat):ee K w (δ.set i (some d)) (σ.set i (some v)):=by
 refine ⟨by simp [h.1],fun j e q => ?_⟩
 by_cases hij:i=j
 ·subst hij
  rw [zbm] at q ⊢
  rw [yIp rfl] at q ⊢
  by_cases hl:i<δ.length
  ·rw [yIp hl] at q
   rw [yIp (by rw [← h.1];exact hl)]
   have:d=e:=by simpa using q
   subst this
   exact ⟨v,rfl,g⟩
  ·rw [yIn hl] at q;cases q
 ·rw [zaE hij] at q ⊢
  exact h.2 j e q
section
variable {K:yaM}{w w':Wd}{H H':Hp}{S S':aG}
theorem freeze {r:R}{v:V} (k:Ok K w H S) (h:wm K w H S r v):∃ w',w.le w'∧Ok K w' H S∧Rep K w' r.d v:=by
 cases r with
 | dat d=>exact ⟨w,.refl,k,h⟩
 | new o =>
  obtain ⟨a,u,rfl,hb,ha,ho,hn⟩:=h
  have le:w.le ⟨upd w.B a u,w.r⟩:=⟨al hb,fun _ _ e=>e⟩
  refine ⟨⟨upd w.B a u,w.r⟩,le,⟨fun b o' e => ?_,fun n o' e => ?_,k.inj,k.top⟩,?_⟩
  ·by_cases hba:b=a
   ·subst hba
    have e:upd w.B b u b=some o':=e
    rw [au] at e;rw [ha];exact e
   ·have e:upd w.B a u b=some o':=e
    rw [av hba] at e;exact k.base b o' e
  ·obtain ⟨a',u',h1,h2,h3,h4⟩:=k.live n o' e
   have:a'≠a:=by intro z;subst z;exact hn n o' e h1
   exact ⟨a',u',h1,by show upd w.B a u a'=none;rw [av this];exact h2,h3,h4.le le⟩
  ·cases o with
   | lst ds =>
    obtain ⟨xs,rfl,h⟩:=ho
    show Rep K _ (.lst ds) _
    simp only [Rep]
    exact ⟨a,xs,rfl,au,h.le le⟩
   | dct ks ds =>
    obtain ⟨kvs,rfl,h1,h⟩:=ho
    show Rep K _ (.dct ks ds) _
    simp only [Rep]
    exact ⟨a,kvs,rfl,au,h1,h.le le⟩
   | feed n =>
    show Rep K _ .fd _
    simp only [Rep]
    exact ⟨a,rfl⟩
   | ins C ks ds =>
    show Rep K _ .fd _
    simp only [Rep]
    exact ⟨a,rfl⟩
   | Eh F ks =>
    show Rep K _ .fd _
    simp only [Rep]
    exact ⟨a,rfl⟩
theorem store {o:MO}{v:V} (k:Ok K w H S) (h:wm K w H S (.new o) v):∃ w',w.le w'∧Ok K w' H (S++[some o])∧Rep K w' (.loc S.length) v:=by
 obtain ⟨a,u,rfl,hb,ha,ho,hn⟩:=h
 let r':Nat→Option Addr:=fun n=>if n=S.length then some a else w.r n
 have le:w.le ⟨w.B,r'⟩:=⟨cT.refl _,fun n b e=>by
  have:n≠S.length:=by
   intro z;subst z
   rw [k.top _ (zcE _)] at e;cases e
  show (if n=S.length then some a else w.r n)=some b
  rw [yIn this];exact e⟩
 have at_:∀ n o',(S++[some o])[n]? = some (some o')→(n=S.length∧o'=o)∨(n<S.length∧S[n]? = some (some o')):=fun n o' e=>by
  by_cases hl:n<S.length
  ·rw [zag hl] at e
   exact .inr ⟨hl,e⟩
  ·rw [zab (by lia)] at e
   have:n - S.length=0:=by
    cases q:n - S.length with
    | zero=>rfl
    | succ j=>rw [q] at e;simp at e
   rw [this] at e
   have e:o=o':=by simpa using e
   exact .inl ⟨by lia,e.symm⟩
 refine ⟨⟨w.B,r'⟩,le,⟨k.base,fun n o' e => ?_,fun n m o1 o2 e1 e2 e => ?_,fun n hn => ?_⟩,?_⟩
 ·rcases at_ n o' e with ⟨rfl,rfl⟩ | ⟨hl,e⟩
  ·exact ⟨a,u,by show (if _ then _ else _)=_;rw [yIp rfl],hb,ha,ho.le le⟩
  ·obtain ⟨a',u',h1,h2,h3,h4⟩:=k.live n o' e
   exact ⟨a',u',le.r _ _ h1,h2,h3,h4.le le⟩
 ·rcases at_ n o1 e1 with ⟨rfl,rfl⟩ | ⟨hl,q1⟩
  ·rcases at_ m o2 e2 with ⟨rfl,rfl⟩ | ⟨hl2,q2⟩
   ·rfl
   ·exfalso
    have e:(if S.length=S.length then some a else w.r S.length)=(if m=S.length then some a else w.r m):=e
    rw [yIp rfl,yIn (by lia)] at e
    exact hn m o2 q2 e.symm
  ·rcases at_ m o2 e2 with ⟨rfl,rfl⟩ | ⟨hl2,q2⟩
   ·exfalso
    have e:(if n=S.length then some a else w.r n)=(if S.length=S.length then some a else w.r S.length):=e
    rw [yIp rfl,yIn (by lia)] at e
    exact hn n o1 q1 e
   ·have e:(if n=S.length then some a else w.r n)=(if m=S.length then some a else w.r m):=e
    rw [yIn (by lia),yIn (by lia)] at e
    exact k.inj n m o1 o2 q1 q2 e
 ·rw [zaT] at hn
  have:n≠S.length:=by simp at hn;lia
  show (if n=S.length then some a else w.r n)=none
  rw [yIn this]
  exact k.top n (by simp at hn;lia)
 ·simp only [Rep]
  exact ⟨a,by show (if _ then _ else _)=_;rw [yIp rfl],rfl⟩
theorem Ok.alloc {p:Addr}{o:HO} (k:Ok K w H S) (hp:H p=none):Ok K w (upd H p o) S :=
 ⟨k.base.trans (al hp),fun n o' e=>by
  obtain ⟨a,u,h1,h2,h3,h4⟩:=k.live n o' e
  exact ⟨a,u,h1,h2,al hp _ _ h3,h4⟩,k.inj,k.top⟩
theorem Ok.free {p:Addr} (k:Ok K w H S) (hp:H p=none):w.B p=none:=k.base.free hp
theorem Ok.fresh {p:Addr}{o:HO}{m:MO} (k:Ok K w H S) (hp:H p=none) (h:jV K w m o):wm K w (upd H p o) S (.new m) (.ref p) :=
 ⟨p,o,rfl,k.free hp,au,h,fun n o' e z=>by
  obtain ⟨a,u,h1,h2,h3,h4⟩:=k.live n o' e
  rw [z] at h1;cases h1
  rw [hp] at h3;cases h3⟩
theorem Ok.ng {p:Addr}{ds:List D}{xs:List V} (k:Ok K w H S) (hp:H p=none) (h:az K w ds xs):∃ w',w.le w'∧Ok K w' (upd H p (.tup xs)) S∧Rep K w' (.tup ds) (.ref p):=by
 have hb:=k.free hp
 have le:w.le ⟨upd w.B p (.tup xs),w.r⟩:=⟨al hb,fun _ _ e=>e⟩
 refine ⟨⟨upd w.B p (.tup xs),w.r⟩,le,⟨fun b o e => ?_,fun n o e => ?_,k.inj,k.top⟩,?_⟩
 ·by_cases hbp:b=p
  ·subst hbp
   have e:upd w.B b (.tup xs) b=some o:=e
   rw [au] at e ⊢;exact e
  ·have e:upd w.B p (.tup xs) b=some o:=e
   rw [av hbp] at e ⊢;exact k.base b o e
 ·obtain ⟨a,u,h1,h2,h3,h4⟩:=k.live n o e
  have hne:a≠p:=aK h3 hp
  exact ⟨a,u,h1,by show upd w.B p _ a=none;rw [av hne];exact h2,by rw [av hne];exact h3,h4.le le⟩
 ·simp only [Rep]
  exact ⟨p,xs,rfl,au,h.le le⟩
theorem Ok.put {n:Nat}{a:Addr}{o o':MO}{u':HO} (k:Ok K w H S) (e:S[n]? = some (some o)) (ha:w.r n=some a) (h:jV K w o' u'):Ok K w (upd H a u') (S.set n (some o')):=by
 have hn:n<S.length:=by
  rcases zcu n S.length with h | h
  ·exact h
  ·rw [zaw h] at e;cases e
 have at_:∀ m q,(S.set n (some o'))[m]? = some (some q)→(m=n∧q=o')∨(m≠n∧S[m]? = some (some q)):=fun m q z=>by
  by_cases hm:n=m
  ·subst hm
   rw [zbm,yIp rfl,yIp hn] at z
   have z:o'=q:=by simpa using z
   exact .inl ⟨rfl,z.symm⟩
  ·rw [zaE hm] at z
   exact .inr ⟨fun y=>hm y.symm,z⟩
 obtain ⟨a0,u0,h1,h2,h3,_⟩:=k.live n o e
 rw [ha] at h1;cases h1
 refine ⟨fun b q z => ?_,fun m q z => ?_,fun m l q q' z z' y => ?_,fun m hm=>k.top m (by simpa using hm)⟩
 ·rw [av (by intro y;subst y;rw [h2] at z;cases z)]
  exact k.base b q z
 ·rcases at_ m q z with ⟨rfl,rfl⟩ | ⟨hm,z⟩
  ·exact ⟨a,u',ha,h2,au,h⟩
  ·obtain ⟨b,u,g1,g2,g3,g4⟩:=k.live m q z
   have:b≠a:=by
    intro y;subst y
    exact hm (k.inj m n q o z e (g1.trans ha.symm))
   exact ⟨b,u,g1,g2,by rw [av this];exact g3,g4⟩
 ·have old:∀ m q,(S.set n (some o'))[m]? = some (some q)→∃ q0,S[m]? = some (some q0):=fun m q z=>by
   rcases at_ m q z with ⟨rfl,rfl⟩ | ⟨hm,z⟩
   ·exact ⟨o,e⟩
   ·exact ⟨q,z⟩
  obtain ⟨q0,z0⟩:=old m q z
  obtain ⟨q1,z1⟩:=old l q' z'
  exact k.inj m l q0 q1 z0 z1 y
end
noncomputable def bG (S:aG):D→D
 | .loc n=>match S[n]? with
  | some (some o)=>o.d
  | _=>.loc n
 | d=>d
section
variable {K:yaM}{w:Wd}{H:Hp}{S:aG}{v:V}
theorem cD {d:D}{ds:List D} (k:Ok K w H S) (h:Rep K w d v) (e:bG S d = .lst ds):∃ a xs,v = .ref a∧H a=some (.lst xs)∧az K w ds xs:=by
 cases d with
 | loc n =>
  simp only [Rep] at h
  obtain ⟨a,h1,rfl⟩:=h
  simp only [bG] at e
  split at e
  next o q =>
   obtain ⟨a',u,g1,g2,g3,g4⟩:=k.live n o q
   rw [h1] at g1;cases g1
   cases o with
   | lst es =>
    have:es=ds:=by simpa [MO.d] using e
    subst this
    obtain ⟨xs,rfl,g⟩:=g4
    exact ⟨a,xs,rfl,g3,g⟩
   | dct ks es=>simp [MO.d] at e
   | feed n=>simp [MO.d] at e
   | ins C ks ds=>simp [MO.d] at e
   | Eh F ks=>simp [MO.d] at e
  next=>cases e
 | lst es =>
  have:es=ds:=by simpa [bG] using e
  subst this
  simp only [Rep] at h
  obtain ⟨a,xs,h1,h2,h3⟩:=h
  exact ⟨a,xs,h1,k.base _ _ h2,h3⟩
 | _=>simp [bG] at e
theorem eV {d:D}{ds:List D} (k:Ok K w H S) (h:Rep K w d v) (e:bG S d = .tup ds):∃ a xs,v = .ref a∧H a=some (.tup xs)∧az K w ds xs:=by
 cases d with
 | loc n =>
  simp only [bG] at e
  split at e
  next o q=>cases o <;> simp [MO.d] at e
  next=>cases e
 | tup es =>
  have:es=ds:=by simpa [bG] using e
  subst this
  simp only [Rep] at h
  obtain ⟨a,xs,h1,h2,h3⟩:=h
  exact ⟨a,xs,h1,k.base _ _ h2,h3⟩
 | _=>simp [bG] at e
theorem ir {d:D}{ks:List Key}{ds:List D} (k:Ok K w H S) (h:Rep K w d v) (e:bG S d = .dct ks ds):∃ a kvs,v = .ref a∧H a=some (.dK kvs)∧kvs.map (·.1)=ks∧az K w ds (kvs.map (·.2)):=by
 cases d with
 | loc n =>
  simp only [Rep] at h
  obtain ⟨a,h1,rfl⟩:=h
  simp only [bG] at e
  split at e
  next o q =>
   obtain ⟨a',u,g1,g2,g3,g4⟩:=k.live n o q
   rw [h1] at g1;cases g1
   cases o with
   | lst es=>simp [MO.d] at e
   | feed n=>simp [MO.d] at e
   | ins C ks ds=>simp [MO.d] at e
   | Eh F ks=>simp [MO.d] at e
   | dct ks' es =>
    have:ks'=ks∧es=ds:=by simpa [MO.d] using e
    obtain ⟨rfl,rfl⟩:=this
    obtain ⟨kvs,rfl,g⟩:=g4
    exact ⟨a,kvs,rfl,g3,g⟩
  next=>cases e
 | dct ks' es =>
  have:ks'=ks∧es=ds:=by simpa [bG] using e
  obtain ⟨rfl,rfl⟩:=this
  simp only [Rep] at h
  obtain ⟨a,xs,h1,h2,h3⟩:=h
  exact ⟨a,xs,h1,k.base _ _ h2,h3⟩
 | _=>simp [bG] at e
end
abbrev bE:=List (Option D)
abbrev AK:=R→aG→Prop
abbrev AE:=bE→aG→AK→Prop
abbrev AT:=bE→aG→(Bool→aG→Prop)→Prop
abbrev AA:=bE→aG→(List D→aG→Prop)→Prop
abbrev AO:=bE→aG→(Option Int→aG→Prop)→Prop
structure fT where
 nx:bE→aG→Prop
 rt:AK
 bk:bE→aG→Prop:=fun _ _=>False
 ct:bE→aG→Prop:=fun _ _=>False
abbrev AS:=fT→bE→aG→Prop
abbrev AG:=D→bE→aG→(bE→aG→Prop)→Prop
abbrev El:=List D→bE→aG→(bE→aG→Prop)→Prop
abbrev AI:=bE→aG→(List D→(aG→Prop)→aG→Prop)→Prop
abbrev A2:=D→D→aG→AK→Prop
abbrev A1:=D→aG→AK→Prop
abbrev AN:=List D→aG→AK→Prop
section
variable (K:yaM) (w:Wd)
def dQ (Qa:AK) (Q:VK):Prop:=∀ r S' v w' H',w.le w'→Ok K w' H' S'→wm K w' H' S' r v→Qa r S'→Q v H'
def yO (Qa:Bool→aG→Prop) (Q:Bool→Hp→Prop):Prop:=∀ b S' w' H',w.le w'→Ok K w' H' S'→Qa b S'→Q b H'
def MV (Qa:List D→aG→Prop) (Q:List V→Hp→Prop):Prop:=∀ ds S' vs w' H',w.le w'→Ok K w' H' S'→az K w' ds vs→Qa ds S'→Q vs H'
def MU (Qa:Option Int→aG→Prop) (Q:Option Int→Hp→Prop):Prop:=∀ i S' w' H',w.le w'→Ok K w' H' S'→Qa i S'→Q i H'
def k7 (Qa:bE→aG→Prop) (Q:St→Hp→Prop):Prop:=∀ δ S' σ w' H',w.le w'→Ok K w' H' S'→ee K w' δ σ→Qa δ S'→Q σ H'
structure uC (Da:fT) (D:Ends):Prop where
 nx:k7 K w Da.nx D.nx
 rt:dQ K w Da.rt D.rt
 bk:k7 K w Da.bk D.bk
 ct:k7 K w Da.ct D.ct
structure MR (J:It) (ds:List D) (P:aG→Prop):Prop where
 go:∀ i H S w' d,w.le w'→Ok K w' H S→P S→ds[i]? = some d→J.go i H
 Au:∀ i H S w' d x H',w.le w'→Ok K w' H S→P S→ds[i]? = some d→J.Au i H x H'→∃ w3,w'.le w3∧Ok K w3 H' S∧Rep K w3 d x
 stop:∀ i H S w',w.le w'→Ok K w' H S→P S→i=ds.length→J.stop i H
def MW (Qa:List D→(aG→Prop)→aG→Prop) (R:It→Hp→Prop):Prop:=∀ ds P S' J w' H',w.le w'→Ok K w' H' S'→MR K w' J ds P→Qa ds P S'→R J H'
end
section
variable {K:yaM}{w w':Wd}
theorem dQ.le {Qa:AK}{Q:VK} (h:dQ K w Qa Q) (e:w.le w'):dQ K w' Qa Q:=fun r S v w2 H l=>h r S v w2 H (e.trans l)
theorem yO.le {Qa}{Q} (h:yO K w Qa Q) (e:w.le w'):yO K w' Qa Q:=fun r S w2 H l=>h r S w2 H (e.trans l)
theorem k7.le {Qa}{Q} (h:k7 K w Qa Q) (e:w.le w'):k7 K w' Qa Q:=fun r S v w2 H l=>h r S v w2 H (e.trans l)
theorem uC.le {Da:fT}{D:Ends} (h:uC K w Da D) (e:w.le w'):uC K w' Da D:=⟨h.nx.le e,h.rt.le e,h.bk.le e,h.ct.le e⟩
end
section
variable (K:yaM)
def bF (a:AE):TE:=fun σ H Q=>∃ w δ S Qa,Ok K w H S∧ee K w δ σ∧a δ S Qa∧dQ K w Qa Q
def iL (a:AT):TT:=fun σ H Q=>∃ w δ S Qa,Ok K w H S∧ee K w δ σ∧a δ S Qa∧yO K w Qa Q
def nP (a:AA):TA:=fun σ H Q=>∃ w δ S Qa,Ok K w H S∧ee K w δ σ∧a δ S Qa∧MV K w Qa Q
def C4 (a:AO):TO:=fun σ H Q=>∃ w δ S Qa,Ok K w H S∧ee K w δ σ∧a δ S Qa∧MU K w Qa Q
def iM (a:AS):TS:=fun D σ H=>∃ w δ S Da,Ok K w H S∧ee K w δ σ∧a Da δ S∧uC K w Da D
def vU (a:AG):TG:=fun x σ H Q=>∃ w d δ S Qa,Ok K w H S∧ee K w δ σ∧Rep K w d x∧a d δ S Qa∧k7 K w Qa Q
def tL (a:El):Gz:=fun xs σ H Q=>∃ w ds δ S Qa,Ok K w H S∧ee K w δ σ∧az K w ds xs∧a ds δ S Qa∧k7 K w Qa Q
def C5 (a:AI):TI:=fun σ H R=>∃ w δ S Qa,Ok K w H S∧ee K w δ σ∧a δ S Qa∧MW K w Qa R
def zV (a:A2):R2:=fun x y H Q=>∃ w d e S Qa,Ok K w H S∧Rep K w d x∧Rep K w e y∧a d e S Qa∧dQ K w Qa Q
def Kp (a:AN):List V→Hp→VK→Prop:=fun xs H Q=>∃ w ds S Qa,Ok K w H S∧az K w ds xs∧a ds S Qa∧dQ K w Qa Q
def Ms (a:D→List D→aG→AK→Prop):V→List V→Hp→VK→Prop:=fun x xs H Q=>∃ w d ds S Qa,Ok K w H S∧Rep K w d x∧az K w ds xs∧a d ds S Qa∧dQ K w Qa Q
def bf (a:AN):Sp:=fun vs H Q _=>Kp K a vs H Q
end
structure GE (X:Cx) (e:Expr) (a:AE):Prop where
 p:PE X e (bF X.K a)
structure GT (X:Cx) (e:Expr) (a:AT):Prop where
 p:PT X e (iL X.K a)
structure GW (X:Cx) (e:Expr) (a:AT):Prop where
 p:PW X e (iL X.K a)
structure GA (X:Cx) (e:List Expr) (a:AA):Prop where
 p:PA X e (nP X.K a)
structure GO (X:Cx) (e:Option Expr) (a:AO):Prop where
 p:PO X e (C4 X.K a)
structure GS (X:Cx) (s:Stmt) (a:AS):Prop where
 p:PS X s (iM X.K a)
structure Aq (X:Cx) (s:List Stmt) (a:AS):Prop where
 p:oO X s (iM X.K a)
structure GG (X:Cx) (e:Expr) (a:AG):Prop where
 p:PG X e (vU X.K a)
structure Nu (X:Cx) (e:List Expr) (a:El):Prop where
 p:KS X e (tL X.K a)
structure GI (X:Cx) (tg e:Expr) (a:AI):Prop where
 p:PI X tg e (C5 X.K a)
structure MS (X:Cx) (e:List Expr) (a:AT):Prop where
 p:HU X e (iL X.K a)
structure uH (X:Cx) (f:yaj→yaj→Sem yaj) (a:A2):Prop where
 p:fV X f (zV X.K a)
structure DY (X:Cx) (f:yaj) (a:AN):Prop where
 p:b9 X f (Kp X.K a)
structure Pp (X:Cx) (a:A2):Prop where
 p:Ao X (zV X.K a)
section
variable {X:Cx}
theorem mE {e:Expr}{t u:TE} (h:PE X e t) (m:∀ σ H Q,u σ H Q→t σ H Q):PE X e u:=fun pins s σ H Q I q=>h pins s σ H Q I (m σ H Q q)
theorem mT {e:Expr}{t u:TT} (h:PT X e t) (m:∀ σ H Q,u σ H Q→t σ H Q):PT X e u:=fun pins s σ H Q I q=>h pins s σ H Q I (m σ H Q q)
theorem mW {e:Expr}{t u:TT} (h:PW X e t) (m:∀ σ H Q,u σ H Q→t σ H Q):PW X e u:=fun wh pins s σ H Q I q=>h wh pins s σ H Q I (m σ H Q q)
theorem mA {e:List Expr}{t u:TA} (h:PA X e t) (m:∀ σ H Q,u σ H Q→t σ H Q):PA X e u:=fun pos pins s σ H Q I q=>h pos pins s σ H Q I (m σ H Q q)
theorem mO {e:Option Expr}{t u:TO} (h:PO X e t) (m:∀ σ H Q,u σ H Q→t σ H Q):PO X e u:=fun pins s σ H Q I q=>h pins s σ H Q I (m σ H Q q)
theorem mS {e:Stmt}{t u:TS} (h:PS X e t) (m:∀ D σ H,u D σ H→t D σ H):PS X e u:=fun pins s σ H D I q=>h pins s σ H D I (m D σ H q)
theorem Nb {e:List Stmt}{t u:TS} (h:oO X e t) (m:∀ D σ H,u D σ H→t D σ H):oO X e u:=fun pins s σ H D I q=>h pins s σ H D I (m D σ H q)
theorem mG {e:Expr}{t u:TG} (h:PG X e t) (m:∀ x σ H Q,u x σ H Q→t x σ H Q):PG X e u:=fun pins s σ H x v Q I r q=>h pins s σ H x v Q I r (m x σ H Q q)
theorem Pb {e:List Expr}{t u:Gz} (h:KS X e t) (m:∀ x σ H Q,u x σ H Q→t x σ H Q):KS X e u:=fun pins s σ H x v Q I r q=>h pins s σ H x v Q I r (m x σ H Q q)
theorem mI {g e:Expr}{t u:TI} (h:PI X g e t) (m:∀ σ H R,u σ H R→t σ H R):PI X g e u:=fun pins s σ H R I q=>h pins s σ H R I (m σ H R q)
theorem mTs {e:List Expr}{t u:TT} (h:HU X e t) (m:∀ σ H Q,u σ H Q→t σ H Q):HU X e u:=fun pins s σ H Q I q=>h pins s σ H Q I (m σ H Q q)
theorem m2 {f:yaj→yaj→Sem yaj}{t u:R2} (h:fV X f t) (m:∀ x y H Q,u x y H Q→t x y H Q):fV X f u:=fun pins s σ H x y v u Q I r r' q=>h pins s σ H x y v u Q I r r' (m x y H Q q)
theorem mC {f:yaj}{t u:List V→Hp→VK→Prop} (h:b9 X f t) (m:∀ x H Q,u x H Q→t x H Q):b9 X f u:=fun pins s σ H x v Q I r q=>h pins s σ H x v Q I r (m x H Q q)
end
def eT (i:Nat):AE:=fun δ S Q=>∃ d,δ[i]? = some (some d)∧Q (.dat d) S
def aC (d:D):AE:=fun _ S Q=>Q (.dat d) S
def Dz (r:A2) (a b:AE):AE:=fun δ S Q=>a δ S fun x S1=>b δ S1 fun y S2=>r x.d y.d S2 Q
def aUn (r:A1) (a:AE):AE:=fun δ S Q=>a δ S fun x S1=>r x.d S1 Q
def vZ:AA:=fun _ S Q=>Q [] S
def yG (a:AE) (b:AA):AA:=fun δ S Q=>a δ S fun x S1=>b δ S1 fun xs S2=>Q (x.d::xs) S2
def Gr (a:AA):AE:=fun δ S Q=>a δ S fun ds S1=>ds.length≤yah∧Q (.dat (.tup ds)) S1
def KC (a:AA):AE:=fun δ S Q=>a δ S fun ds S1=>ds.length≤yah∧Q (.new (.lst ds)) S1
def jg (a:AE):AE:=fun δ S Q=>a δ S fun r S1=>match r with
 | .new o=>Q (.dat (.loc S1.length)) (S1++[some o])
 | .dat d=>Q (.dat d) S1
def aCall (sp:AN) (a:AA):AE:=fun δ S Q=>a δ S fun ds S1=>sp ds S1 Q
def aB (a:AE):AT:=fun δ S Q=>a δ S fun r S1=>∃ b,r.d = .bl b∧Q b S1
noncomputable def fh:D→Option Bool
 | .bw=>some false
 | .bl b=>some b
 | .int i=>some (i != 0)
 | .str y=>if y.length≤yah then some ((y.length:Int) != 0) else none
 | .tup ds=>some (!ds.isEmpty)
 | .lst ds=>some (!ds.isEmpty)
 | .dct ks _=>some (!ks.isEmpty)
 | _=>none
def Kx (a:AE):AT:=fun δ S Q=>a δ S fun r S1=>∃ b,fh (bG S1 r.d)=some b∧Q b S1
def DJ (a b:AE):AE:=fun δ S Q=>a δ S fun x S1=>∃ c,x.d = .bl c∧if c=true then b δ S1 Q else Q (.dat (.bl false)) S1
def OT (a b:AE):AE:=fun δ S Q=>a δ S fun x S1=>∃ c,x.d = .bl c∧if c=true then Q (.dat (.bl true)) S1 else b δ S1 Q
def MC (a:AE):AE:=fun δ S Q=>a δ S fun x S1=>∃ c,x.d = .bl c∧Q (.dat (.bl (!c))) S1
def KL (a b:AT):AT:=fun δ S Q=>a δ S fun c S1=>if c=true then b δ S1 Q else Q false S1
def OU (a b:AT):AT:=fun δ S Q=>a δ S fun c S1=>if c=true then Q true S1 else b δ S1 Q
def Ky (a:AT):AT:=fun δ S Q=>a δ S fun c S1=>Q (!c) S1
def aIf (t:AT) (a b:AE):AE:=fun δ S Q=>t δ S fun c S1=>if c=true then a δ S1 Q else b δ S1 Q
def KI (r r':A2) (a b c:AE):AE:=fun δ S Q=>a δ S fun x S1=>b δ S1 fun y S2=>r x.d y.d S2 fun z S3=>∃ k,z.d = .bl k∧if k=true then c δ S3 fun z' S4=>r' y.d z'.d S4 Q else Q (.dat (.bl false)) S3
def iH:AO:=fun _ S Q=>Q none S
def pW (a:AE):AO:=fun δ S Q=>a δ S fun r S1=>∃ i,r.d = .int i∧Q (some i) S1
def Lb (r:D→Option Int→Option Int→aG→AK→Prop) (a:AE) (l u:AO):AE:=fun δ S Q=>a δ S fun x S1=>l δ S1 fun i S2=>u δ S2 fun j S3=>r x.d i j S3 Q
def DA:AS:=fun D δ S=>D.nx δ S
def q9 (a b:AS):AS:=fun D δ S=>a { D with nx:=b D } δ S
def Dy (a:AE):AS:=fun D δ S=>a δ S D.rt
def MA:AS:=fun D _ S=>D.rt (.dat .bw) S
def yF (a:AE):AS:=fun D δ S=>a δ S fun _ S1=>D.nx δ S1
def z9 (c:AT) (a b:AS):AS:=fun D δ S=>c δ S fun k S1=>if k=true then a D δ S1 else b D δ S1
def bP (i:Nat):AG:=fun d δ S Q=>Q (δ.set i (some d)) S
def yC:El:=fun ds δ S Q=>ds=[]∧Q δ S
def kI (a:AG) (b:El):El:=fun ds δ S Q=>∃ d r,ds=d::r∧a d δ S fun δ1 S1=>b r δ1 S1 Q
def yz (n:Nat) (a:El):AG:=fun d δ S Q=>∃ ds,d = .tup ds∧ds.length=n∧a ds δ S Q
def Ab (a:AE) (g:AG):AS:=fun D δ S=>a δ S fun r S1=>g r.d δ S1 D.nx
def iT (P:aG→Prop) (g:AG) (b:AS):List D→fT→bE→aG→Prop
 | [],D,δ,S=>P S∧D.nx δ S
 | x::xs,D,δ,S=>P S∧g x δ S fun δ2 S2=>b { D with nx:=iT P g b xs D,ct:=iT P g b xs D,bk:=D.nx } δ2 S2
def oN (i:AI) (g:AG) (b:AS):AS:=fun D δ S=>i δ S fun ds P S1=>iT P g b ds D δ S1
def kJ:AT:=fun _ S Q=>Q true S
def c9 (P:aG→Prop) (g:AG) (t:AT) (e:AE):List D→List D→bE→aG→(List D→aG→Prop)→Prop
 | [],acc,_,S,Q=>P S∧Q acc S
 | x::xs,acc,δ,S,Q=>P S∧g x δ S fun δ2 S2=>t δ2 S2 fun b S3=>if b=true then e δ2 S3 fun r S4=>acc.length<yah∧c9 P g t e xs (acc++[r.d]) δ2 S4 Q else c9 P g t e xs acc δ2 S3 Q
noncomputable def nW (caps:List (Option Nat)) (δ:bE):bE:=caps.map fun o=>o.bind fun i=>(δ[i]?).getD none
def jU (caps:List (Option Nat)) (i:AI) (g:AG) (t:AT) (e:AE):AE:=fun δ S Q=>i δ S fun ds P S1=>c9 P g t e ds [] (nW caps δ) S1 fun ds' S2=>Q (.new (.lst ds')) S2
noncomputable def cA (lo:Int) (n:Nat):List D:=(zcI n).map fun k:Nat=>.int (lo+(k:Int))
def qL (a:AA):AI:=fun δ S Q=>a δ S fun ds S1=>∃ j:Int,ds=[.int j]∧(-(2 ^ 62)≤j∧j<2 ^ 62)∧Q (cA 0 j.toNat) (fun _=>True) S1
noncomputable def signs (x:Str):List D:=x.cps.toList.map fun c=>.str ⟨#[c]⟩
section
variable {K:yaM}
theorem dQ.go {w:Wd}{Qa:AK}{Q:VK} (h:∀ r S' v w' H',w.le w'→Ok K w' H' S'→Rep K w' r.d v→Qa r S'→Q v H'):dQ K w Qa Q:=fun r S' v w' H' le ok rep q=>by
 obtain ⟨w2,le2,ok2,rep2⟩:=freeze ok rep
 exact h r S' v w2 H' (le.trans le2) ok2 rep2 q
theorem dQ.dat {w w':Wd}{Qa:AK}{Q:VK}{d:D}{v:V}{S:aG}{H:Hp} (h:dQ K w Qa Q) (le:w.le w') (ok:Ok K w' H S) (rep:Rep K w' d v) (q:Qa (.dat d) S):Q v H:=h (.dat d) S v w' H le ok rep q
theorem Lo {i:Nat}:∀ σ H Q,bF K (eT i) σ H Q→p9 i σ H Q:=by
 rintro σ H Q ⟨w,δ,S,Qa,ok,env,⟨d,e,q⟩,bk⟩
 obtain ⟨v,e1,e2⟩:=env.2 i d e
 exact ⟨v,e1,bk.dat .refl ok e2 q⟩
theorem LB {d:D}{v:V} (h:∀ w,Rep K w d v):∀ σ H Q,bF K (aC d) σ H Q→tC v σ H Q:=by
 rintro σ H Q ⟨w,δ,S,Qa,ok,env,q,bk⟩
 exact bk.dat .refl ok (h w) q
theorem EL {r:A2}{a b:AE}:∀ σ H Q,bF K (Dz r a b) σ H Q→wM (zV K r) (bF K a) (bF K b) σ H Q:=by
 rintro σ H Q ⟨w,δ,S,Qa,ok,env,q,bk⟩
 refine ⟨w,δ,S,_,ok,env,q,.go fun r1 S1 v1 w1 H1 le1 ok1 rep1 q1 => ?_⟩
 refine ⟨w1,δ,S1,_,ok1,env.le le1,q1,.go fun r2 S2 v2 w2 H2 le2 ok2 rep2 q2 => ?_⟩
 exact ⟨w2,r1.d,r2.d,S2,Qa,ok2,rep1.le le2,rep2,q2,bk.le (le1.trans le2)⟩
theorem Lv:∀ σ H Q,nP K vZ σ H Q→uN σ H Q:=by
 rintro σ H Q ⟨w,δ,S,Qa,ok,env,q,bk⟩
 exact bk [] S [] w H .refl ok .nil q
theorem Jb {a:AE}{b:AA}:∀ σ H Q,nP K (yG a b) σ H Q→l0 (bF K a) (nP K b) σ H Q:=by
 rintro σ H Q ⟨w,δ,S,Qa,ok,env,q,bk⟩
 refine ⟨w,δ,S,_,ok,env,q,.go fun r1 S1 v1 w1 H1 le1 ok1 rep1 q1 => ?_⟩
 refine ⟨w1,δ,S1,_,ok1,env.le le1,q1,fun ds S2 vs w2 H2 le2 ok2 rep2 q2 => ?_⟩
 exact bk _ S2 _ w2 H2 (le1.trans le2) ok2 (.cons (rep1.le le2) rep2) q2
theorem Lp {a:AA}:∀ σ H Q,bF K (Gr a) σ H Q→Ih (nP K a) σ H Q:=by
 rintro σ H Q ⟨w,δ,S,Qa,ok,env,q,bk⟩
 refine ⟨w,δ,S,_,ok,env,q,fun ds S1 vs w1 H1 le1 ok1 rep1 ⟨hl,q1⟩=>⟨by rw [rep1.length];exact hl,fun p hp => ?_⟩⟩
 obtain ⟨w2,le2,ok2,rep2⟩:=ok1.ng hp rep1
 exact bk.dat (le1.trans le2) ok2 rep2 q1
theorem Lw {a:AA}:∀ σ H Q,bF K (KC a) σ H Q→Im (nP K a) σ H Q:=by
 rintro σ H Q ⟨w,δ,S,Qa,ok,env,q,bk⟩
 refine ⟨w,δ,S,_,ok,env,q,fun ds S1 vs w1 H1 le1 ok1 rep1 ⟨hl,q1⟩=>⟨by rw [rep1.length];exact hl,fun p hp => ?_⟩⟩
 exact bk (.new (.lst ds)) S1 _ w1 _ le1 (ok1.alloc hp) (ok1.fresh hp ⟨vs,rfl,rep1⟩) q1
theorem s_alloc {a:AE}:∀ σ H Q,bF K (jg a) σ H Q→bF K a σ H Q:=by
 rintro σ H Q ⟨w,δ,S,Qa,ok,env,q,bk⟩
 refine ⟨w,δ,S,_,ok,env,q,fun r S1 v w1 H1 le1 ok1 rep1 q1 => ?_⟩
 cases r with
 | dat d=>exact bk.dat le1 ok1 rep1 q1
 | new o =>
  obtain ⟨w2,le2,ok2,rep2⟩:=store ok1 rep1
  exact bk.dat (le1.trans le2) ok2 rep2 q1
theorem s_call {sp:AN}{a:AA}{E:XK}:∀ σ H Q,bF K (aCall sp a) σ H Q→wO (bf K sp) [] E (nP K a) σ H Q:=by
 rintro σ H Q ⟨w,δ,S,Qa,ok,env,q,bk⟩
 refine ⟨w,δ,S,_,ok,env,q,fun ds S1 vs w1 H1 le1 ok1 rep1 q1 => ?_⟩
 exact ⟨w1,ds,S1,Qa,ok1,by rw [zbO];exact rep1,q1,bk.le le1⟩
theorem LA {r:AN}{a:AA}:∀ σ H Q,bF K (aCall r a) σ H Q→K7 (Kp K r) (nP K a) σ H Q:=by
 rintro σ H Q ⟨w,δ,S,Qa,ok,env,q,bk⟩
 refine ⟨w,δ,S,_,ok,env,q,fun ds S1 vs w1 H1 le1 ok1 rep1 q1 => ?_⟩
 exact ⟨w1,ds,S1,Qa,ok1,rep1,q1,bk.le le1⟩
theorem qw {w:Wd}{b:Bool}{v:V}{d:D} (h:Rep K w d v) (e:d = .bl b):v = .bl b:=by subst e;simpa [Rep] using h
theorem bK {w:Wd}{b:Int}{v:V}{d:D} (h:Rep K w d v) (e:d = .int b):v = .int b:=by subst e;simpa [Rep] using h
theorem lG {w:Wd}{b:Str}{v:V}{d:D} (h:Rep K w d v) (e:d = .str b):v = .str b:=by subst e;simpa [Rep] using h
theorem EV {w:Wd}{v:V}{d:D} (h:Rep K w d v) (e:d = .bw):v = .bw:=by subst e;simpa [Rep] using h
theorem Rep.bl {w:Wd}{b:Bool}:Rep K w (.bl b) (.bl b):=by simp [Rep]
theorem Rep.int {w:Wd}{b:Int}:Rep K w (.int b) (.int b):=by simp [Rep]
theorem Rep.str {w:Wd}{b:Str}:Rep K w (.str b) (.str b):=by simp [Rep]
theorem Rep.bw {w:Wd}:Rep K w .bw .bw:=by simp [Rep]
theorem s_b {a:AE}:∀ σ H Q,iL K (aB a) σ H Q→tB (bF K a) σ H Q:=by
 rintro σ H Q ⟨w,δ,S,Qa,ok,env,q,bk⟩
 refine ⟨w,δ,S,_,ok,env,q,.go fun r1 S1 v1 w1 H1 le1 ok1 rep1 ⟨b,e,q1⟩=>⟨b,qw rep1 e,bk b S1 w1 H1 le1 ok1 q1⟩⟩
theorem Er {w:Wd}{H:Hp}{S:aG}{d:D}{v:V}{b:Bool} (ok:Ok K w H S) (h:Rep K w d v) (e:fh (bG S d)=some b):DL K v H b:=by
 cases q:bG S d with
 | lst ds =>
  rw [q] at e
  obtain ⟨a,xs,rfl,h1,h2⟩:=cD ok h q
  refine Or.inl ⟨xs,dm.of h1,?_⟩
  have:b = !ds.isEmpty:=by simpa [fh] using e.symm
  rw [this]
  have:=h2.length
  cases ds <;> cases xs <;> simp at this ⊢
 | tup ds =>
  rw [q] at e
  obtain ⟨a,xs,rfl,h1,h2⟩:=eV ok h q
  refine Or.inr (Or.inl ⟨xs,dI.of h1,?_⟩)
  have:b = !ds.isEmpty:=by simpa [fh] using e.symm
  rw [this]
  have:=h2.length
  cases ds <;> cases xs <;> simp at this ⊢
 | dct ks ds =>
  rw [q] at e
  obtain ⟨a,kvs,rfl,h1,h2,h3⟩:=ir ok h q
  refine Or.inr (Or.inr ⟨kvs,h1,?_⟩)
  have:b = !ks.isEmpty:=by simpa [fh] using e.symm
  rw [this,← h2]
  cases kvs <;> simp
 | _ =>
  rw [q] at e
  cases d <;> simp [bG] at q <;> first
   | (subst q;simp only [Rep] at h;subst h;simp [fh] at e;simp [DL,e];done)
   | (simp [fh] at e;done)
   | skip
  all_goals first
   | (simp only [Rep] at h;subst h;subst q;simp only [fh,zcH.injEq] at e;subst e;rfl)
   | (simp only [Rep] at h;subst h;simp only [fh,zcH.injEq] at e;subst e;rfl)
   | (split at q <;> first | (rename_i o _;cases o <;> simp [MO.d] at q) | (cases q;simp [fh] at e) | cases q)
   | (simp only [Rep] at h;subst h;subst q;simp only [fh] at e;split at e;next hl=>exact ⟨hl,by simpa using e.symm⟩;next=>cases e)
   | skip
theorem Lq {a:AE}:∀ σ H Q,iL K (Kx a) σ H Q→(bF K a) σ H (fun x H'=>∃ k,DL K x H' k∧Q k H'):=by
 rintro σ H Q ⟨w,δ,S,Qa,ok,env,q,bk⟩
 exact ⟨w,δ,S,_,ok,env,q,.go fun r1 S1 v1 w1 H1 le1 ok1 rep1 ⟨b,e,q1⟩=>⟨b,Er ok1 rep1 e,bk b S1 w1 H1 le1 ok1 q1⟩⟩
theorem Jc {a b:AE}:∀ σ H Q,bF K (DJ a b) σ H Q→G4 (bF K a) (bF K b) σ H Q:=by
 rintro σ H Q ⟨w,δ,S,Qa,ok,env,q,bk⟩
 refine ⟨w,δ,S,_,ok,env,q,.go fun r1 S1 v1 w1 H1 le1 ok1 rep1 ⟨c,e,q1⟩=>⟨c,qw rep1 e,?_⟩⟩
 cases c with
 | true=>exact zJ ⟨w1,δ,S1,Qa,ok1,env.le le1,by simpa using q1,bk.le le1⟩
 | false=>exact ny (bk.dat le1 ok1 .bl (by simpa using q1))
theorem LC {a b:AT}:∀ σ H Q,iL K (KL a b) σ H Q→Lj (iL K a) (iL K b) σ H Q:=by
 rintro σ H Q ⟨w,δ,S,Qa,ok,env,q,bk⟩
 refine ⟨w,δ,S,_,ok,env,q,fun c S1 w1 H1 le1 ok1 q1 => ?_⟩
 cases c with
 | true=>exact zJ ⟨w1,δ,S1,Qa,ok1,env.le le1,by simpa using q1,bk.le le1⟩
 | false=>exact ny (bk _ S1 w1 H1 le1 ok1 (by simpa using q1))
theorem NN {a b:AT}:∀ σ H Q,iL K (OU a b) σ H Q→NF (iL K a) (iL K b) σ H Q:=by
 rintro σ H Q ⟨w,δ,S,Qa,ok,env,q,bk⟩
 refine ⟨w,δ,S,_,ok,env,q,fun c S1 w1 H1 le1 ok1 q1 => ?_⟩
 cases c with
 | false=>exact ny ⟨w1,δ,S1,Qa,ok1,env.le le1,by simpa using q1,bk.le le1⟩
 | true=>exact zJ (bk _ S1 w1 H1 le1 ok1 (by simpa using q1))
theorem Lu {a:AT}:∀ σ H Q,iL K (Ky a) σ H Q→Ij (iL K a) σ H Q:=by
 rintro σ H Q ⟨w,δ,S,Qa,ok,env,q,bk⟩
 exact ⟨w,δ,S,_,ok,env,q,fun c S1 w1 H1 le1 ok1 q1=>bk _ S1 w1 H1 le1 ok1 q1⟩
theorem Bs:∀ σ H Q,C4 K iH σ H Q→wN σ H Q:=by
 rintro σ H Q ⟨w,δ,S,Qa,ok,env,q,bk⟩
 exact bk none S w H .refl ok q
theorem IK {a:AE}:∀ σ H Q,C4 K (pW a) σ H Q→GY (bF K a) σ H Q:=by
 rintro σ H Q ⟨w,δ,S,Qa,ok,env,q,bk⟩
 exact ⟨w,δ,S,_,ok,env,q,.go fun r1 S1 v1 w1 H1 le1 ok1 rep1 ⟨i,e,q1⟩=>⟨i,bK rep1 e,bk _ S1 w1 H1 le1 ok1 q1⟩⟩
def HJ (K:yaM) (a:D→Option Int→Option Int→aG→AK→Prop):V→Option Int→Option Int→Hp→VK→Prop:=fun x i j H Q=>∃ w d S Qa,Ok K w H S∧Rep K w d x∧a d i j S Qa∧dQ K w Qa Q
theorem NK {r:D→Option Int→Option Int→aG→AK→Prop}{a:AE}{l u:AO}:∀ σ H Q,bF K (Lb r a l u) σ H Q→O7 (HJ K r) (bF K a) (C4 K l) (C4 K u) σ H Q:=by
 rintro σ H Q ⟨w,δ,S,Qa,ok,env,q,bk⟩
 refine ⟨w,δ,S,_,ok,env,q,.go fun r1 S1 v1 w1 H1 le1 ok1 rep1 q1 => ?_⟩
 refine ⟨w1,δ,S1,_,ok1,env.le le1,q1,fun i S2 w2 H2 le2 ok2 q2 => ?_⟩
 refine ⟨w2,δ,S2,_,ok2,env.le (le1.trans le2),q2,fun j S3 w3 H3 le3 lq q3 => ?_⟩
 exact ⟨w3,r1.d,S3,Qa,lq,rep1.le (le2.trans le3),q3,bk.le (le1.trans (le2.trans le3))⟩
theorem IQ:∀ D σ H,iM K DA D σ H→AF D σ H:=by
 rintro D σ H ⟨w,δ,S,Da,ok,env,q,bk⟩
 exact bk.nx δ S σ w H .refl ok env q
theorem Lr {a b:AS}:∀ D σ H,iM K (q9 a b) D σ H→Eu (iM K a) (iM K b) D σ H:=by
 rintro D σ H ⟨w,δ,S,Da,ok,env,q,bk⟩
 refine ⟨w,δ,S,_,ok,env,q,⟨fun δ1 S1 σ1 w1 H1 le1 ok1 env1 q1 => ?_,bk.rt,bk.bk,bk.ct⟩⟩
 exact ⟨w1,δ1,S1,Da,ok1,env1,q1,bk.le le1⟩
theorem Ls {a:AE}:∀ D σ H,iM K (Dy a) D σ H→AD (bF K a) D σ H:=by
 rintro D σ H ⟨w,δ,S,Da,ok,env,q,bk⟩
 exact ⟨w,δ,S,_,ok,env,q,bk.rt⟩
theorem IZ {a:AE}:∀ D σ H,iM K (yF a) D σ H→G2 (bF K a) D σ H:=by
 rintro D σ H ⟨w,δ,S,Da,ok,env,q,bk⟩
 exact ⟨w,δ,S,_,ok,env,q,.go fun r1 S1 v1 w1 H1 le1 ok1 rep1 q1=>bk.nx δ S1 σ w1 H1 le1 ok1 (env.le le1) q1⟩
theorem Lx {c:AT}{a b:AS}:∀ D σ H,iM K (z9 c a b) D σ H→Ip (iL K c) (iM K a) (iM K b) D σ H:=by
 rintro D σ H ⟨w,δ,S,Da,ok,env,q,bk⟩
 refine ⟨w,δ,S,_,ok,env,q,fun k S1 w1 H1 le1 ok1 q1 => ?_⟩
 cases k with
 | true=>exact zJ ⟨w1,δ,S1,Da,ok1,env.le le1,by simpa using q1,bk.le le1⟩
 | false=>exact ny ⟨w1,δ,S1,Da,ok1,env.le le1,by simpa using q1,bk.le le1⟩
theorem lF {i:Nat}:∀ x σ H Q,vU K (bP i) x σ H Q→pH i x σ H Q:=by
 rintro x σ H Q ⟨w,d,δ,S,Qa,ok,env,rep,q,bk⟩
 exact bk _ S _ w H .refl ok (env.set rep i) q
theorem IY:∀ x σ H Q,tL K yC x σ H Q→Mi x σ H Q:=by
 rintro x σ H Q ⟨w,ds,δ,S,Qa,ok,env,rep,⟨rfl,q⟩,bk⟩
 exact ⟨by simpa [az] using rep,bk _ S _ w H .refl ok env q⟩
theorem EM {a:AG}{b:El}:∀ x σ H Q,tL K (kI a b) x σ H Q→HB (vU K a) (tL K b) x σ H Q:=by
 rintro x σ H Q ⟨w,ds,δ,S,Qa,ok,env,rep,⟨d,r,rfl,q⟩,bk⟩
 simp only [az] at rep
 obtain ⟨v,vs,rfl,h1,h2⟩:=rep
 refine ⟨v,vs,rfl,w,d,δ,S,_,ok,env,h1,q,fun δ1 S1 σ1 w1 H1 le1 ok1 env1 q1 => ?_⟩
 exact ⟨w1,r,δ1,S1,Qa,ok1,env1,h2.le le1,q1,bk.le le1⟩
theorem IW {n:Nat}{a:El}:∀ x σ H Q,vU K (yz n a) x σ H Q→Mh K n (tL K a) x σ H Q:=by
 rintro x σ H Q ⟨w,d,δ,S,Qa,ok,env,rep,⟨ds,rfl,hl,q⟩,bk⟩
 simp only [Rep] at rep
 obtain ⟨p,xs,rfl,h1,h2⟩:=rep
 exact ⟨p,xs,rfl,dI.of (ok.base _ _ h1),by rw [h2.length];exact hl,w,ds,δ,S,Qa,ok,env,h2,q,bk⟩
theorem xx {a:AE}{g:AG}:∀ D σ H,iM K (Ab a g) D σ H→yR (bF K a) (vU K g) D σ H:=by
 rintro D σ H ⟨w,δ,S,Da,ok,env,q,bk⟩
 refine ⟨w,δ,S,_,ok,env,q,.go fun r1 S1 v1 w1 H1 le1 ok1 rep1 q1 => ?_⟩
 exact ⟨w1,r1.d,δ,S1,_,ok1,env.le le1,rep1,q1,bk.nx.le le1⟩
theorem Lz {i:AI}{g:AG}{b:AS}:∀ D σ H,iM K (oN i g b) D σ H→Li (C5 K i) (vU K g) (iM K b) D σ H:=by
 rintro D σ H ⟨w,δ,S,Da,ok,env,q,bk⟩
 refine ⟨w,δ,S,_,ok,env,q,fun ds P S1 J w1 H1 le1 ok1 it q1 => ?_⟩
 refine ⟨fun i m σ H=>m=ds.length - i∧i≤ds.length∧∃ w2 δ2 S2,w1.le w2∧Ok K w2 H S2∧ee K w2 δ2 σ∧iT P g b (ds.drop i) Da δ2 S2,⟨ds.length,by simp,zcF _,w1,δ,S1,.refl,ok1,env.le le1,by simpa using q1⟩,?_⟩
 rintro i m σ2 H2 ⟨rfl,hi,w2,δ2,S2,le2,ok2,env2,lp⟩
 by_cases hlt:i<ds.length
 ·rw [zah hlt] at lp
  obtain ⟨hP,lp⟩:=lp
  have hd:ds[i]? = some ds[i]:=zak hlt
  refine .inr ⟨it.go i H2 S2 w2 _ le2 ok2 hP hd,fun σ' H'=>∃ w3 δ3 S3,w1.le w3∧Ok K w3 H' S3∧ee K w3 δ3 σ'∧iT P g b (ds.drop (i+1)) Da δ3 S3,fun σ' H' h=>⟨_,by lia,rfl,hlt,h⟩,fun x H' y => ?_⟩
  obtain ⟨w2',le2',ok2,rx⟩:=it.Au i H2 S2 w2 _ x H' le2 ok2 hP hd y
  replace env2:=env2.le le2'
  replace le2:=le2.trans le2'
  refine ⟨w2',ds[i],δ2,S2,_,ok2,env2,rx,lp,fun δ3 S3 σ3 w3 H3 le3 lq env3 q3 => ?_⟩
  have lew:=le1.trans (le2.trans le3)
  refine ⟨w3,δ3,S3,_,lq,env3,q3,⟨?_,bk.rt.le lew,bk.nx.le lew,?_⟩⟩
  ·exact fun δ4 S4 σ4 w4 H4 le4 ok4 env4 q4=>⟨w4,δ4,S4,le2.trans (le3.trans le4),ok4,env4,q4⟩
  ·exact fun δ4 S4 σ4 w4 H4 le4 ok4 env4 q4=>⟨w4,δ4,S4,le2.trans (le3.trans le4),ok4,env4,q4⟩
 ·have e:i=ds.length:=by lia
  subst e
  rw [List.drop_length] at lp
  exact .inl ⟨it.stop _ H2 S2 w2 le2 ok2 lp.1 rfl,bk.nx δ2 S2 σ2 w2 H2 (le1.trans le2) ok2 env2 lp.2⟩
theorem Ln:∀ σ H Q,iL K kJ σ H Q→Lg σ H Q:=by
 rintro σ H Q ⟨w,δ,S,Qa,ok,env,q,bk⟩
 exact bk true S w H .refl ok q
theorem CK {w:Wd}{δ:bE}{σ:St} (h:ee K w δ σ) (caps:List (Option Nat)):ee K w (nW caps δ) (oJ caps σ):=by
 refine ⟨by simp [nW,oJ],fun i d e => ?_⟩
 simp only [nW,zbi] at e
 cases q:caps[i]? with
 | none=>rw [q] at e;cases e
 | some o =>
  rw [q] at e
  cases o with
  | none=>simp at e
  | some j =>
   cases z:δ[j]? with
   | none=>rw [Option.map_some] at e;simp [z] at e
   | some d' =>
    simp [z] at e
    subst e
    obtain ⟨v,h1,h2⟩:=h.2 j d z
    exact ⟨v,by simp [oJ,zbi,q,h1],h2⟩
theorem uW {caps:List (Option Nat)}{i:AI}{g:AG}{t:AT}{e:AE}:∀ σ H Q,bF K (jU caps i g t e) σ H Q→AU caps (C5 K i) (vU K g) (iL K t) (bF K e) σ H Q:=by
 rintro σ H Q ⟨w,δ,S,Qa,ok,env,q,bk⟩
 refine ⟨w,δ,S,_,ok,env,q,fun ds P S1 J w1 H1 le1 ok1 it q1 => ?_⟩
 refine ⟨fun i m xs τ H=>m=ds.length - i∧i≤ds.length∧∃ w2 δ2 S2 acc,w1.le w2∧Ok K w2 H S2∧ee K w2 δ2 τ∧az K w2 acc xs∧c9 P g t e (ds.drop i) acc δ2 S2 (fun ds' S2=>Qa (.new (.lst ds')) S2),
  ⟨ds.length,by simp,zcF _,w1,nW caps δ,S1,[],.refl,ok1,CK (env.le le1) caps,.nil,by simpa using q1⟩,?_⟩
 rintro i m xs τ2 H2 ⟨rfl,hi,w2,δ2,S2,acc,le2,ok2,env2,reps,lp⟩
 by_cases hlt:i<ds.length
 ·rw [zah hlt] at lp
  obtain ⟨hP,lp⟩:=lp
  have hd:ds[i]? = some ds[i]:=zak hlt
  refine .inr ⟨it.go i H2 S2 w2 _ le2 ok2 hP hd,fun ys τ' H'=>∃ w3 δ3 S3 acc,w1.le w3∧Ok K w3 H' S3∧ee K w3 δ3 τ'∧az K w3 acc ys∧c9 P g t e (ds.drop (i+1)) acc δ3 S3 (fun ds' S2=>Qa (.new (.lst ds')) S2),fun ys σ' H' h=>⟨_,by lia,rfl,hlt,h⟩,fun x H' y => ?_⟩
  obtain ⟨w2',le2',ok2,rx⟩:=it.Au i H2 S2 w2 _ x H' le2 ok2 hP hd y
  replace env2:=env2.le le2'
  replace le2:=le2.trans le2'
  replace reps:=reps.le le2'
  refine ⟨w2',ds[i],δ2,S2,_,ok2,env2,rx,lp,fun δ3 S3 σ3 w3 H3 le3 lq env3 q3 => ?_⟩
  refine ⟨w3,δ3,S3,_,lq,env3,q3,fun k S4 w4 H4 le4 ok4 q4 => ?_⟩
  cases k with
  | false =>
   exact ny ⟨w4,δ3,S4,acc,le2.trans (le3.trans le4),ok4,env3.le le4,reps.le (le3.trans le4),by simpa using q4⟩
  | true =>
   rw [yIp rfl] at q4
   refine zJ ⟨w4,δ3,S4,_,ok4,env3.le le4,q4,.go fun r5 S5 v5 w5 H5 le5 ok5 rep5 ⟨hz,q5⟩ => ?_⟩
   exact ⟨by rw [reps.length];exact hz,w5,δ3,S5,acc++[r5.d],le2.trans (le3.trans (le4.trans le5)),ok5,env3.le (le4.trans le5),(reps.le (le3.trans (le4.trans le5))).snoc rep5,q5⟩
 ·have e:i=ds.length:=by lia
  subst e
  rw [List.drop_length] at lp
  refine .inl ⟨it.stop _ H2 S2 w2 le2 ok2 lp.1 rfl,fun p hp => ?_⟩
  exact bk (.new (.lst acc)) S2 _ w2 _ (le1.trans le2) (ok2.alloc hp) (ok2.fresh hp ⟨xs,rfl,reps⟩) lp.2
theorem FI {w:Wd}{p:Addr}{xs:List V}{ds:List D} (h1:w.B p=some (.lst xs)) (h:az K w ds xs):MR K w (MQ K p) ds (fun _=>True) where
 go:=fun i H S w' d le ok hP e=>by
  obtain ⟨v,e1,_⟩:=h.get e
  exact ⟨xs,v,dm.of ((le.b.trans ok.base) _ _ h1),e1⟩
 Au:=fun i H S w' d x H' le ok hP e y=>by
  obtain ⟨v,e1,e2⟩:=h.get e
  obtain ⟨y1,y2⟩:=y
  have:=y2 xs (dm.of ((le.b.trans ok.base) _ _ h1))
  rw [e1] at this;cases this
  subst y1
  exact ⟨w',.refl,ok,e2.le le⟩
 stop:=fun i H S w' le ok hP e=>⟨xs,dm.of ((le.b.trans ok.base) _ _ h1),by rw [h.length];lia⟩
theorem FJ {w:Wd}{p:Addr}{n:Nat}{ds:List D} (hp:w.r n=some p):MR K w (MQ K p) ds (fun S=>S[n]? = some (some (.lst ds))) where
 go:=fun i H S w' d le ok hP e=>by
  obtain ⟨b,u,k1,k2,k3,ys,rfl,k5⟩:=ok.live n _ hP
  rw [le.r n p hp] at k1;cases k1
  obtain ⟨v,e1,_⟩:=k5.get e
  exact ⟨ys,v,dm.of k3,e1⟩
 Au:=fun i H S w' d x H' le ok hP e y=>by
  obtain ⟨b,u,k1,k2,k3,ys,rfl,k5⟩:=ok.live n _ hP
  rw [le.r n p hp] at k1;cases k1
  obtain ⟨v,e1,e2⟩:=k5.get e
  obtain ⟨y1,y2⟩:=y
  have:=y2 ys (dm.of k3)
  rw [e1] at this;cases this
  subst y1
  exact ⟨w',.refl,ok,e2⟩
 stop:=fun i H S w' le ok hP e=>by
  obtain ⟨b,u,k1,k2,k3,ys,rfl,k5⟩:=ok.live n _ hP
  rw [le.r n p hp] at k1;cases k1
  exact ⟨ys,dm.of k3,by rw [k5.length];lia⟩
theorem FG {w:Wd}{p:Addr}{xs:List V}{ds:List D} (h1:w.B p=some (.tup xs)) (h2:az K w ds xs):MR K w (Nr K p) ds (fun _=>True) where
 go:=fun i H S w' d le ok hP e=>by
  obtain ⟨v,e1,_⟩:=h2.get e
  exact ⟨xs,v,dI.of ((le.b.trans ok.base) _ _ h1),e1⟩
 Au:=fun i H S w' d x H' le ok hP e y=>by
  obtain ⟨v,e1,e2⟩:=h2.get e
  obtain ⟨y1,y2⟩:=y
  have:=y2 xs (dI.of ((le.b.trans ok.base) _ _ h1))
  rw [e1] at this;cases this
  subst y1
  exact ⟨w',.refl,ok,e2.le le⟩
 stop:=fun i H S w' le ok hP e=>⟨xs,dI.of ((le.b.trans ok.base) _ _ h1),by rw [h2.length];lia⟩
theorem FH {w:Wd}{x:Str}:MR K w (Nt x) (signs x) (fun _=>True) where
 go:=fun i H S w' d le ok hP e=>by
  have:i<(signs x).length:=by
   rcases zcu i (signs x).length with h | h
   ·exact h
   ·rw [zaw h] at e;cases e
  show i<x.cps.size
  simpa [signs] using this
 Au:=fun i H S w' d y H' le ok hP e z=>by
  obtain ⟨z1,c,z2,rfl⟩:=z
  subst z1
  refine ⟨w',.refl,ok,?_⟩
  rw [signs,zbi] at e
  have z2':x.cps.toList[i]? = some c:=by simpa using z2
  rw [z2'] at e
  have:D.str ⟨#[c]⟩=d:=by simpa using e
  subst this
  exact .str
 stop:=fun i H S w' le ok hP e=>by
  show _=_
  rw [e];simp [signs]
def Ct (S1:aG) (Q:List D→(aG→Prop)→aG→Prop):D→Prop
 | .lst ds=>Q ds (fun _=>True) S1
 | .tup ds=>Q ds (fun _=>True) S1
 | .str x=>Q (signs x) (fun _=>True) S1
 | .loc n=>∃ ds,S1[n]? = some (some (.lst ds))∧Q ds (fun S=>S[n]? = some (some (.lst ds))) S1
 | _=>False
def FP (t:AE):AI:=fun δ S Q=>t δ S fun r S1=>Ct S1 Q r.d
theorem IV {t:AE}:∀ σ H R,C5 K (FP t) σ H R→(bF K t) σ H fun x H1=>(∃ a,x = .ref a∧(∃ xs,dm K H1 a xs)∧R (MQ K a) H1)∨(∃ a,x = .ref a∧(∃ xs,dI K H1 a xs)∧R (Nr K a) H1)∨∃ y,x = .str y∧R (Nt y) H1:=by
 rintro σ H R ⟨w,δ,S,Qa,ok,env,q,bk⟩
 refine ⟨w,δ,S,_,ok,env,q,.go fun r1 S1 v1 w1 H1 le1 ok1 rep1 q1 => ?_⟩
 generalize r1.d=d at rep1 q1
 cases d with
 | lst ds =>
  simp only [Rep] at rep1
  obtain ⟨p,xs,rfl,h1,h2⟩:=rep1
  exact .inl ⟨p,rfl,⟨xs,dm.of (ok1.base _ _ h1)⟩,bk ds _ S1 _ w1 H1 le1 ok1 (FI h1 h2) q1⟩
 | tup ds =>
  simp only [Rep] at rep1
  obtain ⟨p,xs,rfl,h1,h2⟩:=rep1
  exact .inr (.inl ⟨p,rfl,⟨xs,dI.of (ok1.base _ _ h1)⟩,bk ds _ S1 _ w1 H1 le1 ok1 (FG h1 h2) q1⟩)
 | str x=>exact .inr (.inr ⟨x,lG rep1 rfl,bk _ _ S1 _ w1 H1 le1 ok1 FH q1⟩)
 | loc n =>
  simp only [Rep] at rep1
  obtain ⟨p,hp,rfl⟩:=rep1
  obtain ⟨ds,e,q1⟩:=q1
  obtain ⟨p',u,g1,g2,g3,xs,rfl,g5⟩:=ok1.live n _ e
  rw [hp] at g1;cases g1
  exact .inl ⟨p,rfl,⟨xs,dm.of g3⟩,bk ds _ S1 _ w1 H1 le1 ok1 (FJ hp) q1⟩
 | _=>exact q1.elim
theorem BE {lo:Int}{n i:Nat}{d:D} (e:(cA lo n)[i]? = some d):i<n∧d = .int (lo+(i:Int)):=by
 unfold cA at e
 rw [zbi] at e
 by_cases h:i<n
 ·rw [List.getElem?_range h] at e
  exact ⟨h,by simpa using e.symm⟩
 ·rw [zaw (by simpa using h)] at e;cases e
theorem IU {a:AA}:∀ σ H R,C5 K (qL a) σ H R→HA (nP K a) σ H R:=by
 rintro σ H R ⟨w,δ,S,Qa,ok,env,q,bk⟩
 refine ⟨w,δ,S,_,ok,env,q,fun ds S1 vs w1 H1 le1 ok1 rep1 ⟨j,hd,⟨h1,h2⟩,q1⟩=>⟨j,?_,h1,h2,?_⟩⟩
 ·subst hd
  simp only [az,Rep] at rep1
  obtain ⟨x,r,rfl,rfl,rfl⟩:=rep1
  rfl
 ·refine bk _ _ S1 _ w1 H1 le1 ok1 ⟨fun i H S w' d le ok hP e => ?_,fun i H S w' d x H' le ok hP e y => ?_,fun i H S w' le ok hP e => ?_⟩ q1
  ·exact (BE e).1
  ·obtain ⟨y1,y2⟩:=y
   obtain ⟨e1,rfl⟩:=BE e
   subst y2 y1
   exact ⟨w',.refl,ok,.int⟩
  ·show _≤_
   rw [e];simp [cA]
end
end M
namespace M
open PySem PySem.Spec PyProof.Rows L2
section
variable {X:Cx}{pos:Pos}{e a b c:Expr}{es:List Expr}
theorem pv (i:Nat) {x:Str} (hN:X.N[i]? = some x:=by rfl) (hv:ML X.env.scope x:=by first | exact Or.inl rfl | exact Or.inr (Or.inl rfl) | exact Or.inr (Or.inr rfl)) (hd:(x==("__debug__" : Str))=false:=by decide)
  (hcd:(x==("__classdict__" : Str))=false:=by decide):GE X (.Name x pos) (eT i):=⟨mE (L2.BU hN hv hd hcd) Lo⟩
theorem aj {i j}:GE X (.Constant (.int i) j pos) (aC (.int i)):=⟨mE L2.aj (LB fun _=>.int)⟩
theorem gk {i j}:GE X (.Constant (.bool i) j pos) (aC (.bl i)):=⟨mE L2.gk (LB fun _=>.bl)⟩
theorem ao {i j}:GE X (.Constant (.str i) j pos) (aC (.str i)):=⟨mE L2.ao (LB fun _=>.str)⟩
theorem ja {j}:GE X (.Constant .none j pos) (aC .bw):=⟨mE L2.ja (LB fun _=>.bw)⟩
theorem lJ {x:Str}{d:D}{v:V}{u:yaj} (hg:Gl X x) (hm:X.mg x=some u) (r:RelV v u) (h:∀ w,Rep X.K w d v) (hd:(x==("__debug__" : Str))=false:=by decide):GE X (.Name x pos) (aC d) :=
 ⟨mE (L2.lJ hg hm r hd) (LB h)⟩
theorem aL {op:Operator}{r:A2}{ta tb:AE} (ho:uH X (binaryOp op) r) (ha:GE X a ta) (hb:GE X b tb):GE X (.BinOp a op b pos) (Dz r ta tb):=⟨mE (L2.aL ho.p ha.p hb.p) EL⟩
theorem jE {op:CmpOp}{r:A2}{ta tb:AE} (ho:uH X (yao op) r) (ha:GE X a ta) (hb:GE X b tb) (hm:behindInMarks op b=false):GE X (.Compare a [op] [b] pos) (Dz r ta tb):=⟨mE (L2.jE ho.p ha.p hb.p hm) EL⟩
theorem aF {r:A2}{ta tb:AE} (ho:Pp X r) (ha:GE X a ta) (hb:GE X b tb) (hs:rj b):GE X (.Subscript a b pos) (Dz r ta tb):=⟨mE (L2.aF ho.p ha.p hb.p hs) EL⟩
theorem aa:GA X [] vZ:=⟨mA L2.aa Lv⟩
theorem ak {ta:AE}{t:AA} (ha:GE X e ta) (hr:GA X es t) (hs:notStar e=true:=by rfl):GA X (e::es) (yG ta t):=⟨mA (L2.ak ha.p hr.p hs) Jb⟩
theorem aD {k:Nat}{t:AA} (h:GA X es t):GE X (.Tuple es k pos) (Gr t):=⟨mE (L2.aD h.p) Lp⟩
theorem bI {t:AA} (h:GA X es t):GE X (.List es pos) (KC t):=⟨mE (L2.bI h.p) Lw⟩
theorem Ei {t:AE} (h:GE X e t):GE X e (jg t):=⟨mE h.p s_alloc⟩
theorem vn {op}{t:AE} (h:GE X a t):GE X (.BoolOp op [a] pos) t:=⟨L2.vn h.p⟩
theorem vo {rest:List Expr}{ta tb:AE} (ha:GE X a ta) (hb:GE X (.BoolOp .And (b::rest) pos) tb):GE X (.BoolOp .And (a::b::rest) pos) (DJ ta tb):=⟨mE (L2.vo ha.p hb.p) Jc⟩
theorem dS:GO X none iH:=⟨mO L2.dS Bs⟩
theorem cZ {t:AE} (h:GE X e t):GO X (some e) (pW t):=⟨mO (L2.cZ h.p) IK⟩
structure Po (X:Cx) (r:D→Option Int→Option Int→aG→AK→Prop):Prop where
 p:Ek X (HJ X.K r)
theorem cL {lo hi:Option Expr}{p2:Pos}{r:D→Option Int→Option Int→aG→AK→Prop}{te:AE}{tl th:AO} (hr:Po X r) (he:GE X e te) (hl:GO X lo tl) (hu:GO X hi th):GE X (.Subscript e (.Slice lo hi none p2) pos) (Lb r te tl th) :=
 ⟨mE (L2.cL hr.p he.p hl.p hu.p) NK⟩
theorem eE {id:String}{r:AN}{t:AA}{x:Str}{p:Pos} (hc:DY X (.builtin id) r) (hg:Gl X x) (hm:X.mg x=none) (hv:bootBuiltins x=some (.builtin id)) (ha:GA X (e::es) t) (hn:x ≠ "__name__" := by decide +kernel) (hdb:(x==("__debug__" : Str))=false:=by decide +kernel)
  (hs:(e::es).all notStar=true:=by rfl):GE X (.Call (.Name x p) (e::es) [] pos) (aCall r t):=⟨mE (L2.eE hc.p hg hm hv ha.p hn hdb hs) LA⟩
theorem Fc {T:String}{r:AN}{t:AA}{x:Str}{p:Pos} (hc:DY X (.type T) r) (hg:Gl X x) (hm:X.mg x=none) (hv:bootBuiltins x=some (.type T)) (ha:GA X (e::es) t) (hn:x ≠ "__name__" := by decide +kernel) (hdb:(x==("__debug__" : Str))=false:=by decide +kernel)
  (hs:(e::es).all notStar=true:=by rfl):GE X (.Call (.Name x p) (e::es) [] pos) (aCall r t):=⟨mE (L2.Fc hc.p hg hm hv ha.p hn hdb hs) LA⟩
theorem vm {k:Nat}{ps:List Str}{sp:AN}{t:AA}{x:Str}{p:Pos} (D:Def X.prog X.w X.K X.mg X.base k x ps (bf X.K sp)) (hr:aU k X.A) (hg:Gl X x) (ha:GA X (e::es) t) (hdb:(x==("__debug__" : Str))=false:=by decide +kernel) (hs:(e::es).all notStar=true:=by rfl) :
  GE X (.Call (.Name x p) (e::es) [] pos) (aCall sp t):=⟨mE (L2.vm D hr hg sG ha.p hdb hs) s_call⟩
theorem i8 {t:AE} (h:GE X e t) (he:∀ whole,isTrue e X.env whole=(do let v ← whole;standAt e.pos;holding [v] (truthy v)):=by intro _;rfl):GT X e (Kx t):=⟨mT (L2.BP h.p he) Lq⟩
theorem aA {op:CmpOp}{r:A2}{ta tb:AE} (ho:uH X (yao op) r) (ha:GE X a ta) (hb:GE X b tb) (hm:behindInMarks op b=false):GT X (.Compare a [op] [b] pos) (aB (Dz r ta tb)) :=
 ⟨mT (L2.aA ho.p ha.p hb.p hm) fun σ H Q h=>by
  obtain ⟨w,δ,S,Qa,ok,env,q,bk⟩:=s_b σ H Q h
  exact EL σ H _ ⟨w,δ,S,Qa,ok,env,q,bk⟩⟩
theorem pw_pt {t:AT} (h:GW X e t):GT X e t:=⟨h.p.pt⟩
theorem pw_and1 {t:AT} (h:GT X a t):GW X (.BoolOp .And [a] pos) t:=⟨L2.pw_and1 h.p⟩
theorem pw_or1 {t:AT} (h:GT X a t):GW X (.BoolOp .Or [a] pos) t:=⟨L2.pw_or1 h.p⟩
theorem pw_and {rest:List Expr}{t u:AT} (ha:GT X a t) (hb:GW X (.BoolOp .And (b::rest) pos) u):GW X (.BoolOp .And (a::b::rest) pos) (KL t u):=⟨mW (L2.pw_and ha.p hb.p) LC⟩
theorem pw_or {rest:List Expr}{t u:AT} (ha:GT X a t) (hb:GW X (.BoolOp .Or (b::rest) pos) u):GW X (.BoolOp .Or (a::b::rest) pos) (OU t u):=⟨mW (L2.pw_or ha.p hb.p) NN⟩
theorem ko {t:AT} (h:GT X a t):GT X (.UnaryOp .Not a pos) (Ky t):=⟨mT (L2.ko h.p) Lu⟩
theorem dz:MS X [] kJ:=⟨mTs L2.dz Ln⟩
theorem lI {t:AT} (h:GT X c t):MS X [c] t:=⟨L2.lI h.p⟩
theorem bZ {tg:Expr}{t:AA}{p:Pos} (hg:Gl X "range") (hm:X.mg "range" = none) (ha:GA X [a] t) (hs:yap [a] X.env=[(false,eval a X.env)]:=by rfl):GI X tg (.Call (.Name "range" p) [a] [] pos) (qL t):=⟨mI (L2.bZ hg hm ha.p hs) IU⟩
theorem E7 {tg l:Expr}{tl:TE} (hl:PE X l tl):PI X tg l (fun σ H R=>tl σ H fun x H1=>(∃ a,x = .ref a∧(∃ xs,dm X.K H1 a xs)∧R (MQ X.K a) H1)∨(∃ a,x = .ref a∧(∃ xs,dI X.K H1 a xs)∧R (Nr X.K a) H1)∨∃ y,x = .str y∧R (Nt y) H1):=by
 intro pins s σ H R I h
 refine bX (hl pins s σ H _ I h) fun v s1 ⟨x,H1,I1,r1,q1⟩ => ?_
 rcases q1 with ⟨a,rfl,⟨xs,hq⟩,q⟩ | ⟨a,rfl,⟨xs,hq⟩,q⟩ | ⟨y,rfl,q⟩
 ·cases r1
  obtain ⟨its,rv,p,hz⟩:=I1.list hq
  refine wpAny_pyIter_list p.isList ?_
  refine ⟨s1.heap.objs.size,[s1.heap.objs.size],_,_,H1,rfl,I1.kept (t':=s1.toks) fun b o e=>zar _ e,yP a _,⟨_,zaR _ rfl,rfl,rfl⟩,fun b hb => ?_,q⟩
  have e:b=s1.heap.objs.size:=by simpa using hb
  subst e
  exact I1.zM (zcE _) (I1.hok.fresh (zcE _))
 ·cases r1
  obtain ⟨its,rv,p,hz⟩:=I1.tuple hq
  refine wpAny_pyIter_tuple (show s1.heap.IsTuple a its.toArray from p) ?_
  refine ⟨s1.heap.objs.size,[s1.heap.objs.size],_,_,H1,rfl,I1.kept (t':=s1.toks) fun b o e=>zar _ e,uJ a _,⟨_,zaR _ rfl,rfl,rfl⟩,fun b hb => ?_,q⟩
  have e:b=s1.heap.objs.size:=by simpa using hb
  subst e
  exact I1.zM (zcE _) (I1.hok.fresh (zcE _))
 ·obtain ⟨t,rfl⟩:=r1
  refine wpAny_pyIter_strU ?_
  refine ⟨s1.heap.objs.size,[s1.heap.objs.size],_,_,H1,rfl,I1.kept (t':=s1.toks) fun b o e=>zar _ e,Ax _ y t,⟨_,zaR _ rfl,rfl,rfl⟩,fun b hb => ?_,q⟩
  have e:b=s1.heap.objs.size:=by simpa using hb
  subst e
  exact I1.zM (zcE _) (I1.hok.fresh (zcE _))
theorem fB {tg l:Expr}{tl:AE} (hl:GE X l tl):GI X tg l (FP tl):=⟨mI (E7 hl.p) IV⟩
theorem iy {elt tg iter:Expr}{ifs:List Expr}{scope:Scope}{N:List Str}{caps:List (Option Nat)}{wi:AI}{g:AG}{tt:AT}{te:AE}
  (S:dM scope N) (hcap:jR X.N X.env scope N caps=true) (hfr:L2.freeOk X.env scope=true) (hc:X.calm=true) (hi:GI X tg iter wi)
  (hg:∀ s₀ H₀ C fp,GG (kg X scope N s₀ H₀ C fp) tg g) (ht:∀ s₀ H₀ C fp,MS (kg X scope N s₀ H₀ C fp) ifs tt) (he:∀ s₀ H₀ C fp,GE (kg X scope N s₀ H₀ C fp) elt te)
  (hs:∀ x,foldedSetIterable iter X.env x=pure x:=by intro _;rfl):GE X (.ListComp elt [⟨tg,iter,ifs,0⟩] scope pos) (jU caps wi g tt te) :=
 ⟨mE (L2.iy S hcap hfr hc hi.p (fun s₀ H₀ C fp=>(hg s₀ H₀ C fp).p) (fun s₀ H₀ C fp=>(ht s₀ H₀ C fp).p) (fun s₀ H₀ C fp=>(he s₀ H₀ C fp).p) hs) uW⟩
theorem aJ:Aq X [] DA:=⟨Nb L2.aJ IQ⟩
theorem aq {st:Stmt}{t:AS} (h:GS X st t):Aq X [st] t:=⟨L2.aq h.p⟩
theorem ah {st:Stmt}{rest:List Stmt}{t u:AS} (h:GS X st t) (g:Aq X rest u):Aq X (st::rest) (q9 t u):=⟨Nb (L2.ah h.p g.p) Lr⟩
theorem aR {t:AE} (h:GE X e t) (hs:yau e none pos.line X.env=pure false:=by rfl):GS X (.Expr e pos) (yF t):=⟨mS (L2.aR h.p hs) IZ⟩
theorem aS {t:AE} (h:GE X e t):GS X (.Return (some e) pos) (Dy t):=⟨mS (L2.aS h.p) Ls⟩
theorem bC {p q:List Stmt}{tc:AT}{t u:AS} (hc:GT X c tc) (ha:Aq X p t) (hb:Aq X q u):GS X (.If c p q pos) (z9 tc t u):=⟨mS (L2.bC hc.p ha.p hb.p) Lx⟩
theorem aN {i:Nat}{x:Str} (hN:X.N.Nodup) (hi:X.N[i]? = some x) (hx:Loc X.env.scope x) (hf:X.fn x=true∨X.env.scope.names.lookup x=some .local:=by first | exact .inl rfl | exact .inr rfl | assumption):GG X (.Name x pos) (bP i):=⟨mG (L2.aN hN hi hx hf) lF⟩
theorem dB:Nu X [] yC:=⟨Pb L2.dB IY⟩
theorem aY {t:AG}{u:El} (h1:GG X e t) (h2:Nu X es u) (hs:(assignEach (e::es) X.env).map (·.2)=assign e X.env::(assignEach es X.env).map (·.2):=by rfl):Nu X (e::es) (kI t u):=⟨Pb (L2.aY h1.p h2.p hs) EM⟩
theorem fE {k:Nat}{t:El}{n:Nat} (hc:X.calm=true) (h:Nu X es t) (hn:(assignEach es X.env).length=n:=by rfl) (hst:(assignEach es X.env).findIdx? (·.1)=none:=by rfl):GG X (.Tuple es k pos) (yz n t):=⟨mG (L2.fE hc h.p hn hst) IW⟩
theorem mP {tg:Expr}{t:AE}{g:AG} (he:GE X e t) (hg:GG X tg g) (hs:swapsWithSole [tg] e pos.line X.env=pure false:=by rfl) (hw:swappedStores [tg] e X.env=pure none:=by rfl)
  (h1:(assignEach [tg] X.env).map (·.2)=[assign tg X.env]:=by rfl):GS X (.Assign [tg] e pos) (Ab t g):=⟨mS (L2.mP he.p hg.p hs hw h1) xx⟩
theorem aH {i:Nat}{x:Str}{t:AE}{pos':Pos} (hN:X.N.Nodup) (hi:X.N[i]? = some x) (hx:Loc X.env.scope x) (he:GE X e t) (hs:yau e (some (.Name x pos')) pos.line X.env=pure false:=by rfl) (hf:X.fn x=true∨X.env.scope.names.lookup x=some .local:=by first | exact .inl rfl | exact .inr rfl | assumption) :
  GS X (.Assign [.Name x pos'] e pos) (Ab t (bP i)):=⟨mS (L2.aH hN hi hx he.p hs hf) fun D σ H h=>by
  obtain ⟨w,δ,S,Qa,ok,env,q,bk⟩:=xx D σ H h
  exact ⟨w,δ,S,Qa,ok,env,q,fun r S' v w' H' le ok' rep q'=>lF _ _ _ _ (bk r S' v w' H' le ok' rep q')⟩⟩
theorem cz {elt tg iter:Expr}{ifs:List Expr}{scope:Scope}{N:List Str}{caps:List (Option Nat)}{pos' spos:Pos}{wi:AI}{g:AG}{tt:AT}{te:AE}{i:Nat}{x:Str}
  (hN:X.N.Nodup) (hix:X.N[i]? = some x) (hx:X.env.scope.names.lookup x=some .local)
  (S:dM scope N) (hcap:jR X.N X.env scope N caps=true) (hfr:L2.freeOk X.env scope=true) (hc:X.calm=true) (hi:GI X tg iter wi)
  (hg:∀ s₀ H₀ C fp,GG (kg X scope N s₀ H₀ C fp) tg g) (ht:∀ s₀ H₀ C fp,MS (kg X scope N s₀ H₀ C fp) ifs tt) (he:∀ s₀ H₀ C fp,GE (kg X scope N s₀ H₀ C fp) elt te)
  (hsw:yau (.ListComp elt [⟨tg,iter,ifs,0⟩] scope pos) (some (.Name x pos')) spos.line X.env=pure true:=by rfl)
  (hs:∀ x,foldedSetIterable iter X.env x=pure x:=by intro _;rfl):GS X (.Assign [.Name x pos'] (.ListComp elt [⟨tg,iter,ifs,0⟩] scope pos) spos) (Ab (jU caps wi g tt te) (bP i)) :=
 ⟨mS (L2.cz hN hix hx S hcap hfr hc hi.p (fun s₀ H₀ C fp=>(hg s₀ H₀ C fp).p) (fun s₀ H₀ C fp=>(ht s₀ H₀ C fp).p) (fun s₀ H₀ C fp=>(he s₀ H₀ C fp).p) hsw hs) fun D σ H h=>by
  obtain ⟨w,δ,S,Qa,ok,env,q,bk⟩:=xx D σ H h
  exact uW _ _ _ ⟨w,δ,S,Qa,ok,env,q,fun r S' v w' H' le ok' rep q'=>lF _ _ _ _ (bk r S' v w' H' le ok' rep q')⟩⟩
theorem sE {elt tg iter:Expr}{ifs:List Expr}{scope:Scope}{N:List Str}{caps:List (Option Nat)}{pos' spos:Pos}{wi:AI}{g:AG}{tt:AT}{te:AE}{i:Nat}{x:Str}
  (hN:X.N.Nodup) (hix:X.N[i]? = some x) (hx:X.env.scope.names.lookup x=some .local)
  (S:dM scope N) (hcap:jR X.N X.env scope N caps=true) (hfr:L2.freeOk X.env scope=true) (hc:X.calm=true) (hi:GI X tg iter wi)
  (hg:∀ s₀ H₀ C fp,GG (kg X scope N s₀ H₀ C fp) tg g) (ht:∀ s₀ H₀ C fp,MS (kg X scope N s₀ H₀ C fp) ifs tt) (he:∀ s₀ H₀ C fp,GE (kg X scope N s₀ H₀ C fp) elt te)
  (hsw:yau (.ListComp elt [⟨tg,iter,ifs,0⟩] scope pos) (some (.Name x pos')) spos.line X.env=pure true:=by rfl)
  (hs:∀ x,foldedSetIterable iter X.env x=pure x:=by intro _;rfl):GS X (.Assign [.Name x pos'] (.ListComp elt [⟨tg,iter,ifs,0⟩] scope pos) spos) (Ab (jg (jU caps wi g tt te)) (bP i)) :=
 ⟨mS (L2.cz hN hix hx S hcap hfr hc hi.p (fun s₀ H₀ C fp=>(hg s₀ H₀ C fp).p) (fun s₀ H₀ C fp=>(ht s₀ H₀ C fp).p) (fun s₀ H₀ C fp=>(he s₀ H₀ C fp).p) hsw hs) fun D σ H h=>by
  obtain ⟨w,δ,S,Qa,ok,env,q,bk⟩:=s_alloc σ H _ (xx D σ H h)
  exact uW _ _ _ ⟨w,δ,S,Qa,ok,env,q,fun r S' v w' H' le ok' rep q'=>lF _ _ _ _ (bk r S' v w' H' le ok' rep q')⟩⟩
theorem fz {tg iter:Expr}{body:List Stmt}{wi:AI}{g:AG}{tb:AS} (hp:PassesOwn (model X.prog X.w) X.A X.env X.xe) (hc:X.calm=true) (hi:GI X tg iter wi) (hg:GG X tg g) (hb:Aq X body tb)
  (hs:∀ x,foldedSetIterable iter X.env x=pure x:=by intro _;rfl):GS X (.For tg iter body [] pos) (oN wi g tb):=⟨mS (L2.fz hp hc hi.p hg.p hb.p hs) Lz⟩
end
section
variable {X:Cx}
theorem Ho {f:yaj→yaj→Sem yaj}{r r':R2} (h:fV X f r) (h':fV X f r'):fV X f (fun x y H Q=>r x y H Q∨r' x y H Q):=by
 intro pins s σ H x y v u Q I rx ry q
 rcases q with q | q
 ·exact h pins s σ H x y v u Q I rx ry q
 ·exact h' pins s σ H x y v u Q I rx ry q
theorem orC {f:yaj}{r r':List V→Hp→VK→Prop} (h:b9 X f r) (h':b9 X f r'):b9 X f (fun x H Q=>r x H Q∨r' x H Q):=by
 intro pins s σ H x v Q I rx q
 rcases q with q | q
 ·exact h pins s σ H x v Q I rx q
 ·exact h' pins s σ H x v Q I rx q
variable {K:yaM}{w:Wd}{H:Hp}{S:aG}{v u:V}{d e:D}
theorem cP {i:Int} (h:Rep K w d v) (z:bG S d = .int i):v = .int i:=by
 cases d <;> simp only [bG] at z
 case loc n=>split at z <;> first | (rename_i o _;cases o <;> simp [MO.d] at z) | cases z
 all_goals first | cases z | skip
 simpa [Rep] using h
theorem bS {i:Str} (h:Rep K w d v) (z:bG S d = .str i):v = .str i:=by
 cases d <;> simp only [bG] at z
 case loc n=>split at z <;> first | (rename_i o _;cases o <;> simp [MO.d] at z) | cases z
 all_goals first | cases z | skip
 simpa [Rep] using h
theorem gB {i:Bool} (h:Rep K w d v) (z:bG S d = .bl i):v = .bl i:=by
 cases d <;> simp only [bG] at z
 case loc n=>split at z <;> first | (rename_i o _;cases o <;> simp [MO.d] at z) | cases z
 all_goals first | cases z | skip
 simpa [Rep] using h
theorem ig {ns:List Int} (k:Ok K w H S) (h:Rep K w d v) (z:bG S d = .lE ns):∃ a,v = .ref a∧dm K H a (ns.map V.int):=by
 cases d <;> simp only [bG] at z
 case loc n=>split at z <;> first | (rename_i o _;cases o <;> simp [MO.d] at z) | cases z
 all_goals first | cases z | skip
 simp only [Rep] at h
 obtain ⟨a,h1,h2⟩:=h
 exact ⟨a,h1,k.base.seq h2⟩
def aI (C:Int→Int→Prop) (g:Int→Int→D):A2:=fun x y S Q=>∃ i j,x = .int i∧y = .int j∧C i j∧Q (.dat (g i j)) S
theorem OO {C:Int→Int→Prop}{g:Int→Int→D}{g':Int→Int→V} (h:∀ w i j,Rep K w (g i j) (g' i j)):∀ x y H Q,zV K (aI C g) x y H Q→rI C g' x y H Q:=by
 rintro x y H Q ⟨w,d,e,S,Qa,ok,r1,r2,⟨i,j,e1,e2,hc,q⟩,bk⟩
 exact ⟨i,j,bK r1 e1,bK r2 e2,hc,bk.dat .refl ok (h w i j) q⟩
theorem Jp {g:Int→Int→V}:∀ x y H Q,rI (fun _ _=>True) g x y H Q→Ec g x y H Q:=by
 rintro x y H Q ⟨i,j,h1,h2,_,q⟩
 exact ⟨i,j,h1,h2,q⟩
theorem vt:uH X (binaryOp .FloorDiv) (aI Eb fun i j=>.int (i / j)):=⟨m2 L2.xO (OO fun _ _ _=>.int)⟩
theorem xR:uH X (binaryOp .Mod) (aI (fun _ j=>0<j) fun i j=>.int (i % j)):=⟨m2 L2.gf (OO fun _ _ _=>.int)⟩
theorem B7:uH X (yao .GtE) (aI (fun _ _=>True) fun i j=>.bl (decide (j≤i))):=⟨m2 L2.LM fun x y H Q h=>Jp x y H Q (OO (g':=fun i j=>.bl (decide (j≤i))) (fun _ _ _=>.bl) x y H Q h)⟩
def Ph:A2:=fun x y S Q=>match x,y with
 | .int i,.int j=>Q (.dat (.bl (decide (i<j)))) S
 | .str i,.str j=>Q (.dat (.bl (decide (i.cps.toList<j.cps.toList)))) S
 | _,_=>False
def Pj:A2:=fun x y S Q=>match x,y with
 | .int i,.int j=>Q (.dat (.bl (decide (i≤j)))) S
 | .str i,.str j=>Q (.dat (.bl (!decide (j.cps.toList<i.cps.toList)))) S
 | _,_=>False
theorem LP:uH X (yao .Lt) Ph:=⟨m2 (Ho L2.Hr L2.zg) fun x y H Q h=>by
 obtain ⟨w,d,e,S,Qa,ok,r1,r2,q,bk⟩:=h
 cases d <;> cases e <;> first | exact q.elim | skip
 ·exact .inl ⟨_,_,bK r1 rfl,bK r2 rfl,bk.dat .refl ok .bl q⟩
 ·exact .inr ⟨_,_,lG r1 rfl,lG r2 rfl,bk.dat .refl ok .bl q⟩⟩
def DK:A2:=fun x y S Q=>match bG S x,bG S y with
 | .int i,.int j=>Q (.dat (.int (i+j))) S
 | .str i,.str j=>i.length+j.length≤yah∧Q (.dat (.str (i++j))) S
 | .lst xs,.lst ys=>xs.length+ys.length≤yah∧Q (.new (.lst (xs++ys))) S
 | .tup xs,.tup ys=>xs≠[]∧xs.length+ys.length≤yah∧Q (.dat (.tup (xs++ys))) S
 | _,_=>False
theorem eX:uH X (binaryOp .Add) DK:=⟨m2 (Ho L2.gI (Ho L2.vq (Ho L2.kq L2.Fg))) fun x y H Q h=>by
 obtain ⟨w,d,e,S,Qa,ok,r1,r2,q,bk⟩:=h
 unfold DK at q
 cases z1:bG S d <;> cases z2:bG S e <;> rw [z1,z2] at q <;> first | exact q.elim | skip
 ·exact .inl ⟨_,_,cP r1 z1,cP r2 z2,bk.dat .refl ok .int q⟩
 ·exact .inr (.inl ⟨_,_,bS r1 z1,bS r2 z2,q.1,bk.dat .refl ok .str q.2⟩)
 ·obtain ⟨a,xs,rfl,h1,g1⟩:=eV ok r1 z1
  obtain ⟨b,ys,rfl,h2,g2⟩:=eV ok r2 z2
  obtain ⟨hne,hl,q⟩:=q
  refine .inr (.inr (.inr ⟨a,b,xs,ys,rfl,rfl,dI.of h1,dI.of h2,?_,by rw [g1.length,g2.length];exact hl,fun hy => ?_,fun hy p hp => ?_⟩))
  ·intro z;subst z
   have:=g1.length
   simp at this
   exact hne (zaa this.symm)
  ·subst hy
   have:_=[]:=zaa g2.length.symm
   rw [this,zbO] at q
   cases d <;> simp only [bG] at z1
   case tup=>cases z1;exact bk.dat .refl ok r1 q
   case loc n=>split at z1 <;> first | (rename_i o _;cases o <;> simp [MO.d] at z1) | cases z1
   all_goals cases z1
  ·obtain ⟨w2,le2,ok2,rep2⟩:=ok.ng hp (g1.append g2)
   exact bk.dat le2 ok2 rep2 q
 ·obtain ⟨a,xs,rfl,h1,g1⟩:=cD ok r1 z1
  obtain ⟨b,ys,rfl,h2,g2⟩:=cD ok r2 z2
  refine .inr (.inr (.inl ⟨a,b,xs,ys,rfl,rfl,h1,h2,by rw [g1.length,g2.length];exact q.1,fun p hp => ?_⟩))
  exact bk (.new (.lst _)) S _ w _ .refl (ok.alloc hp) (ok.fresh hp ⟨_,rfl,g1.append g2⟩) q.2⟩
end
end M
namespace M
open PySem PySem.Spec PyProof.Rows PySem.SeqAt L2
mutual
noncomputable def ck:D→Bool
 | .bw | .bl _ | .int _ | .str _ | .yT _=>true
 | .tup ds | .lst ds=>cK ds
 | _=>false
noncomputable def cK:List D→Bool
 | []=>true
 | d::ds=>ck d&&cK ds
end
mutual
noncomputable def py:D→yan
 | .bw=>.none
 | .bl b=>.bool b
 | .int i=>.int i
 | .str x=>.str x
 | .tup ds=>.tuple (eW ds)
 | .lst ds=>.list (eW ds)
 | .yT ss=>.tuple (ss.map PyData.str)
 | _=>.none
noncomputable def eW:List D→List yan
 | []=>[]
 | d::ds=>py d::eW ds
end
theorem rO {K:yaM}{H:Hp}:∀ (ss:List Str),b8 K H (ss.map PyData.str) (ss.map V.str)
 | []=>by simp [b8]
 | s::ss=>by
  simp only [zcg,b8,bB]
  exact ⟨_,_,rfl,rfl,rO ss⟩
section
variable {K:yaM}{w:Wd}{H:Hp}{S:aG}
mutual
theorem CS (e:cT w.B H):∀ (d:D) (v:V),ck d=true→Rep K w d v→bB K H (py d) v
 | .bw,v,_,h=>by simpa [Rep,py,bB] using h
 | .bl _,v,_,h=>by simpa [Rep,py,bB] using h
 | .int _,v,_,h=>by simpa [Rep,py,bB] using h
 | .str _,v,_,h=>by simpa [Rep,py,bB] using h
 | .tup ds,v,hp,h=>by
  simp only [Rep,py,bB] at h ⊢
  obtain ⟨a,xs,h1,h2,h3⟩:=h
  exact ⟨a,xs,h1,dI.of (e _ _ h2),lQ e ds xs (by simpa [ck] using hp) h3⟩
 | .lst ds,v,hp,h=>by
  simp only [Rep,py,bB] at h ⊢
  obtain ⟨a,xs,h1,h2,h3⟩:=h
  exact ⟨a,xs,h1,dm.of (e _ _ h2),lQ e ds xs (by simpa [ck] using hp) h3⟩
 | .dct _ _,_,hp,_=>by simp [ck] at hp
 | .loc _,_,hp,_=>by simp [ck] at hp
 | .ty _,_,hp,_=>by simp [ck] at hp
 | .lE _,_,hp,_=>by simp [ck] at hp
 | .yT ss,_,_,h=>by
  simp only [Rep,py,bB] at h ⊢
  obtain ⟨a,h1,h2⟩:=h
  exact ⟨a,_,h1,dI.same e h2,rO ss⟩
 | .fd,_,hp,_=>by simp [ck] at hp
 | .fn _,_,hp,_=>by simp [ck] at hp
theorem lQ (e:cT w.B H):∀ (ds:List D) (vs:List V),cK ds=true→az K w ds vs→b8 K H (eW ds) vs
 | [],vs,_,h=>by simpa [az,eW,b8] using h
 | d::ds,vs,hp,h=>by
  simp only [cK,zbH] at hp
  simp only [az,eW,b8] at h ⊢
  obtain ⟨x,r,h1,h2,h3⟩:=h
  exact ⟨x,r,h1,CS e d x hp.1 h2,lQ e ds r hp.2 h3⟩
end
theorem qi (k:Ok K w H S) {d:D}{v:V} (h:Rep K w d v) (hp:ck (bG S d)=true):bB K H (py (bG S d)) v:=by
 cases d with
 | loc n =>
  cases z:bG S (.loc n) with
  | lst ds =>
   rw [z] at hp
   obtain ⟨a,xs,rfl,h1,h2⟩:=cD k h z
   simp only [py,bB]
   exact ⟨a,xs,rfl,dm.of h1,lQ k.base ds xs (by simpa [ck] using hp) h2⟩
  | _ =>
   rw [z] at hp
   simp only [bG] at z
   split at z <;> first | (rename_i o _;cases o <;> simp [MO.d] at z) | (cases z;simp [ck] at hp) | cases z
   all_goals simp [ck] at hp
 | _=>exact CS k.base _ v (by simpa [bG] using hp) h
end
noncomputable def fit (d:D):Bool:=ck d&&shaped (py d)
def Aa:A2:=fun x y S Q=>match bG S x,bG S y with
 | .str a,.str b=>Q (.dat (.bl (decide (a=b)))) S
 | .int a,.int b=>Q (.dat (.bl (decide (a=b)))) S
 | .bl a,.bl b=>Q (.dat (.bl (decide (a=b)))) S
 | x',y'=>fit x'=true∧fit y'=true∧Q (.dat (.bl (PyData.eqv (py x') (py y')))) S
def KA:A2:=fun x y S Q=>match bG S x,bG S y with
 | .str a,.str b=>Q (.dat (.bl (!decide (a=b)))) S
 | .int a,.int b=>Q (.dat (.bl (!decide (a=b)))) S
 | .bl a,.bl b=>Q (.dat (.bl (!decide (a=b)))) S
 | x',y'=>fit x'=true∧fit y'=true∧Q (.dat (.bl (!PyData.eqv (py x') (py y')))) S
section
variable {X:Cx}
def Oc (K:yaM):R2:=fun x y H Q=>∃ a b,bB K H a x∧bB K H b y∧shaped a=true∧shaped b=true∧Q (.bl (PyData.eqv a b)) H
def NZ (K:yaM):R2:=fun x y H Q=>∃ a b,bB K H a x∧bB K H b y∧shaped a=true∧shaped b=true∧Q (.bl (!PyData.eqv a b)) H
theorem JA {k:Nat} (hr:aU k X.A):fV X (yao .Eq) (Oc X.K):=by
 intro pins s σ H x y v u Q I rx ry h
 obtain ⟨a,b,h1,h2,h3,h4,q⟩:=h
 obtain ⟨as,ra⟩:=I.reads a x v h1 rx
 obtain ⟨bs,rb⟩:=I.reads b y u h2 ry
 exact eq_dataH ra rb h3 h4 hr.units ⟨.bl _,H,I,rfl,q⟩
theorem Jw {k:Nat} (hr:aU k X.A):fV X (yao .NotEq) (NZ X.K):=by
 intro pins s σ H x y v u Q I rx ry h
 obtain ⟨a,b,h1,h2,h3,h4,q⟩:=h
 obtain ⟨as,ra⟩:=I.reads a x v h1 rx
 obtain ⟨bs,rb⟩:=I.reads b y u h2 ry
 exact ne_dataH ra rb h3 h4 hr.units ⟨.bl _,H,I,rfl,q⟩
theorem dZ {K:yaM}{w:Wd}{H:Hp}{S:aG}{d:D}{v:V} (k:Ok K w H S) (h:Rep K w d v) (hf:fit (bG S d)=true):bB K H (py (bG S d)) v∧shaped (py (bG S d))=true:=by
 unfold fit at hf
 rw [zbH] at hf
 exact ⟨qi k h hf.1,hf.2⟩
theorem dW {k:Nat} (hr:aU k X.A):uH X (yao .Eq) Aa:=⟨m2 (Ho L2.B0 (JA hr)) fun x y H Q h=>by
 obtain ⟨w,d,e,S,Qa,ok,r1,r2,q,bk⟩:=h
 unfold Aa at q
 split at q
 next a b z1 z2 =>
  refine .inl ⟨by rw [bS r1 z1,bS r2 z2];rfl,?_⟩
  rw [bS r1 z1,bS r2 z2]
  exact bk.dat .refl ok (by rw [show decide (V.str a=V.str b)=decide (a=b) by simp];exact .bl) q
 next a b z1 z2 =>
  refine .inl ⟨by rw [cP r1 z1,cP r2 z2];rfl,?_⟩
  rw [cP r1 z1,cP r2 z2]
  exact bk.dat .refl ok (by rw [show decide (V.int a=V.int b)=decide (a=b) by simp];exact .bl) q
 next a b z1 z2 =>
  refine .inl ⟨by rw [gB r1 z1,gB r2 z2];rfl,?_⟩
  rw [gB r1 z1,gB r2 z2]
  exact bk.dat .refl ok (by rw [show decide (V.bl a=V.bl b)=decide (a=b) by simp];exact .bl) q
 next =>
  obtain ⟨f1,f2,q⟩:=q
  obtain ⟨g1,s1⟩:=dZ ok r1 f1
  obtain ⟨g2,s2⟩:=dZ ok r2 f2
  exact .inr ⟨_,_,g1,g2,s1,s2,bk.dat .refl ok .bl q⟩⟩
theorem JD {k:Nat} (hr:aU k X.A):uH X (yao .NotEq) KA:=⟨m2 (Ho L2.Hq (Jw hr)) fun x y H Q h=>by
 obtain ⟨w,d,e,S,Qa,ok,r1,r2,q,bk⟩:=h
 unfold KA at q
 split at q
 next a b z1 z2 =>
  refine .inl ⟨by rw [bS r1 z1,bS r2 z2];rfl,?_⟩
  rw [bS r1 z1,bS r2 z2]
  exact bk.dat .refl ok (by rw [show decide (V.str a=V.str b)=decide (a=b) by simp];exact .bl) q
 next a b z1 z2 =>
  refine .inl ⟨by rw [cP r1 z1,cP r2 z2];rfl,?_⟩
  rw [cP r1 z1,cP r2 z2]
  exact bk.dat .refl ok (by rw [show decide (V.int a=V.int b)=decide (a=b) by simp];exact .bl) q
 next a b z1 z2 =>
  refine .inl ⟨by rw [gB r1 z1,gB r2 z2];rfl,?_⟩
  rw [gB r1 z1,gB r2 z2]
  exact bk.dat .refl ok (by rw [show decide (V.bl a=V.bl b)=decide (a=b) by simp];exact .bl) q
 next =>
  obtain ⟨f1,f2,q⟩:=q
  obtain ⟨g1,s1⟩:=dZ ok r1 f1
  obtain ⟨g2,s2⟩:=dZ ok r2 f2
  exact .inr ⟨_,_,g1,g2,s1,s2,bk.dat .refl ok .bl q⟩⟩
noncomputable def inD (d:D) (ds:List D):Bool:=ds.any fun y=>PyData.eqv (py y) (py d)
def Ej (neg:Bool):A2:=fun x y S Q=>match bG S y with
 | .tup ds=>fit (bG S x)=true∧fit (.tup ds)=true∧Q (.dat (.bl (neg != inD (bG S x) ds))) S
 | .lst ds=>fit (bG S x)=true∧fit (.lst ds)=true∧Q (.dat (.bl (neg != inD (bG S x) ds))) S
 | .yT ss=>fit (bG S x)=true∧fit (.tup (ss.map D.str))=true∧Q (.dat (.bl (neg != inD (bG S x) (ss.map D.str)))) S
 | _=>False
def Jo (K:yaM) (neg:Bool):R2:=fun x y H Q=>∃ d ds,bB K H d x∧(bB K H (.tuple ds) y∨bB K H (.list ds) y)∧shaped d=true∧PyData.canLayAll0 ds=true∧Q (.bl (neg != ds.any fun y=>PyData.eqv y d)) H
theorem Jz {k:Nat} (hr:aU k X.A):fV X (yao .In) (Jo X.K false):=by
 intro pins s σ H x y v u Q I rx ry h
 obtain ⟨d,ds,h1,h2,h3,h4,q⟩:=h
 obtain ⟨as,ra⟩:=I.reads d x v h1 rx
 have hu:=hr.un
 rcases h2 with h2 | h2
 ·obtain ⟨bs,rb⟩:=I.reads _ y u h2 ry
  exact PySem.SeqAt.in_tuple_reads rb ra h4 (canLay_of_shaped h3) (room_in_shaped h3 (by lia)) ⟨.bl _,H,I,by simp [L2.RelV],q⟩
 ·obtain ⟨bs,rb⟩:=I.reads _ y u h2 ry
  exact PySem.SeqAt.in_list_reads rb ra h4 (canLay_of_shaped h3) (room_in_shaped h3 (by lia)) ⟨.bl _,H,I,by simp [L2.RelV],q⟩
theorem zf {k:Nat} (hr:aU k X.A):fV X (yao .NotIn) (Jo X.K true):=by
 intro pins s σ H x y v u Q I rx ry h
 obtain ⟨d,ds,h1,h2,h3,h4,q⟩:=h
 obtain ⟨as,ra⟩:=I.reads d x v h1 rx
 have hu:=hr.un
 rcases h2 with h2 | h2
 ·obtain ⟨bs,rb⟩:=I.reads _ y u h2 ry
  exact PySem.SeqAt.notIn_tuple_reads rb ra h4 (canLay_of_shaped h3) (room_in_shaped h3 (by lia)) ⟨.bl _,H,I,by simp [L2.RelV],q⟩
 ·obtain ⟨bs,rb⟩:=I.reads _ y u h2 ry
  exact PySem.SeqAt.notIn_list_reads rb ra h4 (canLay_of_shaped h3) (room_in_shaped h3 (by lia)) ⟨.bl _,H,I,by simp [L2.RelV],q⟩
theorem E4 (ds:List D):eW ds=ds.map py:=by
 induction ds with
 | nil=>rfl
 | cons d ds ih=>simp [eW,ih]
theorem qY (ds:List D) (p:yan→Bool):(eW ds).any p=ds.any fun y=>p (py y):=by
 rw [E4,zcn];rfl
theorem wU {K:yaM}{H:Hp}:∀ (ss:List Str),b8 K H (eW (ss.map D.str)) (ss.map V.str)
 | []=>by simp [eW,b8]
 | s::ss=>by
  simp only [zcg,eW,b8,py,bB]
  exact ⟨_,_,rfl,rfl,wU ss⟩
theorem xq {K:yaM}{w:Wd}{H:Hp}{S:aG}{d:D}{v:V}{ss:List Str} (k:Ok K w H S) (h:Rep K w d v) (z:bG S d = .yT ss):∃ a,v = .ref a∧dI K H a (ss.map V.str):=by
 cases d <;> simp only [bG] at z
 case loc n=>split at z <;> first | (rename_i o _;cases o <;> simp [MO.d] at z) | cases z
 all_goals first | cases z | skip
 simp only [Rep] at h
 obtain ⟨a,h1,h2⟩:=h
 exact ⟨a,h1,dI.same k.base h2⟩
theorem yc {ds:List D} (h:fit (.tup ds)=true):PyData.canLayAll0 (eW ds)=true:=by
 unfold fit at h
 rw [zbH] at h
 have:=canLay_of_shaped h.2
 simpa [py,PyData.canLay0] using this
theorem CG {ds:List D} (h:fit (.lst ds)=true):PyData.canLayAll0 (eW ds)=true:=by
 unfold fit at h
 rw [zbH] at h
 have:=canLay_of_shaped h.2
 simpa [py,PyData.canLay0] using this
theorem Mv {K:yaM}{neg:Bool}:∀ x y H Q,zV K (Ej neg) x y H Q→Jo K neg x y H Q:=by
 rintro x y H Q ⟨w,d,e,S,Qa,ok,r1,r2,q,bk⟩
 unfold Ej at q
 split at q
 next ds z =>
  obtain ⟨f1,f2,q⟩:=q
  obtain ⟨g1,s1⟩:=dZ ok r1 f1
  obtain ⟨g2,s2⟩:=dZ ok r2 (by rw [z];exact f2)
  rw [z] at g2
  refine ⟨_,eW ds,g1,.inl (by simpa only [py] using g2),s1,yc f2,?_⟩
  rw [qY]
  exact bk.dat .refl ok .bl q
 next ds z =>
  obtain ⟨f1,f2,q⟩:=q
  obtain ⟨g1,s1⟩:=dZ ok r1 f1
  obtain ⟨g2,s2⟩:=dZ ok r2 (by rw [z];exact f2)
  rw [z] at g2
  refine ⟨_,eW ds,g1,.inr (by simpa only [py] using g2),s1,CG f2,?_⟩
  rw [qY]
  exact bk.dat .refl ok .bl q
 next ss z =>
  obtain ⟨f1,f2,q⟩:=q
  obtain ⟨g1,s1⟩:=dZ ok r1 f1
  obtain ⟨a,rfl,g2⟩:=xq ok r2 z
  refine ⟨_,eW (ss.map D.str),g1,.inl ?_,s1,yc f2,?_⟩
  ·simp only [bB]
   exact ⟨a,_,rfl,g2,wU ss⟩
  ·rw [qY]
   exact bk.dat .refl ok .bl q
 next=>exact q.elim
theorem Fl {k:Nat} (hr:aU k X.A):uH X (yao .In) (Ej false):=⟨m2 (Jz hr) Mv⟩
theorem xQ {k:Nat} (hr:aU k X.A):uH X (yao .NotIn) (Ej true):=⟨m2 (zf hr) Mv⟩
end
section
variable {X:Cx}{K:yaM}{w:Wd}{H:Hp}{S:aG}{d:D}{v:V}
theorem sf {ds:List D}{xs:List V}{i:Int}{e:D} (h:az K w ds xs) (q:jT ds i=some e):∃ u,jT xs i=some u∧Rep K w e u:=by
 unfold jT at q ⊢
 rw [h.length]
 cases z:Hy ds.length i with
 | none=>rw [z] at q;cases q
 | some j =>
  rw [z] at q
  exact h.get q
def oq:A2:=fun x y S Q=>match bG S x,y with
 | .lst ds,.int i=>∃ e,jT ds i=some e∧Q (.dat e) S
 | .tup ds,.int i=>∃ e,jT ds i=some e∧Q (.dat e) S
 | .str z,.int i=>z.length≤yah∧∃ c,jT z.cps.toList i=some c∧Q (.dat (.str ⟨#[c]⟩)) S
 | .lE ns,.int i=>∃ n,jT ns i=some n∧Q (.dat (.int n)) S
 | .yT ss,.int i=>∃ x,jT ss i=some x∧Q (.dat (.str x)) S
 | _,_=>False
theorem yy {α β:Type}{f:α→β}{xs:List α}{i:Int}{a:α} (h:jT xs i=some a):jT (xs.map f) i=some (f a):=by
 unfold jT at h ⊢
 rw [zbN]
 cases z:Hy xs.length i with
 | none=>rw [z] at h;cases h
 | some j =>
  rw [z] at h
  have h:xs[j]? = some a:=h
  show (xs.map f)[j]? = some (f a)
  rw [zbi,h];rfl
theorem aT:Pp X oq:=⟨fun value slice pins s σ H x y v u Q I rx ry h hs=>by
 refine L2.JU value slice pins s σ H x y v u Q I rx ry ?_ hs
 obtain ⟨w,d,e,S,Qa,ok,r1,r2,q,bk⟩:=h
 unfold oq at q
 split at q
 next ds i z =>
  obtain ⟨a,xs,rfl,h1,h2⟩:=cD ok r1 z
  obtain ⟨e',he,q⟩:=q
  obtain ⟨u',g1,g2⟩:=sf h2 he
  exact .inl ⟨a,xs,i,u',rfl,bK r2 rfl,dm.of h1,g1,bk.dat .refl ok g2 q⟩
 next ds i z =>
  obtain ⟨a,xs,rfl,h1,h2⟩:=eV ok r1 z
  obtain ⟨e',he,q⟩:=q
  obtain ⟨u',g1,g2⟩:=sf h2 he
  exact .inr (.inl ⟨a,xs,i,u',rfl,bK r2 rfl,dI.of h1,g1,bk.dat .refl ok g2 q⟩)
 next y i z =>
  obtain ⟨hl,c,hc,q⟩:=q
  exact .inr (.inr ⟨y,i,c,bS r1 z,bK r2 rfl,hl,hc,bk.dat .refl ok .str q⟩)
 next ns i z =>
  obtain ⟨a,rfl,h1⟩:=ig ok r1 z
  obtain ⟨n,hn,q⟩:=q
  exact .inl ⟨a,_,i,.int n,rfl,bK r2 rfl,h1,yy hn,bk.dat .refl ok .int q⟩
 next ss i z =>
  obtain ⟨a,rfl,h1⟩:=xq ok r1 z
  obtain ⟨x,hx,q⟩:=q
  exact .inr (.inl ⟨a,_,i,.str x,rfl,bK r2 rfl,h1,yy hx,bk.dat .refl ok .str q⟩)
 next=>exact q.elim⟩
noncomputable def cutD {α:Type} (xs:List α) (lo hi:Option Int):List α:=(xs.drop (HT.b6 xs.length 0 lo)).take (HT.b6 xs.length xs.length hi - HT.b6 xs.length 0 lo)
theorem mD {ds:List D}{xs:List V} (h:az K w ds xs) (lo hi:Option Int):az K w (cutD ds lo hi) (tK xs lo hi):=by
 unfold cutD tK
 rw [h.length]
 exact (h.drop _).take _
end
section
variable {prog:yak}{w:yal}{A:yam}{E:yaj→yai→Prop}{s:yai}
theorem iK {t sl:Addr}{items:Array yaj}{vl vu:yaj}{lo hi:Option Int}{Q:yaj→yai→Prop} (ht:IsTup s.heap t items) (hs:s.heap.IsSliceOf sl vl vu .none) (pl:IsPart vl lo) (pu:IsPart vu hi)
  (hw:HT.b6 items.size 0 lo=0∧HT.b6 items.size items.size hi=items.size) (h:Q (.ref t) s):yas (model prog w) A (getItem (.ref t) (.ref sl)) Q E s:=by
 obtain ⟨os,hos,hcs,hds⟩:=id hs
 have hTs:s.TypeIs (.ref sl) "slice" := ⟨os,hos,hcs⟩
 unfold getItem
 try with_reducible refine yad ?_
 first | refine yaa (yab ?_) | skip
 refine yaa (wpAny_sequenceKey ht.typeIs (by decide) ?_)
 refine yaa (wpAny_callSpecial?_slot (name:=Str.ofString "__getitem__") ht.typeIs PyProof.Rows.slot_tuple_getitem
  (wpAny_call_entry PyProof.Rows.slot_tuple_getitem ht.typeIs PyProof.Rows.entry_tuple_getitem ?_ (PyProof.Rows.args_tuple_getitem _ _)))
 show yas _ _ (Builtin.Tuple.tupleItemsOf (.ref t) >>= _) _ _ s
 refine yaa (PyProof.Rows.tupleItemsOf_ ht ?_)
 refine yaa (wpAny_typeOf hTs ?_)
 rw [yIp (by decide)]
 refine yaa (HT.fH hs pl pu ?_)
 have hyes:(((HT.b6 items.size 0 lo:Nat):Int)==0&&(1:Int)==1&&(HT.b6 items.size items.size hi - HT.b6 items.size 0 lo)==items.size)=true:=by
  rw [hw.1,hw.2];simp
 show yas _ _ (if (((HT.b6 items.size 0 lo:Nat):Int)==0&&(1:Int)==1&&(HT.b6 items.size items.size hi - HT.b6 items.size 0 lo)==items.size)=true then _ else _) _ _ s
 rw [yIp hyes]
 refine yaa (m:=Builtin.Tuple.tupleIsExact (.ref t)) ?_
 unfold Builtin.Tuple.tupleIsExact
 refine yaa (wpAny_typeOf ht.typeIs (yab ?_))
 rw [yIp (by decide)]
 exact yaa (wpAny_rule (yab ⟨_,rfl,yab h⟩))
end
section
variable {X:Cx}{K:yaM}{w:Wd}{H:Hp}{S:aG}{d:D}{v:V}
def tX:D→Option Int→Option Int→aG→AK→Prop:=fun x lo hi S Q=>match bG S x with
 | .lst ds=>Q (.new (.lst (cutD ds lo hi))) S
 | .tup ds=>Q (.dat (.tup (cutD ds lo hi))) S
 | .str z=>z.length≤yah∧Q (.dat (.str (Txt.slice z lo hi))) S
 | .lE ns=>Q (.new (.lst ((cutD ns lo hi).map D.int))) S
 | _=>False
def NU (K:yaM):V→Option Int→Option Int→Hp→VK→Prop:=fun x lo hi H Q=>∃ a xs,x = .ref a∧dI K H a xs∧(HT.b6 xs.length 0 lo=0∧HT.b6 xs.length xs.length hi=xs.length)∧Q (.ref a) H
theorem Be:Ek X (NU X.K):=by
 intro pins s σ H x v vl vu lo hi sl Q I rx hs pl pu h
 obtain ⟨a,xs,rfl,hx,hw,q⟩:=h
 cases rx
 obtain ⟨its,r,ht,hz⟩:=I.tuple hx
 have hlen:its.toArray.size=xs.length:=by rw [zbg];exact r.length.symm
 refine ⟨"tuple",_,PyProof.Rows.slot_tuple_getitem.lookup,ht.typeIs,?_⟩
 exact iK ht hs pl pu (by rw [hlen];exact hw) ⟨.ref a,H,I,rfl,q⟩
theorem zT {α:Type}{xs:List α}{lo hi:Option Int} (h:HT.b6 xs.length 0 lo=0∧HT.b6 xs.length xs.length hi=xs.length):cutD xs lo hi=xs:=by
 unfold cutD
 rw [h.1,h.2];simp
theorem qS {α β:Type} (f:α→β) (xs:List α) (lo hi:Option Int):cutD (xs.map f) lo hi=(cutD xs lo hi).map f:=by
 unfold cutD
 rw [zbN,List.map_take,List.map_drop]
theorem kj {w:Wd}:∀ (ns:List Int),az K w (ns.map D.int) (ns.map V.int)
 | []=>.nil
 | n::ns=>.cons .int (kj ns)
theorem kN:Po X tX:=⟨by
 intro pins s σ H x v vl vu lo hi sl Q I rx hs pl pu h
 refine (L2.EB.or (L2.Iz.or (Be.or L2.IA))) pins s σ H x v vl vu lo hi sl Q I rx hs pl pu ?_
 obtain ⟨w,d,S,Qa,ok,r1,q,bk⟩:=h
 unfold tX at q
 split at q
 next ds z =>
  obtain ⟨a,xs,rfl,h1,h2⟩:=cD ok r1 z
  exact .inl ⟨a,xs,rfl,dm.of h1,fun p hp=>bk (.new (.lst _)) S _ w _ .refl (ok.alloc hp) (ok.fresh hp ⟨_,rfl,mD h2 lo hi⟩) q⟩
 next ds z =>
  obtain ⟨a,xs,rfl,h1,h2⟩:=eV ok r1 z
  by_cases hw:HT.b6 xs.length 0 lo=0∧HT.b6 xs.length xs.length hi=xs.length
  ·refine .inr (.inr (.inl ⟨a,xs,rfl,dI.of h1,hw,?_⟩))
   rw [h2.length] at hw
   rw [zT hw] at q
   cases d <;> simp only [bG] at z
   case tup=>cases z;exact bk.dat .refl ok r1 q
   case loc n=>split at z <;> first | (rename_i o _;cases o <;> simp [MO.d] at z) | cases z
   all_goals cases z
  ·refine .inr (.inl ⟨a,xs,rfl,dI.of h1,hw,fun p hp => ?_⟩)
   obtain ⟨w2,le2,ok2,rep2⟩:=ok.ng hp (mD h2 lo hi)
   exact bk.dat le2 ok2 rep2 q
 next y z=>exact .inr (.inr (.inr ⟨y,bS r1 z,q.1,bk.dat .refl ok .str q.2⟩))
 next ns z =>
  obtain ⟨a,rfl,h1⟩:=ig ok r1 z
  refine .inl ⟨a,_,rfl,h1,fun p hp=>bk (.new (.lst _)) S _ w _ .refl (ok.alloc hp) (ok.fresh hp ⟨_,rfl,?_⟩) q⟩
  have:=mD (kj (K:=X.K) (w:=w) ns) lo hi
  rw [qS] at this
  exact this
 next=>exact q.elim⟩
def MD:A2:=fun x y S Q=>match bG S x,y with
 | .int i,.int j=>Ar i j∧Q (.dat (.int (i*j))) S
 | .lst ds,.int k=>(-(2 ^ 63)≤k∧k<2 ^ 63)∧ds.length*k.toNat≤yah∧Q (.new (.lst (zca k.toNat ds).flatten)) S
 | .str z,.int n=>MulOk z n∧Q (.dat (.str (Txt.mul z n))) S
 | _,_=>False
theorem se {ds:List D}{xs:List V} (h:az K w ds xs):∀ k:Nat,az K w (zca k ds).flatten (zca k xs).flatten
 | 0=>.nil
 | k+1=>by
  rw [zaK,zaK,zbk,zbk]
  exact h.append (se h k)
theorem Ht:uH X (binaryOp .Mult) MD:=⟨m2 (Ho L2.gc (Ho L2.Ju L2.vp)) fun x y H Q h=>by
 obtain ⟨w,d,e,S,Qa,ok,r1,r2,q,bk⟩:=h
 unfold MD at q
 split at q
 next i j z=>exact .inl ⟨i,j,cP r1 z,bK r2 rfl,q.1,bk.dat .refl ok .int q.2⟩
 next ds k z =>
  obtain ⟨a,xs,rfl,h1,h2⟩:=cD ok r1 z
  obtain ⟨⟨g1,g2⟩,hl,q⟩:=q
  refine .inr (.inl ⟨a,k,xs,rfl,bK r2 rfl,h1,g1,g2,by rw [h2.length];exact hl,fun p hp => ?_⟩)
  exact bk (.new (.lst _)) S _ w _ .refl (ok.alloc hp) (ok.fresh hp ⟨_,rfl,se h2 k.toNat⟩) q
 next y n z=>exact .inr (.inr ⟨y,n,bS r1 z,bK r2 rfl,q.1,bk.dat .refl ok .str q.2⟩)
 next=>exact q.elim⟩
end
mutual
noncomputable def iN (n:Nat):D→Bool
 | .loc m=>decide (m<n)
 | .tup ds | .lst ds | .dct _ ds=>jS n ds
 | _=>true
noncomputable def jS (n:Nat):List D→Bool
 | []=>true
 | d::ds=>iN n d&&jS n ds
end
noncomputable def oM (n:Nat):MO→Bool
 | .lst ds=>jS n ds
 | .dct _ ds=>jS n ds
 | .feed _=>true
 | .ins _ _ ds=>jS n ds
 | .Eh _ ks=>jS n ks
mutual
theorem yo (n:Nat):∀ d:D,ck d=true→iN n d=true
 | .bw,_=>by simp [iN]
 | .bl _,_=>by simp [iN]
 | .int _,_=>by simp [iN]
 | .str _,_=>by simp [iN]
 | .tup ds,h=>by simp only [iN];exact fO n ds (by simpa [ck] using h)
 | .lst ds,h=>by simp only [iN];exact fO n ds (by simpa [ck] using h)
 | .dct _ _,h=>by simp [ck] at h
 | .loc _,h=>by simp [ck] at h
 | .ty _,h=>by simp [ck] at h
 | .lE _,h=>by simp [ck] at h
 | .yT _,_=>by simp [iN]
 | .fd,h=>by simp [ck] at h
 | .fn _,h=>by simp [ck] at h
theorem fO (n:Nat):∀ ds:List D,cK ds=true→jS n ds=true
 | [],_=>by simp [jS]
 | d::ds,h=>by
  simp only [cK,zbH] at h
  simp only [jS,zbH]
  exact ⟨yo n d h.1,fO n ds h.2⟩
end
noncomputable def iQ (n:Nat) (w:Wd):Wd:=⟨w.B,fun k=>if k<n then w.r k else none⟩
section
variable {K:yaM}{w w1:Wd}{H H1:Hp}{S S0 S1:aG}
mutual
theorem oX (n:Nat):∀ (d:D) (v:V),iN n d=true→Rep K w d v→Rep K (iQ n w) d v
 | .bw,_,_,h=>by simpa [Rep] using h
 | .bl _,_,_,h=>by simpa [Rep] using h
 | .int _,_,_,h=>by simpa [Rep] using h
 | .str _,_,_,h=>by simpa [Rep] using h
 | .ty _,_,_,h=>by simpa [Rep] using h
 | .fd,_,_,h=>by simpa [Rep] using h
 | .fn _,_,_,h=>by simpa [Rep] using h
 | .lE _,_,_,h=>by simpa [Rep,iQ] using h
 | .yT _,_,_,h=>by simpa [Rep,iQ] using h
 | .loc m,v,hb,h=>by
  simp only [iN,decide_eq_true_eq] at hb
  simp only [Rep] at h ⊢
  obtain ⟨a,h1,h2⟩:=h
  exact ⟨a,by show (if m<n then w.r m else none)=_;rw [yIp hb];exact h1,h2⟩
 | .tup ds,v,hb,h=>by
  simp only [Rep] at h ⊢
  obtain ⟨a,xs,h1,h2,h3⟩:=h
  exact ⟨a,xs,h1,h2,cy n ds xs (by simpa [iN] using hb) h3⟩
 | .lst ds,v,hb,h=>by
  simp only [Rep] at h ⊢
  obtain ⟨a,xs,h1,h2,h3⟩:=h
  exact ⟨a,xs,h1,h2,cy n ds xs (by simpa [iN] using hb) h3⟩
 | .dct ks ds,v,hb,h=>by
  simp only [Rep] at h ⊢
  obtain ⟨a,xs,h1,h2,h3,h4⟩:=h
  exact ⟨a,xs,h1,h2,h3,cy n ds _ (by simpa [iN] using hb) h4⟩
theorem cy (n:Nat):∀ (ds:List D) (vs:List V),jS n ds=true→az K w ds vs→az K (iQ n w) ds vs
 | [],_,_,h=>by simpa [az] using h
 | d::ds,vs,hb,h=>by
  simp only [jS,zbH] at hb
  simp only [az] at h ⊢
  obtain ⟨x,r,h1,h2,h3⟩:=h
  exact ⟨x,r,h1,oX n d x hb.1 h2,cy n ds r hb.2 h3⟩
end
mutual
theorem EW (n:Nat) (ht:∀ k,n≤k→w.r k=none):∀ (d:D) (v:V),Rep K w d v→iN n d=true
 | .bw,_,_=>by simp [iN]
 | .bl _,_,_=>by simp [iN]
 | .int _,_,_=>by simp [iN]
 | .str _,_,_=>by simp [iN]
 | .ty _,_,_=>by simp [iN]
 | .fd,_,_=>by simp [iN]
 | .fn _,_,_=>by simp [iN]
 | .lE _,_,_=>by simp [iN]
 | .yT _,_,_=>by simp [iN]
 | .loc m,v,h=>by
  simp only [Rep] at h
  obtain ⟨a,h1,h2⟩:=h
  simp only [iN,decide_eq_true_eq]
  rcases zcu m n with q | q
  ·exact q
  ·rw [ht m q] at h1;cases h1
 | .tup ds,v,h=>by
  simp only [Rep] at h
  obtain ⟨a,xs,h1,h2,h3⟩:=h
  simp only [iN];exact dG n ht ds xs h3
 | .lst ds,v,h=>by
  simp only [Rep] at h
  obtain ⟨a,xs,h1,h2,h3⟩:=h
  simp only [iN];exact dG n ht ds xs h3
 | .dct ks ds,v,h=>by
  simp only [Rep] at h
  obtain ⟨a,xs,h1,h2,h3,h4⟩:=h
  simp only [iN];exact dG n ht ds _ h4
theorem dG (n:Nat) (ht:∀ k,n≤k→w.r k=none):∀ (ds:List D) (vs:List V),az K w ds vs→jS n ds=true
 | [],_,_=>by simp [jS]
 | d::ds,vs,h=>by
  simp only [az] at h
  obtain ⟨x,r,h1,h2,h3⟩:=h
  simp only [jS,zbH]
  exact ⟨EW n ht d x h2,dG n ht ds r h3⟩
end
theorem i7 (n:Nat):∀ {o:MO}{u:HO},oM n o=true→jV K w o u→jV K (iQ n w) o u
 | .lst ds,u,hb,⟨xs,h1,h2⟩=>⟨xs,h1,cy n ds xs hb h2⟩
 | .dct ks ds,u,hb,⟨xs,h1,h2,h3⟩=>⟨xs,h1,h2,cy n ds _ hb h3⟩
 | .feed _,u,_,h=>h
 | .ins C ks ds,u,hb,⟨dx,fs,h1,h2,h3⟩=>⟨dx,fs,h1,h2,cy n ds _ hb h3⟩
 | .Eh F ks,u,hb,⟨a,bs,h1,h2⟩=>⟨a,bs,h1,cy n ks _ hb h2⟩
theorem BI (n:Nat) (ht:∀ k,n≤k→w.r k=none):∀ {o:MO}{u:HO},jV K w o u→oM n o=true
 | .lst ds,u,⟨xs,h1,h2⟩=>dG n ht ds xs h2
 | .dct ks ds,u,⟨xs,h1,h2,h3⟩=>dG n ht ds _ h3
 | .feed _,u,h=>rfl
 | .ins C ks ds,u,⟨dx,fs,h1,h2,h3⟩=>dG n ht ds _ h3
 | .Eh F ks,u,⟨a,bs,h1,h2⟩=>dG n ht ks _ h2
noncomputable def out (n:Nat) (S1:aG):R→Option R
 | .dat (.loc m)=>if m<n then some (.dat (.loc m)) else match S1[m]? with
  | some (some o)=>if oM n o=true then some (.new o) else none
  | _=>none
 | .dat d=>if iN n d=true then some (.dat d) else none
 | .new o=>if oM n o=true then some (.new o) else none
def chg (S0 S1:aG):Prop:=∀ k o,k<S0.length→S1[k]? = some (some o)→S0[k]? = some (some o)∨oM S0.length o=true
def ret (S0 S1:aG) (r:R) (Q:AK):Prop:=∃ r',out S0.length S1 r=some r'∧chg S0 S1∧Q r' (S1.take S0.length)
theorem BF {r:R}{v:V}{Qa:AK}{Q:VK} (ok:Ok K w H S0) (le:w.le w1) (ok1:Ok K w1 H1 S1) (rep:wm K w1 H1 S1 r v) (h:ret S0 S1 r Qa) (bk:dQ K w Qa Q):Q v H1:=by
 obtain ⟨r',ho,hc,q⟩:=h
 generalize hn:S0.length=n at *
 have lt:∀ k a,w.r k=some a→k<n:=fun k a e=>by
  rcases zcu k n with z | z
  ·exact z
  ·rw [ok.top k (by lia)] at e;cases e
 have at_:∀ k o,(S1.take n)[k]? = some (some o)→k<n∧S1[k]? = some (some o):=fun k o e=>by
  rw [List.getElem?_take] at e
  by_cases z:k<n
  ·rw [yIp z] at e;exact ⟨z,e⟩
  ·rw [yIn z] at e;cases e
 have le2:w.le (iQ n w1):=⟨le.b,fun k a e=>by show (if k<n then w1.r k else none)=_;rw [yIp (lt k a e)];exact le.r k a e⟩
 have bl:∀ k o,k<n→S1[k]? = some (some o)→oM n o=true:=fun k o hk e=>by
  rcases hc k o (by lia) e with z | z
  ·obtain ⟨a,u,_,_,_,h4⟩:=ok.live k o z
   exact BI n (fun k hk=>ok.top k (by lia)) h4
  ·rw [hn] at z;exact z
 have ok2:Ok K (iQ n w1) H1 (S1.take n):=⟨ok1.base,fun k o e=>by
   obtain ⟨hk,e⟩:=at_ k o e
   obtain ⟨a,u,h1,h2,h3,h4⟩:=ok1.live k o e
   exact ⟨a,u,by show (if k<n then w1.r k else none)=_;rw [yIp hk];exact h1,h2,h3,i7 n (bl k o hk e) h4⟩,
  fun k m o o' e e' z=>by
   obtain ⟨hk,e⟩:=at_ k o e
   obtain ⟨hm,e'⟩:=at_ m o' e'
   have z:(if k<n then w1.r k else none)=(if m<n then w1.r m else none):=z
   rw [yIp hk,yIp hm] at z
   exact ok1.inj k m o o' e e' z,
  fun k hk=>by
   show (if k<n then w1.r k else none)=none
   by_cases z:k<n
   ·rw [yIp z]
    rw [zby] at hk
    exact ok1.top k (by lia)
   ·rw [yIn z]⟩
 refine bk r' (S1.take n) v (iQ n w1) H1 le2 ok2 ?_ q
 have fresh:∀ m o a,n≤m→S1[m]? = some (some o)→w1.r m=some a→∀ k o',(S1.take n)[k]? = some (some o')→(iQ n w1).r k≠some a:=fun m o a hm e ha k o' e' z=>by
  obtain ⟨hk,e'⟩:=at_ k o' e'
  have z:(if k<n then w1.r k else none)=some a:=z
  rw [yIp hk] at z
  have:=ok1.inj k m o' o e' e (z.trans ha.symm)
  lia
 cases r with
 | new o =>
  simp only [out] at ho
  split at ho
  next hb =>
   cases ho
   obtain ⟨a,u,rfl,h1,h2,h3,h4⟩:=rep
   refine ⟨a,u,rfl,h1,h2,i7 n hb h3,fun k o' e z => ?_⟩
   obtain ⟨hk,e⟩:=at_ k o' e
   have z:(if k<n then w1.r k else none)=some a:=z
   rw [yIp hk] at z
   exact h4 k o' e z
  next=>cases ho
 | dat d =>
  have gen:(if iN n d=true then some (R.dat d) else none)=some r'→wm K (iQ n w1) H1 (S1.take n) r' v:=fun ho=>by
   split at ho
   next hb=>cases ho;exact oX n d v hb rep
   next=>cases ho
  cases d with
  | loc m =>
   simp only [out] at ho
   split at ho
   next hm=>exact gen (by simp [iN,hm,ho])
   next hm =>
    have hm:n≤m:=by lia
    split at ho
    next o e =>
     split at ho
     next hb =>
      cases ho
      have rep:Rep K w1 (.loc m) v:=rep
      simp only [Rep] at rep
      obtain ⟨a,ha,rfl⟩:=rep
      obtain ⟨a',u,h1,h2,h3,h4⟩:=ok1.live m o e
      rw [ha] at h1;cases h1
      exact ⟨a,u,rfl,h2,h3,i7 n hb h4,fresh m o a hm e ha⟩
     next=>cases ho
    next=>cases ho
  | _=>exact gen (by simpa only [out] using ho)
end
noncomputable def aM (N:List Str) (ds:List D):bE:=ds.map some++zca (N.length - ds.length) none
theorem iE {K:yaM}{w:Wd}{N:List Str}{ds:List D}{vs:List V} (h:az K w ds vs):ee K w (aM N ds) (L2.start N vs):=by
 have hl:=h.length
 refine ⟨by simp [aM,L2.start,hl],fun i d e => ?_⟩
 unfold aM at e
 by_cases hi:i<ds.length
 ·rw [zag (by simpa using hi),zbi] at e
  cases z:ds[i]? with
  | none=>rw [z] at e;cases e
  | some d' =>
   rw [z] at e
   have e:d'=d:=by simpa using e
   subst e
   obtain ⟨v,h1,h2⟩:=h.get z
   refine ⟨v,?_,h2⟩
   unfold L2.start
   rw [zag (by rw [zbN,hl];exact hi),zbi,h1];rfl
 ·rw [zab (by simpa using hi),List.getElem?_replicate] at e
  split at e <;> cases e
section
variable {P:yak}{w:yal}{K:yaM}{mg:Str→Option yaj}{base:Heap}
theorem CO {x:Str}{st:Stmt}{N ps:List Str}{k:Nat}{sp:AN} (F:Src K mg x ps st) (S:aE N ps (ai st)) (len:∀ ds S Q,sp ds S Q→ds.length=ps.length)
  (hbody:∀ (f:Addr) (cdv:yaj) (A:yam) (outer:List Env) (s:yai) (H:Hp) (E:XK),aU k (A.deeper (envOfC x (ai st) s.heap.objs.size f cdv)) →
   ∃ a,Aq (d7 iZ P w K mg base N x (ai st) f cdv A outer s H E).Ed (aV st) a∧∀ ds S Q,sp ds S Q→a { nx:=fun _ S'=>ret S S' (.dat .bw) Q,rt:=fun r S'=>ret S S' r Q } (aM N ds) S):Def P w K mg base (k+1) x ps (bf K sp) :=
 F.def S (fun vs H Q E h=>by
  obtain ⟨w,ds,S,Qa,ok,rep,q,bk⟩:=h
  rw [rep.length];exact len ds S Qa q) fun f cdv A outer s H vs Q E hr h=>by
  obtain ⟨a,ha,hd⟩:=hbody f cdv A outer s H E hr
  obtain ⟨w,ds,S,Qa,ok,rep,q,bk⟩:=h
  refine ⟨_,ha.p,w,aM N ds,S,_,ok,iE rep,hd ds S Qa q,⟨fun δ S' σ w' H' le ok' env q' => ?_,fun r S' v w' H' le ok' rep' q' => ?_,fun _ _ _ _ _ _ _ _ z=>z.elim,fun _ _ _ _ _ _ _ _ z=>z.elim⟩⟩
  ·exact BF (r:=.dat .bw) (v:=.bw) ok le ok' (show Rep K w' .bw .bw from .bw) q' bk
  ·exact BF ok le ok' rep' q' bk
end
section
variable {X:Cx}{K:yaM}{w:Wd}{H:Hp}{S:aG}{d:D}{v:V}
theorem gC {vs:List V} (h:az K w [d] vs):∃ v,vs=[v]∧Rep K w d v:=by
 simp only [az] at h
 obtain ⟨x,r,rfl,h1,rfl⟩:=h
 exact ⟨x,rfl,h1⟩
theorem xJ {e:D}{vs:List V} (h:az K w [d,e] vs):∃ v u,vs=[v,u]∧Rep K w d v∧Rep K w e u:=by
 simp only [az] at h
 obtain ⟨x,r,rfl,h1,y,r',rfl,h2,rfl⟩:=h
 exact ⟨x,y,rfl,h1,h2⟩
noncomputable def vH:D→Option Nat
 | .lst ds=>some ds.length
 | .tup ds=>some ds.length
 | .lE ns=>some ns.length
 | .dct ks _=>some ks.length
 | .str z=>if z.length≤yah then some z.length else none
 | _=>none
def MG:AN:=fun ds S Q=>∃ d n,ds=[d]∧vH (bG S d)=some n∧Q (.dat (.int n)) S
theorem fK:DY X (.builtin "len") MG:=⟨mC (orC L2.tU L2.z7) fun xs H Q h=>by
 obtain ⟨w,ds,S,Qa,ok,rep,⟨d,n,rfl,e,q⟩,bk⟩:=h
 obtain ⟨v,rfl,r1⟩:=gC rep
 cases z:bG S d with
 | lst ds =>
  rw [z] at e
  have e:ds.length=n:=by simpa [vH] using e
  obtain ⟨a,xs,rfl,h1,h2⟩:=cD ok r1 z
  exact .inl ⟨_,n,rfl,.inl ⟨xs,dm.of h1,by rw [h2.length,e]⟩,bk.dat .refl ok .int q⟩
 | tup ds =>
  rw [z] at e
  have e:ds.length=n:=by simpa [vH] using e
  obtain ⟨a,xs,rfl,h1,h2⟩:=eV ok r1 z
  exact .inl ⟨_,n,rfl,.inr ⟨xs,dI.of h1,by rw [h2.length,e]⟩,bk.dat .refl ok .int q⟩
 | lE ns =>
  rw [z] at e
  have e:ns.length=n:=by simpa [vH] using e
  obtain ⟨a,rfl,h1⟩:=ig ok r1 z
  exact .inl ⟨_,n,rfl,.inl ⟨_,h1,by rw [zbN,e]⟩,bk.dat .refl ok .int q⟩
 | str y =>
  rw [z] at e
  simp only [vH] at e
  split at e
  next hl =>
   cases e
   exact .inl ⟨_,_,rfl,(by rw [bS r1 z];exact ⟨hl,rfl⟩),bk.dat .refl ok .int q⟩
  next=>cases e
 | dct ks ds =>
  rw [z] at e
  have e:ks.length=n:=by simpa [vH] using e
  obtain ⟨a,kvs,rfl,h1,h2,_⟩:=ir ok r1 z
  refine .inr ⟨a,kvs,rfl,h1,?_⟩
  rw [← zbN (f:=(·.1)),h2,e]
  exact bk.dat .refl ok .int q
 | _=>rw [z] at e;simp [vH] at e⟩
noncomputable def tyD:D→Option String
 | .bw=>some "NoneType"
 | .bl _=>some "bool"
 | .int _=>some "int"
 | .str _=>some "str"
 | .tup _=>some "tuple"
 | .lst _=>some "list"
 | _=>none
noncomputable def Oq (d:D) (T:String):Option Bool:=(tyD d).bind fun t=>if T == "str" || T == "int" || T == "bool" || T == "tuple" || T == "list" then some (t==T||(t == "bool" && T == "int")) else none
def OV:AN:=fun ds S Q=>∃ d T b,ds=[d,.ty T]∧Oq (bG S d) T=some b∧Q (.dat (.bl b)) S
def yD:AN:=fun ds S Q=>∃ d,ds=[d]∧ck (bG S d)=true∧(py (bG S d)).showable=true∧(py (bG S d)).depth≤100∧(py (bG S d)).shown.length≤yah∧Q (.dat (.str (py (bG S d)).shown)) S
theorem qC {k:Nat} (hr:aU k X.A):DY X (.builtin "repr") yD:=⟨mC (L2.zX hr) fun xs H Q h=>by
 obtain ⟨w,ds,S,Qa,ok,rep,⟨d,rfl,h1,h2,h3,h4,q⟩,bk⟩:=h
 obtain ⟨v,rfl,r1⟩:=gC rep
 exact ⟨v,_,rfl,qi ok r1 h1,h2,h3,h4,bk.dat .refl ok .str q⟩⟩
def Gw:AN:=fun ds S Q=>∃ d,ds=[d]∧match bG S d with
 | .lst es=>Q (.new (.lst es)) S
 | .tup es=>Q (.new (.lst es)) S
 | .lE ns=>Q (.new (.lst (ns.map D.int))) S
 | _=>False
theorem m8:DY X (.type "list") Gw:=⟨mC L2.qU fun xs H Q h=>by
 obtain ⟨w,ds,S,Qa,ok,rep,⟨d,rfl,q⟩,bk⟩:=h
 obtain ⟨v,rfl,r1⟩:=gC rep
 split at q
 next es z =>
  obtain ⟨a,xs,rfl,h1,h2⟩:=cD ok r1 z
  exact ⟨a,xs,rfl,.inl (dm.of h1),fun p hp=>bk (.new (.lst _)) S _ w _ .refl (ok.alloc hp) (ok.fresh hp ⟨_,rfl,h2⟩) q⟩
 next es z =>
  obtain ⟨a,xs,rfl,h1,h2⟩:=eV ok r1 z
  exact ⟨a,xs,rfl,.inr (dI.of h1),fun p hp=>bk (.new (.lst _)) S _ w _ .refl (ok.alloc hp) (ok.fresh hp ⟨_,rfl,h2⟩) q⟩
 next ns z =>
  obtain ⟨a,rfl,h1⟩:=ig ok r1 z
  exact ⟨a,_,rfl,.inl h1,fun p hp=>bk (.new (.lst _)) S _ w _ .refl (ok.alloc hp) (ok.fresh hp ⟨_,rfl,kj ns⟩) q⟩
 next=>exact q.elim⟩
def Dw:AN:=fun ds S Q=>∃ d,ds=[d]∧match bG S d with
 | .lst es=>Q (.dat (.tup es)) S
 | .tup es=>Q (.dat (.tup es)) S
 | _=>False
theorem kr:DY X (.type "tuple") Dw:=⟨mC L2.oK fun xs H Q h=>by
 obtain ⟨w,ds,S,Qa,ok,rep,⟨d,rfl,q⟩,bk⟩:=h
 obtain ⟨v,rfl,r1⟩:=gC rep
 split at q
 next es z =>
  obtain ⟨a,xs,rfl,h1,h2⟩:=cD ok r1 z
  refine ⟨a,xs,rfl,.inl ⟨dm.of h1,fun p hp => ?_⟩⟩
  obtain ⟨w2,le2,ok2,rep2⟩:=ok.ng hp h2
  exact bk.dat le2 ok2 rep2 q
 next es z =>
  obtain ⟨a,xs,rfl,h1,h2⟩:=eV ok r1 z
  refine ⟨a,xs,rfl,.inr ⟨dI.of h1,?_⟩⟩
  cases d <;> simp only [bG] at z
  case tup=>cases z;exact bk.dat .refl ok r1 q
  case loc n=>split at z <;> first | (rename_i o _;cases o <;> simp [MO.d] at z) | cases z
  all_goals cases z
 next=>exact q.elim⟩
def ME:AN:=fun ds S Q=>∃ i j,ds=[.int i,.int j]∧Q (.dat (.int (if j<i then j else i))) S
theorem JE (hc:X.calm=true):DY X (.builtin "min") ME:=⟨mC (L2.zY hc) fun xs H Q h=>by
 obtain ⟨w,ds,S,Qa,ok,rep,⟨i,j,rfl,q⟩,bk⟩:=h
 obtain ⟨v,u,rfl,r1,r2⟩:=xJ rep
 exact ⟨i,j,by rw [bK r1 rfl,bK r2 rfl],bk.dat .refl ok .int q⟩⟩
theorem oV:∀ {ns:List Str}{xs:List V},az K w (ns.map D.str) xs→xs=ns.map V.str
 | [],_,h=>by simpa [az] using h
 | n::ns,xs,h=>by
  simp only [zcg,az,Rep] at h
  obtain ⟨x,r,rfl,rfl,h⟩:=h
  rw [oV h];rfl
end
abbrev AM:=D→List D→aG→AK→Prop
structure O1 (X:Cx) (id:String) (r:AM):Prop where
 p:GP X id (Ms X.K r)
def vK (T:String):D→Prop
 | .lst _=>T = "list"
 | .str _=>T = "str"
 | .lE _=>T = "list"
 | .dct _ _=>T = "dict"
 | _=>False
def KJ (T:String) (r:AM) (a:AE) (b:AA):AE:=fun δ S Q=>a δ S fun x S1=>vK T (bG S1 x.d)∧b δ S1 fun ds S2=>r x.d ds S2 Q
section
variable {X:Cx}{K:yaM}{w:Wd}{H:Hp}{S:aG}{d:D}{v:V}
theorem Le {T:String} (ok:Ok K w H S) (h:Rep K w d v) (t:vK T (bG S d)):Nv K T v H:=by
 cases z:bG S d with
 | lst ds =>
  rw [z] at t;cases t
  obtain ⟨a,xs,rfl,h1,h2⟩:=cD ok h z
  exact .inl ⟨rfl,xs,dm.of h1⟩
 | str y=>rw [z] at t;cases t;rw [bS h z];exact rfl
 | lE ns =>
  rw [z] at t;cases t
  obtain ⟨a,rfl,h1⟩:=ig ok h z
  exact .inl ⟨rfl,_,h1⟩
 | dct ks ds =>
  rw [z] at t;cases t
  obtain ⟨a,kvs,rfl,h1,_⟩:=ir ok h z
  exact .inr (.inr (.inl ⟨rfl,.inl ⟨kvs,h1⟩⟩))
 | _=>rw [z] at t;exact t.elim
theorem NO {T:String}{r:AM}{a:AE}{b:AA}:∀ σ H Q,bF K (KJ T r a b) σ H Q→MY K T (Ms K r) (bF K a) (nP K b) σ H Q:=by
 rintro σ H Q ⟨w,δ,S,Qa,ok,env,q,bk⟩
 refine ⟨w,δ,S,_,ok,env,q,.go fun r1 S1 v1 w1 H1 le1 ok1 rep1 ⟨ty,q1⟩=>⟨Le ok1 rep1 ty,?_⟩⟩
 refine ⟨w1,δ,S1,_,ok1,env.le le1,q1,fun ds S2 vs w2 H2 le2 ok2 rep2 q2 => ?_⟩
 exact ⟨w2,r1.d,ds,S2,Qa,ok2,rep1.le le2,rep2,q2,bk.le (le1.trans le2)⟩
theorem mY {o e:Expr}{es:List Expr}{to:AE}{t:AA}{name:Str}{apos cpos:Pos}{T id:String}{r:AM} (pa:PlainAttrs T) (slot:Slot T name id) (hty:typeOf (.builtin id)=pure (.type "method_descriptor")) (hm:O1 X id r) (ho:GE X o to) (ha:GA X (e::es) t)
  (hbase:attributeBase o name X.env (eval o X.env)=eval o X.env:=by rfl) (hs:(e::es).all notStar=true:=by rfl) (hfew:decide ((e::es).length+0+0<30)=true:=by rfl)
  (hline:(apos.endLine==cpos.line)=true:=by rfl):GE X (.Call (.Attribute o name apos) (e::es) [] cpos) (KJ T r to t):=⟨mE (L2.mV pa slot hty hm.p ho.p ha.p hbase hs hfew hline) NO⟩
theorem mM {id:String}{t u:V→List V→Hp→VK→Prop} (h:GP X id t) (m:∀ x xs H Q,u x xs H Q→t x xs H Q):GP X id u:=fun pins s σ H x xs v us Q I rx rs q=>h pins s σ H x xs v us Q I rx rs (m x xs H Q q)
theorem JN {n:Nat}{ds:List D} (ok:Ok K w H S) (h:Rep K w (.loc n) v) (e:S[n]? = some (some (.lst ds))):∃ a xs,v = .ref a∧w.r n=some a∧H a=some (.lst xs)∧az K w ds xs:=by
 simp only [Rep] at h
 obtain ⟨a,h1,rfl⟩:=h
 obtain ⟨a',u,g1,g2,g3,xs,rfl,g5⟩:=ok.live n _ e
 rw [h1] at g1;cases g1
 exact ⟨a,xs,rfl,h1,g3,g5⟩
theorem BH {ds:List D}{xs:List V} (h:az K w ds xs):jV K w (.lst ds) (.lst xs):=⟨xs,rfl,h⟩
def Gy:AM:=fun x ds S Q=>∃ n es e,x = .loc n∧ds=[e]∧S[n]? = some (some (.lst es))∧es.length<yah∧Q (.dat .bw) (S.set n (some (.lst (es++[e]))))
theorem jG:O1 X "list.append" Gy:=⟨mM (X:=X) (t:=xK) L2.zv fun x xs H Q h=>by
 obtain ⟨w,d,ds,S,Qa,ok,r1,r2,⟨n,es,e,rfl,rfl,hS,hl,q⟩,bk⟩:=h
 obtain ⟨a,ys,rfl,ha,hH,hr⟩:=JN ok r1 hS
 obtain ⟨v,rfl,r3⟩:=gC r2
 exact ⟨a,ys,v,rfl,rfl,hH,by rw [hr.length];exact hl,bk.dat .refl (ok.put hS ha (BH (hr.snoc r3))) .bw q⟩⟩
def MJ:AM:=fun x ds S Q=>∃ (y:Str) (e:D) (ys:List Str),x = .str y∧ds=[e]∧bG S e = .lst (ys.map D.str)∧(ys.map (·.length)).sum+ys.length*y.length≤16777216∧Q (.dat (.str (Txt.join y ys))) S
theorem JM:O1 X "str.join" MJ:=⟨mM L2.Ft fun x xs H Q h=>by
 obtain ⟨w,d,ds,S,Qa,ok,r1,r2,⟨y,e,ys,rfl,rfl,z,hl,q⟩,bk⟩:=h
 obtain ⟨v,rfl,r3⟩:=gC r2
 obtain ⟨a,zs,rfl,g1,g2⟩:=cD ok r3 z
 rw [oV g2] at g1
 exact ⟨y,a,ys,lG r1 rfl,rfl,dm.of g1,hl,bk.dat .refl ok .str q⟩⟩
end
end M
namespace M
open PySem L2
theorem dY {P:aG→Prop}{g:AG}{b:AS}{D:fT} (I:List M.D→bE→aG→Prop) (hn:∀ δ S,I [] δ S→P S∧D.nx δ S)
  (hc:∀ x xs δ S N,I (x::xs) δ S→(∀ δ' S',I xs δ' S'→N δ' S')→P S∧g x δ S fun δ2 S2=>b { D with nx:=N,ct:=N,bk:=D.nx } δ2 S2):∀ ds δ S,I ds δ S→iT P g b ds D δ S
 | [],δ,S,h=>hn δ S h
 | x::xs,δ,S,h=>hc x xs δ S _ h fun δ' S' h'=>dY I hn hc xs δ' S' h'
theorem lR {P:aG→Prop}{g:AG}{t:AT}{e:AE}{Q:List M.D→aG→Prop} (I:List M.D→List M.D→bE→aG→Prop) (hn:∀ acc δ S,I [] acc δ S→P S∧Q acc S)
  (hc:∀ x xs acc δ S (N:List M.D→bE→aG→Prop),I (x::xs) acc δ S→(∀ acc' δ' S',I xs acc' δ' S'→N acc' δ' S')→P S∧g x δ S fun δ2 S2=>t δ2 S2 fun b S3=>if b=true then e δ2 S3 fun r S4=>acc.length<yah∧N (acc++[r.d]) δ2 S4 else N acc δ2 S3) :
  ∀ ds acc δ S,I ds acc δ S→c9 P g t e ds acc δ S Q
 | [],acc,δ,S,h=>hn acc δ S h
 | x::xs,acc,δ,S,h=>hc x xs acc δ S (fun acc' δ' S'=>c9 P g t e xs acc' δ' S' Q) h fun acc' δ' S' h'=>lR I hn hc xs acc' δ' S' h'
theorem comp_map {P:aG→Prop}{e:AE}{Q:List M.D→aG→Prop}{δ:bE}{S:aG} (f:M.D→M.D) (hP:P S):∀ (xs acc:List M.D) (δ':bE),δ'.set 0 none=δ.set 0 none→(∀ x∈xs,∀ Q:AK,Q (.dat (f x)) S→e (δ.set 0 (some x)) S Q)→acc.length+xs.length≤yah→Q (acc++xs.map f) S →
  c9 P (bP 0) kJ e xs acc δ' S Q
 | [],acc,δ',_,_,_,q=>⟨hP,by simpa using q⟩
 | x::xs,acc,δ',hd,h,hl,q=>by
  refine ⟨hP,?_⟩
  have e1:δ'.set 0 (some x)=δ.set 0 (some x):=by
   have:=congrArg (fun l=>l.set 0 (some x)) hd
   simpa [zco] using this
  simp only [bP,kJ,if_true]
  rw [e1]
  refine h x (by simp) _ ⟨by simp at hl;lia,?_⟩
  refine comp_map f hP xs _ _ (by simp [zco]) (fun y hy=>h y (by simp [hy])) (by simp at hl ⊢;lia) ?_
  simpa [R.d,zbl] using q
theorem ED {S:aG}{d:D} (h:ck d=true):bG S d=d:=by
 cases d <;> first | rfl | simp [ck] at h
theorem Bk {S:aG}{i:Int}:bG S (.int i) = .int i:=rfl
theorem rW {S:aG}{i:Str}:bG S (.str i) = .str i:=rfl
theorem EF {S:aG}{i:Bool}:bG S (.bl i) = .bl i:=rfl
theorem Bj {S:aG}:bG S .bw = .bw:=rfl
theorem rV {S:aG}{i:List D}:bG S (.tup i) = .tup i:=rfl
theorem gA {S:aG}{i:List D}:bG S (.lst i) = .lst i:=rfl
theorem Bh {S:aG}{i:List Str}:bG S (.yT i) = .yT i:=rfl
theorem rX {S:aG}{i:List Int}:bG S (.lE i) = .lE i:=rfl
theorem cY {d:D}:(R.dat d).d=d:=rfl
theorem Jj {o:MO}:(R.new o).d=o.d:=rfl
theorem Fv {ds:List D}:(MO.lst ds).d = .lst ds:=rfl
theorem FD {i j:Int}{S:aG}{Q:AK}:Pj (.int i) (.int j) S Q=Q (.dat (.bl (decide (i≤j)))) S:=rfl
theorem Fx {i j:Int}{S:aG}{Q:AK}:Ph (.int i) (.int j) S Q=Q (.dat (.bl (decide (i<j)))) S:=rfl
theorem Nc {i j:Str}{S:aG}{Q:AK}:Pj (.str i) (.str j) S Q=Q (.dat (.bl (!decide (j.cps.toList<i.cps.toList)))) S:=rfl
theorem KG {C:Int→Int→Prop}{g:Int→Int→D}{i j:Int}{S:aG}{Q:AK}:aI C g (.int i) (.int j) S Q=(C i j∧Q (.dat (g i j)) S):=by
 refine propext ⟨fun ⟨a,b,e1,e2,h⟩ => ?_,fun h=>⟨i,j,rfl,rfl,h⟩⟩
 cases e1;cases e2;exact h
theorem Dv {i j:Int}{S:aG}{Q:AK}:DK (.int i) (.int j) S Q=Q (.dat (.int (i+j))) S:=rfl
theorem Du {i j:List D}{S:aG}{Q:AK}:DK (.lst i) (.lst j) S Q=(i.length+j.length≤yah∧Q (.new (.lst (i++j))) S):=rfl
theorem F2 {i j:Int}{S:aG}{Q:AK}:Aa (.int i) (.int j) S Q=Q (.dat (.bl (decide (i=j)))) S:=rfl
theorem F1 {i j:Str}{S:aG}{Q:AK}:Aa (.str i) (.str j) S Q=Q (.dat (.bl (decide (i=j)))) S:=rfl
theorem Ic {b:Bool}:fh (.bl b)=some b:=rfl
theorem Es {ds:List D}:fh (.lst ds)=some (!ds.isEmpty):=rfl
theorem Ep {ds:List D}:fh (.tup ds)=some (!ds.isEmpty):=rfl
theorem lK {n:Nat}{S:aG}{d:D} (h:ck d=true):out n S (.dat d)=some (.dat d):=by
 have b:=yo n d h
 cases d <;> first | (simp [ck] at h;done) | (simp only [out];rw [yIp b])
theorem tP {S:aG}:chg S S:=fun _ _ _ e=>.inl e
theorem xH {S:aG}{d:D}{Q:AK} (h:ck d=true) (q:Q (.dat d) S):ret S S (.dat d) Q:=⟨_,lK h,tP,by rw [zbD];exact q⟩
theorem Ji {S:aG}{b:Bool}{Q:AK}:ret S S (.dat (.bl b)) Q=Q (.dat (.bl b)) S:=by
 refine propext ⟨fun ⟨r,h1,_,h2⟩ => ?_,xH rfl⟩
 simp [out,iN] at h1
 subst h1
 rw [zbD] at h2;exact h2
theorem ET {S:aG}{b:Int}{Q:AK}:ret S S (.dat (.int b)) Q=Q (.dat (.int b)) S:=by
 refine propext ⟨fun ⟨r,h1,_,h2⟩ => ?_,xH rfl⟩
 simp [out,iN] at h1
 subst h1
 rw [zbD] at h2;exact h2
theorem MZ {S:aG}{ds:List D}{Q:AK} (h:cK ds=true) (q:Q (.new (.lst ds)) S):ret S S (.new (.lst ds)) Q :=
 ⟨_,by simp only [out];rw [yIp (show oM _ (.lst ds)=true from fO _ ds h)],tP,by rw [zbD];exact q⟩
theorem M3 {S:aG}{ds:List D}{Q:AK}{S':aG}{n:Nat} (hn:S.length≤n) (h:cK ds=true) (e:S'[n]? = some (some (.lst ds))) (hs:S'.take S.length=S) (q:Q (.new (.lst ds)) S):ret S S' (.dat (.loc n)) Q:=by
 refine ⟨.new (.lst ds),?_,fun k o hk e=>.inl ?_,by rw [hs];exact q⟩
 ·simp only [out]
  rw [yIn (by lia),e]
  show (if oM S.length (.lst ds)=true then some (R.new (.lst ds)) else none)=_
  rw [yIp (show oM _ (.lst ds)=true from fO _ ds h)]
 ·rw [← hs,List.getElem?_take,yIp hk];exact e
noncomputable def lg (x:Str):Bool:=x.cps.toList.all (fun c=>decide (c<128))&&decide (x.length≤100)
noncomputable def om:Nat→D→Bool
 | _,.bw=>true
 | _,.bl _=>true
 | _,.int _=>true
 | _,.str x=>lg x
 | n+1,.tup ds=>decide (ds.length≤100)&&ds.all (om n)
 | n+1,.lst ds=>decide (ds.length≤100)&&ds.all (om n)
 | _,_=>false
theorem m6 {x:Str} (h:lg x=true):PyData.strOk x=true:=by
 unfold lg at h
 rw [zbH] at h
 unfold PyData.strOk
 rw [← Array.all_toList]
 refine zbC.mpr fun c hc => ?_
 have:=of_decide_eq_true (zbC.mp h.1 c hc)
 exact yDt (by lia)
theorem Ay:∀ (n:Nat) (d:D),om n d=true→ck d=true∧(py d).canLay0=true∧(py d).depth≤n:=by
 intro n
 induction n with
 | zero =>
  intro d h
  cases d <;> first | (simp [om] at h;done) | skip
  ·simp [ck,py,PyData.canLay0,PyData.depth]
  ·simp [ck,py,PyData.canLay0,PyData.depth]
  ·simp [ck,py,PyData.canLay0,PyData.depth]
  ·simp only [om] at h
   simp [ck,py,PyData.canLay0,PyData.depth,m6 h]
 | succ n ih =>
  have all:∀ ds:List D,(ds.all (om n))=true→cK ds=true∧PyData.canLayAll0 (eW ds)=true∧PyData.depthAll (eW ds)≤n:=by
   intro ds
   induction ds with
   | nil=>intro _;simp [cK,eW,PyData.canLayAll0,PyData.depthAll]
   | cons d ds ih2 =>
    intro h
    rw [zci,zbH] at h
    obtain ⟨a1,a2,a3⟩:=ih d h.1
    obtain ⟨b1,b2,b3⟩:=ih2 h.2
    refine ⟨by simp [cK,a1,b1],by simp [eW,PyData.canLayAll0,a2,b2],?_⟩
    simp only [eW,PyData.depthAll]
    lia
  intro d h
  cases d <;> first | (simp [om] at h;done) | skip
  ·simp [ck,py,PyData.canLay0,PyData.depth]
  ·simp [ck,py,PyData.canLay0,PyData.depth]
  ·simp [ck,py,PyData.canLay0,PyData.depth]
  ·simp only [om] at h
   simp [ck,py,PyData.canLay0,PyData.depth,m6 h]
  ·simp only [om,zbH] at h
   obtain ⟨a1,a2,a3⟩:=all _ h.2
   exact ⟨by simpa [ck] using a1,by simpa [py,PyData.canLay0] using a2,by simp only [py,PyData.depth];lia⟩
  ·simp only [om,zbH] at h
   obtain ⟨a1,a2,a3⟩:=all _ h.2
   exact ⟨by simpa [ck] using a1,by simpa [py,PyData.canLay0] using a2,by simp only [py,PyData.depth];lia⟩
theorem lY {n:Nat}{d:D} (h:om n d=true) (hn:n≤64):fit d=true:=by
 obtain ⟨a,b,c⟩:=Ay n d h
 unfold fit PySem.SeqAt.shaped
 rw [a,b,yDt (by lia)];rfl
end M
namespace M
open PySem PySem.Spec PyProof.Rows L2
theorem oR:∀ {vs:List yaj}{ss:List Str},StrsAre vs ss→Vals (ss.map V.str) vs
 | _,_,.nil=>.nil
 | _,_,.cons y t h=>.cons ⟨t,rfl⟩ (oR h)
section
variable {X:Cx}
theorem ju {K:yaM}{w:Wd}:∀ ss:List Str,az K w (ss.map D.str) (ss.map V.str)
 | []=>by simp [az]
 | s::ss=>by
  simp only [zcg,az]
  exact ⟨_,_,rfl,by simp [Rep],ju ss⟩
end
section
variable {X:Cx}{e o value:Expr}{es:List Expr}{p p2 pos pos2 apos tpos:Pos}
noncomputable def putD (f:Str) (d:D):List Str→List D→List Str×List D
 | k::ks,e::ds=>if k=f then (k::ks,d::ds) else (k::(putD f d ks ds).1,e::(putD f d ks ds).2)
 | _,_=>([f],[d])
theorem xM {K:yaM}{w:Wd}{f:Str}{d:D}{v:V} (g:Rep K w d v):∀ (fs:List (Str×V)) (ds:List D),az K w ds (fs.map (·.2))→(fu f v fs).map (·.1)=(putD f d (fs.map (·.1)) ds).1∧az K w (putD f d (fs.map (·.1)) ds).2 ((fu f v fs).map (·.2))
 | [],ds,h=>by
  cases ds with
  | nil=>exact ⟨rfl,.cons g .nil⟩
  | cons _ _=>exact ⟨rfl,.cons g .nil⟩
 | (k,x)::fs,ds,h=>by
  cases ds with
  | nil=>simp [az] at h
  | cons e ds =>
   simp only [zcg,az] at h
   obtain ⟨y,r,h1,h2,h3⟩:=h
   have e1:=(zcJ.inj h1).1
   have e2:=(zcJ.inj h1).2
   subst e1;subst e2
   obtain ⟨i1,i2⟩:=xM g fs ds h3
   simp only [fu,zcg,putD]
   by_cases hk:k=f
   ·rw [yIp hk,yIp hk];exact ⟨rfl,.cons g h3⟩
   ·rw [yIn hk,yIn hk]
    exact ⟨by rw [zcg,i1],.cons h2 i2⟩
theorem sQ {K:yaM}{w:Wd}{f:Str}{d:D}:∀ (fs:List (Str×V)) (ds:List D),az K w ds (fs.map (·.2))→((fs.map (·.1)).zip ds).lookup f=some d→∃ v,fs.lookup f=some v∧Rep K w d v
 | [],ds,h,q=>by simp at q
 | (k,x)::fs,ds,h,q=>by
  cases ds with
  | nil=>simp at q
  | cons e ds =>
   simp only [zcg,az] at h
   obtain ⟨y,r,h1,h2,h3⟩:=h
   have e1:=(zcJ.inj h1).1
   have e2:=(zcJ.inj h1).2
   subst e1;subst e2
   rw [zcg,zaV,zbB] at q
   rw [zbB]
   split at q
   ·rename_i hb
    have:e=d:=by simpa using q
    subst this
    exact ⟨x,by rw [hb],h2⟩
   ·rename_i hb
    obtain ⟨v,e,r⟩:=sQ fs ds h3 q
    exact ⟨v,by rw [hb];exact e,r⟩
theorem iB {f:Str}:∀ (fs:List (Str×V)),f ∉ fs.map (·.1)→fs.lookup f=none
 | [],_=>rfl
 | (k,x)::fs,h=>by
  rw [zbB]
  have:(f==k)=false:=by
   rw [beq_eq_false_iff_ne];intro z;exact h (by simp [z])
  rw [this]
  exact iB fs fun z=>h (by simp only [zcg,zcf];exact .inr z)
theorem nD {K:yaM}{w:Wd}{H:Hp}{S:aG}{n:Nat}{v:V}{C:Addr}{ks:List Str}{ds:List D} (ok:Ok K w H S) (h:Rep K w (.loc n) v) (e:S[n]? = some (some (.ins C ks ds))) :
  ∃ a dx fs,v = .ref a∧w.r n=some a∧H a=some (.ins C dx fs)∧fs.map (·.1)=ks∧az K w ds (fs.map (·.2)):=by
 simp only [Rep] at h
 obtain ⟨a,h1,rfl⟩:=h
 obtain ⟨a',u,g1,g2,g3,dx,fs,rfl,g5,g6⟩:=ok.live n _ e
 rw [h1] at g1;cases g1
 exact ⟨a,dx,fs,rfl,h1,g3,g5,g6⟩
def DE (C:Addr) (a:AE) (f:Str):AE:=fun δ S Q=>a δ S fun r S1=>∃ n ks ds d,r = .dat (.loc n)∧S1[n]? = some (some (.ins C ks ds))∧(ks.zip ds).lookup f=some d∧Q (.dat d) S1
theorem bu {C:Addr}{f:Str}{ta:AE} (he:GE X e ta) (c:wH X.K C) (nf:eN X.K C f) (hb:attributeBase e f X.env (eval e X.env)=eval e X.env:=by rfl):GE X (.Attribute e f pos) (DE C ta f) :=
 ⟨mE (L2.bu he.p hb) fun σ H Q h=>by
  obtain ⟨w,δ,S,Qa,ok,env,q,bk⟩:=h
  refine ⟨w,δ,S,_,ok,env,q,fun r S1 v w1 H1 le1 ok1 rep1 ⟨n,ks,ds,d,er,hS,hl,q1⟩ => ?_⟩
  subst er
  obtain ⟨a,dx,fs,rfl,_,ha,hk,hd⟩:=nD ok1 rep1 hS
  subst hk
  obtain ⟨v,l,rv⟩:=sQ fs ds hd hl
  exact ⟨a,C,dx,fs,v,rfl,ha,c,nf,l,bk.dat le1 ok1 rv q1⟩⟩
def Hf (C:Addr) (a v:AE) (f:Str):AS:=fun D δ S=>v δ S fun y S1=>a δ S1 fun r S2=>∃ n ks ds,r = .dat (.loc n)∧S2[n]? = some (some (.ins C ks ds))∧ks.length<1000∧D.nx δ (S2.set n (some (.ins C (putD f y.d ks ds).1 (putD f y.d ks ds).2)))
theorem mL {C:Addr}{f:Str}{ta tv:AE} (ha:GE X o ta) (hv:GE X value tv) (c:wH X.K C) (nf:eN X.K C f) (hs:yau value (some (.Attribute o f pos2)) pos.line X.env=pure false:=by rfl) :
  GS X (.Assign [.Attribute o f pos2] value pos) (Hf C ta tv f) :=
 ⟨mS (L2.mL ha.p hv.p hs) fun Dx σ H h=>by
  obtain ⟨w,δ,S,Da,ok,env,q,bk⟩:=h
  refine ⟨w,δ,S,_,ok,env,q,.go fun y S1 v1 w1 H1 le1 ok1 rep1 q1 => ?_⟩
  refine ⟨w1,δ,S1,_,ok1,env.le le1,q1,fun r S2 v2 w2 H2 le2 ok2 rep2 ⟨n,ks,ds,er,hS,hl,q2⟩ => ?_⟩
  subst er
  obtain ⟨a,dx,fs,rfl,hr,ha,hk,hd⟩:=nD ok2 rep2 hS
  subst hk
  obtain ⟨i1,i2⟩:=xM (f:=f) (rep1.le le2) fs ds hd
  refine ⟨a,C,dx,fs,rfl,ha,c,nf,by simpa using hl,?_⟩
  exact bk.nx _ _ _ w2 _ (le1.trans le2) (ok2.put hS hr (o':=.ins C (putD f y.d (fs.map (·.1)) ds).1 (putD f y.d (fs.map (·.1)) ds).2) ⟨dx,_,rfl,i1,i2⟩) (env.le (le1.trans le2)) q2⟩
end
structure dH (K:yaM) (C:Addr) (m qual:Str) (ps:List Str) (st:Stmt):Prop where
 ex:∃ f fd,uz K m qual st f fd∧Meth K C m f∧Binds K fd ps []
structure cj (P:yak) (w:yal) (K:yaM) (mg:Str→Option yaj) (base:Heap) (k:Nat) (C:Addr) (m:Str) (ps:List Str) (sp:AN):Prop where
 ex:∃ f fd,bW P w K mg base iZ k f fd ps (bf K sp)∧Meth K C m f∧Binds K fd ps []
section
variable {X:Cx}{e o:Expr}{es:List Expr}{p pos apos:Pos}{C:Addr}{k:Nat}{m:Str}{ps:List Str}{sp:AN}
def yE (C:Addr) (m:Str) (sp:AN) (a:AE) (t:AA):AE:=fun δ S Q=>a δ S fun r S1=>∃ n ks ds,r = .dat (.loc n)∧S1[n]? = some (some (.ins C ks ds))∧m ∉ ks∧t δ S1 fun es S2=>sp (.loc n::es) S2 Q
theorem IS {K:yaM}{E:XK}{a:AE}{t:AA}:∀ σ H Q,bF K (yE C m sp a t) σ H Q→AH C m (bf K sp) [] E (bF K a) (nP K t) σ H Q:=by
 rintro σ H Q ⟨w,δ,S,Qa,ok,env,q,bk⟩
 refine ⟨w,δ,S,_,ok,env,q,fun r S1 v w1 H1 le1 ok1 rep1 ⟨n,ks,ds,er,hS,hm,q1⟩ => ?_⟩
 subst er
 obtain ⟨a,dx,fs,rfl,hr,ha,hk,hd⟩:=nD ok1 rep1 hS
 subst hk
 refine ⟨a,dx,fs,rfl,ha,iB fs hm,w1,δ,S1,_,ok1,env.le le1,q1,fun es S2 vs w2 H2 le2 ok2 rep2 q2 => ?_⟩
 refine ⟨w2,.loc n::es,S2,Qa,ok2,?_,q2,bk.le (le1.trans le2)⟩
 rw [zbO]
 exact .cons (by simp only [Rep];exact ⟨a,le2.r _ _ hr,rfl⟩) rep2
theorem bh {pl:Sem Bool}{ta:AE}{t:AA} (he:GE X o ta) (c:wH X.K C) (D:cj X.prog X.w X.K X.mg X.base k C m ps sp) (hr:aU k X.A) (ha:GA X (e::es) t)
  (hst:yap (e::es) X.env=(false,eval e X.env)::yap es X.env:=by rfl) (hpl:(yav pos (yap es X.env)).any (·.1)=false:=by rfl)
  (ht:eval (.Call (.Attribute o m apos) (e::es) [] pos) X.env=(do
   let ov ← eval o X.env
   standAt apos.atName
   let (f,first) ← holding [ov] (yaF ov m pl)
   yaB pos f first (yav pos (yap (e::es) X.env)) (yaH pos (yaG [] X.env))):=by rfl) :
  GE X (.Call (.Attribute o m apos) (e::es) [] pos) (yE C m sp ta t):=by
 obtain ⟨f,fd,F,hm,hb⟩:=D.ex
 exact ⟨mE (L2.bh he.p c hm F hr hb .nil sG ha.p hst hpl ht) IS⟩
theorem gG {pl:Sem Bool}{ta:AE} (he:GE X o ta) (c:wH X.K C) (D:cj X.prog X.w X.K X.mg X.base k C m ps sp) (hr:aU k X.A)
  (ht:eval (.Call (.Attribute o m apos) [] [] pos) X.env=(do
   let ov ← eval o X.env
   standAt apos.atName
   let (f,first) ← holding [ov] (yaF ov m pl)
   yaB pos f first (yav pos (yap [] X.env)) (yaH pos (yaG [] X.env))):=by rfl) :
  GE X (.Call (.Attribute o m apos) [] [] pos) (yE C m sp ta vZ):=by
 obtain ⟨f,fd,F,hm,hb⟩:=D.ex
 exact ⟨mE (L2.gG he.p c hm F hr hb .nil sG ht) fun σ H Q h=>by
  obtain ⟨w,δ,S,Qa,ok,env,q,bk⟩:=h
  refine ⟨w,δ,S,_,ok,env,q,fun r S1 v w1 H1 le1 ok1 rep1 ⟨n,ks,ds,er,hS,hm,q1⟩ => ?_⟩
  subst er
  obtain ⟨a,dx,fs,rfl,hr,ha,hk,hd⟩:=nD ok1 rep1 hS
  subst hk
  refine ⟨a,dx,fs,rfl,ha,iB fs hm,w1,[.loc n],S1,Qa,ok1,?_,q1,bk.le le1⟩
  rw [zbU]
  exact .cons rep1 .nil⟩
def HN (C:Addr) (sp:AN) (t:AA):AE:=fun δ S Q=>t δ S fun es S1=>sp (.loc S1.length::es) (S1++[some (.ins C [] [])]) fun r S2=>r = .dat .bw∧Q (.dat (.loc S1.length)) S2
def Kz:AS:=fun _ _ _=>False
theorem eB {st:Stmt}:GS X st Kz:=⟨mS L2.eB fun D σ H h=>by obtain ⟨_,_,_,_,_,_,z,_⟩:=h;exact z.elim⟩
end
end M
namespace Srt
open PySem PySem.W PyProof.Rows
structure Ord (α:Type) where
 lt:α→α→Bool
 irr:∀ a,lt a a=false
 tr:∀ a b c,lt a b=true→lt b c=true→lt a c=true
 nt:∀ a b c,lt a c=true→lt a b=true∨lt b c=true
noncomputable def run {β:Type} (f:Nat→Nat→Bool):KasT β→β
 | .ret a=>a
 | .ask i j k=>run f (k (f i j))
section
variable {α:Type} (O:Ord α)
def le (a b:α):Prop:=O.lt b a=false
variable {O}
end
section
variable {α:Type}{O:Ord α}{k:Nat→α}{p:Array Nat}
noncomputable def val (k:Nat→α) (p:Array Nat) (i:Nat):α:=k (p.getD i 0)
variable (O k)
def Up (p:Array Nat) (m:Nat):Prop:=∀ i j,i≤j→j<m→le O (val k p i) (val k p j)
noncomputable abbrev ask (i j:Nat):Bool:=O.lt (k i) (k j)
variable {O k}
end
end Srt
namespace M
open PySem PySem.Spec PyProof.Rows L2
section
variable {K:yaM}
noncomputable def kF (ks:List Key) (ds:List D) (k:Key):Option D:=((ks.zip ds).find? fun p=>decide (p.1=k)).map (·.2)
noncomputable def nN (ks:List Key) (ds:List D) (k:Key) (d:D):MO:=if (ks.any fun j=>decide (j=k))=true then .dct ks ((ks.zip ds).map fun p=>if p.1=k then d else p.2) else .dct (ks++[k]) (ds++[d])
theorem qN {w:Wd}{k:Key}{d:D}:∀ {kvs:List (Key×V)}{ds:List D},az K w ds (kvs.map (·.2))→kF (kvs.map (·.1)) ds k=some d→∃ v,eO kvs k=some v∧Rep K w d v
 | [],ds,h,e=>by simp [kF] at e
 | (j,u)::r,ds,h,e=>by
  cases ds with
  | nil=>simp [kF] at e
  | cons x ds =>
   simp only [zcg,az] at h
   obtain ⟨x',r',e',h1,h2⟩:=h
   injection e' with e1 e2
   subst e1;subst e2
   unfold kF at e
   unfold eO
   by_cases hj:j=k
   ·rw [zcg,zaV,List.find?_cons_of_pos (by simpa using hj)] at e
    rw [List.find?_cons_of_pos (by simpa using hj)]
    cases e
    exact ⟨u,rfl,h1⟩
   ·rw [zcg,zaV,List.find?_cons_of_neg (by simpa using hj)] at e
    rw [List.find?_cons_of_neg (by simpa using hj)]
    exact qN (kvs:=r) h2 e
theorem sj {w:Wd}{k:Key}{d:D}{v:V} (g:Rep K w d v):∀ {kvs:List (Key×V)}{ds:List D},az K w ds (kvs.map (·.2)) →
  az K w (((kvs.map (·.1)).zip ds).map fun p=>if p.1=k then d else p.2) ((kvs.map fun kv=>if kv.1=k then (kv.1,v) else kv).map (·.2))
 | [],ds,h=>by
  cases ds with
  | nil=>exact .nil
  | cons x ds=>simp only [zcm,az] at h;obtain ⟨_,_,z,_⟩:=h;cases z
 | (j,u)::r,ds,h=>by
  cases ds with
  | nil=>simp only [zcg,az] at h;cases h
  | cons x ds =>
   simp only [zcg,az] at h
   obtain ⟨x',r',e',h1,h2⟩:=h
   injection e' with e1 e2
   subst e1;subst e2
   simp only [zcg,zaV]
   refine .cons ?_ (sj g h2)
   by_cases hj:j=k
   ·rw [yIp hj,yIp hj];exact g
   ·rw [yIn hj,yIn hj];exact h1
theorem sC {w:Wd}{k:Key}{d:D}{v:V}{kvs:List (Key×V)}{ds:List D} (g:Rep K w d v) (h:az K w ds (kvs.map (·.2))):jV K w (nN (kvs.map (·.1)) ds k d) (.dK (putK kvs k v)):=by
 unfold nN putK
 have e:((kvs.map (·.1)).any fun j=>decide (j=k))=(kvs.any fun kv=>decide (kv.1=k)):=by
  rw [zcn];rfl
 rw [e]
 by_cases hc:(kvs.any fun kv=>decide (kv.1=k))=true
 ·rw [yIp hc,yIp hc]
  refine ⟨_,rfl,?_,sj g h⟩
  rw [zcp]
  refine zaL fun kv _ => ?_
  show (if kv.1=k then (kv.1,v) else kv).1=kv.1
  split <;> rfl
 ·rw [yIn hc,yIn hc]
  refine ⟨_,rfl,by simp,?_⟩
  rw [zbV]
  exact h.snoc g
theorem vS {w:Wd}{H:Hp}{S:aG}{p:Nat}{v:V}{ks:List Key}{ds:List D} (ok:Ok K w H S) (h:Rep K w (.loc p) v) (e:S[p]? = some (some (.dct ks ds))) :
  ∃ a kvs,v = .ref a∧w.r p=some a∧H a=some (.dK kvs)∧kvs.map (·.1)=ks∧az K w ds (kvs.map (·.2)):=by
 simp only [Rep] at h
 obtain ⟨a,h1,rfl⟩:=h
 obtain ⟨a',u,g1,g2,g3,kvs,rfl,g5,g6⟩:=ok.live p _ e
 rw [h1] at g1;cases g1
 exact ⟨a,kvs,rfl,h1,g3,g5,g6⟩
noncomputable def p7 (K:yaM):List Str→List AE→List (TE×TE)
 | k::ks,a::as=>(tC (.str k),bF K a)::p7 K ks as
 | _,_=>[]
theorem Oz {w:Wd}{H:Hp}{S:aG}{m:Nat}{ds:List D} (k:Ok K w H S) (e:S[m]? = some (some (.lst ds))):∃ w',w.le w'∧Ok K w' H (S.set m none)∧∀ v,Rep K w (.loc m) v→Rep K w' (.lst ds) v:=by
 obtain ⟨a,u,h1,h2,h3,xs,rfl,h4⟩:=k.live m _ e
 have le:w.le ⟨upd w.B a (.lst xs),w.r⟩:=⟨al h2,fun _ _ e=>e⟩
 have at_:∀ n o,(S.set m none)[n]? = some (some o)→n≠m∧S[n]? = some (some o):=fun n o z=>by
  by_cases hm:m=n
  ·subst hm
   rw [zbm] at z
   simp at z
  ·rw [zaE hm] at z
   exact ⟨fun y=>hm y.symm,z⟩
 refine ⟨⟨upd w.B a (.lst xs),w.r⟩,le,⟨fun b o z => ?_,fun n o z => ?_,fun n j o o' z1 z2 z => ?_,fun n hn=>k.top n (by rw [zbW] at hn;exact hn)⟩,fun v hv => ?_⟩
 ·by_cases hb:b=a
  ·subst hb
   have z:upd w.B b (.lst xs) b=some o:=z
   rw [au] at z
   rw [h3];exact z
  ·have z:upd w.B a (.lst xs) b=some o:=z
   rw [av hb] at z
   exact k.base b o z
 ·obtain ⟨hn,z⟩:=at_ n o z
  obtain ⟨a',u',g1,g2,g3,g4⟩:=k.live n o z
  have hne:a'≠a:=fun y=>hn (k.inj n m _ _ z e (by rw [g1,h1,y]))
  exact ⟨a',u',g1,by show upd w.B a _ a'=none;rw [av hne];exact g2,g3,g4.le le⟩
 ·exact k.inj n j o o' (at_ n o z1).2 (at_ j o' z2).2 z
 ·simp only [Rep] at hv ⊢
  obtain ⟨a',g1,rfl⟩:=hv
  rw [h1] at g1;cases g1
  exact ⟨a,xs,rfl,au,h4.le le⟩
noncomputable def sb (m:Nat) (e:D):D→D
 | .loc n=>if n=m then e else .loc n
 | d=>d
theorem Br {w w':Wd}{m:Nat}{ds:List D} (le:w.le w') (f:∀ v,Rep K w (.loc m) v→Rep K w' (.lst ds) v):∀ {es:List D}{xs:List V},az K w es xs→az K w' (es.map (sb m (.lst ds))) xs
 | [],xs,h=>by simp only [az] at h;subst h;exact .nil
 | d::es,xs,h=>by
  simp only [az] at h
  obtain ⟨x,r,rfl,h1,h2⟩:=h
  refine .cons ?_ (Br le f h2)
  cases d with
  | loc n =>
   show Rep K w' (if n=m then _ else _) x
   by_cases hn:n=m
   ·rw [yIp hn];subst hn;exact f x h1
   ·rw [yIn hn];exact h1.le le
  | _=>exact h1.le le
def Gx (a:AE):AE:=fun δ S Q=>a δ S fun r S1=>∃ m ds es,r = .dat (.tup es)∧S1[m]? = some (some (.lst ds))∧Q (.dat (.tup (es.map (sb m (.lst ds))))) (S1.set m none)
theorem Ly {a:AE}:∀ σ H Q,bF K (Gx a) σ H Q→bF K a σ H Q:=by
 rintro σ H Q ⟨w,δ,S,Qa,ok,env,q,bk⟩
 refine ⟨w,δ,S,_,ok,env,q,fun r S1 v w1 H1 le1 ok1 rep1 ⟨m,ds,es,er,hS,q1⟩ => ?_⟩
 subst er
 have rep1:Rep K w1 (.tup es) v:=rep1
 simp only [Rep] at rep1
 obtain ⟨t,xs,rfl,hB,hr⟩:=rep1
 obtain ⟨w2,le2,ok2,f⟩:=Oz ok1 hS
 refine bk.dat (le1.trans le2) ok2 ?_ q1
 simp only [Rep]
 exact ⟨t,xs,rfl,le2.b _ _ hB,Br le2 f hr⟩
end
section
variable {X:Cx}{e:Expr}{pos:Pos}
theorem OA {t:AE} (h:GE X e t):GE X e (Gx t):=⟨mE h.p Ly⟩
end
end M
namespace M6
open PySem PySem.Spec PyProof.Rows
mutual
noncomputable def b7:yan→Bool
 | .int _=>true
 | .str x=>(PyData.str x).canLay0
 | .tuple xs=>dU xs
 | _=>false
noncomputable def dU:List yan→Bool
 | []=>true
 | x::xs=>b7 x&&dU xs
end
mutual
noncomputable def x9 (w:yal):yan→Int
 | .int i=>hashInt i
 | .str x=>hashStr w x
 | .tuple xs=>reduceHash (Builtin.Tuple.tupleHashOf (gS w xs))
 | _=>0
noncomputable def gS (w:yal):List yan→List Int
 | []=>[]
 | x::xs=>x9 w x::gS w xs
end
mutual
noncomputable def OG:yan→Nat
 | .int _=>1
 | .str _=>1
 | .tuple xs=>nJ xs+1
 | _=>0
noncomputable def nJ:List yan→Nat
 | []=>0
 | x::xs=>OG x+nJ xs
end
theorem iW (w:yal):∀ a b,gS w (a++b)=gS w a++gS w b
 | [],b=>rfl
 | x::a,b=>by simp only [List.cons_append,gS,iW w a b]
theorem kW:∀ a b,nJ (a++b)=nJ a+nJ b
 | [],b=>by simp [nJ]
 | x::a,b=>by simp only [List.cons_append,nJ,kW a b];lia
theorem gJ:∀ {xs:List yan},dU xs=true→∀ x∈xs,b7 x=true
 | [],_,x,hx=>by simp at hx
 | y::xs,h,x,hx=>by
  simp only [dU,zbH] at h
  rcases zcf.mp hx with rfl | hx
  ·exact h.1
  ·exact gJ h.2 x hx
theorem dw:∀ {xs:List yan}{x:yan},x∈xs→x.depth≤PyData.depthAll xs
 | y::xs,x,hx=>by
  simp only [PyData.depthAll]
  rcases zcf.mp hx with rfl | hx
  ·lia
  ·have:=dw hx;lia
theorem cB (xs:List yan):(PyData.tuple xs).depth=PyData.depthAll xs+1:=by
 simp only [PyData.depth]
section
variable {prog:yak}{w:yal}
theorem ie {s:yai}{a:Addr}{o:Obj} (ho:s.heap.get? a=some o) (hc:o.cls=Value.type "tuple"):s.TypeIs (.ref a) "tuple" := ⟨o,ho,hc⟩
theorem sA:∀ (n:Nat) (d:yan) {v:yaj}{as:List Addr}{A:yam}{E:yaj→yai→Prop}{s:yai}{Q:Int→yai→Prop},d.depth≤n→b7 d=true→Reads s.heap v d as→A.units+n<cLine →
  Q (x9 w d) { s with toks:=s.toks+OG d }→yas (model prog w) A (pyHash v) Q E s:=by
 intro n
 induction n with
 | zero =>
  intro d v as A E s Q hd hk hr hu h
  cases hr with
  | int i t=>exact wpAny_pyHash_int h
  | str x t=>exact wpAny_pyHash_str h
  | tuple ho hc hd' hall=>rw [cB] at hd;lia
  | none=>simp [b7] at hk
  | bool b=>simp [b7] at hk
  | list _ _ _ _=>simp [b7] at hk
  | dict _ _ _ _ _=>simp [b7] at hk
 | succ n ih =>
  intro d v as A E s Q hd hk hr hu h
  cases hr with
  | int i t=>exact wpAny_pyHash_int h
  | str x t=>exact wpAny_pyHash_str h
  | none=>simp [b7] at hk
  | bool b=>simp [b7] at hk
  | list _ _ _ _=>simp [b7] at hk
  | dict _ _ _ _ _=>simp [b7] at hk
  | @tuple a o vs m xs as ho hc hdat hall =>
   have hT:=ie ho hc
   have hk:dU xs=true:=hk
   rw [cB] at hd
   show yas (model prog w) A (pyHashByItsType (.ref a)) Q E s
   refine W.pyHash_slot (T := "tuple") hT F.slot_tuple_hash F.entry_tuple_hash (F.args_tuple_hash_1 (.ref a)) (by decide) (.inr (by lia)) ?_
   show yas (model prog w) A.in1 (do
    let __do_lift ← Builtin.Tuple.tupleItemsOf (.ref a)
    let __s ← forIn __do_lift (#[]:Array Int) fun x __s=>do
       let __do_lift ← pyHash x
       pure (ForInStep.yield (__s.push __do_lift))
    retInt (Builtin.Tuple.tupleHashOf __s.toList)) _ E s
   refine yaa (wpAny_tupleItemsOf ho hdat (yaa ?_))
   rw [← Array.forIn_toList]
   refine wpAny_forIn_list _ (fun rest b s'=>∃ don left as',xs=don++left∧ReadsAll s.heap rest left as'∧b.toList=gS w don∧s'={ s with toks:=s.toks+nJ don }) _ ?_ ?_ vs.toList #[] ⟨[],xs,_,rfl,hall,rfl,rfl⟩
   ·rintro x rest b s' ⟨don,left,as',rfl,hl,hb,rfl⟩
    cases hl with
    | @cons _ _ d' ds as1 bs hx hrest =>
     have hm:d'∈don++d'::ds:=by simp
     refine yaa (ih d' (as:=as1) (s:={ s with toks:=s.toks+nJ don }) (by have:=dw hm;lia) (gJ hk d' hm) hx (by show A.units+1+n<cLine;lia) ?_)
     refine yab ⟨don++[d'],ds,bs,by simp,hrest,?_,?_⟩
     ·rw [zbs,hb,iW];rfl
     ·rw [kW];simp only [nJ,Nat.add_zero,Nat.add_assoc]
   ·rintro b s' ⟨don,left,as',rfl,hl,hb,rfl⟩
    cases hl
    rw [zbO] at h
    rw [hb]
    refine yac (wpAny_ret_mkInt (Q:=fun v s'=>∃ n t,v=Value.int n t∧Q (reduceHash n) s') ⟨_,_,rfl,?_⟩) (fun fin s' => ?_) (fun _ _ z=>z)
    ·have h:Q (reduceHash (Builtin.Tuple.tupleHashOf (gS w don))) { s with toks:=s.toks+(nJ don+1) }:=h
     exact h
    ·rintro ⟨v,rfl,n,t,rfl,q⟩
     exact ⟨n,t,rfl,q⟩
theorem vf:∀ (n:Nat) (d:yan) {v:yaj}{as:List Addr}{A:yam}{E:yaj→yai→Prop}{s:yai}{Q:Bool→yai→Prop},d.depth≤n→b7 d=true→Reads s.heap v d as→Q true s→yas (model prog w) A (eqIsQuiet n v) Q E s:=by
 intro n
 induction n with
 | zero =>
  intro d v as A E s Q hd hk hr h
  cases hr with
  | int i t=>rw [eqIsQuiet_byValue 0 rfl];exact yab h
  | str x t=>rw [eqIsQuiet_byValue 0 rfl];exact yab h
  | tuple ho hc hd' hall=>rw [cB] at hd;lia
  | none=>simp [b7] at hk
  | bool b=>simp [b7] at hk
  | list _ _ _ _=>simp [b7] at hk
  | dict _ _ _ _ _=>simp [b7] at hk
 | succ n ih =>
  intro d v as A E s Q hd hk hr h
  cases hr with
  | int i t=>rw [eqIsQuiet_byValue _ rfl];exact yab h
  | str x t=>rw [eqIsQuiet_byValue _ rfl];exact yab h
  | none=>simp [b7] at hk
  | bool b=>simp [b7] at hk
  | list _ _ _ _=>simp [b7] at hk
  | dict _ _ _ _ _=>simp [b7] at hk
  | @tuple a o vs m xs as ho hc hdat hall =>
   have hT:=ie ho hc
   have hk:dU xs=true:=hk
   rw [cB] at hd
   rw [eqIsQuiet.eq_def]
   refine yaa (wpAny_specialOf hT F.slot_tuple_eq.lookup ?_)
   refine yaa (wpAny_isInstance hT isSubtype_tuple_tuple ?_)
   rw [yIn (by decide)]
   refine yaa (wpAny_seqItems ho hdat (yaa ?_))
   show yas (model prog w) A (forIn vs _ _) _ E s
   rw [← Array.forIn_toList]
   refine wpAny_forIn_list _ (fun rest r s'=>r.1=none∧s'=s∧∃ left as',ReadsAll s.heap rest left as'∧∀ x∈left,x∈xs) _ ?_ ?_ vs.toList (none,()) ⟨rfl,rfl,xs,_,hall,fun _ hx=>hx⟩
   ·rintro y rest ⟨r1,r2⟩ s' ⟨hr,rfl,left,as',hl,hsub⟩
    cases hl with
    | @cons _ _ d' ds as1 bs hx hrest =>
     have hm:d'∈xs:=hsub d' (by simp)
     refine yaa (ih d' (as:=as1) (by have:=dw hm;lia) (gJ hk d' hm) hx ?_)
     exact yab ⟨rfl,rfl,ds,bs,hrest,fun x hx=>hsub x (zaC _ hx)⟩
   ·rintro ⟨r1,r2⟩ s' ⟨hr,rfl,_⟩
    have hr:r1=none:=hr
    subst hr
    exact yab h
end
noncomputable instance:DecidableEq yan:=fun _ _=>Classical.propDecidable _
mutual
theorem iD:∀ x y:yan,b7 x=true→b7 y=true→PyData.eqv x y=decide (x=y)
 | .int i,.int j,_,_=>by
  simp only [PyData.eqv]
  by_cases h:i=j
  ·subst h;simp
  ·have : ¬ PyData.int i = .int j:=fun e=>h (by injection e)
   rw [yDf this];simpa using h
 | .str i,.str j,_,_=>by
  simp only [PyData.eqv]
  by_cases h:i=j
  ·subst h;simp
  ·have : ¬ PyData.str i = .str j:=fun e=>h (by injection e)
   rw [yDf this];simpa using h
 | .tuple xs,.tuple ys,hx,hy=>by
  simp only [PyData.eqv]
  rw [sZ xs ys hx hy]
  by_cases h:xs=ys
  ·subst h;simp
  ·have : ¬ PyData.tuple xs = .tuple ys:=fun e=>h (by injection e)
   rw [yDf this,yDf h]
 | .int i,.str j,_,_=>by rw [yDf (fun e=>nomatch e)];rfl
 | .int i,.tuple j,_,_=>by rw [yDf (fun e=>nomatch e)];rfl
 | .str i,.int j,_,_=>by rw [yDf (fun e=>nomatch e)];rfl
 | .str i,.tuple j,_,_=>by rw [yDf (fun e=>nomatch e)];rfl
 | .tuple i,.int j,_,_=>by rw [yDf (fun e=>nomatch e)];rfl
 | .tuple i,.str j,_,_=>by rw [yDf (fun e=>nomatch e)];rfl
 | .none,_,h,_=>by simp [b7] at h
 | .bool _,_,h,_=>by simp [b7] at h
 | .list _,_,h,_=>by simp [b7] at h
 | .dict _,_,h,_=>by simp [b7] at h
 | _,.none,_,h=>by simp [b7] at h
 | _,.bool _,_,h=>by simp [b7] at h
 | _,.list _,_,h=>by simp [b7] at h
 | _,.dict _,_,h=>by simp [b7] at h
theorem sZ:∀ x y:List yan,dU x=true→dU y=true→PyData.eqvAll x y=decide (x=y)
 | [],[],_,_=>by simp [PyData.eqvAll]
 | [],y::ys,_,_=>by simp [PyData.eqvAll]
 | x::xs,[],_,_=>by simp [PyData.eqvAll]
 | x::xs,y::ys,hx,hy=>by
  simp only [dU,zbH] at hx hy
  simp only [PyData.eqvAll]
  rw [iD x y hx.1 hy.1,sZ xs ys hx.2 hy.2]
  by_cases h:x=y <;> by_cases g:xs=ys <;> simp [h,g]
end
mutual
theorem jb:∀ x:yan,b7 x=true→x.canLay0=true
 | .int i,_=>rfl
 | .str i,h=>h
 | .tuple xs,h=>by simp only [PyData.canLay0];exact xW xs h
 | .none,h=>by simp [b7] at h
 | .bool _,h=>by simp [b7] at h
 | .list _,h=>by simp [b7] at h
 | .dict _,h=>by simp [b7] at h
theorem xW:∀ x:List yan,dU x=true→PyData.canLayAll0 x=true
 | [],_=>rfl
 | x::xs,h=>by
  simp only [dU,zbH] at h
  simp only [PyData.canLayAll0,jb x h.1,xW xs h.2,Bool.and_self]
end
def isKey (h:Heap) (d:yan) (a:Addr):Prop:=b7 d=true∧d.depth≤6∧∃ as,Reads h (.ref a) d as
mutual
theorem o8 {h h':Heap}{b:Addr}{ob:Obj}{es:Array yaw}{ep:Nat} (hb:h.get? b=some ob) (hd:ob.data=Data.dict es ep) (sm:Heap.SameBut b h h'):∀ (d:yan) {v:yaj}{as:List Addr},b7 d=true→Reads h v d as→Reads h' v d as
 | .int i,v,as,hk,hr=>by cases hr;exact .int ..
 | .str i,v,as,hk,hr=>by cases hr;exact .str ..
 | .tuple xs,v,as,hk,hr=>by
  cases hr with
  | @tuple a o vs m _ _ ho hc hdat hall =>
   have hne:a≠b:=fun e=>by
    subst e
    rw [hb] at ho;cases ho
    rw [hd] at hdat;cases hdat
   exact .tuple (by rw [sm.2 a hne];exact ho) hc hdat (mJ hb hd sm xs hk hall)
 | .none,_,_,h,_=>by simp [b7] at h
 | .bool _,_,_,h,_=>by simp [b7] at h
 | .list _,_,_,h,_=>by simp [b7] at h
 | .dict _,_,_,h,_=>by simp [b7] at h
theorem mJ {h h':Heap}{b:Addr}{ob:Obj}{es:Array yaw}{ep:Nat} (hb:h.get? b=some ob) (hd:ob.data=Data.dict es ep) (sm:Heap.SameBut b h h'):∀ (ds:List yan) {vs:List yaj}{as:List Addr},dU ds=true→ReadsAll h vs ds as→ReadsAll h' vs ds as
 | [],vs,as,hk,hr=>by cases hr;exact .nil
 | d::ds,vs,as,hk,hr=>by
  simp only [dU,zbH] at hk
  cases hr with
  | cons hx hr=>exact .cons (o8 hb hd sm d hk.1 hx) (mJ hb hd sm ds hk.2 hr)
end
noncomputable def fN (prog:yak) (w:yal):HeapKind prog w yan where
 is:=isKey
 hash:=x9 w
 draws:=OG
 room:=fun A=>A.units+10<cLine
 inj:=fun ⟨_,_,as,hx⟩ ⟨_,_,bs,hy⟩=>(Reads.unique hx _ _ hy).1
 keeps:=fun ⟨h1,h2,as,hr⟩ hb hd sm=>⟨h1,h2,as,o8 hb hd sm _ h1 hr⟩
 pyHash:=fun hu ⟨h1,h2,as,hr⟩ h=>sA 6 _ h2 h1 hr (by lia) h
 eqBool:=fun {A E s x y a b Q} hu ⟨h1,h2,as,hr⟩ ⟨g1,g2,bs,gr⟩ h=>SeqAt.eqBoolOverData prog w A E s _ _ _ _ _ _ Q hr gr (jb _ h1) (jb _ g1) (by lia) (by
  rw [iD _ _ h1 g1]
  exact h)
 quiet:=fun ⟨h1,h2,as,hr⟩ h=>vf 8 _ (by lia) h1 hr h
def jh (h:Heap) (d:Addr) (es:Array yaw) (ep:Nat):Prop:=∃ o,h.get? d=some o∧o.ExactDict∧o.data=Data.dict es ep
theorem jh.at {h h':Heap}{d:Addr}{es:Array yaw}{ep:Nat} (x:jh h d es ep) (e:∀ o,h.get? d=some o→h'.get? d=some o):jh h' d es ep:=let ⟨o,ho,r⟩:=x;⟨o,e o ho,r⟩
section
variable {prog:yak}{w:yal}{A:yam}{E:yaj→yai→Prop}{s:yai}
theorem jh.typeIs {d:Addr}{es:Array yaw}{ep:Nat} (x:jh s.heap d es ep):s.TypeIs (.ref d) "dict" := let ⟨o,ho,hc,_⟩:=x;⟨o,ho,hc.1⟩
theorem nextK {it d:Addr}{i ep:Nat}{es:Array yaw}{e:yaw}{Q:Option yaj→yai→Prop} (hit:s.heap.IsKeyIter it d i es.size ep) (hD:jh s.heap d es ep) (hx:es[i]? = some e)
  (hQ:∀ h',h'.IsKeyIter it d (i+1) es.size ep→Heap.SameBut it s.heap h'→Q (some e.key) { s with heap:=h' }):yas (model prog w) A (pyNext (.ref it)) Q E s:=by
 obtain ⟨o,ho,hc,hd⟩:=id hit
 obtain ⟨od,hod,hcd,hdd⟩:=id hD
 have hT:=Heap.IsKeyIter.typeIs hit
 unfold pyNext
 refine yaa (wpAny_attempt (wpAny_callSpecial?_slot (name:=Str.ofString "__next__") hT F.slot_dict_keyiterator_next
  (wpAny_call_entry F.slot_dict_keyiterator_next hT F.entry_dict_keyiterator_next ?_ (F.args_dict_keyiterator_next_1 _))))
 unfold Builtin.«dict_keyiterator.__next__»
 refine yaa (yab ?_)
 refine yaa ?_
 refine yaa ?_
 refine yaa (wpAny_typeNameOfWhole_keyiter hT (yab ?_))
 have hown:Builtin.Dict_items.ownsTuple "dict_keyiterator" = false:=by decide +kernel
 refine yaa (wpAny_fieldsOf ho hd ?_)
 simp only [hown,zbc,if_false,List.drop_zero]
 show yas (model prog w) A.in1 (if (Value.ref d==Value.none)=true then _ else _) _ _ s
 rw [yIn (by exact zbb)]
 refine yaa (yab ?_)
 refine yaa (wpAny_dictEntries hod hdd ?_)
 rw [yIn (by simp)]
 refine yaa (yab ?_)
 refine yaa (wpAny_dictEpoch hod hdd ?_)
 rw [yIn (by simp)]
 refine yab ?_
 dsimp only
 rw [yIn (by lia),show ((i:Int)).toNat=i from Int.toNat_natCast i,hx]
 dsimp only
 refine yaa (?_)
 refine yaa (wpAny_typeNameOfWhole_keyiter hT (yab ?_))
 simp only [hown,zbc,if_false]
 refine yaa (wpAny_isOneOf_keyiter hT ?_)
 refine yaa (wpAny_setField ho hd (by simp) ?_)
 have e1:∀ b:Bool,b=false→(if b=true then (i:Int) - 1 else (i:Int)+1)=((i+1:Nat):Int):=fun b hb=>by subst hb;simp
 rw [e1 _ (by decide +kernel)]
 refine yaa (yad ?_)
 have ho2:=zaB (Obj.mapFields (·.setIfInBounds (0+1) (rawInt ((i+1:Nat):Int)))) ho (Obj.isFreed_of_fields (Obj.data_mapFields hd _))
 have hc2:=(Obj.cls_mapFields o (·.setIfInBounds (0+1) (rawInt ((i+1:Nat):Int)))).trans hc
 refine yaa (wpAny_isOneOf_keyiter ⟨_,ho2,hc2⟩ ?_)
 rw [yIp (by decide +kernel)]
 refine yab (yab ⟨e.key,rfl,yab (hQ _ ?_ (Heap.SameBut.update ..))⟩)
 exact ⟨_,ho2,hc2,by rw [Obj.data_mapFields hd];simp [rawInt]⟩
theorem OF {it d:Addr}{ep:Nat}{es:Array yaw}{Q:Option yaj→yai→Prop} (hh:A.handled=none) (hit:s.heap.IsKeyIter it d es.size es.size ep) (hD:jh s.heap d es ep)
  (hQ:∀ h',Heap.ExtBut it s.heap h'→Q none { s with heap:=h' }):yas (model prog w) A (pyNext (.ref it)) Q E s:=by
 obtain ⟨o,ho,hc,hd⟩:=id hit
 obtain ⟨od,hod,hcd,hdd⟩:=id hD
 have hT:=Heap.IsKeyIter.typeIs hit
 unfold pyNext
 refine yaa (wpAny_attempt (wpAny_callSpecial?_slot (name:=Str.ofString "__next__") hT F.slot_dict_keyiterator_next
  (wpAny_call_entry F.slot_dict_keyiterator_next hT F.entry_dict_keyiterator_next ?_ (F.args_dict_keyiterator_next_1 _))))
 unfold Builtin.«dict_keyiterator.__next__»
 refine yaa (yab ?_)
 refine yaa ?_
 refine yaa ?_
 refine yaa (wpAny_typeNameOfWhole_keyiter hT (yab ?_))
 have hown:Builtin.Dict_items.ownsTuple "dict_keyiterator" = false:=by decide +kernel
 refine yaa (wpAny_fieldsOf ho hd ?_)
 simp only [hown,zbc,if_false,List.drop_zero]
 show yas (model prog w) A.in1 (if (Value.ref d==Value.none)=true then _ else _) _ _ s
 rw [yIn (by exact zbb)]
 refine yaa (yab ?_)
 refine yaa (wpAny_dictEntries hod hdd ?_)
 rw [yIn (by simp)]
 refine yaa (yab ?_)
 refine yaa (wpAny_dictEpoch hod hdd ?_)
 rw [yIn (by simp)]
 refine yab ?_
 dsimp only
 rw [yIn (by lia),show ((es.size:Int)).toNat=es.size from Int.toNat_natCast _,Array.getElem?_eq_none (zcE _)]
 dsimp only
 refine yaa ?_
 refine yaa (wpAny_typeNameOfWhole_keyiter hT (yab ?_))
 simp only [hown,zbc,if_false]
 refine yaa (wpAny_setField ho hd (by simp) ?_)
 refine yaa ?_
 simp only [newExc,newTuple]
 refine yaa (yaf ?_ (by size_fits))
 refine yaa (m:=firstArgMember _ _) (wpAny_of_eq (a:=Value.none) (by first | rfl | (simp only [firstArgMember];rfl)) ?_)
 refine yaf ?_ (by size_fits)
 simp only [raiseNew]
 refine yaa (wpAny_handled ?_)
 first | rw [show A.in1.handled=none from hh] | rw [hh]
 refine yaa (yab (wpAny_throw ?_))
 refine yaa (wpAny_isInstance (T := "StopIteration") (b:=true) ⟨_,zaR _ rfl,rfl⟩ isSubtype_stop ?_)
 refine yab (hQ _ (Heap.ExtBut.push (Heap.ExtBut.push ?_ _) _))
 exact fun b ob hb e=>(zas _ _ (Ne.symm hb)).trans e
theorem L7 {d:Addr}{ep:Nat}{es:Array yaw}{Q:yaj→yai→Prop} (hd:(d==yat)=false) (hD:jh s.heap d es ep)
  (hQ:Q (.ref s.heap.objs.size) { s with heap:=s.heap.push { cls:=.type "dict_keyiterator",data:=.fields #[.ref d,.int 0 0,.int es.size 0,.int ep 0] } }):yas (model prog w) A (pyIter (.ref d)) Q E s:=by
 obtain ⟨od,hod,hcd,hdd⟩:=id hD
 have hT:=hD.typeIs
 refine wpAny_pyIter_slot hT F.slot_dict_iter (wpAny_call_entry F.slot_dict_iter hT F.entry_dict_iter ?_ (F.args_dict_iter_1 _))
 unfold Builtin.«dict.__iter__»
 refine yaa (yaa (wpAny_notOrdered_dict hT (yab ?_)))
 refine yaa (yab ?_)
 unfold Builtin.Dict.showsAll
 rw [yIn (by rw [hd];exact zbb)]
 refine yaa (yab ?_)
 refine yaa (wpAny_dictEntries hod hdd ?_)
 refine yaa (wpAny_dictEpoch hod hdd ?_)
 refine yaa (yaf ?_ (by size_fits))
 exact yab ⟨_,rfl,"dict_keyiterator",_,⟨_,zaR _ rfl,rfl⟩,F.slot_dict_keyiterator_next.lookup,hQ⟩
theorem H9 (hh:A.handled=none) (I d:Addr) (hne:d≠I) (es:Array yaw) (ep:Nat) :
  Walks prog w A I [I,d] [I] es.size (fun i v=>∃ e,es[i]? = some e∧v=e.key) (fun i h=>h.IsKeyIter I d i es.size ep∧jh h d es ep) where
 sub:=fun b hb=>by simp only [zaW] at hb;simp [hb]
 frame:=fun i h h' st hk=>⟨Heap.IsKeyIter.at st.1 fun o e=>hk I (by simp) o e,st.2.at fun o e=>hk d (by simp) o e⟩
 item:=fun i s Q E hi st hQ=>by
  have hx:es[i]? = some es[i]:=Array.getElem?_eq_getElem hi
  refine nextK st.1 st.2 hx fun h' hit' hs'=>hQ es[i].key h' s.toks ⟨es[i],hx,rfl⟩ ⟨hit',st.2.at fun o e=>by rw [hs'.2 d hne];exact e⟩ fun b o hb e => ?_
  rw [hs'.2 b (fun z=>hb (by simp [z]))];exact e
 done:=fun s Q E st hQ=>OF hh st.1 st.2 fun h' he=>hQ h' s.toks fun b o hb e=>he b o (fun z=>hb (by simp [z])) e
 self:=fun i s Q E st hQ=>wpAny_pyIter_keyiter st.1 hQ
theorem NI {d:Addr}{es:Array yaw}{ep:Nat} (lo:(d==yat)=false):W.KdlSrc prog w "dict" d d es.size (fun i v=>∃ e,es[i]? = some e∧v=e.key) (fun h=>jh h d es ep) where
 type:=fun s hm=>hm.typeIs
 there:=fun h hm=>by obtain ⟨o,ho,_⟩:=hm;exact ⟨zcA ho,zcA ho⟩
 keep:=fun h h' hm hk=>hm.at fun o e=>hk d (.inl rfl) o e
 notList:=by decide
 notTuple:=by decide
 hint:=fun A E s Q hm hq=>W.kdl_hint_dict hm.typeIs hq
 iter:=fun A s hh hm=>by
  have hlt:d<s.heap.objs.size:=by obtain ⟨o,ho,_⟩:=hm;exact zcA ho
  exact ⟨_,_,fun E Q hq=>L7 lo hm hq,H9 hh s.heap.objs.size d (zcr hlt) es ep,⟨_,zaR _ rfl,rfl,rfl⟩,hm.at fun o e=>zar _ e⟩
theorem tN {d:Addr}{es:Array yaw}{ep:Nat}{R:List yaj→yai→Prop} (lo:(d==yat)=false) (hh:A.handled=none) (hD:jh s.heap d es ep) (hl:es.size≤yah)
  (h:∀ (h':Heap) (tk:Nat),(∀ b o,s.heap.get? b=some o→h'.get? b=some o)→R (es.toList.map (·.key)) { s with heap:=h',toks:=tk }):yas (model prog w) A (collect (.ref d)) R E s:=by
 refine W.kdu_collect (NI lo) hh hD hl fun h' tk acc kp hacc => ?_
 have:acc.toList=es.toList.map (·.key):=by
  refine List.ext_getElem? fun i => ?_
  rw [zaz,zbi,zaz]
  cases z:acc[i]? with
  | some v =>
   obtain ⟨e,he,rfl⟩:=hacc.2 i v z
   rw [he];rfl
  | none =>
   have:es.size≤i:=by rw [← hacc.1];exact Array.getElem?_eq_none_iff.mp z
   rw [Array.getElem?_eq_none this];rfl
 rw [this]
 exact h h' tk kp
end
mutual
noncomputable def eF:yan→yan→Bool
 | .int i,.int j=>decide (i<j)
 | .str i,.str j=>decide (i.cps.toList<j.cps.toList)
 | .tuple xs,.tuple ys=>cI xs ys
 | _,_=>false
noncomputable def cI:List yan→List yan→Bool
 | [],[]=>false
 | [],_::_=>true
 | _::_,[]=>false
 | x::xs,y::ys=>if x=y then cI xs ys else eF x y
end
mutual
noncomputable def aO:yan→yan→Bool
 | .int _,.int _=>true
 | .str _,.str _=>true
 | .tuple xs,.tuple ys=>ff xs ys
 | _,_=>false
noncomputable def ff:List yan→List yan→Bool
 | x::xs,y::ys=>aO x y&&ff xs ys
 | _,_=>true
end
theorem fJ {h:Heap}:∀ {ds:List yan}{vs:List yaj}{as:List Addr},ReadsAll h vs ds as→vs.length=ds.length
 | [],_,_,h=>by cases h;rfl
 | _::_,_,_,h=>by cases h with | cons _ r=>simp [fJ r]
section
variable {prog:yak}{w:yal}
theorem Fy:∀ (n:Nat) (x y:yan) {u v:yaj}{as bs:List Addr}{A:yam}{E:yaj→yai→Prop}{s:yai}{Q:yaj→yai→Prop},x.depth≤n→y.depth≤n→b7 x=true→b7 y=true→aO x y=true→Reads s.heap u x as→Reads s.heap v y bs→A.units+n<cLine →
  Q (.bool (eF x y)) s→yas (model prog w) A (yao .Lt u v) Q E s:=by
 intro n
 induction n with
 | zero =>
  intro x y u v as bs A E s Q hx hy kx ky hc hr gr hu h
  cases hr with
  | int i t =>
   cases gr with
   | int j t'=>exact wpAny_lt_int h
   | _=>simp [aO] at hc
  | str i t =>
   cases gr with
   | str j t'=>exact lt_str h
   | _=>simp [aO] at hc
  | tuple ho hc hd' hall=>rw [cB] at hx;lia
  | none=>simp [b7] at kx
  | bool b=>simp [b7] at kx
  | list _ _ _ _=>simp [b7] at kx
  | dict _ _ _ _ _=>simp [b7] at kx
 | succ n ih =>
  intro x y u v as bs A E s Q hx hy kx ky hc hr gr hu h
  cases hr with
  | int i t =>
   cases gr with
   | int j t'=>exact wpAny_lt_int h
   | _=>simp [aO] at hc
  | str i t =>
   cases gr with
   | str j t'=>exact lt_str h
   | _=>simp [aO] at hc
  | none=>simp [b7] at kx
  | bool b=>simp [b7] at kx
  | list _ _ _ _=>simp [b7] at kx
  | dict _ _ _ _ _=>simp [b7] at kx
  | @tuple a o us m xs as ho hcl hdat hall =>
   cases gr with
   | @tuple b o2 vs m2 ys bs ho2 hcl2 hdat2 hall2 =>
    have hT:=ie ho hcl
    have hT2:=ie ho2 hcl2
    rw [cB] at hx hy
    have kx:dU xs=true:=kx
    have ky:dU ys=true:=ky
    have hc:ff xs ys=true:=hc
    show yas (model prog w) A (richCompare .Lt (.ref a) (.ref b)) Q E s
    refine wpAny_richCompare_same_room hT hT2 F.slot_tuple_lt ?_ (by lia)
    refine wpAny_call_entry F.slot_tuple_lt hT F.entry_tuple_lt ?_ (F.args_tuple_lt_2 _ _)
    unfold Builtin.«tuple.__lt__»
    refine yaa (yab ?_)
    refine yaa (wpAny_isInstance hT2 isSubtype_tuple_tuple ?_)
    rw [yIn (by decide)]
    refine yaa (wpAny_tupleItemsOf ho hdat (yaa (wpAny_tupleItemsOf ho2 hdat2 (yaa ?_))))
    refine wpAny_forIn_list _ (fun rest r s'=>r.1=none∧s'=s∧∃ lx ly lu lv as' bs',rest=lu.zip lv∧ReadsAll s.heap lu lx as'∧ReadsAll s.heap lv ly bs'∧cI xs ys=cI lx ly∧(∀ z∈lx,z∈xs)∧(∀ z∈ly,z∈ys)∧ff lx ly=true∧us.size+ly.length=vs.size+lx.length) _ ?_ ?_ (us.toList.zip vs.toList) (none,())
     ⟨rfl,rfl,xs,ys,us.toList,vs.toList,_,_,rfl,hall,hall2,rfl,fun _ z=>z,fun _ z=>z,hc,by
      have h1:=fJ hall
      have h2:=fJ hall2
      rw [zaP] at h1 h2
      lia⟩
    ·rintro ⟨p,q⟩ rest ⟨r1,r2⟩ s' ⟨hr,rfl,lx,ly,lu,lv,as',bs',hz,h1,h2,hl,m1,m2,hcc,hsz⟩
     cases h1 with
     | nil=>simp at hz
     | @cons _ _ d1 ds1 a1 b1 g1 t1 =>
      cases h2 with
      | nil=>simp at hz
      | @cons _ _ d2 ds2 a2 b2 g2 t2 =>
       rw [zaV] at hz
       injection hz with e1 e2
       injection e1 with e3 e4
       subst e3;subst e4;subst e2
       have n1:=m1 d1 (by simp)
       have n2:=m2 d2 (by simp)
       have k1:=gJ kx d1 n1
       have k2:=gJ ky d2 n2
       have dd1:=dw n1
       have dd2:=dw n2
       simp only [ff,zbH] at hcc
       dsimp only
       refine yaa (SeqAt.eqBoolOverData prog w _ _ _ _ _ _ _ _ _ _ g1 g2 (jb _ k1) (jb _ k2) (by show A.units+1+_<cLine;lia) ?_)
       rw [iD _ _ k1 k2]
       by_cases he:d1=d2
       ·rw [yDt he]
        refine yab ⟨rfl,rfl,ds1,ds2,_,_,_,_,rfl,t1,t2,?_,fun z hz=>m1 z (zaC _ hz),fun z hz=>m2 z (zaC _ hz),hcc.2,by simp only [zbx] at hsz;lia⟩
        rw [hl]
        simp only [cI]
        rw [yIp he]
       ·rw [yDf he]
        have hl2:cI xs ys=eF d1 d2:=by
         rw [hl]
         simp only [cI]
         rw [yIn he]
        refine yaa (wpAny_rule ?_)
        refine yaa (ih d1 d2 (u:=p) (v:=q) (A:=A.in1) (by lia) (by lia) k1 k2 hcc.1 g1 g2 (by show A.units+1+n<cLine;lia) ?_)
        refine yaa (yab (yab ?_))
        refine yab ⟨_,rfl,(fun z=>by cases z),?_⟩
        rw [← hl2];exact h
    ·rintro ⟨r1,r2⟩ s' ⟨hr,rfl,lx,ly,lu,lv,as',bs',hz,h1,h2,hl,m1,m2,hcc,hsz⟩
     have hr:r1=none:=hr
     subst hr
     refine yab ⟨_,rfl,(fun z=>by cases z),?_⟩
     have Ov:decide (us.size<vs.size)=cI xs ys:=by
      rw [hl]
      cases h1 with
      | nil =>
       cases ly with
       | nil=>simp only [cI,zbS] at hsz ⊢;exact yDf (by lia)
       | cons _ _=>simp only [cI,zbx,zbS] at hsz ⊢;exact yDt (by lia)
      | cons g1 t1 =>
       cases h2 with
       | nil=>simp only [cI,zbx,zbS] at hsz ⊢;exact yDf (by lia)
       | cons g2 t2=>simp at hz
     show Q (.bool (decide (us.size<vs.size))) s'
     rw [Ov];exact h
   | _=>simp [aO] at hc
theorem B4 {A:yam}{E:yaj→yai→Prop}{s:yai}{x y:yan}{u v:yaj}{as bs:List Addr}{Q:Bool→yai→Prop} (n:Nat) (hx:x.depth≤n) (hy:y.depth≤n) (kx:b7 x=true) (ky:b7 y=true) (hc:aO x y=true) (hr:Reads s.heap u x as) (gr:Reads s.heap v y bs) (hu:A.units+n<cLine)
  (h:Q (eF x y) s):yas (model prog w) A (PyProof.Rows.oneLt' false u v) Q E s:=W.kat_one u v (Fy n x y hx hy kx ky hc hr gr hu h)
end
section
variable {prog:yak}{w:yal}{A:yam}{E:yaj→yai→Prop}{s:yai}
noncomputable def dX (h:Heap) (a:Addr) (vs:List yaj):Heap:=((h.update a (Obj.mapSeq fun _ => #[])).push (seqObj "tuple" vs.toArray 0)).push (seqObj "list" #[] 0)
mutual
theorem o6 {h h':Heap}{b:Addr}{ob:Obj} (hb:h.get? b=some ob) (hd:ob.cls ≠ .type "tuple") (kp:∀ c o,c≠b→h.get? c=some o→h'.get? c=some o):∀ (d:yan) {v:yaj}{as:List Addr},b7 d=true→Reads h v d as→Reads h' v d as
 | .int i,v,as,hk,hr=>by cases hr;exact .int ..
 | .str i,v,as,hk,hr=>by cases hr;exact .str ..
 | .tuple xs,v,as,hk,hr=>by
  cases hr with
  | @tuple a o vs m _ _ ho hc hdat hall =>
   have hne:a≠b:=fun e=>by
    subst e
    rw [hb] at ho;cases ho
    exact hd hc
   exact .tuple (kp a o hne ho) hc hdat (mF hb hd kp xs hk hall)
 | .none,_,_,h,_=>by simp [b7] at h
 | .bool _,_,_,h,_=>by simp [b7] at h
 | .list _,_,_,h,_=>by simp [b7] at h
 | .dict _,_,_,h,_=>by simp [b7] at h
theorem mF {h h':Heap}{b:Addr}{ob:Obj} (hb:h.get? b=some ob) (hd:ob.cls ≠ .type "tuple") (kp:∀ c o,c≠b→h.get? c=some o→h'.get? c=some o):∀ (ds:List yan) {vs:List yaj}{as:List Addr},dU ds=true→ReadsAll h vs ds as→ReadsAll h' vs ds as
 | [],vs,as,hk,hr=>by cases hr;exact .nil
 | d::ds,vs,as,hk,hr=>by
  simp only [dU,zbH] at hk
  cases hr with
  | cons hx hr=>exact .cons (o6 hb hd kp d hk.1 hx) (mF hb hd kp ds hk.2 hr)
end
theorem jA {α β:Type}{f:α→β}:∀ {ks:List α}{out:List β},out.Perm (ks.map f)→∃ o':List α,o'.Perm ks∧out=o'.map f
 | [],out,h=>⟨[],.refl _,by simpa using h⟩
 | k::ks,out,h=>by
  have hm:f k∈out:=h.mem_iff.mpr (by simp)
  obtain ⟨l1,l2,rfl⟩:=List.append_of_mem hm
  have h2:(l1++l2).Perm (ks.map f):=by
   have:=List.perm_middle.symm.trans h
   rw [zcg] at this
   exact this.cons_inv
  obtain ⟨o',p1,p2⟩:=jA h2
  obtain ⟨o1,o2,e1,e2,e3⟩:=List.map_eq_append_iff.mp p2.symm
  subst e1
  refine ⟨o1++k::o2,List.perm_middle.trans (p1.cons k),?_⟩
  rw [zbV,zcg,e2,e3]
mutual
theorem vF:∀ x:yan,eF x x=false
 | .int i=>by simp only [eF];exact yDf (Int.lt_irrefl i)
 | .str i=>by simp only [eF];exact yDf (List.lt_irrefl _)
 | .tuple xs=>by simp only [eF];exact xV xs
 | .none=>by simp only [eF]
 | .bool _=>by simp only [eF]
 | .list _=>by simp only [eF]
 | .dict _=>by simp only [eF]
theorem xV:∀ x:List yan,cI x x=false
 | []=>by simp only [cI]
 | x::xs=>by simp only [cI];rw [yIp trivial];exact xV xs
end
mutual
theorem sO:∀ x y z:yan,aO x y=true→aO y z=true→aO x z=true→eF x y=true→eF y z=true→eF x z=true
 | .int i,.int j,.int k,_,_,_,h,g=>by simp only [eF,decide_eq_true_eq] at h g ⊢;lia
 | .str i,.str j,.str k,_,_,_,h,g=>by simp only [eF,decide_eq_true_eq] at h g ⊢;exact List.lt_trans h g
 | .tuple xs,.tuple ys,.tuple zs,a,b,c,h,g=>by simp only [eF] at h g ⊢;exact Cg xs ys zs a b c h g
 | .none,_,_,a,_,_,_,_=>by simp [aO] at a
 | .bool _,_,_,a,_,_,_,_=>by simp [aO] at a
 | .list _,_,_,a,_,_,_,_=>by simp [aO] at a
 | .dict _,_,_,a,_,_,_,_=>by simp [aO] at a
 | .int i,.str j,_,a,_,_,_,_=>by simp [aO] at a
 | .int i,.tuple j,_,a,_,_,_,_=>by simp [aO] at a
 | .int i,.none,_,a,_,_,_,_=>by simp [aO] at a
 | .int i,.bool j,_,a,_,_,_,_=>by simp [aO] at a
 | .int i,.list j,_,a,_,_,_,_=>by simp [aO] at a
 | .int i,.dict j,_,a,_,_,_,_=>by simp [aO] at a
 | .str i,.int j,_,a,_,_,_,_=>by simp [aO] at a
 | .str i,.tuple j,_,a,_,_,_,_=>by simp [aO] at a
 | .str i,.none,_,a,_,_,_,_=>by simp [aO] at a
 | .str i,.bool j,_,a,_,_,_,_=>by simp [aO] at a
 | .str i,.list j,_,a,_,_,_,_=>by simp [aO] at a
 | .str i,.dict j,_,a,_,_,_,_=>by simp [aO] at a
 | .tuple i,.int j,_,a,_,_,_,_=>by simp [aO] at a
 | .tuple i,.str j,_,a,_,_,_,_=>by simp [aO] at a
 | .tuple i,.none,_,a,_,_,_,_=>by simp [aO] at a
 | .tuple i,.bool j,_,a,_,_,_,_=>by simp [aO] at a
 | .tuple i,.list j,_,a,_,_,_,_=>by simp [aO] at a
 | .tuple i,.dict j,_,a,_,_,_,_=>by simp [aO] at a
 | .int i,.int j,.str _,_,a,_,_,_=>by simp [aO] at a
 | .int i,.int j,.tuple _,_,a,_,_,_=>by simp [aO] at a
 | .int i,.int j,.none,_,a,_,_,_=>by simp [aO] at a
 | .int i,.int j,.bool _,_,a,_,_,_=>by simp [aO] at a
 | .int i,.int j,.list _,_,a,_,_,_=>by simp [aO] at a
 | .int i,.int j,.dict _,_,a,_,_,_=>by simp [aO] at a
 | .str i,.str j,.int _,_,a,_,_,_=>by simp [aO] at a
 | .str i,.str j,.tuple _,_,a,_,_,_=>by simp [aO] at a
 | .str i,.str j,.none,_,a,_,_,_=>by simp [aO] at a
 | .str i,.str j,.bool _,_,a,_,_,_=>by simp [aO] at a
 | .str i,.str j,.list _,_,a,_,_,_=>by simp [aO] at a
 | .str i,.str j,.dict _,_,a,_,_,_=>by simp [aO] at a
 | .tuple i,.tuple j,.int _,_,a,_,_,_=>by simp [aO] at a
 | .tuple i,.tuple j,.str _,_,a,_,_,_=>by simp [aO] at a
 | .tuple i,.tuple j,.none,_,a,_,_,_=>by simp [aO] at a
 | .tuple i,.tuple j,.bool _,_,a,_,_,_=>by simp [aO] at a
 | .tuple i,.tuple j,.list _,_,a,_,_,_=>by simp [aO] at a
 | .tuple i,.tuple j,.dict _,_,a,_,_,_=>by simp [aO] at a
theorem Cg:∀ x y z:List yan,ff x y=true→ff y z=true→ff x z=true→cI x y=true→cI y z=true→cI x z=true
 | [],[],z,_,_,_,h,_=>by simp [cI] at h
 | [],y::ys,[],_,_,_,_,g=>by simp [cI] at g
 | [],y::ys,z::zs,_,_,_,_,_=>by simp only [cI]
 | x::xs,[],z,_,_,_,h,_=>by simp [cI] at h
 | x::xs,y::ys,[],_,_,_,_,g=>by simp [cI] at g
 | x::xs,y::ys,z::zs,a,b,c,h,g=>by
  simp only [ff,zbH] at a b c
  simp only [cI] at h g ⊢
  by_cases e1:x=y
  ·rw [yIp e1] at h
   subst e1
   by_cases e2:x=z
   ·rw [yIp e2] at g ⊢
    exact Cg xs ys zs a.2 b.2 c.2 h g
   ·rw [yIn e2] at g ⊢
    exact g
  ·rw [yIn e1] at h
   by_cases e2:y=z
   ·subst e2
    rw [yIn e1]
    exact h
   ·rw [yIn e2] at g
    have t:=sO x y z a.1 b.1 c.1 h g
    rw [yIn (fun e3=>by subst e3;rw [vF] at t;cases t)]
    exact t
end
mutual
theorem qH:∀ x y:yan,aO x y=true→x≠y→eF x y=true∨eF y x=true
 | .int i,.int j,_,n=>by
  have:i≠j:=fun e=>n (by rw [e])
  simp only [eF,decide_eq_true_eq];lia
 | .str i,.str j,_,n=>by
  simp only [eF,decide_eq_true_eq]
  by_cases h:i.cps.toList<j.cps.toList
  ·exact .inl h
  ·by_cases g:j.cps.toList<i.cps.toList
   ·exact .inr g
   ·refine absurd ?_ n
    have e:i.cps.toList=j.cps.toList:=List.le_antisymm g h
    obtain ⟨i⟩:=i
    obtain ⟨j⟩:=j
    have e:i.toList=j.toList:=e
    rw [show i=j from Array.toList_inj.mp e]
 | .tuple xs,.tuple ys,a,n=>by
  simp only [eF]
  exact xU xs ys a fun e=>n (by rw [e])
 | .none,_,a,_=>by simp [aO] at a
 | .bool _,_,a,_=>by simp [aO] at a
 | .list _,_,a,_=>by simp [aO] at a
 | .dict _,_,a,_=>by simp [aO] at a
 | .int i,.str j,a,_=>by simp [aO] at a
 | .int i,.tuple j,a,_=>by simp [aO] at a
 | .int i,.none,a,_=>by simp [aO] at a
 | .int i,.bool j,a,_=>by simp [aO] at a
 | .int i,.list j,a,_=>by simp [aO] at a
 | .int i,.dict j,a,_=>by simp [aO] at a
 | .str i,.int j,a,_=>by simp [aO] at a
 | .str i,.tuple j,a,_=>by simp [aO] at a
 | .str i,.none,a,_=>by simp [aO] at a
 | .str i,.bool j,a,_=>by simp [aO] at a
 | .str i,.list j,a,_=>by simp [aO] at a
 | .str i,.dict j,a,_=>by simp [aO] at a
 | .tuple i,.int j,a,_=>by simp [aO] at a
 | .tuple i,.str j,a,_=>by simp [aO] at a
 | .tuple i,.none,a,_=>by simp [aO] at a
 | .tuple i,.bool j,a,_=>by simp [aO] at a
 | .tuple i,.list j,a,_=>by simp [aO] at a
 | .tuple i,.dict j,a,_=>by simp [aO] at a
theorem xU:∀ x y:List yan,ff x y=true→x≠y→cI x y=true∨cI y x=true
 | [],[],_,n=>absurd rfl n
 | [],y::ys,_,_=>.inl (by simp only [cI])
 | x::xs,[],_,_=>.inr (by simp only [cI])
 | x::xs,y::ys,a,n=>by
  simp only [ff,zbH] at a
  simp only [cI]
  by_cases e:x=y
  ·subst e
   rw [yIp rfl,yIp rfl]
   exact xU xs ys a.2 fun e=>n (by rw [e])
  ·rw [yIn e,yIn (Ne.symm e)]
   exact qH x y a.1 e
end
theorem zC {h:Heap}{a:Addr}{vs:List yaj}{b:Addr}{o:Obj} (hb:b≠a) (e:h.get? b=some o):(dX h a vs).get? b=some o :=
 zar _ (zar _ ((zas _ _ (Ne.symm hb)).trans e))
end
end M6
namespace L2
open PySem PySem.Spec PyProof.Rows M6
def iA (W:yal) (a:Addr) (xs:List (yan×Addr)):Heap→Prop:=fun h=>(a==yat)=false∧∃ o es ep,h.get? a=some o∧o.ExactDict∧o.data=Data.dict es ep ∧
 es.toList=xs.map (fun x=>({ hash:=x9 W x.1,key:=.ref x.2,val:=.bool true }:yaw))∧(xs.map (·.1)).Nodup
theorem iA.at {W:yal}{a:Addr}{xs:List (yan×Addr)}{h h':Heap} (x:iA W a xs h) (e:∀ o,h.get? a=some o→h'.get? a=some o):iA W a xs h':=by
 obtain ⟨z,o,es,ep,h1,r⟩:=x
 exact ⟨z,o,es,ep,e o h1,r⟩
theorem iA.ok {P:yak}{w W:yal}{H:Hp}{h:Heap}{a:Addr}{xs:List (yan×Addr)} (x:iA W a xs h):aW P w H h a (.ext (iA W a xs)):=by
 obtain ⟨z,o,es,ep,h1,r⟩:=id x
 exact ⟨x,⟨o,h1⟩,fun h1 h2 y e=>y.at e⟩
theorem iC {P:yak}{w W:yal}{H:Hp}{h:Heap}{a b:Addr}{xs:List (yan×Addr)} (x:aW P w H h a (.ext (iA W b xs))):b=a:=by
 obtain ⟨y,⟨o,e⟩,st⟩:=x
 apply Classical.byContradiction
 intro hne
 obtain ⟨z,ob,es,ep,h1,h2,h3,r⟩:=id y
 have g1:(h.update b fun _=>{ cls:=.none }).get? a=some o:=(zas _ _ hne).trans e
 have g2:(h.update b fun _=>{ cls:=.none }).get? b=some { cls:=.none }:=zaB (fun _=>{ cls:=.none }) h1 rfl
 obtain ⟨_,o2,es2,ep2,k1,k2,k3,_⟩:=st h (h.update b fun _=>{ cls:=.none }) y fun o' e'=>by rw [e] at e';cases e';exact g1
 rw [g2] at k1
 cases k1
 cases k3
noncomputable def vh (xs:List (yan×Addr)) (d:yan) (b:Addr):List (yan×Addr):=if (xs.any fun x=>decide (x.1=d))=true then xs else xs++[(d,b)]
theorem sD (xs:List (yan×Addr)) (d:yan) (b:Addr):storedH (xs.map fun x=>(x.1,x.2,Value.bool true)) d b (.bool true)=(vh xs d b).map fun x=>(x.1,x.2,Value.bool true):=by
 have e:(atKey (xs.map fun x=>(x.1,x.2,Value.bool true)) d).isSome=(xs.any fun x=>decide (x.1=d)):=by
  unfold atKey
  rw [zbw]
  induction xs with
  | nil=>rfl
  | cons x xs ih =>
   rw [zcg,zbR,zch]
   by_cases h:x.1=d
   ·simp [h]
   ·simp only [h,decide_false,Bool.false_or];exact ih
 unfold storedH vh
 rw [e]
 by_cases h:(xs.any fun x=>decide (x.1=d))=true
 ·rw [yIp h,yIp h,zcp]
  refine zaL fun x _ => ?_
  simp only [Function.comp,putAt]
  split <;> rfl
 ·rw [yIn h,yIn h,zbV];rfl
section
variable {X:Cx}{pins:List (Addr×Obj)}{σ:St}{H:Hp}{s:yai}{A:yam}{E:yaj→yai→Prop}
def nZ (K:yaM) (H:Hp) (xs:List (yan×Addr)):Prop:=∀ x∈xs,b7 x.1=true∧x.1.depth≤6∧bB K H x.1 (.ref x.2)
theorem Inv.key (I:Inv X pins σ H s) {d:yan}{b:Addr} (h1:b7 d=true) (h2:d.depth≤6) (h3:bB X.K H d (.ref b)):isKey s.heap d b :=
 ⟨h1,h2,I.reads d (.ref b) (.ref b) h3 rfl⟩
theorem zp {a b:Addr}{xs:List (yan×Addr)}{d:yan}{Q:Unit→yai→Prop} (hu:A.units+20<cLine) (I:Inv X pins σ H s) (e:H a=some (.ext (iA X.w a xs))) (hk:nZ X.K H xs) (h1:b7 d=true) (h2:d.depth≤6) (h3:bB X.K H d (.ref b)) (hl:xs.length<1000)
  (h:∀ s',Inv X pins σ (upd H a (.ext (iA X.w a (vh xs d b)))) s'→Q () s'):yas (model X.prog X.w) A (setItem (.ref a) (.ref b) (.bool true)) Q E s:=by
 obtain ⟨⟨z,o,es,ep,ho,hx,hd,hes,hn⟩,_,_⟩:=(show aW X.prog X.w H s.heap a (.ext (iA X.w a xs)) from I.hok a _ e)
 have dd:Heap.DictOfH (fN X.prog X.w) s.heap a (xs.map fun x=>(x.1,x.2,Value.bool true)):=by
  refine ⟨o,es,ep,ho,hx,hd,?_,fun x hx' => ?_,?_⟩
  ·rw [hes,zcp];rfl
  ·obtain ⟨y,hy,rfl⟩:=zcq.mp hx'
   obtain ⟨k1,k2,k3⟩:=hk y hy
   exact I.key k1 k2 k3
  ·rw [zcp];exact hn
 refine wpAny_setItem_heap (knd:=fN X.prog X.w) (hsz:=by rw [zbN,yag];lia) (show A.units+1+10<cLine by lia) (I.key h1 h2 h3) dd fun h' dd' hs=>h _ ?_
 rw [sD] at dd'
 obtain ⟨q,es',ep',hq,x1,x2,x3,_,x5⟩:=dd'
 have nn:iA X.w a (vh xs d b) h':=⟨z,q,es',ep',hq,x1,x2,by rw [x3,zcp];rfl,by rw [zcp] at x5;exact x5⟩
 exact iF I (by rw [e];exact True.intro) hs ⟨q,hq⟩ nn.ok
end
def AL (W:yal):TE:=fun _ H Q=>∀ p,H p=none→Q (.ref p) (upd H p (.ext (iA W p [])))
def G9 (K:yaM) (W:yal) (td ty tv:TE):TS:=fun D σ H=>tv σ H fun v H1=>td σ H1 fun x H2=>ty σ H2 fun y H3=>∃ (a a' b:Addr) (xs:List (yan×Addr)) (d:yan),v = .bl true∧x = .ref a∧y = .ref b∧H3 a=some (.ext (iA W a' xs)) ∧
 nZ K H3 xs∧b7 d=true∧d.depth≤6∧bB K H3 d (.ref b)∧xs.length<1000∧(a'=a→D.nx σ (upd H3 a (.ext (iA W a (vh xs d b)))))
theorem oS {α:Type} (f:α→Addr):∀ l:List α,Vals (l.map fun x=>V.ref (f x)) (l.map fun x=>Value.ref (f x))
 | []=>.nil
 | x::l=>.cons rfl (oS f l)
section
variable {X:Cx}{o i value:Expr}{td ty tv:TE}{pos pos':Pos}
theorem jC:PE X (.Dict [] [] pos) (AL X.w):=fun pins s σ H Q I h =>
 wpAny_Dict_empty ⟨.ref s.heap.objs.size,_,I.laid (a:=s.heap.objs.size) (o:=.ext (iA X.w s.heap.objs.size [])) (t':=s.toks) (fun _ _ q=>zar _ q) (zcE _)
  (iA.ok ⟨beq_eq_false_iff_ne.mpr (Ne.symm (zcr I.big)),_,#[],0,zaR _ rfl,⟨rfl,rfl,rfl⟩,rfl,rfl,List.nodup_nil⟩),rfl,h _ (I.hok.fresh (zcE _))⟩
theorem jx (hu:X.A.units+20<cLine) (ho:PE X o td) (hi:PE X i ty) (hv:PE X value tv) (hs:yau value (some (.Subscript o i pos')) pos.line X.env=pure false) :
  PS X (.Assign [.Subscript o i pos'] value pos) (G9 X.K X.w td ty tv):=by
 intro pins s σ H D I h
 refine wpAny_Assign_Subscript (bX (hv pins s σ H _ I h) fun r s1 ⟨v,H1,I1,rv,q1⟩=>bX (ho pins s1 σ H1 _ I1 q1) fun u s2 ⟨x,H2,I2,rx,q2⟩=>bX (hi pins s2 σ H2 _ I2 q2) fun iv s3 ⟨y,H3,I3,ry,a,a',b,xs,d,ev,ex,ey,e,k1,k2,k3,k4,k5,q3⟩ => ?_) hs
 subst ev ex ey
 obtain rfl:u=Value.ref a:=rx
 obtain rfl:iv=Value.ref b:=ry
 obtain rfl:r=Value.bool true:=rv
 obtain rfl:=iC (show aW X.prog X.w H3 s3.heap a (.ext (iA X.w a' xs)) from I3.hok a _ e)
 exact zp hu I3 e k1 k2 k3 k4 k5 fun s4 I4=>⟨σ,_,I4,q3 rfl⟩
end
theorem JS {k:Key}{u:yaj} (h:nv k u=true):RelV (kV k) u:=by
 rcases bJ h with ⟨i,t,rfl,rfl⟩ | ⟨x,t,rfl,rfl⟩
 ·exact ⟨t,rfl⟩
 ·exact ⟨t,rfl⟩
theorem sS {prog:yak}{w:yal}:∀ {kvs:List (Key×V)}{vs:List (Key×yaj)}{es:List yaw},KV kvs vs→Pairs (bA prog w) es vs→Vals (kvs.map fun p=>kV p.1) (es.map (·.key))
 | [],_,es,h1,h2=>by cases h1;cases h2;exact .nil
 | p::kvs,_,es,h1,h2=>by
  cases h1 with
  | cons r t =>
   cases h2 with
   | cons g1 g2 g3 =>
    refine .cons ?_ (sS t g3)
    show RelV (kV p.1) _
    rw [r.1]
    exact JS g1
def Jm (neg:Bool):R2:=fun y x H Q=>∃ a kvs k,x = .ref a∧y=kV k∧H a=some (.dK kvs)∧Q (.bl (neg != (eO kvs k).isSome)) H
section
variable {X:Cx}
theorem Jk {pins:List (Addr×Obj)}{σ:St}{H:Hp}{s:yai}{a:Addr}{kvs:List (Key×V)} (I:Inv X pins σ H s) (e:H a=some (.dK kvs)):(a==yat)=false∧kvs.length≤yah∧∃ es ep,jh s.heap a es ep∧Vals (kvs.map fun x=>kV x.1) (es.toList.map (·.key)):=by
 obtain ⟨z,hd,vs,rel,o,es,ep,ho,hx,hdat,hk,hp,hn⟩:=yh I.hok e
 exact ⟨hd,z,es,ep,⟨o,ho,hx,hdat⟩,sS rel hp⟩
theorem Jy (hu:X.A.units+1<cLine):fV X (yao .In) (Jm false):=by
 intro pins s σ H y x v u Q I ry rx h
 obtain ⟨a,kvs,k,rfl,rfl,e,q⟩:=h
 obtain rfl:u=Value.ref a:=rx
 exact OL hu I (iP.k e) ry fun s3 I3=>⟨.bl (eO kvs k).isSome,H,I3,rfl,by simpa using q⟩
theorem ze (hu:X.A.units+1<cLine):fV X (yao .NotIn) (Jm true):=by
 intro pins s σ H y x v u Q I ry rx h
 obtain ⟨a,kvs,k,rfl,rfl,e,q⟩:=h
 obtain rfl:u=Value.ref a:=rx
 exact F4 hu I (iP.k e) ry fun s3 I3=>⟨.bl (!(eO kvs k).isSome),H,I3,rfl,by simpa using q⟩
end
end L2
namespace M6
open PySem PySem.Spec PyProof.Rows
theorem zB:typeLookup (.type "list") (Str.ofString "keys")=pure none:=by rw [typeLookup_type];kernel_rfl
section
variable {prog:yak}{w:yal}{A:yam}{E:yaj→yai→Prop}{s:yai}
theorem zF {a:Addr}{xs:Array yaj}{k:Nat}{Q:Option yaj→yai→Prop} (hx:s.heap.get? a=some { cls:=.type "list",data:=.seq xs k }) (hA:A.handled=none)
  (h:∀ (h':Heap) (tk:Nat),(∀ b o,s.heap.get? b=some o→h'.get? b=some o)→Q none { s with heap:=h',toks:=tk }):yas (model prog w) A (getAttr? (.ref a) (Str.ofString "keys")) Q E s:=by
 have f1:=sub_AttributeError
 have f3:=PySem.F.slot_list_getattribute.lookup
 have f4:=PySem.F.slot_list_getattribute.bind (Value.ref a)
 have f5:=am_list_getattr_none
 have f6:=zB
 obtain ⟨hp,g,d,tk,os⟩:=s
 dsimp only at h hx ⊢
 have hT:Shared.TypeIs ⟨hp,g,d,tk,os⟩ (.ref a) "list" := ⟨_,hx,rfl⟩
 unfold getAttr? getAttrBy? getAttrBy getAttrByItsOwn callGetattribute boundAndCalled
 generalize hC:@PySem.call=C
 wp_walk
 subst hC
 refine call_meets PySem.F.slot_list_getattribute (s:=⟨hp,g,d,tk+1,os⟩) ⟨_,hx,rfl⟩ am_entry_list_getattribute (PySem.F.args_list_getattribute_2 (Value.ref a) (Value.str (Str.ofString "keys") tk)) (meets_getattribute_miss_list a xs k #[] (Str.ofString "keys") tk f6 (by decide +kernel)) ⟨hx,hA,fun h' tk' e hx' => ?_⟩
 obtain ⟨t,u,he⟩:=hx'.there
 have hT2:Shared.TypeIs ⟨h',g,d,tk',os⟩ (.ref e) "AttributeError" := ⟨_,he,rfl⟩
 have hk:=hx'.keeps
 show yas (model prog w) A (getattributeRaised (Value.ref a) (Value.str (Str.ofString "keys") tk) (Value.type "list") (.ref e) none false false) _ _ _
 unfold getattributeRaised
 refine yaa (wpAny_isInstance hT2 f1 ?_)
 rw [yIp rfl]
 refine yaa (wpAny_of_eq f5 ?_)
 show yas (model prog w) A (do let _ ← throw (Value.ref e);_) _ _ _
 refine yaa (wpAny_throw ?_)
 show yas (model prog w) A (do
       let __do_lift ← isInstance (Value.ref e) (Value.type "AttributeError")
       if __do_lift=true then pure none else throw (Value.ref e)) Q E _
 refine yaa (wpAny_isInstance hT2 f1 ?_)
 rw [yIp rfl]
 exact yab (h h' tk' hk)
end
theorem pM:entryFor table "dict.update.loop" = some Builtin.«dict.update.loop» := entryFor_of_tree (by kernel_rfl)
theorem iw:plainId "dict.update.loop" = true:=by decide +kernel
noncomputable def bT {K:Type} [DecidableEq K] (ps:List (K×yaj)):List (K×yaj):=ps.foldl (fun acc p=>stored acc p.1 p.2) []
section
variable {prog:yak}{w:yal}{A:yam}{E:yaj→yai→Prop}{s:yai}{K:Type} [DecidableEq K] {knd:KeyKind prog w K}
def jj (knd:KeyKind prog w K) (h:Heap) (v:yaj) (p:K×yaj):Prop:=∃ t ku o n,v = .ref t∧h.get? t=some o∧o.cls = .type "tuple" ∧ o.data = .seq #[ku,p.2] n∧knd.is p.1 ku=true
theorem jj.at {h h':Heap}{v:yaj}{p:K×yaj} (x:jj knd h v p) (e:∀ b o,o.cls = .type "tuple" → h.get? b=some o→h'.get? b=some o):jj knd h' v p:=by
 obtain ⟨t,ku,o,n,h1,h2,h3,h4⟩:=x
 exact ⟨t,ku,o,n,h1,e t o h3 h2,h3,h4⟩
theorem lO {h h':Heap}{d:Addr}{kvs:List (K×yaj)} (x:Heap.DictOf knd h d kvs) (e:∀ o,h.get? d=some o→h'.get? d=some o):Heap.DictOf knd h' d kvs:=by
 obtain ⟨o,es,ep,h1,r⟩:=x
 exact ⟨o,es,ep,e o h1,r⟩
theorem uO (kvs:List (K×yaj)) (k:K) (v:yaj):(stored kvs k v).length≤kvs.length+1:=by
 unfold stored
 split
 ·rw [zbN];lia
 ·rw [zaT];exact zcE _
theorem l6 (ps:List (K×yaj)) (p:K×yaj):bT (ps++[p])=stored (bT ps) p.1 p.2:=by
 unfold bT
 rw [List.foldl_append];rfl
theorem oA (ps:List (K×yaj)):(bT ps).length≤ps.length:=by
 have:∀ (l acc:List (K×yaj)),(l.foldl (fun acc p=>stored acc p.1 p.2) acc).length≤acc.length+l.length:=by
  intro l
  induction l with
  | nil=>intro acc;simp
  | cons a r ih=>intro acc;rw [zbT,zbx];have:=ih (stored acc a.1 a.2);have:=uO acc a.1 a.2;lia
 have:=this ps []
 simpa [bT] using this
theorem zD {I l d:Addr}{its:Array yaj}{ps:List (K×yaj)}{R:Result→yai→Prop}{St:Nat→Heap→Prop} (W:Walks prog w A.in1 I [I,l] [I] its.size (fun i v=>its[i]? = some v) St) (hSt:∀ i h,St i h→∀ o,h.get? I=some o→o.cls ≠ .type "tuple") (hdI:d≠I) (hdl:d≠l) (hlen:its.size=ps.length) (hn:ps.length≤1000) :
  ∀ (k i:Nat) (s:yai),its.size - i=k→i≤its.size→St i s.heap→Heap.DictOf knd s.heap d (bT (ps.take i))→(∀ (i:Nat) (v:yaj) (p:K×yaj),its[i]? = some v→ps[i]? = some p→jj knd s.heap v p) →
   (∀ (h':Heap) (tk:Nat),Heap.DictOf knd h' d (bT ps)→(∀ b o,b≠d→b≠I→s.heap.get? b=some o→h'.get? b=some o)→R (.ok (.ret .none)) { s with heap:=h',toks:=tk }) →
   codeAny (model prog w) A (.builtin "dict.update.loop" ⟨[.ref d,.ref I,rawInt i,.none],[]⟩) R s:=by
 intro k
 induction k with
 | zero =>
  intro i s hk hi hst hD hp hR
  obtain rfl:i=its.size:=by lia
  refine codeAny_builtin pM ?_
  rw [Around.under_plainId iw _]
  show yas _ A.in1 (pyNext (.ref I) >>= _) _ _ s
  refine yaa (W.done s _ _ hst fun h' tk hm => ?_)
  rw [hlen,zbD] at hD
  refine yaa (yab ?_)
  exact yab (hR h' tk (lO hD fun o e=>hm d o (by simpa using hdI) e) fun b o h1 h2 e=>hm b o (by simpa using h2) e)
 | succ k ih =>
  intro i s hk hi hst hD hp hR
  have hlt:i<its.size:=by lia
  refine codeAny_builtin pM ?_
  rw [Around.under_plainId iw _]
  show yas _ A.in1 (pyNext (.ref I) >>= _) _ _ s
  refine yaa (W.item i s _ _ hlt hst fun v h' tk hP hst' hm => ?_)
  have hpi:ps[i]? = some ps[i]:=zak (by lia)
  have hp2:∀ (i:Nat) (v:yaj) (p:K×yaj),its[i]? = some v→ps[i]? = some p→jj knd h' v p:=fun j v p h1 h2=>(hp j v p h1 h2).at fun b o hc e=>hm b o (by
   intro z
   simp only [zaW] at z
   subst z
   exact hSt i _ hst o e hc) e
  obtain ⟨t,ku,o,m,rfl,ho,hc,hd,hku⟩:=hp2 i v _ hP hpi
  have hD2:Heap.DictOf knd h' d (bT (ps.take i)):=lO hD fun o e=>hm d o (by simpa using hdI) e
  dsimp only
  refine yaa (yad ?_)
  refine yaa (wpAny_tryCatch ?_)
  unfold Builtin.Dict.pairItems
  refine yaa (wpAny_typeOf (T := "tuple") ⟨o,ho,hc⟩ ?_)
  rw [yIp (by decide)]
  refine yaa (wpAny_seqItems ho hd (yab ?_))
  have h2:=oA (ps.take i)
  rw [zby] at h2
  refine yad (wpAny_dictSet_pairs hku hD2 (fun h'' hD'' hs => ?_) (by rw [yag];lia))
  have e9:∀ b o,b≠d→h'.get? b=some o→h''.get? b=some o:=fun b o hb e=>(hs.2 b hb).trans e
  refine yab ⟨plainId_quiet iw _,?_⟩
  rw [show ((i:Int)+1)=((i+1:Nat):Int) by lia]
  refine ih (i+1) { s with heap:=h'',toks:=tk+1 } (by lia) hlt (W.frame _ h' h'' hst' fun b hb o e=>e9 b o ?_ e) ?_ (fun j v p h1 h2=>(hp2 j v p h1 h2).at fun b o hc e=>e9 b o ?_ e) fun h3 tk3 hD3 kp3 => ?_
  ·simp only [zcf,zbE,or_false] at hb
   rcases hb with rfl | rfl
   ·exact Ne.symm hdI
   ·exact Ne.symm hdl
  ·rw [List.take_succ,hpi]
   show Heap.DictOf knd h'' d (bT (ps.take i++[ps[i]]))
   rw [l6]
   exact hD''
  ·intro z
   subst z
   obtain ⟨od,_,_,hod,hcd,_⟩:=hD2
   rw [hod] at e;cases e
   rw [hcd.1] at hc
   injection hc with hc
   exact absurd hc (by decide)
  ·exact hR h3 tk3 hD3 fun b o h1 h2 e=>kp3 b o h1 h2 (e9 b o h1 (hm b o (by simpa using h2) e))
theorem vV {l:Addr}{its:Array yaj}{ps:List (K×yaj)}{Q:yaj→yai→Prop} (hh:A.handled=none) {c:Nat} (hl:s.heap.get? l=some { cls:=.type "list",data:=.seq its c }) (hlen:its.size=ps.length) (hp:∀ (i:Nat) (v:yaj) (p:K×yaj),its[i]? = some v→ps[i]? = some p→jj knd s.heap v p) (hn:ps.length≤1000)
  (h:∀ (h':Heap) (tk:Nat),Heap.DictOf knd h' s.heap.objs.size (bT ps)→(∀ b o,s.heap.get? b=some o→h'.get? b=some o)→Q (.ref s.heap.objs.size) { s with heap:=h',toks:=tk }) :
  yas (model prog w) A (call (.type "dict") [.ref l]) Q E s:=by
 refine callType_codes PySem.F.kt_called_dict (PySem.F.kt_typeCall_dict_1 (.ref l)) PySem.F.entry_dict_init (kt_code_dict_new (.ref l) (Q₁:=fun u s₁=>u = .ref s.heap.objs.size∧s₁={ s with heap:=s.heap.push { cls:=.type "dict",data:=.dict #[] } }) ⟨rfl,rfl⟩) fun obj s₁ z => ?_
 obtain ⟨rfl,rfl⟩:=z
 have hnew:Heap.DictOf knd (s.heap.push { cls:=Value.type "dict",data:=Data.dict #[] }) s.heap.objs.size []:=Heap.DictOf.new s.heap
 have hl1:(s.heap.push { cls:=Value.type "dict",data:=Data.dict #[] }).get? l=some { cls:=.type "list",data:=.seq its c }:=zar _ hl
 refine ⟨Heap.DictOf.typeIs hnew,PySem.F.args_dict_init_2 _ _,?_⟩
 unfold Builtin.«dict.__init__»
 refine yaa (yaa (wpAny_notOrdered_dict (Heap.DictOf.typeIs hnew) (yab ?_)))
 show yas _ _ (Builtin.Dict.updateFrom "dict.__init__" s.heap.objs.size (.ref l) [] .none) _ _ _
 unfold Builtin.Dict.updateFrom
 refine yaa (wpAny_typeOf (T := "list") ⟨_,hl1,rfl⟩ ?_)
 rw [yIp (by decide)]
 refine yaa (zF hl1 hh fun h1 tk1 kp1 => ?_)
 rw [yIp (by decide)]
 refine yaa (wpAny_rule ?_)
 have hl2:h1.IsList l its:=⟨_,kp1 _ _ hl1,rfl,c,rfl⟩
 refine yaa (wpAny_pyIter_list hl2 ?_)
 have hD1:Heap.DictOf knd h1 s.heap.objs.size []:=lO hnew fun o e=>kp1 _ _ e
 refine yab ⟨plainId_quiet iw _,?_⟩
 have lS:s.heap.objs.size<h1.objs.size:=by obtain ⟨o,_,_,ho,_⟩:=hD1;exact zcA ho
 have ll:l<s.heap.objs.size:=zcA hl
 have kp2:∀ b o,s.heap.get? b=some o→h1.get? b=some o:=fun b o e=>kp1 b o (zar _ e)
 refine zD (ps:=ps) (Walks.list (A:=A.in1.in1) hh h1.objs.size l (zcr (Nat.lt_trans ll lS)) its) (fun i h z o e => ?_) (zcr lS) (zct ll) hlen hn its.size 0 _ rfl (zcF _) ?_ ?_ ?_ fun h' tk hD' kp'=>⟨rfl,h h' tk hD' fun b o e => ?_⟩
 ·obtain ⟨o',ho',hc',_⟩:=z.1
  rw [e] at ho';cases ho'
  rw [hc']
  intro z
  injection z with z
  exact absurd z (by decide)
 ·exact ⟨⟨_,zaR _ rfl,rfl,rfl⟩,hl2.at fun o e=>zar _ e⟩
 ·exact lO hD1 fun o e=>zar _ e
 ·exact fun i v p h2 h3=>(hp i v p h2 h3).at fun b o _ e=>zar _ (kp2 b o e)
 ·have lb:=zcA e
  exact kp' b o (zcr lb) (zcr (Nat.lt_trans lb lS)) (zar _ (kp2 b o e))
end
end M6
namespace L2
open PySem PySem.Spec PyProof.Rows M6
noncomputable def putAll (kvs:List (Key×V)):List (Key×V):=kvs.foldl (fun acc p=>putK acc p.1 p.2) []
theorem mK:∀ {kvs:List (Key×V)}{vs:List (Key×yaj)},KV kvs vs→∀ {a:List (Key×V)}{b:List (Key×yaj)},KV a b→KV (kvs.foldl (fun acc p=>putK acc p.1 p.2) a) (vs.foldl (fun acc p=>stored acc p.1 p.2) b)
 | [],_,h,a,b,g=>by cases h;exact g
 | p::kvs,_,h,a,b,g=>by
  cases h with
  | @cons _ q _ vs r t =>
   show KV (kvs.foldl _ (putK a p.1 p.2)) (vs.foldl _ (stored b q.1 q.2))
   rw [← r.1]
   exact mK t (g.put p.1 r.2)
theorem vg (kvs:List (Key×V)):(putAll kvs).length≤kvs.length:=by
 have:∀ (l acc:List (Key×V)),(l.foldl (fun acc p=>putK acc p.1 p.2) acc).length≤acc.length+l.length:=by
  intro l
  induction l with
  | nil=>intro acc;simp
  | cons a r ih=>intro acc;rw [zbT,zbx];have:=ih (putK acc a.1 a.2);have:=eZ acc a.1 a.2;lia
 have:=this kvs []
 simpa [putAll] using this
def KQ (H:Hp) (ts:List Addr) (kvs:List (Key×V)):Prop:=Paired (fun t (p:Key×V)=>H t=some (.tup [kV p.1,p.2])) ts kvs
def Jq:List V→Hp→VK→Prop:=fun xs H Q=>∃ (a:Addr) (ts:List Addr) (kvs:List (Key×V)),xs=[.ref a]∧H a=some (.lst (ts.map V.ref))∧KQ H ts kvs∧kvs.length≤1000∧∀ p,H p=none→Q (.ref p) (upd H p (.dK (putAll kvs)))
theorem oZ:∀ {ts:List Addr}{us:List yaj},Vals (ts.map V.ref) us→us=ts.map Value.ref
 | [],us,h=>by cases h;rfl
 | t::ts,us,h=>by
  cases h with
  | cons r g =>
   obtain rfl:_=Value.ref t:=r
   rw [oZ g];rfl
section
variable {X:Cx}
theorem BR {pins:List (Addr×Obj)}{σ:St}{H:Hp}{s:yai} (I:Inv X pins σ H s):∀ {ts:List Addr}{kvs:List (Key×V)},KQ H ts kvs→∃ ps:List (Key×yaj),KV kvs ps∧ps.length=ts.length∧∀ (i:Nat) (v:yaj) (p:Key×yaj),(ts.map Value.ref)[i]? = some v→ps[i]? = some p→jj (bA X.prog X.w) s.heap v p
 | [],_,h=>by cases h;exact ⟨[],.nil,rfl,fun i v p h=>by simp at h⟩
 | t::ts,_,h=>by
  cases h with
  | @cons _ q _ kvs r g =>
   obtain ⟨ps,h1,h2,h3⟩:=BR I g
   obtain ⟨_,its,rv,o,ho,hc,n,hd⟩:=(show aW X.prog X.w H s.heap t (.tup [kV q.1,q.2]) from I.hok t _ r)
   cases rv with
   | @cons _ ku _ its' g1 rv =>
    cases rv with
    | @cons _ u _ its'' g2 rv =>
     cases rv
     refine ⟨(q.1,u)::ps,.cons ⟨rfl,g2⟩ h1,by simp [h2],fun i v p e1 e2 => ?_⟩
     cases i with
     | zero =>
      simp only [zcg,List.getElem?_cons_zero,zcH.injEq] at e1 e2
      subst e1;subst e2
      exact ⟨t,ku,o,n,rfl,ho,hc,hd,kQ g1⟩
     | succ i =>
      simp only [zcg,List.getElem?_cons_succ] at e1 e2
      exact h3 i v p e1 e2
theorem vW {k:Nat} (hr:aU k X.A):b9 X (.type "dict") Jq:=by
 intro pins s σ H xs us Q I r h
 obtain ⟨a,ts,kvs,rfl,e,hp,hl,q⟩:=h
 obtain ⟨u,rfl,ru⟩:=vals1 r
 cases ru
 obtain ⟨hz,its,c,rv,g⟩:=(show aW X.prog X.w H s.heap a (.lst (ts.map V.ref)) from I.hok a _ e)
 have ei:=oZ rv
 obtain ⟨ps,p1,p2,p3⟩:=BR I hp
 have p4:=Paired.length p1
 refine vV (knd:=bA X.prog X.w) (its:=its.toArray) (ps:=ps) hr.hd g (by rw [zbg,ei,zbN];exact p2.symm) (fun i v p h1 h2=>p3 i v p (by rw [← ei];simpa using h1) h2) (by lia) fun h' tk dd kp => ?_
 have dd':h'.DictOf (bA X.prog X.w) s.heap.objs.size (bT ps):=dd
 refine ⟨.ref s.heap.objs.size,_,I.laid (a:=s.heap.objs.size) (t':=tk) (o:=.dK (putAll kvs)) kp (zcE _) ⟨by have:=vg kvs;rw [yag];lia,beq_eq_false_iff_ne.mpr (Ne.symm (zcr I.big)),_,mK p1 .nil,dd'⟩,rfl,q _ (I.hok.fresh (zcE _))⟩
end
end L2
namespace M
open PySem PySem.Spec PyProof.Rows L2 M6
noncomputable def keyOf:D→Option Key
 | .int i=>some (.inl i)
 | .str x=>some (.inr x)
 | _=>none
noncomputable def kD:Key→D
 | .inl i=>.int i
 | .inr x=>.str x
noncomputable def oH (ks:List Key) (k:Key):Bool:=ks.any fun j=>decide (j=k)
section
variable {K:yaM}
theorem lH {w:Wd}{d:D}{v:V}{k:Key} (h:Rep K w d v) (e:keyOf d=some k):v=kV k:=by
 cases d <;> simp only [keyOf] at e <;> cases e
 ·simpa [Rep,kV] using h
 ·simpa [Rep,kV] using h
theorem EE {w:Wd}{S:aG}{d:D}{v:V}{k:Key} (h:Rep K w d v) (e:keyOf (bG S d)=some k):v=kV k:=by
 cases z:bG S d <;> rw [z] at e <;> simp only [keyOf] at e <;> cases e
 ·exact cP h z
 ·exact bS h z
def DI:AE:=fun _ S Q=>Q (.new (.dct [] [])) S
theorem ER:∀ σ H Q,bF K DI σ H Q→AQ σ H Q:=by
 rintro σ H Q ⟨w,δ,S,Qa,ok,env,q,bk⟩ p hp
 exact bk (.new (.dct [] [])) S _ w _ .refl (ok.alloc hp) (ok.fresh hp ⟨[],rfl,rfl,.nil⟩) q
def wc (a b:AE):AE:=fun δ S Q=>a δ S fun r1 S1=>b δ S1 fun r2 S2=>∃ ks ds k d,bG S2 r1.d = .dct ks ds∧keyOf r2.d=some k∧kF ks ds k=some d∧Q (.dat d) S2
theorem ES {a b:AE}:∀ σ H Q,bF K (wc a b) σ H Q→AR (bF K a) (bF K b) σ H Q:=by
 rintro σ H Q ⟨w,δ,S,Qa,ok,env,q,bk⟩
 refine ⟨w,δ,S,_,ok,env,q,.go fun r1 S1 v1 w1 H1 le1 ok1 rep1 q1 => ?_⟩
 refine ⟨w1,δ,S1,_,ok1,env.le le1,q1,.go fun r2 S2 v2 w2 H2 le2 ok2 rep2 ⟨ks,ds,k,d,z1,z2,z3,q2⟩ => ?_⟩
 obtain ⟨a,kvs,rfl,h1,rfl,h3⟩:=ir ok2 (rep1.le le2) z1
 obtain ⟨v,g1,g2⟩:=qN h3 z3
 rw [lH rep2 z2]
 refine ⟨a,v,rfl,?_,bk.dat (le1.trans le2) ok2 g2 q2⟩
 rw [← g1]
 exact iP.k h1
def DF (a b c:AE):AS:=fun D δ S=>c δ S fun r3 S1=>a δ S1 fun r1 S2=>b δ S2 fun r2 S3=>∃ n ks ds k,r1.d = .loc n∧keyOf r2.d=some k∧S3[n]? = some (some (.dct ks ds))∧ds.length<1000∧D.nx δ (S3.set n (some (nN ks ds k r3.d)))
theorem EN {a b c:AE}:∀ D σ H,iM K (DF a b c) D σ H→BB (bF K a) (bF K b) (bF K c) D σ H:=by
 rintro D σ H ⟨w,δ,S,Da,ok,env,q,bk⟩
 refine ⟨w,δ,S,_,ok,env,q,.go fun r3 S1 v3 w1 H1 le1 ok1 rep3 q1 => ?_⟩
 refine ⟨w1,δ,S1,_,ok1,env.le le1,q1,.go fun r1 S2 v1 w2 H2 le2 ok2 rep1 q2 => ?_⟩
 refine ⟨w2,δ,S2,_,ok2,(env.le le1).le le2,q2,.go fun r2 S3 v2 w3 H3 le3 lq rep2 ⟨n,ks,ds,k,z1,z2,z3,hl,q3⟩ => ?_⟩
 rw [z1] at rep1
 obtain ⟨a,kvs,rfl,h0,h1,rfl,h3⟩:=vS lq (rep1.le le3) z3
 rw [lH rep2 z2]
 have hlen:kvs.length=ds.length:=by have:=h3.length;rw [zbN] at this;exact this
 refine ⟨a,_,rfl,wG.k h1 (by rw [hlen,yag];lia),?_⟩
 have ok4:=lq.put z3 h0 (sC (k:=k) (rep3.le (le2.trans le3)) h3)
 exact bk.nx δ _ σ w3 _ ((le1.trans le2).trans le3) ok4 (((env.le le1).le le2).le le3) q3
def tY (neg:Bool):A2:=fun x y S Q=>match bG S y with
 | .dct ks _=>∃ k,keyOf (bG S x)=some k∧Q (.dat (.bl (neg != oH ks k))) S
 | _=>False
theorem HK {neg:Bool}:∀ x y H Q,zV K (tY neg) x y H Q→Jm neg x y H Q:=by
 intro x y H Q h
 obtain ⟨w,d,e,S,Qa,ok,r1,r2,q,bk⟩:=h
 unfold tY at q
 cases z:bG S e <;> rw [z] at q <;> first | exact q.elim | skip
 obtain ⟨k,z1,q⟩:=q
 obtain ⟨a,kvs,rfl,h1,rfl,h3⟩:=ir ok r2 z
 refine ⟨a,kvs,k,rfl,EE r1 z1,h1,bk.dat .refl ok .bl ?_⟩
 have e2:oH (kvs.map (·.1)) k=(eO kvs k).isSome:=by
  unfold oH
  rw [zcn]
  exact lX k kvs
 rw [← e2];exact q
noncomputable def As (a:List Key×List D) (p:Key×D):List Key×List D:=if oH a.1 p.1=true then (a.1,(a.1.zip a.2).map fun x=>if x.1=p.1 then p.2 else x.2) else (a.1++[p.1],a.2++[p.2])
noncomputable def qQ (ps:List (Key×D)):List Key×List D:=ps.foldl As ([],[])
def KH:AN:=fun ds S Q=>∃ d,∃ ps:List (Key×D),ds=[d]∧bG S d = .lst (ps.map fun p=>.tup [kD p.1,p.2])∧ps.length≤1000∧Q (.new (.dct (qQ ps).1 (qQ ps).2)) S
theorem Gi (a:List Key×List D) (p:Key×D):nN a.1 a.2 p.1 p.2 = .dct (As a p).1 (As a p).2:=by
 unfold nN As oH
 split <;> rfl
theorem tH {w:Wd}:∀ {ps:List (Key×D)}{kvs:List (Key×V)},Paired (fun (p:Key×D) (q:Key×V)=>p.1=q.1∧Rep K w p.2 q.2) ps kvs→∀ {a:List Key×List D}{b:List (Key×V)},b.map (·.1)=a.1→az K w a.2 (b.map (·.2)) →
  (kvs.foldl (fun acc p=>putK acc p.1 p.2) b).map (·.1)=(ps.foldl As a).1∧az K w (ps.foldl As a).2 ((kvs.foldl (fun acc p=>putK acc p.1 p.2) b).map (·.2))
 | [],_,h,a,b,g1,g2=>by cases h;exact ⟨g1,g2⟩
 | p::ps,_,h,a,b,g1,g2=>by
  cases h with
  | @cons _ q _ kvs r t =>
   have hr:=sC (K:=K) (k:=p.1) r.2 g2
   rw [g1] at hr
   rw [show nN a.1 a.2 p.1 p.2=_ from Gi a p] at hr
   obtain ⟨kvs',e1,e2,e3⟩:=hr
   injection e1 with e1
   subst e1
   rw [r.1] at e2 e3
   exact tH t e2 e3
theorem pq {w:Wd}{H:Hp}{S:aG} (ok:Ok K w H S):∀ {ps:List (Key×D)}{xs:List V},az K w (ps.map fun p=>D.tup [kD p.1,p.2]) xs→∃ ts kvs,xs=ts.map V.ref∧KQ H ts kvs∧Paired (fun (p:Key×D) (q:Key×V)=>p.1=q.1∧Rep K w p.2 q.2) ps kvs
 | [],xs,h=>⟨[],[],by simpa [az] using h,.nil,.nil⟩
 | p::ps,xs,h=>by
  simp only [zcg,az] at h
  obtain ⟨x,r,rfl,h1,h2⟩:=h
  obtain ⟨ts,kvs,rfl,g1,g2⟩:=pq ok h2
  simp only [Rep] at h1
  obtain ⟨t,ys,rfl,hB,hy⟩:=h1
  simp only [az] at hy
  obtain ⟨y1,r1,rfl,k1,y2,r2,rfl,k2,rfl⟩:=hy
  have e1:y1=kV p.1:=lH k1 (by cases p.1 <;> rfl)
  subst e1
  exact ⟨t::ts,(p.1,y2)::kvs,rfl,.cons (ok.base _ _ hB) g1,.cons ⟨rfl,k2⟩ g2⟩
end
section
variable {X:Cx}{o i value:Expr}{pos pos':Pos}
theorem jD:GE X (.Dict [] [] pos) DI:=⟨mE L2.jD ER⟩
theorem c5 {ta tb:AE} (hu:X.A.units+1<cLine) (ho:GE X o ta) (hi:GE X i tb) (hs:GN i):GE X (.Subscript o i pos) (wc ta tb):=⟨mE (L2.c6 hu ho.p hi.p hs) ES⟩
theorem sF {ta tb tc:AE} (hu:X.A.units+1<cLine) (ho:GE X o ta) (hi:GE X i tb) (hv:GE X value tc) (hs:yau value (some (.Subscript o i pos')) pos.line X.env=pure false):GS X (.Assign [.Subscript o i pos'] value pos) (DF ta tb tc) :=
 ⟨mS (L2.jy hu ho.p hi.p hv.p hs) EN⟩
theorem B6 {k:Nat} (hr:aU k X.A):uH X (yao .In) (tY false):=⟨m2 (Jy (e8 hr)) HK⟩
theorem m7 {k:Nat} (hr:aU k X.A):uH X (yao .NotIn) (tY true):=⟨m2 (ze (e8 hr)) HK⟩
theorem Fo {k:Nat} (hr:aU k X.A):DY X (.type "dict") KH:=⟨mC (vW hr) fun xs H Q h=>by
 obtain ⟨w,ds,S,Qa,ok,rep,⟨d,ps,rfl,z,hl,q⟩,bk⟩:=h
 obtain ⟨v,rfl,r1⟩:=gC rep
 obtain ⟨a,xs,rfl,h1,h2⟩:=cD ok r1 z
 obtain ⟨ts,kvs,rfl,g1,g2⟩:=pq ok h2
 have hlen:=Paired.length g2
 obtain ⟨e1,e2⟩:=tH g2 (a:=([],[])) (b:=[]) rfl .nil
 exact ⟨a,ts,kvs,rfl,h1,g1,by lia,fun p hp=>bk (.new (.dct (qQ ps).1 (qQ ps).2)) S _ w _ .refl (ok.alloc hp) (ok.fresh hp ⟨_,rfl,e1,e2⟩) q⟩⟩
end
def nF (W:yal) (ks:List D):Addr→List Addr→Heap→Prop:=fun a bs=>iA W a ((ks.map py).zip bs)
noncomputable def nO (W:yal) (ks:List D):MO:=.Eh (nF W ks) ks
def fk (d:D):Prop:=ck d=true∧b7 (py d)=true∧(py d).depth≤6∧∃ es,d = .tup es
noncomputable def putN (ks:List D) (k:D):List D:=if (ks.any fun j=>decide (py j=py k))=true then ks else ks++[k]
section
variable {K:yaM}
theorem jH {w:Wd}{H:Hp}{S:aG}{d:D}{v:V} (ok:Ok K w H S) (h:Rep K w d v) (g:fk d):∃ b,v = .ref b∧bB K H (py d) (.ref b):=by
 obtain ⟨g1,g2,g3,es,rfl⟩:=g
 have h2:=h
 simp only [Rep] at h2
 obtain ⟨b,ys,rfl,_⟩:=h2
 have:=qi ok h (by simpa [bG] using g1)
 exact ⟨b,rfl,by simpa [bG] using this⟩
theorem gQ {w:Wd}{H:Hp}{S:aG} (ok:Ok K w H S):∀ {ks:List D}{bs:List Addr},az K w ks (bs.map V.ref)→(∀ k∈ks,fk k)→nZ K H ((ks.map py).zip bs)
 | [],bs,_,_=>fun x hx=>by simp at hx
 | k::ks,[],h,_=>by simp only [zcm,az] at h;obtain ⟨_,_,z,_⟩:=h;cases z
 | k::ks,b::bs,h,g=>by
  simp only [zcg,az] at h
  obtain ⟨x,r,e,h1,h2⟩:=h
  injection e with e1 e2
  subst e1;subst e2
  intro y hy
  rw [zcg,zaV] at hy
  rcases zcf.mp hy with rfl | hy
  ·obtain ⟨b',e,hd⟩:=jH ok h1 (g k (by simp))
   cases e
   exact ⟨(g k (by simp)).2.1,(g k (by simp)).2.2.1,hd⟩
  ·exact gQ ok h2 (fun k hk=>g k (zaC _ hk)) y hy
def DH (W:yal):AE:=fun _ S Q=>Q (.new (nO W [])) S
theorem EO {W:yal}:∀ σ H Q,bF K (DH W) σ H Q→AL W σ H Q:=by
 rintro σ H Q ⟨w,δ,S,Qa,ok,env,q,bk⟩ p hp
 exact bk (.new (nO W [])) S _ w _ .refl (ok.alloc hp) (ok.fresh hp ⟨p,[],rfl,.nil⟩) q
def DB (W:yal) (a b c:AE):AS:=fun D δ S=>c δ S fun r3 S1=>a δ S1 fun r1 S2=>b δ S2 fun r2 S3=>∃ n ks,r3.d = .bl true∧r1.d = .loc n∧S3[n]? = some (some (nO W ks))∧fk r2.d∧(∀ k∈ks,fk k)∧ks.length<1000∧D.nx δ (S3.set n (some (nO W (putN ks r2.d))))
theorem BO {ks:List D}{bs:List Addr}{k:D}{b:Addr} (h:ks.length=bs.length):∃ bs',vh ((ks.map py).zip bs) (py k) b=((putN ks k).map py).zip bs'∧(bs'=bs∧putN ks k=ks∨bs'=bs++[b]∧putN ks k=ks++[k]):=by
 have e:(((ks.map py).zip bs).any fun x=>decide (x.1=py k))=(ks.any fun j=>decide (py j=py k)):=by
  have:((ks.map py).zip bs).map (·.1)=ks.map py:=List.map_fst_zip (by rw [zbN];lia)
  have h1:(((ks.map py).zip bs).any fun x=>decide (x.1=py k))=((((ks.map py).zip bs).map (·.1)).any fun d=>decide (d=py k)):=by rw [zcn];rfl
  rw [h1,this,zcn];rfl
 unfold vh putN
 rw [e]
 by_cases hc:(ks.any fun j=>decide (py j=py k))=true
 ·rw [yIp hc,yIp hc]
  exact ⟨bs,rfl,.inl ⟨rfl,rfl⟩⟩
 ·rw [yIn hc,yIn hc]
  refine ⟨bs++[b],?_,.inr ⟨rfl,rfl⟩⟩
  rw [zbV,List.zip_append (by rw [zbN];exact h)];rfl
theorem IL {W:yal}{a b c:AE}:∀ D σ H,iM K (DB W a b c) D σ H→G9 K W (bF K a) (bF K b) (bF K c) D σ H:=by
 rintro D σ H ⟨w,δ,S,Da,ok,env,q,bk⟩
 refine ⟨w,δ,S,_,ok,env,q,.go fun r3 S1 v3 w1 H1 le1 ok1 rep3 q1 => ?_⟩
 refine ⟨w1,δ,S1,_,ok1,env.le le1,q1,.go fun r1 S2 v1 w2 H2 le2 ok2 rep1 q2 => ?_⟩
 refine ⟨w2,δ,S2,_,ok2,(env.le le1).le le2,q2,.go fun r2 S3 v2 w3 H3 le3 lq rep2 ⟨n,ks,z0,z1,z2,g1,g2,hl,q3⟩ => ?_⟩
 rw [z1] at rep1
 have rep1:=rep1.le le3
 simp only [Rep] at rep1
 obtain ⟨a,h0,rfl⟩:=rep1
 obtain ⟨a1,u,k1,k2,k3,a',bs,rfl,k5⟩:=lq.live n _ z2
 rw [h0] at k1;cases k1
 obtain ⟨b,rfl,hb⟩:=jH lq rep2 g1
 have hlen:ks.length=bs.length:=by have:=k5.length;rw [zbN] at this;exact this.symm
 refine ⟨a,a',b,_,py r2.d,?_,rfl,rfl,k3,gQ lq k5 g2,g1.2.1,g1.2.2.1,hb,?_,fun e => ?_⟩
 ·rw [qw rep3 z0]
 ·rw [List.length_zip,zbN];lia
 ·subst e
  obtain ⟨bs',e1,e2⟩:=BO (k:=r2.d) (b:=b) hlen
  rw [e1]
  refine bk.nx δ _ σ w3 _ ((le1.trans le2).trans le3) (lq.put z2 h0 (o':=nO W (putN ks r2.d)) ⟨a',bs',rfl,?_⟩) (((env.le le1).le le2).le le3) q3
  rcases e2 with ⟨rfl,e⟩ | ⟨rfl,e⟩
  ·rw [e];exact k5
  ·rw [e,zbV];exact k5.snoc rep2
theorem wI {w:Wd}:∀ {ks:List D}{bs:List Addr},az K w ks (bs.map V.ref)→∀ x∈ks.zip bs,Rep K w x.1 (.ref x.2)
 | [],_,_,x,hx=>by simp at hx
 | _::_,[],_,x,hx=>by simp at hx
 | k::ks,b::bs,h,x,hx=>by
  simp only [zcg,az] at h
  obtain ⟨y,r,e,h1,h2⟩:=h
  injection e with e1 e2
  subst e1;subst e2
  rw [zaV] at hx
  rcases zcf.mp hx with rfl | hx
  ·exact h1
  ·exact wI h2 x hx
theorem iR {w:Wd}:∀ {o:List (D×Addr)},(∀ x∈o,Rep K w x.1 (.ref x.2))→az K w (o.map (·.1)) (o.map fun x=>V.ref x.2)
 | [],_=>.nil
 | x::o,h=>.cons (h x (by simp)) (iR fun y hy=>h y (zaC _ hy))
end
section
variable {X:Cx}{o i value:Expr}{pos pos':Pos}
theorem jC:GE X (.Dict [] [] pos) (DH X.w):=⟨mE L2.jC EO⟩
theorem jx {k:Nat} (hr:aU k X.A) {ta tb tc:AE} (ho:GE X o ta) (hi:GE X i tb) (hv:GE X value tc) (hs:yau value (some (.Subscript o i pos')) pos.line X.env=pure false):GS X (.Assign [.Subscript o i pos'] value pos) (DB X.w ta tb tc) :=
 ⟨mS (L2.jx (by have:=hr.units;lia) ho.p hi.p hv.p hs) IL⟩
end
section
variable {K:yaM}
theorem Av {H:Hp}{a:Addr}{u:HO} (h:H a=some u):upd H a u=H:=by
 funext b
 by_cases hb:b=a
 ·subst hb;rw [au,h]
 ·rw [av hb]
end
end M
namespace M8
open PySem PySem.Spec PyProof.Rows
open PySem.SetTable (Probe bits runEnd leap turns)
noncomputable def Pg (m:Nat) (p:Probe):Probe :=
 if p.more > 0 then { p with j:=p.j+1,more:=p.more - 1 } else
 { p with j:=(leap m p.i p.perturb).1,more:=runEnd m (leap m p.i p.perturb).1 - (leap m p.i p.perturb).1,i:=(leap m p.i p.perturb).1,perturb:=(leap m p.i p.perturb).2 }
theorem OR (t:SetTable) (p:Probe):t.advance p=Pg t.mask p:=rfl
noncomputable def at0 (m:Nat) (q:Nat×Nat):Probe:={ j:=q.1,more:=runEnd m q.1 - q.1,i:=q.1,perturb:=q.2,dummy:=none }
noncomputable def ru (m:Nat) (h:Int):Nat→Nat×Nat
 | 0=>(bits h % (m+1),bits h)
 | k+1=>leap m (ru m h k).1 (ru m h k).2
noncomputable def road (m:Nat) (h:Int):Nat→Probe
 | 0=>at0 m (ru m h 0)
 | n+1=>Pg m (road m h n)
theorem Lk (t:SetTable) (h:Int):t.probeStart h=road t.mask h 0:=rfl
noncomputable def lcg (m i:Nat):Nat:=(i*5+1) % (m+1)
noncomputable def it (m:Nat):Nat→Nat→Nat
 | 0,i=>i
 | k+1,i=>it m k (lcg m i)
abbrev Ent:=Nat×(Int×yaj)
noncomputable def fs (l:List Ent):List Nat:=l.map (·.1)
section
variable {t:SetTable}{es:Array (Int×yaj)}{l:List Ent}
noncomputable def more (l:List Ent) (p:Nat) (e:Ent):List Ent:=l.take p++e::l.drop p
end
end M8
namespace M9
open PySem PySem.Spec PyProof.Rows
section
variable {prog:yak}{w:yal}{A:yam}{E:yaj→yai→Prop}{s:yai}
noncomputable abbrev Nz (l:Addr):Obj:={ cls:=.type "tuple_iterator",data:=.fields #[.ref l,.int 0 0] }
noncomputable abbrev Pa (a b:yaj):Obj:={ cls:=.type "tuple",data:=.seq #[a,b] }
noncomputable abbrev zO (a b:Addr):Obj:={ cls:=.type "zip",data:=.fields #[.none,.bool false,.bool false,.ref a,.ref b] }
noncomputable abbrev q2 (h:Heap) (l1 l2:Addr):Heap:=(h.push (Nz l1)).push (Nz l2)
noncomputable abbrev q3 (h:Heap) (l1 l2:Addr):Heap:=(q2 h l1 l2).push (Pa (.ref h.objs.size) (.ref (h.push (Nz l1)).objs.size))
noncomputable abbrev q4 (h:Heap) (l1 l2:Addr):Heap:=(q3 h l1 l2).push (Pa .none .none)
noncomputable abbrev q5 (h:Heap) (l1 l2:Addr):Heap:=(q4 h l1 l2).push (zO (q2 h l1 l2).objs.size (q3 h l1 l2).objs.size)
end
end M9
namespace M10
open PySem PyProof.Rows
noncomputable def qO:Bool→Keyed→Array Keyed→Nat→Nat→Nat→StateT SortSt Sem (Option Nat):=sortPriv% PySem.Builtin.gallop
noncomputable def Cc:Array Keyed→Array Keyed→StateT SortSt Sem (Array Keyed):=sortPriv% PySem.Builtin.mergeLo
noncomputable def Cd:Array Keyed→Array Keyed→StateT SortSt Sem (Array Keyed):=sortPriv% PySem.Builtin.mergeHi
noncomputable def beyond (left:Bool) (key:Keyed) (arr:Array Keyed) (base i:Nat):StateT SortSt Sem (Option Bool):=do
 let x ← elem' arr (base+i)
 if left then lt' x key else return (← lt' key x).map (!·)
noncomputable def ya (left:Bool) (key:Keyed) (arr:Array Keyed) (base n lo hi:Nat):StateT SortSt Sem (Option Nat):=do
 let mut lo:=lo
 let mut hi:=hi
 for _ in [0:n] do
  if lo≥hi then break
  let m:=lo+(hi - lo) / 2
  let some more ← beyond left key arr base m | return none
  if more then lo:=m+1 else hi:=m
 return some hi
section
variable {prog:yak}{w:yal}{A:yam}{E:yaj→yai→Prop}{s:yai}
theorem sV {left:Bool}{key:Keyed}{arr:Array Keyed}{base n lo hi:Nat}{st:SortSt}{Q:Option Nat→SortSt→Prop}{P:Nat→Bool} (hP:∀ i j,i≤j→j<n→P j=true→P i=true)
  (hb:∀ i,i<n→∀ Q:Option Bool→SortSt→Prop,Q (some (P i)) st→wpS (model prog w) A E s (beyond left key arr base i) Q st)
  (h1:lo≤hi) (h2:hi≤n) (h3:∀ i,i<lo→P i=true) (h4:∀ i,hi≤i→i<n→P i=false)
  (h:∀ k,k≤n→(∀ i,i<k→P i=true)→(∀ i,k≤i→i<n→P i=false)→Q (some k) st):wpS (model prog w) A E s (ya left key arr base n lo hi) Q st:=by
 unfold ya
 dsimp only
 refine wpS_bind (wpS_mono (wpS_forRange
  (I:=fun x c st'=>st'=st∧∃ l r,c=(none,l,r)∧l≤r∧r≤n∧r - l≤n - x∧(∀ i,i<l→P i=true)∧∀ i,r≤i→i<n→P i=false)
  (Q:=fun c st'=>st'=st∧∃ k,c=(none,k,k)∧k≤n∧(∀ i,i<k→P i=true)∧∀ i,k≤i→i<n→P i=false) ?step ?fin ⟨rfl,lo,hi,rfl,h1,h2,by lia,h3,h4⟩) ?post)
 case post =>
  rintro c st' ⟨rfl,k,rfl,k1,k2,k3⟩
  exact wpS_pure (h k k1 k2 k3)
 case fin =>
  rintro c st' ⟨rfl,l,r,rfl,a1,a2,a3,a4,a5⟩
  obtain rfl:l=r:=by lia
  exact ⟨rfl,l,rfl,a2,a4,a5⟩
 case step =>
  rintro x c st' _ hx ⟨rfl,l,r,rfl,a1,a2,a3,a4,a5⟩
  dsimp only
  by_cases hge:l≥r
  ·rw [yIp hge]
   obtain rfl:l=r:=by lia
   exact wpS_pure ⟨rfl,l,rfl,a2,a4,a5⟩
  ·rw [yIn hge]
   refine wpS_bind (hb _ (by lia) _ ?_)
   dsimp only
   cases hm:P (l+(r - l) / 2) with
   | true =>
    rw [yIp rfl]
    refine wpS_pure ⟨rfl,_,_,rfl,by lia,a2,by lia,fun i hi => ?_,a5⟩
    exact hP i _ (by lia) (by lia) hm
   | false =>
    rw [yIn (by decide)]
    refine wpS_pure ⟨rfl,_,_,rfl,by lia,by lia,by lia,a4,fun i h1 h2 => ?_⟩
    cases hi:P i with
    | false=>rfl
    | true=>rw [hP _ i h1 h2 hi] at hm;cases hm
theorem Pe {left:Bool}{key:Keyed}{arr:Array Keyed}{base n hint:Nat}{st:SortSt}{Q:Option Nat→SortSt→Prop}{P:Nat→Bool} (hh:hint<n) (hP:∀ i j,i≤j→j<n→P j=true→P i=true)
  (hb:∀ i,i<n→∀ Q:Option Bool→SortSt→Prop,Q (some (P i)) st→wpS (model prog w) A E s (beyond left key arr base i) Q st)
  (h:∀ k,k≤n→(∀ i,i<k→P i=true)→(∀ i,k≤i→i<n→P i=false)→Q (some k) st):wpS (model prog w) A E s (qO left key arr base n hint) Q st:=by
 have hN:∀ i j,i≤j→j<n→P i=false→P j=false:=fun i j h1 h2 h3=>by
  cases hj:P j with
  | false=>rfl
  | true=>rw [hP i j h1 h2 hj] at h3;cases h3
 refine wpS_bind (hb hint hh _ ?_)
 dsimp only
 cases hr:P hint with
 | true =>
  rw [yIp rfl]
  refine wpS_bind (wpS_mono (wpS_forRange
   (I:=fun x c st'=>st'=st∧∃ l o,c=(none,l,o)∧l<o∧hint+l<n∧P (hint+l)=true∧x+1≤o)
   (Q:=fun c st'=>st'=st∧∃ l o,c=(none,l,o)∧l<o∧hint+l<n∧P (hint+l)=true∧(n - hint≤o∨(hint+o<n∧P (hint+o)=false))) ?step ?fin ⟨rfl,0,1,rfl,by lia,by lia,hr,by lia⟩) ?post)
  case fin =>
   rintro c st' ⟨rfl,l,o,rfl,a1,a2,a3,a4⟩
   exact ⟨rfl,l,o,rfl,a1,a2,a3,.inl (by lia)⟩
  case step =>
   rintro x c st' _ hx ⟨rfl,l,o,rfl,a1,a2,a3,a4⟩
   dsimp only
   by_cases hge:o≥n - hint
   ·rw [yIp hge]
    exact wpS_pure ⟨rfl,l,o,rfl,a1,a2,a3,.inl hge⟩
   ·rw [yIn hge]
    refine wpS_bind (hb _ (by lia) _ ?_)
    dsimp only
    cases hm:P (hint+o) with
    | true =>
     rw [yIn (by decide)]
     exact wpS_pure ⟨rfl,o,2*o+1,rfl,by lia,by lia,hm,by lia⟩
    | false =>
     rw [yIp (by decide)]
     exact wpS_pure ⟨rfl,l,o,rfl,a1,a2,a3,.inr ⟨by lia,hm⟩⟩
  case post =>
   rintro c st' ⟨rfl,l,o,rfl,a1,a2,a3,a4⟩
   show wpS _ _ _ _ (ya left key arr base n (hint+l+1) (hint+min o (n - hint))) _ _
   refine sV hP hb (by lia) (by lia) (fun i hi=>hP i _ (by lia) (by lia) a3) (fun i h1 h2 => ?_) h
   rcases a4 with a4 | ⟨a4,a5⟩
   ·lia
   ·exact hN _ i (by lia) h2 a5
 | false =>
  rw [yIn (by decide)]
  refine wpS_bind (wpS_mono (wpS_forRange
   (I:=fun x c st'=>st'=st∧∃ l o,c=(none,l,o)∧l<o∧l≤hint∧P (hint - l)=false∧x+1≤o)
   (Q:=fun c st'=>st'=st∧∃ l o,c=(none,l,o)∧l<o∧l≤hint∧P (hint - l)=false∧(hint+1≤o∨(o≤hint∧P (hint - o)=true))) ?step ?fin ⟨rfl,0,1,rfl,by lia,by lia,hr,by lia⟩) ?post)
  case fin =>
   rintro c st' ⟨rfl,l,o,rfl,a1,a2,a3,a4⟩
   exact ⟨rfl,l,o,rfl,a1,a2,a3,.inl (by lia)⟩
  case step =>
   rintro x c st' _ hx ⟨rfl,l,o,rfl,a1,a2,a3,a4⟩
   dsimp only
   by_cases hge:o≥hint+1
   ·rw [yIp hge]
    exact wpS_pure ⟨rfl,l,o,rfl,a1,a2,a3,.inl hge⟩
   ·rw [yIn hge]
    refine wpS_bind (hb _ (by lia) _ ?_)
    dsimp only
    cases hm:P (hint - o) with
    | true =>
     rw [yIp rfl]
     exact wpS_pure ⟨rfl,l,o,rfl,a1,a2,a3,.inr ⟨by lia,hm⟩⟩
    | false =>
     rw [yIn (by decide)]
     exact wpS_pure ⟨rfl,o,2*o+1,rfl,by lia,by lia,hm,by lia⟩
  case post =>
   rintro c st' ⟨rfl,l,o,rfl,a1,a2,a3,a4⟩
   show wpS _ _ _ _ (ya left key arr base n (hint+1 - min o (hint+1)) (hint - l)) _ _
   refine sV hP hb (by lia) (by lia) (fun i hi => ?_) (fun i h1 h2=>hN _ i h1 h2 a3) h
   rcases a4 with a4 | ⟨a4,a5⟩
   ·lia
   ·exact hP i _ (by lia) (by lia) a5
end
noncomputable def IB:Nat→StateT SortSt Sem Unit:=sortPriv% PySem.Builtin.setMinGallop
section
variable {R:Keyed→Int}
def bz (R:Keyed→Int) (l:List Keyed):Prop:=l.Pairwise fun a b=>R a≤R b
structure MI (R:Keyed→Int) (X Y o:List Keyed) (i j:Nat):Prop where
 perm:(o++(X.drop i++Y.drop j)).Perm (X++Y)
 so:bz R o
 le:∀ a∈o,∀ b∈X.drop i++Y.drop j,R a≤R b
theorem bz.drop {l:List Keyed} (h:bz R l) (n:Nat):bz R (l.drop n):=h.sublist (List.drop_sublist n l)
theorem bz.take {l:List Keyed} (h:bz R l) (n:Nat):bz R (l.take n):=h.sublist (zbj n l)
theorem bz.app {l m:List Keyed} (h:bz R l) (g:bz R m) (c:∀ a∈l,∀ b∈m,R a≤R b):bz R (l++m):=zaG.mpr ⟨h,g,c⟩
theorem bz.at {l:List Keyed} (h:bz R l) {i j:Nat} (hij:i≤j) (hj:j<l.length) (hi:i<l.length):R l[i]≤R l[j]:=by
 rcases Nat.eq_or_lt_of_le hij with e | e
 ·subst e;exact zcG _
 ·exact (List.pairwise_iff_getElem.mp h) i j hi hj e
theorem bz.ge {l:List Keyed} (h:bz R l) {i:Nat} (hi:i<l.length):∀ b∈l.drop i,R l[i]≤R b:=fun b hb=>by
 obtain ⟨k,hk,rfl⟩:=zaM hb
 rw [zbA] at hk
 rw [zbn]
 exact h.at (by lia) (by lia) hi
theorem MI.xs {X Y o:List Keyed}{i j:Nat} (M:MI R X Y o i j) (hX:bz R X) (k:Nat) (h:∀ a∈(X.drop i).take k,∀ b∈Y.drop j,R a≤R b):MI R X Y (o++(X.drop i).take k) (i+k) j:=by
 have e:X.drop i=(X.drop i).take k++X.drop (i+k):=by rw [← List.drop_drop];exact (zax k _).symm
 refine ⟨?_,M.so.app ((hX.drop i).take k) fun a ha b hb=>M.le a ha b (zaD _ (zaH hb)),fun a ha b hb => ?_⟩
 ·refine List.Perm.trans ?_ M.perm
  rw [zbl,← zbl ((X.drop i).take k),← e]
 ·rcases zbM.mp ha with ha | ha
  ·refine M.le a ha b ?_
   rcases zbM.mp hb with hb | hb
   ·exact zaD _ (by rw [e];exact zau _ hb)
   ·exact zau _ hb
  ·rcases zbM.mp hb with hb | hb
   ·have:=hX.drop i
    rw [e] at this
    exact (zaG.mp this).2.2 a ha b hb
   ·exact h a ha b hb
theorem MI.ys {X Y o:List Keyed}{i j:Nat} (M:MI R X Y o i j) (hY:bz R Y) (k:Nat) (h:∀ a∈(Y.drop j).take k,∀ b∈X.drop i,R a≤R b):MI R X Y (o++(Y.drop j).take k) i (j+k):=by
 have e:Y.drop j=(Y.drop j).take k++Y.drop (j+k):=by rw [← List.drop_drop];exact (zax k _).symm
 refine ⟨?_,M.so.app ((hY.drop j).take k) fun a ha b hb=>M.le a ha b (zau _ (zaH hb)),fun a ha b hb => ?_⟩
 ·refine List.Perm.trans ?_ M.perm
  rw [zbl]
  refine List.Perm.append_left o ?_
  conv=>rhs;rw [e]
  rw [← zbl,← zbl]
  exact List.Perm.append_right _ zay
 ·rcases zbM.mp ha with ha | ha
  ·refine M.le a ha b ?_
   rcases zbM.mp hb with hb | hb
   ·exact zaD _ hb
   ·exact zau _ (by rw [e];exact zau _ hb)
  ·rcases zbM.mp hb with hb | hb
   ·exact h a ha b hb
   ·have:=hY.drop j
    rw [e] at this
    exact (zaG.mp this).2.2 a ha b hb
theorem take1 {l:List Keyed}{i:Nat} (hi:i<l.length):(l.drop i).take 1=[l[i]]:=by
 rw [zah hi];rfl
theorem MI.x1 {X Y o:List Keyed}{i j:Nat} (M:MI R X Y o i j) (hX:bz R X) (hi:i<X.length) (h:∀ b∈Y.drop j,R X[i]≤R b):MI R X Y (o++[X[i]]) (i+1) j:=by
 have:=M.xs hX 1 fun a ha b hb=>by rw [take1 hi] at ha;rw [zaW.mp ha];exact h b hb
 rw [take1 hi] at this;exact this
theorem MI.y1 {X Y o:List Keyed}{i j:Nat} (M:MI R X Y o i j) (hY:bz R Y) (hj:j<Y.length) (h:∀ b∈X.drop i,R Y[j]≤R b):MI R X Y (o++[Y[j]]) i (j+1):=by
 have:=M.ys hY 1 fun a ha b hb=>by rw [take1 hj] at ha;rw [zaW.mp ha];exact h b hb
 rw [take1 hj] at this;exact this
def Told (R:Keyed→Int) (X Y:List Keyed) (r:Array Keyed):Prop:=bz R r.toList∧r.toList.Perm (X++Y)
theorem MI.OC {X Y o:List Keyed}{i j:Nat} (M:MI R X Y o i j) (hX:bz R X) (hj:Y.length≤j):bz R (o++X.drop i)∧(o++X.drop i).Perm (X++Y):=by
 have e:Y.drop j=[]:=zao hj
 refine ⟨M.so.app (hX.drop i) fun a ha b hb=>M.le a ha b (zaD _ hb),?_⟩
 have:=M.perm
 rw [e,zbO] at this;exact this
theorem MI.OB {X Y o:List Keyed}{i j:Nat} (M:MI R X Y o i j) (hY:bz R Y) (hi:X.length≤i):bz R (o++Y.drop j)∧(o++Y.drop j).Perm (X++Y):=by
 have e:X.drop i=[]:=zao hi
 refine ⟨M.so.app (hY.drop j) fun a ha b hb=>M.le a ha b (zau _ hb),?_⟩
 have:=M.perm
 rw [e,zbU] at this;exact this
theorem MI.last {X Y o:List Keyed}{i j:Nat} (M:MI R X Y o i j) (hX:bz R X) (hY:bz R Y) (h:∀ a∈Y.drop j,∀ b∈X.drop i,R a≤R b):bz R (o++Y.drop j++X.drop i)∧(o++Y.drop j++X.drop i).Perm (X++Y):=by
 refine ⟨(M.so.app (hY.drop j) fun a ha b hb=>M.le a ha b (zau _ hb)).app (hX.drop i) fun a ha b hb => ?_,?_⟩
 ·rcases zbM.mp ha with ha | ha
  ·exact M.le a ha b (zaD _ hb)
  ·exact h a ha b hb
 ·rw [zbl]
  exact (List.Perm.append_left o zay).trans M.perm
end
section
variable {prog:yak}{w:yal}{A:yam}{E:yaj→yai→Prop}{s:yai}{R:Keyed→Int}{κ:SortKind}{T:Keyed→Prop}
def uB (prog:yak) (w:yal) (A:yam) (s:yai) (κ:SortKind) (R:Keyed→Int) (T:Keyed→Prop):Prop :=
 ∀ x y,T x→T y→∀ (E:yaj→yai→Prop) (Q:Bool→yai→Prop),Q (decide (R x<R y)) s→yas (model prog w) A (keyLt' κ x.1 y.1) Q E s
theorem sP (C:uB prog w A s κ R T) {x y:Keyed}{st:SortSt}{Q:Option Bool→SortSt→Prop} (hk:kindOf st=κ) (hx:T x) (hy:T y) (h:Q (some (decide (R x<R y))) st):wpS (model prog w) A E s (lt' x y) Q st:=by
 rw [lt'_eq]
 refine wpS_bind (wpS_get ?_)
 rw [hk]
 refine wpS_bind (wpS_lift (wpAny_attempt (C x y hx hy _ _ ⟨rfl,?_⟩)))
 exact wpS_pure h
theorem lD {g:Nat}{st:SortSt}{Q:Unit→SortSt→Prop} (h:Q () (SortSt.mk' (kindOf st) (arrOf st) (pendingOf st) g (failedOf st))):wpS (model prog w) A E s (IB g) Q st:=wpS_modify h
theorem aZ {arr:Array Keyed}{i:Nat}{st:SortSt}{Q:Keyed→SortSt→Prop} (hi:i<arr.toList.length) (h:Q arr.toList[i] st):wpS (model prog w) A E s (elem' arr i) Q st:=by
 rw [elem'_eq,← zaz,zak hi]
 exact wpS_pure h
theorem CA (C:uB prog w A s κ R T) {key:Keyed}{arr:Array Keyed}{base n hint:Nat}{st:SortSt}{Q:Option Nat→SortSt→Prop} (hk:kindOf st=κ) (hT:∀ x∈arr.toList,T x) (hkey:T key) (hs:∀ i j (hi:base+i<arr.toList.length) (hj:base+j<arr.toList.length),i≤j→j<n→R arr.toList[base+i]≤R arr.toList[base+j]) (hh:hint<n) (hn:base+n≤arr.toList.length)
  (h:∀ k,k≤n→(∀ i (hi:base+i<arr.toList.length),i<k→R arr.toList[base+i]≤R key)→(∀ i (hi:base+i<arr.toList.length),k≤i→i<n→R key<R arr.toList[base+i])→Q (some k) st) :
  wpS (model prog w) A E s (qO false key arr base n hint) Q st:=by
 refine Pe (P:=fun i => !decide (R key<R (arr.toList.getD (base+i) (.none,.none)))) hh (fun i j hij hj hp => ?_) (fun i hi Q q => ?_) (fun k k1 k2 k3=>h k k1 (fun i hi hik => ?_) fun i hi hik hin => ?_)
 ·have hi':base+i<arr.toList.length:=by lia
  have hj':base+j<arr.toList.length:=by lia
  simp only [zcK,zak hi',zak hj',zbJ,Bool.not_eq_true',decide_eq_false_iff_not] at hp ⊢
  have:=hs i j hi' hj' hij hj
  lia
 ·have hi':base+i<arr.toList.length:=by lia
  unfold beyond
  refine wpS_bind (aZ hi' ?_)
  rw [yIn (by decide)]
  refine wpS_bind (sP C hk hkey (hT _ (zbF hi')) (wpS_pure ?_))
  simp only [zcK,zak hi',zbJ] at q
  exact q
 ·have:=k2 i hik
  simp only [zcK,zak hi,zbJ,Bool.not_eq_true',decide_eq_false_iff_not] at this
  lia
 ·have:=k3 i hik hin
  simp only [zcK,zak hi,zbJ,Bool.not_eq_false',decide_eq_true_eq] at this
  exact this
theorem CB (C:uB prog w A s κ R T) {key:Keyed}{arr:Array Keyed}{base n hint:Nat}{st:SortSt}{Q:Option Nat→SortSt→Prop} (hk:kindOf st=κ) (hT:∀ x∈arr.toList,T x) (hkey:T key) (hs:∀ i j (hi:base+i<arr.toList.length) (hj:base+j<arr.toList.length),i≤j→j<n→R arr.toList[base+i]≤R arr.toList[base+j]) (hh:hint<n) (hn:base+n≤arr.toList.length)
  (h:∀ k,k≤n→(∀ i (hi:base+i<arr.toList.length),i<k→R arr.toList[base+i]<R key)→(∀ i (hi:base+i<arr.toList.length),k≤i→i<n→R key≤R arr.toList[base+i])→Q (some k) st) :
  wpS (model prog w) A E s (qO true key arr base n hint) Q st:=by
 refine Pe (P:=fun i=>decide (R (arr.toList.getD (base+i) (.none,.none))<R key)) hh (fun i j hij hj hp => ?_) (fun i hi Q q => ?_) (fun k k1 k2 k3=>h k k1 (fun i hi hik => ?_) fun i hi hik hin => ?_)
 ·have hi':base+i<arr.toList.length:=by lia
  have hj':base+j<arr.toList.length:=by lia
  simp only [zcK,zak hi',zak hj',zbJ,decide_eq_true_eq] at hp ⊢
  have:=hs i j hi' hj' hij hj
  lia
 ·have hi':base+i<arr.toList.length:=by lia
  unfold beyond
  refine wpS_bind (aZ hi' ?_)
  rw [yIp rfl]
  refine sP C hk (hT _ (zbF hi')) hkey ?_
  simp only [zcK,zak hi',zbJ] at q
  exact q
 ·have:=k2 i hik
  simp only [zcK,zak hi,zbJ,decide_eq_true_eq] at this
  exact this
 ·have:=k3 i hik hin
  simp only [zcK,zak hi,zbJ,decide_eq_false_iff_not] at this
  lia
end
noncomputable abbrev eU (st:SortSt) (g:Nat):SortSt:=SortSt.mk' (kindOf st) (arrOf st) (pendingOf st) g (failedOf st)
theorem lN (x:Array Keyed) (i:Nat):(x.extract i x.size).toList=x.toList.drop i:=by
 rw [zaJ]
 exact zap (by simp)
theorem yd (x:Array Keyed) (i k:Nat):(x.extract i (i+k)).toList=(x.toList.drop i).take k:=by
 rw [zaJ,zai]
 have:i+k - i=k:=by lia
 rw [this]
section
variable {prog:yak}{w:yal}{A:yam}{E:yaj→yai→Prop}{s:yai}{R:Keyed→Int}{κ:SortKind}{T:Keyed→Prop}
def MB (R:Keyed→Int) (x y o:Array Keyed) (i j:Nat):Prop:=MI R x.toList y.toList o.toList i j∧i+1<x.size∧j<y.size
theorem gy {x y o:Array Keyed}{i j:Nat} (M:MI R x.toList y.toList o.toList i j) (hX:bz R x.toList) (hY:bz R y.toList) (h:y.size≤j∨x.size≤i):Told R x.toList y.toList (o++x.extract i x.size++y.extract j y.size):=by
 unfold Told
 rw [zaQ,zaQ,lN,lN]
 rcases h with h | h
 ·have e:y.toList.drop j=[]:=zao (by simpa using h)
  rw [e,zbO]
  exact M.OC hX (by simpa using h)
 ·have e:x.toList.drop i=[]:=zao (by simpa using h)
  rw [e,zbO]
  exact M.OB hY (by simpa using h)
theorem jk {x y o:Array Keyed}{i j:Nat} (M:MI R x.toList y.toList o.toList i j) (hX:bz R x.toList) (hY:bz R y.toList) (hl:∀ a∈y.toList,∀ b∈x.toList.drop (x.size - 1),R a≤R b) (h:i+1=x.size):Told R x.toList y.toList (o++y.extract j y.size++x.extract i x.size):=by
 unfold Told
 rw [zaQ,zaQ,lN,lN]
 have e:i=x.size - 1:=by lia
 exact M.last hX hY fun a ha b hb=>hl a (zaI ha) b (by rw [← e];exact hb)
theorem lU {l:List Keyed}{i:Nat}{P:Keyed→Prop} (h:∀ u (hu:i≤u∧u<l.length),P (l[u]'hu.2)):∀ b∈l.drop i,P b:=fun b hb=>by
 obtain ⟨k,hk,rfl⟩:=zaM hb
 rw [zbA] at hk
 rw [zbn]
 exact h (i+k) ⟨by lia,by lia⟩
theorem lT {l:List Keyed}{i k:Nat}{P:Keyed→Prop} (h:∀ u (hu:i+u<l.length),u<k→P l[i+u]):∀ b∈(l.drop i).take k,P b:=fun b hb=>by
 obtain ⟨v,hv,rfl⟩:=zaM hb
 rw [zby,zbA] at hv
 rw [zbo,zbn]
 exact h v (by lia) (by lia)
theorem Pc {α γ:Type}{c:Prop} [Decidable c] {Q:α→SortSt→Prop}{st:SortSt}{n m:γ} (F:Unit→γ→StateT SortSt Sem α) (h:∀ k,wpS (model prog w) A E s (F () k) Q st):wpS (model prog w) A E s (if c then F () n else F () m) Q st:=by
 split <;> exact h _
theorem Nd {α γ δ:Type}{c:Prop} [Decidable c] {p:StateT SortSt Sem α}{Q:α→SortSt→Prop}{st:SortSt}{n:γ}{m:δ} (F:Unit→γ→δ→StateT SortSt Sem α) (P:γ→δ→Prop) (J:∀ b g,P b g→wpS (model prog w) A E s (F () b g) Q st)
  (hp:c→(∀ b g,P b g→wpS (model prog w) A E s (F () b g) Q st)→wpS (model prog w) A E s p Q st) (hq : ¬ c→P n m):wpS (model prog w) A E s (if c then p else F () n m) Q st:=by
 split
 ·next h=>exact hp h J
 ·next h=>exact J _ _ (hq h)
theorem vA (C:uB prog w A s κ R T) {x y:Array Keyed}{st:SortSt}{Q:Array Keyed→SortSt→Prop} (hk:kindOf st=κ) (hTx:∀ a∈x.toList,T a) (hTy:∀ a∈y.toList,T a) (hX:bz R x.toList) (hY:bz R y.toList) (hx:0<x.size) (hy:0<y.size)
  (h0:∀ b∈x.toList,R (y.toList[0]'(by simpa using hy))≤R b) (hl:∀ a∈y.toList,∀ b∈x.toList.drop (x.size - 1),R a≤R b)
  (h:∀ r g,Told R x.toList y.toList r→Q r (eU st g)):wpS (model prog w) A E s (Cc x y) Q st:=by
 have lx:x.toList.length=x.size:=by simp
 have ly:y.toList.length=y.size:=by simp
 have M0:MI R x.toList y.toList [] 0 0:=⟨by simp,.nil,fun a ha=>by simp at ha⟩
 have M1:=M0.y1 hY (by lia) (fun b hb=>h0 b (by simpa using hb))
 refine wpS_bind (wpS_lift (wpAny_rule ⟨rfl,?_⟩))
 refine wpS_bind (aZ (by lia) ?_)
 show wpS (model prog w) A E s (ite _ _ _) _ _
 have M1':MI R x.toList y.toList (#[y.toList[0]'(by lia)]:Array Keyed).toList 0 1:=M1
 by_cases c1:1=y.size
 ·rw [yIp (by simpa using c1)]
  exact wpS_pure (h _ (gallopOf st) (gy M1' hX hY (.inl (by lia))))
 rw [yIn (by simpa using c1)]
 by_cases c2:0+1=x.size
 ·rw [yIp (by simpa using c2)]
  exact wpS_pure (h _ (gallopOf st) (jk M1' hX hY hl c2))
 rw [yIn (by simpa using c2)]
 refine wpS_bind (wpS_get ?_)
 refine wpS_bind (wpS_mono (wpS_forRange
  (I:=fun n c st'=>(∃ g,st'=eU st g)∧∃ o i j mg,c=(none,o,i,j,mg)∧MB R x y o i j∧1+n≤i+j)
  (Q:=fun c st'=>(∃ g,st'=eU st g)∧((∃ r o i j mg,c=(some r,o,i,j,mg)∧Told R x.toList y.toList r)∨∃ o i j mg,c=(none,o,i,j,mg)∧MB R x y o i j∧1+(x.size+y.size)≤i+j)) ?step ?fin ⟨⟨gallopOf st,rfl⟩,_,0,1,_,rfl,⟨M1',by lia,by lia⟩,by lia⟩) ?post)
 case fin =>
  rintro c st' ⟨hg,o,i,j,mg,rfl,M,hn⟩
  exact ⟨hg,.inr ⟨o,i,j,mg,rfl,M,by lia⟩⟩
 case post =>
  rintro c st' ⟨⟨g,rfl⟩,⟨r,o,i,j,mg,rfl,ht⟩ | ⟨o,i,j,mg,rfl,M,hn⟩⟩
  ·exact wpS_pure (h r g ht)
  ·have:=M.2.1
   have:=M.2.2
   lia
 case step =>
  rintro n c st' _ hn ⟨⟨g,rfl⟩,o,i,j,mg,rfl,M,hp⟩
  refine wpS_bind (wpS_mono (wpS_forRange
   (I:=fun n' c st'=>st'=eU st g∧∃ o' i' j' p q,c=(none,o',i',j',p,q)∧MB R x y o' i' j'∧i+j+n'≤i'+j')
   (Q:=fun c st'=>st'=eU st g∧((∃ r o' i' j' p q,c=(some r,o',i',j',p,q)∧Told R x.toList y.toList r)∨∃ o' i' j' p q,c=(none,o',i',j',p,q)∧MB R x y o' i' j'∧i+j+1≤i'+j')) ?oW ?fin1 ⟨rfl,o,i,j,0,0,rfl,M,by lia⟩) ?post1)
  case fin1 =>
   rintro c st' ⟨rfl,o',i',j',p,q,rfl,M',hn'⟩
   exact ⟨rfl,.inr ⟨o',i',j',p,q,rfl,M',by lia⟩⟩
  case oW =>
   rintro n' c st' _ hn' ⟨rfl,o',i',j',p,q,rfl,⟨M',b1,b2⟩,hp'⟩
   dsimp only
   refine wpS_bind (aZ (by lia) (wpS_bind (aZ (by lia) (wpS_bind (sP C hk (hTy _ (zbF _)) (hTx _ (zbF _)) ?_)))))
   dsimp only
   by_cases hlt:R (y.toList[j']'(by lia))<R (x.toList[i']'(by lia))
   ·rw [yDt hlt,yIp rfl]
    refine wpS_bind (aZ (by lia) ?_)
    have N:=M'.y1 hY (by lia) (fun b hb=>zcv (zcw hlt) (hX.ge (by lia) b hb))
    rw [← zbs] at N
    by_cases e:j'+1=y.size
    ·rw [yIp (by simpa using e)]
     exact wpS_pure ⟨rfl,.inl ⟨_,_,_,_,_,_,rfl,gy N hX hY (.inl (by lia))⟩⟩
    ·rw [yIn (by simpa using e)]
     split
     ·exact wpS_pure ⟨rfl,.inr ⟨_,_,_,_,_,rfl,⟨N,b1,by lia⟩,by lia⟩⟩
     ·exact wpS_pure ⟨rfl,_,_,_,_,_,rfl,⟨N,b1,by lia⟩,by lia⟩
   ·rw [yDf hlt,yIn (by decide)]
    refine wpS_bind (aZ (by lia) ?_)
    have N:=M'.x1 hX (by lia) (fun b hb=>zcv (Int.not_lt.mp hlt) (hY.ge (by lia) b hb))
    rw [← zbs] at N
    by_cases e:i'+1+1=x.size
    ·rw [yIp (by simpa using e)]
     exact wpS_pure ⟨rfl,.inl ⟨_,_,_,_,_,_,rfl,jk N hX hY hl e⟩⟩
    ·rw [yIn (by simpa using e)]
     split
     ·exact wpS_pure ⟨rfl,.inr ⟨_,_,_,_,_,rfl,⟨N,by lia,b2⟩,by lia⟩⟩
     ·exact wpS_pure ⟨rfl,_,_,_,_,_,rfl,⟨N,by lia,b2⟩,by lia⟩
  case post1 =>
   rintro c st' ⟨rfl,⟨r,o',i',j',p,q,rfl,ht⟩ | ⟨o',i',j',p,q,rfl,M',hp'⟩⟩
   ·exact wpS_pure ⟨⟨g,rfl⟩,.inl ⟨r,_,_,_,_,rfl,ht⟩⟩
   ·refine wpS_bind (wpS_lift (wpAny_rule ⟨rfl,?_⟩))
    refine wpS_bind (wpS_mono (wpS_forRange
     (I:=fun _ c st'=>(∃ g,st'=eU st g)∧∃ o2 i2 j2 mg p q,c=(none,o2,i2,j2,mg,p,q)∧MB R x y o2 i2 j2∧i'+j'≤i2+j2)
     (Q:=fun c st'=>(∃ g,st'=eU st g)∧((∃ r o2 i2 j2 mg p q,c=(some r,o2,i2,j2,mg,p,q)∧Told R x.toList y.toList r)∨∃ o2 i2 j2 mg p q,c=(none,o2,i2,j2,mg,p,q)∧MB R x y o2 i2 j2∧i'+j'≤i2+j2)) ?step2 ?fin2 ⟨⟨g,rfl⟩,o',i',j',_,_,_,rfl,M',by lia⟩) ?post2)
    case fin2 =>
     rintro c st' ⟨hg,o2,i2,j2,mg,p,q,rfl,M2,hp2⟩
     exact ⟨hg,.inr ⟨o2,i2,j2,mg,p,q,rfl,M2,hp2⟩⟩
    case post2 =>
     rintro c st' ⟨⟨g2,rfl⟩,⟨r,o2,i2,j2,mg2,p,q,rfl,ht⟩ | ⟨o2,i2,j2,mg2,p,q,rfl,M2,hp2⟩⟩
     ·exact wpS_pure ⟨⟨g2,rfl⟩,.inl ⟨r,_,_,_,_,rfl,ht⟩⟩
     ·dsimp only
      refine wpS_bind (lD (wpS_pure ⟨⟨mg2+1,rfl⟩,_,_,_,_,rfl,M2,by lia⟩))
    case step2 =>
     rintro n2 c st' _ hn2 ⟨⟨g2,rfl⟩,o2,i2,j2,mg2,p,q,rfl,⟨M2,b1,b2⟩,hp2⟩
     dsimp -zeta only
     extract_lets s1 out s2 ia s3 ib s4 mg s5 ac bc ib1 jp mg1
     refine Pc jp fun m => ?_
     dsimp -zeta only [jp,out,ia,ib,ib1,ac,bc,s1,s2,s3,s4,s5]
     clear jp
     refine wpS_bind (lD (wpS_bind (aZ (by lia) (wpS_bind (CA C hk hTx (hTy _ (zbF _)) (fun a b ha hb h1 h2=>hX.at (by lia) hb ha) (by lia) (by lia) fun k k1 k2 k3 => ?_)))))
     dsimp -zeta only
     extract_lets ac2 jp o9 i9
     have gtn:k=0∨0<k:=by lia
     refine Nd jp (fun o3 i3=>MI R x.toList y.toList o3.toList i3 j2∧(∀ b∈x.toList.drop i3,R (y.toList[j2]'(by lia))≤R b)∧i3+1<x.size∧i2≤i3) (fun o3 i3 hP => ?_) (fun kp J => ?_) (fun kp=>⟨M2,lU fun u hu=>zcw ?_,b1,zcE _⟩)
     ·obtain ⟨N,gt,b3,l3⟩:=hP
      dsimp -zeta only [jp,ac2]
      clear jp
      refine wpS_bind (aZ (by lia) ?_)
      have N2:=N.y1 hY (by lia) gt
      rw [← zbs] at N2
      show wpS (model prog w) A E s (ite _ _ _) _ _
      by_cases e3:j2+1=y.size
      ·rw [yIp (by simpa using e3)]
       exact wpS_pure ⟨⟨_,rfl⟩,.inl ⟨_,_,_,_,_,_,_,rfl,gy N2 hX hY (.inl (by lia))⟩⟩
      rw [yIn (by simpa using e3)]
      refine wpS_bind (aZ (by lia) (wpS_bind (CB C hk hTy (hTx _ (zbF _)) (fun a b ha hb h1 h2=>hY.at (by lia) hb ha) (by lia) (by lia) fun k' q1 q2 q3 => ?_)))
      dsimp -zeta only
      extract_lets bc2 ia1 jp o9 j9
      refine Nd jp (fun o4 j4=>MI R x.toList y.toList o4.toList i3 j4∧(∀ b∈y.toList.drop j4,R (x.toList[i3]'(by lia))≤R b)∧j4<y.size∧j2+1≤j4) (fun o4 j4 hP => ?_) (fun kp' J => ?_) (fun kp'=>⟨N2,lU fun u hu => ?_,by lia,zcE _⟩)
      ·obtain ⟨N3,gt3,b4,l4⟩:=hP
       dsimp -zeta only [jp,bc2,ia1]
       clear jp
       refine wpS_bind (aZ (by lia) ?_)
       have N4:=N3.x1 hX (by lia) gt3
       rw [← zbs] at N4
       dsimp only
       by_cases e5:i3+1+1=x.size
       ·rw [yIp (by simpa using e5)]
        exact wpS_pure ⟨⟨_,rfl⟩,.inl ⟨_,_,_,_,_,_,_,rfl,jk N4 hX hY hl e5⟩⟩
       rw [yIn (by simpa using e5)]
       split
       ·exact wpS_pure ⟨⟨_,rfl⟩,.inr ⟨_,_,_,_,_,_,rfl,⟨N4,by lia,by lia⟩,by lia⟩⟩
       ·exact wpS_pure ⟨⟨_,rfl⟩,_,_,_,_,_,_,rfl,⟨N4,by lia,by lia⟩,by lia⟩
      ·have N3:=N2.ys hY k' (fun a ha b hb=>zcv (zcw (lT (P:=fun a=>R a<R (x.toList[i3]'(by lia))) (fun u hu huk=>q2 u hu huk) a ha)) (hX.ge (by lia) b hb))
       rw [← yd,← zaQ] at N3
       show wpS (model prog w) A E s (ite _ _ _) _ _
       by_cases e4:j2+1+k'=y.size
       ·rw [yIp (by simpa using e4)]
        exact wpS_pure ⟨⟨_,rfl⟩,.inl ⟨_,_,_,_,_,_,_,rfl,gy N3 hX hY (.inl (by lia))⟩⟩
       rw [yIn (by simpa using e4)]
       refine J _ _ ⟨N3,lU (P:=fun b=>R (x.toList[i3]'(by lia))≤R b) fun u (hu:j2+1+k'≤u∧u<y.toList.length) => ?_,by lia,by lia⟩
       obtain ⟨v,rfl⟩:∃ v,u=j2+1+v:=⟨u - (j2+1),by lia⟩
       exact q3 v (by lia) (by lia) (by lia)
      ·obtain ⟨v,rfl⟩:∃ v,u=j2+1+v:=⟨u - (j2+1),by lia⟩
       exact q3 v (by lia) (by lia) (by lia)
     ·have N:=M2.xs hX k (fun a ha b hb=>zcv (lT (P:=fun a=>R a≤R (y.toList[j2]'(by lia))) (fun u hu huk=>k2 u hu huk) a ha) (hY.ge (by lia) b hb))
      rw [← yd,← zaQ] at N
      show wpS (model prog w) A E s (ite _ _ _) _ _
      by_cases e1:i2+k+1=x.size
      ·rw [yIp (by simpa using e1)]
       exact wpS_pure ⟨⟨_,rfl⟩,.inl ⟨_,_,_,_,_,_,_,rfl,jk N hX hY hl e1⟩⟩
      rw [yIn (by simpa using e1)]
      by_cases e2:i2+k=x.size
      ·rw [yIp (by simpa using e2)]
       exact wpS_pure ⟨⟨_,rfl⟩,.inl ⟨_,_,_,_,_,_,_,rfl,gy N hX hY (.inr (by lia))⟩⟩
      rw [yIn (by simpa using e2)]
      refine J _ _ ⟨N,lU fun u hu=>zcw ?_,by lia,by lia⟩
      obtain ⟨v,rfl⟩:∃ v,u=i2+v:=⟨u - i2,by lia⟩
      exact k3 v (by lia) (by lia) (by lia)
     ·obtain ⟨v,rfl⟩:∃ v,u=i2+v:=⟨u - i2,by lia⟩
      exact k3 v (by lia) (by lia) (by lia)
end
section
variable {R:Keyed→Int}
structure MH (R:Keyed→Int) (X Y O:List Keyed) (p q:Nat):Prop where
 perm:(X.take p++Y.take q++O).Perm (X++Y)
 so:bz R O
 le:∀ a∈X.take p++Y.take q,∀ b∈O,R a≤R b
theorem tk {X:List Keyed}{m p:Nat} (h:m≤p):X.take p=X.take m++(X.take p).drop m:=by
 have:=(zax m (X.take p)).symm
 rwa [List.take_take,Nat.min_eq_left h] at this
theorem MH.xs {X Y O:List Keyed}{p q:Nat} (M:MH R X Y O p q) (hX:bz R X) {m:Nat} (hm:m≤p) (h:∀ a∈(X.take p).drop m,∀ b∈Y.take q,R b≤R a):MH R X Y ((X.take p).drop m++O) m q:=by
 have e:=tk (X:=X) hm
 refine ⟨?_,(((hX.take p).drop m).app M.so fun a ha b hb=>M.le a (zaD _ (zaI ha)) b hb),fun a ha b hb => ?_⟩
 ·refine List.Perm.trans ?_ M.perm
  conv=>rhs;rw [e]
  rw [← zbl]
  refine List.Perm.append_right O ?_
  rw [zbl,zbl]
  exact List.Perm.append_left _ zay
 ·rcases zbM.mp hb with hb | hb
  ·rcases zbM.mp ha with ha | ha
   ·have:=hX.take p
    rw [e] at this
    exact (zaG.mp this).2.2 a ha b hb
   ·exact h b hb a ha
  ·refine M.le a ?_ b hb
   rcases zbM.mp ha with ha | ha
   ·exact zaD _ (by rw [e];exact zaD _ ha)
   ·exact zau _ ha
theorem MH.ys {X Y O:List Keyed}{p q:Nat} (M:MH R X Y O p q) (hY:bz R Y) {m:Nat} (hm:m≤q) (h:∀ a∈(Y.take q).drop m,∀ b∈X.take p,R b≤R a):MH R X Y ((Y.take q).drop m++O) p m:=by
 have e:=tk (X:=Y) hm
 refine ⟨?_,(((hY.take q).drop m).app M.so fun a ha b hb=>M.le a (zau _ (zaI ha)) b hb),fun a ha b hb => ?_⟩
 ·refine List.Perm.trans ?_ M.perm
  conv=>rhs;rw [e]
  rw [zbl,zbl,zbl]
 ·rcases zbM.mp hb with hb | hb
  ·rcases zbM.mp ha with ha | ha
   ·exact h b hb a ha
   ·have:=hY.take q
    rw [e] at this
    exact (zaG.mp this).2.2 a ha b hb
  ·refine M.le a ?_ b hb
   rcases zbM.mp ha with ha | ha
   ·exact zaD _ ha
   ·exact zau _ (by rw [e];exact zaD _ ha)
theorem Nj {X:List Keyed}{p:Nat} (h1:0<p) (h2:p≤X.length):(X.take p).drop (p - 1)=[X[p - 1]'(by lia)]:=by
 apply List.ext_getElem
 ·simp;lia
 ·intro i h3 h4
  simp at h4
  subst h4
  simp
theorem MH.x1 {X Y O:List Keyed}{p q:Nat} (M:MH R X Y O p q) (hX:bz R X) (h1:0<p) (h2:p≤X.length) (h:∀ b∈Y.take q,R b≤R (X[p - 1]'(by lia))):MH R X Y (X[p - 1]'(by lia)::O) (p - 1) q:=by
 have:=M.xs hX (m:=p - 1) (by lia) fun a ha b hb=>by rw [Nj h1 h2] at ha;rw [zaW.mp ha];exact h b hb
 rw [Nj h1 h2] at this;exact this
theorem MH.y1 {X Y O:List Keyed}{p q:Nat} (M:MH R X Y O p q) (hY:bz R Y) (h1:0<q) (h2:q≤Y.length) (h:∀ b∈X.take p,R b≤R (Y[q - 1]'(by lia))):MH R X Y (Y[q - 1]'(by lia)::O) p (q - 1):=by
 have:=M.ys hY (m:=q - 1) (by lia) fun a ha b hb=>by rw [Nj h1 h2] at ha;rw [zaW.mp ha];exact h b hb
 rw [Nj h1 h2] at this;exact this
theorem bz.le {l:List Keyed} (h:bz R l) {i:Nat} (h1:0<i) (hi:i≤l.length):∀ b∈l.take i,R b≤R (l[i - 1]'(by lia)):=fun b hb=>by
 obtain ⟨k,hk,rfl⟩:=zaM hb
 rw [zby] at hk
 rw [zbo]
 exact h.at (by lia) (by lia) (by lia)
theorem ye (x:Array Keyed) (p:Nat):(x.extract 0 p).toList=x.toList.take p:=by
 rw [zaJ,zai];simp
theorem HE (x:Array Keyed) (m p:Nat):(x.extract m p).toList=(x.toList.take p).drop m:=by
 rw [zaJ,zai,List.drop_take]
theorem jt (o:Array Keyed) (a:Keyed):(o.push a).toList.reverse=a::o.toList.reverse:=by simp
theorem xF (o:Array Keyed) (a:Array Keyed):(o++a.reverse).toList.reverse=a.toList++o.toList.reverse:=by simp
theorem rL {x y o:Array Keyed}{p q:Nat} (M:MH R x.toList y.toList o.toList.reverse p q) (hX:bz R x.toList) (hY:bz R y.toList) (h:p=0∨q=0):Told R x.toList y.toList (x.extract 0 p++y.extract 0 q++o.reverse):=by
 unfold Told
 rw [zaQ,zaQ,ye,ye,Array.toList_reverse]
 refine ⟨bz.app (bz.app (hX.take p) (hY.take q) fun a ha b hb => ?_) M.so M.le,M.perm⟩
 rcases h with rfl | rfl
 ·simp at ha
 ·simp at hb
theorem wL {x y o:Array Keyed}{p q:Nat} (M:MH R x.toList y.toList o.toList.reverse p q) (hX:bz R x.toList) (hY:bz R y.toList) (h0:∀ a∈y.toList.take 1,∀ b∈x.toList,R a≤R b) (h:q=1):Told R x.toList y.toList (y.extract 0 q++x.extract 0 p++o.reverse):=by
 unfold Told
 rw [zaQ,zaQ,ye,ye,Array.toList_reverse]
 refine ⟨bz.app (bz.app (hY.take q) (hX.take p) fun a ha b hb=>h0 a (by rw [← h];exact ha) b (zaH hb)) M.so fun a ha b hb=>M.le a ?_ b hb,?_⟩
 ·rcases zbM.mp ha with ha | ha
  ·exact zau _ ha
  ·exact zaD _ ha
 ·exact (List.Perm.append_right _ zay).trans M.perm
theorem HL {l:List Keyed}{i:Nat}{P:Keyed→Prop} (h:∀ u (hu:u<l.length),u<i→P l[u]):∀ b∈l.take i,P b:=fun b hb=>by
 obtain ⟨v,hv,rfl⟩:=zaM hb
 rw [zby] at hv
 rw [zbo]
 exact h v (by lia) (by lia)
theorem Dr {l:List Keyed}{m p:Nat}{P:Keyed→Prop} (h:∀ u (hu:u<l.length),m≤u→u<p→P l[u]):∀ b∈(l.take p).drop m,P b:=fun b hb=>by
 obtain ⟨v,hv,rfl⟩:=zaM hb
 rw [zbA,zby] at hv
 rw [zbn,zbo]
 exact h (m+v) (by lia) (by lia) (by lia)
end
section
variable {prog:yak}{w:yal}{A:yam}{E:yaj→yai→Prop}{s:yai}{R:Keyed→Int}{κ:SortKind}{T:Keyed→Prop}
def Lc (R:Keyed→Int) (x y o:Array Keyed) (p q:Nat):Prop:=MH R x.toList y.toList o.toList.reverse p q∧(0<p∧p≤x.size)∧(1<q∧q≤y.size)
theorem vB (C:uB prog w A s κ R T) {x y:Array Keyed}{st:SortSt}{Q:Array Keyed→SortSt→Prop} (hk:kindOf st=κ) (hTx:∀ a∈x.toList,T a) (hTy:∀ a∈y.toList,T a) (hX:bz R x.toList) (hY:bz R y.toList) (hx:0<x.size) (hy:0<y.size)
  (h0:∀ a∈y.toList.take 1,∀ b∈x.toList,R a≤R b) (hl:∀ a∈y.toList,R a≤R (x.toList[x.size - 1]'(by rw [zaP];lia)))
  (h:∀ r g,Told R x.toList y.toList r→Q r (eU st g)):wpS (model prog w) A E s (Cd x y) Q st:=by
 have lx:x.toList.length=x.size:=by simp
 have ly:y.toList.length=y.size:=by simp
 have M0:MH R x.toList y.toList [] x.size y.size:=⟨by rw [zap (by lia),zap (by lia),zbO],.nil,fun a ha b hb=>by simp at hb⟩
 have M1:=M0.x1 hX (by lia) (by lia) (fun b hb=>hl b (zaH hb))
 refine wpS_bind (wpS_lift (wpAny_rule ⟨rfl,?_⟩))
 refine wpS_bind (aZ (i:=x.size - 1) (by lia) ?_)
 show wpS (model prog w) A E s (ite _ _ _) _ _
 have M1':MH R x.toList y.toList (#[x.toList[x.size - 1]'(by lia)]:Array Keyed).toList.reverse (x.size - 1) y.size:=M1
 by_cases c1:x.size - 1=0
 ·rw [yIp (by simpa using c1)]
  exact wpS_pure (h _ (gallopOf st) (rL M1' hX hY (.inl c1)))
 rw [yIn (by simpa using c1)]
 by_cases c2:y.size=1
 ·rw [yIp (by simpa using c2)]
  exact wpS_pure (h _ (gallopOf st) (wL M1' hX hY h0 c2))
 rw [yIn (by simpa using c2)]
 refine wpS_bind (wpS_get ?_)
 refine wpS_bind (wpS_mono (wpS_forRange
  (I:=fun n c st'=>(∃ g,st'=eU st g)∧∃ p q o mg,c=(none,p,q,o,mg)∧Lc R x y o p q∧n+p+q≤x.size+y.size)
  (Q:=fun c st'=>(∃ g,st'=eU st g)∧((∃ r p q o mg,c=(some r,p,q,o,mg)∧Told R x.toList y.toList r)∨∃ p q o mg,c=(none,p,q,o,mg)∧Lc R x y o p q∧x.size+y.size+p+q≤x.size+y.size)) ?step ?fin ⟨⟨gallopOf st,rfl⟩,_,_,_,_,rfl,⟨M1',⟨by lia,by lia⟩,by lia,by lia⟩,by lia⟩) ?post)
 case fin =>
  rintro c st' ⟨hg,p,q,o,mg,rfl,M,hn⟩
  exact ⟨hg,.inr ⟨p,q,o,mg,rfl,M,by lia⟩⟩
 case post =>
  rintro c st' ⟨⟨g,rfl⟩,⟨r,p,q,o,mg,rfl,ht⟩ | ⟨p,q,o,mg,rfl,M,hn⟩⟩
  ·exact wpS_pure (h r g ht)
  ·have:=M.2.1
   have:=M.2.2
   lia
 case step =>
  rintro n c st' _ hn ⟨⟨g,rfl⟩,p,q,o,mg,rfl,M,hp⟩
  refine wpS_bind (wpS_mono (wpS_forRange
   (I:=fun n' c st'=>st'=eU st g∧∃ p' q' o' u v,c=(none,p',q',o',u,v)∧Lc R x y o' p' q'∧n'+p'+q'≤p+q)
   (Q:=fun c st'=>st'=eU st g∧((∃ r p' q' o' u v,c=(some r,p',q',o',u,v)∧Told R x.toList y.toList r)∨∃ p' q' o' u v,c=(none,p',q',o',u,v)∧Lc R x y o' p' q'∧p'+q'+1≤p+q)) ?oW ?fin1 ⟨rfl,p,q,o,0,0,rfl,M,by lia⟩) ?post1)
  case fin1 =>
   rintro c st' ⟨rfl,p',q',o',u,v,rfl,M',hn'⟩
   exact ⟨rfl,.inr ⟨p',q',o',u,v,rfl,M',by lia⟩⟩
  case oW =>
   rintro n' c st' _ hn' ⟨rfl,p',q',o',u,v,rfl,⟨M',b1,b2⟩,hp'⟩
   dsimp only
   refine wpS_bind (aZ (by lia) (wpS_bind (aZ (by lia) (wpS_bind (sP C hk (hTy _ (zbF _)) (hTx _ (zbF _)) ?_)))))
   dsimp only
   by_cases hlt:R (y.toList[q' - 1]'(by lia))<R (x.toList[p' - 1]'(by lia))
   ·rw [yDt hlt,yIp rfl]
    refine wpS_bind (aZ (by lia) ?_)
    have N:=M'.x1 hX (by lia) (by lia) (fun b hb=>zcv (hY.le (by lia) (by lia) b hb) (zcw hlt))
    rw [← jt] at N
    by_cases e:p' - 1=0
    ·rw [yIp (by simpa using e)]
     exact wpS_pure ⟨rfl,.inl ⟨_,_,_,_,_,_,rfl,rL N hX hY (.inl e)⟩⟩
    ·rw [yIn (by simpa using e)]
     split
     ·exact wpS_pure ⟨rfl,.inr ⟨_,_,_,_,_,rfl,⟨N,⟨by lia,by lia⟩,b2⟩,by lia⟩⟩
     ·exact wpS_pure ⟨rfl,_,_,_,_,_,rfl,⟨N,⟨by lia,by lia⟩,b2⟩,by lia⟩
   ·rw [yDf hlt,yIn (by decide)]
    refine wpS_bind (aZ (by lia) ?_)
    have N:=M'.y1 hY (by lia) (by lia) (fun b hb=>zcv (hX.le (by lia) (by lia) b hb) (Int.not_lt.mp hlt))
    rw [← jt] at N
    by_cases e:q' - 1=1
    ·rw [yIp (by simpa using e)]
     exact wpS_pure ⟨rfl,.inl ⟨_,_,_,_,_,_,rfl,wL N hX hY h0 e⟩⟩
    ·rw [yIn (by simpa using e)]
     split
     ·exact wpS_pure ⟨rfl,.inr ⟨_,_,_,_,_,rfl,⟨N,b1,by lia,by lia⟩,by lia⟩⟩
     ·exact wpS_pure ⟨rfl,_,_,_,_,_,rfl,⟨N,b1,by lia,by lia⟩,by lia⟩
  case post1 =>
   rintro c st' ⟨rfl,⟨r,p',q',o',u,v,rfl,ht⟩ | ⟨p',q',o',u,v,rfl,M',hp'⟩⟩
   ·exact wpS_pure ⟨⟨g,rfl⟩,.inl ⟨r,_,_,_,_,rfl,ht⟩⟩
   ·refine wpS_bind (wpS_lift (wpAny_rule ⟨rfl,?_⟩))
    refine wpS_bind (wpS_mono (wpS_forRange
     (I:=fun _ c st'=>(∃ g,st'=eU st g)∧∃ p2 q2 o2 mg u v,c=(none,p2,q2,o2,mg,u,v)∧Lc R x y o2 p2 q2∧p2+q2≤p'+q')
     (Q:=fun c st'=>(∃ g,st'=eU st g)∧((∃ r p2 q2 o2 mg u v,c=(some r,p2,q2,o2,mg,u,v)∧Told R x.toList y.toList r)∨∃ p2 q2 o2 mg u v,c=(none,p2,q2,o2,mg,u,v)∧Lc R x y o2 p2 q2∧p2+q2≤p'+q')) ?step2 ?fin2 ⟨⟨g,rfl⟩,p',q',o',_,_,_,rfl,M',by lia⟩) ?post2)
    case fin2 =>
     rintro c st' ⟨hg,p2,q2,o2,mg,u,v,rfl,M2,hp2⟩
     exact ⟨hg,.inr ⟨p2,q2,o2,mg,u,v,rfl,M2,hp2⟩⟩
    case post2 =>
     rintro c st' ⟨⟨g2,rfl⟩,⟨r,p2,q2,o2,mg2,u,v,rfl,ht⟩ | ⟨p2,q2,o2,mg2,u,v,rfl,M2,hp2⟩⟩
     ·exact wpS_pure ⟨⟨g2,rfl⟩,.inl ⟨r,_,_,_,_,rfl,ht⟩⟩
     ·dsimp only
      refine wpS_bind (lD (wpS_pure ⟨⟨mg2+1,rfl⟩,_,_,_,_,rfl,M2,by lia⟩))
    case step2 =>
     rintro n2 c st' _ hn2 ⟨⟨g2,rfl⟩,p2,q2,o2,mg2,u,v,rfl,⟨M2,b1,b2⟩,hp2⟩
     dsimp -zeta only
     extract_lets s1 na s2 nb s3 out s4 mg s5 ac bc nb1 jp mg1
     refine Pc jp fun m => ?_
     dsimp -zeta only [jp,out,na,nb,nb1,ac,bc,s1,s2,s3,s4,s5]
     clear jp
     refine wpS_bind (lD (wpS_bind (aZ (by lia) (wpS_bind (CA C hk hTx (hTy _ (zbF _)) (fun a b ha hb h1 h2=>hX.at (by lia) hb ha) (by lia) (by lia) fun k k1 k2 k3 => ?_)))))
     simp only [Nat.zero_add] at k2 k3
     dsimp -zeta only
     extract_lets k9 ac2 jp o9 i9
     have gt:∀ b∈x.toList.take k,R b≤R (y.toList[q2 - 1]'(by lia)):=HL fun u hu huk=>k2 u hu huk
     refine Nd jp (fun p3 o3=>MH R x.toList y.toList o3.toList.reverse p3 q2∧(∀ b∈x.toList.take p3,R b≤R (y.toList[q2 - 1]'(by lia)))∧0<p3∧p3≤p2) (fun p3 o3 hP => ?_) (fun kp J => ?_) (fun kp => ?_)
     ·obtain ⟨N,gt,b3,l3⟩:=hP
      dsimp -zeta only [jp,ac2,k9]
      clear jp
      refine wpS_bind (aZ (by lia) ?_)
      have N2:=N.y1 hY (q:=q2) (by lia) (by lia) gt
      rw [← jt] at N2
      show wpS (model prog w) A E s (ite _ _ _) _ _
      by_cases e3:q2 - 1=1
      ·rw [yIp (by simpa using e3)]
       exact wpS_pure ⟨⟨_,rfl⟩,.inl ⟨_,_,_,_,_,_,_,rfl,wL N2 hX hY h0 e3⟩⟩
      rw [yIn (by simpa using e3)]
      refine wpS_bind (aZ (by lia) (wpS_bind (CB C hk hTy (hTx _ (zbF _)) (fun a b ha hb h1 h2=>hY.at (by lia) hb ha) (by lia) (by lia) fun k' q1 q2' q3 => ?_)))
      simp only [Nat.zero_add] at q2' q3
      dsimp -zeta only
      extract_lets k8 bc2 p8 jp o9 j9
      have gt3:∀ b∈y.toList.take k',R b≤R (x.toList[p3 - 1]'(by lia)):=HL fun u hu huk=>zcw (q2' u hu huk)
      refine Nd jp (fun q4 o4=>MH R x.toList y.toList o4.toList.reverse p3 q4∧(∀ b∈y.toList.take q4,R b≤R (x.toList[p3 - 1]'(by lia)))∧1<q4∧q4≤q2 - 1) (fun q4 o4 hP => ?_) (fun kp' J => ?_) (fun kp' => ?_)
      ·obtain ⟨N3,gt4,b4,l4⟩:=hP
       dsimp -zeta only [jp,bc2,k8,p8]
       clear jp
       refine wpS_bind (aZ (by lia) ?_)
       have N4:=N3.x1 hX (p:=p3) (by lia) (by lia) gt4
       rw [← jt] at N4
       dsimp only
       by_cases e5:p3 - 1=0
       ·rw [yIp (by simpa using e5)]
        exact wpS_pure ⟨⟨_,rfl⟩,.inl ⟨_,_,_,_,_,_,_,rfl,rL N4 hX hY (.inl e5)⟩⟩
       rw [yIn (by simpa using e5)]
       split
       ·exact wpS_pure ⟨⟨_,rfl⟩,.inr ⟨_,_,_,_,_,_,rfl,⟨N4,⟨by lia,by lia⟩,⟨by lia,by lia⟩⟩,by lia⟩⟩
       ·exact wpS_pure ⟨⟨_,rfl⟩,_,_,_,_,_,_,rfl,⟨N4,⟨by lia,by lia⟩,⟨by lia,by lia⟩⟩,by lia⟩
      ·have N3:=N2.ys hY (m:=k') (by lia) (fun a ha b hb=>zcv (hX.le (by lia) (by lia) b hb) (Dr (P:=fun a=>R (x.toList[p3 - 1]'(by lia))≤R a) (fun u hu h1 h2=>q3 u hu h1 h2) a ha))
       rw [← HE,← xF] at N3
       show wpS (model prog w) A E s (ite _ _ _) _ _
       by_cases e4:k'=1
       ·rw [yIp (by simpa using e4)]
        exact wpS_pure ⟨⟨_,rfl⟩,.inl ⟨_,_,_,_,_,_,_,rfl,wL N3 hX hY h0 e4⟩⟩
       rw [yIn (by simpa using e4)]
       by_cases e6:k'=0
       ·rw [yIp (by simpa using e6)]
        exact wpS_pure ⟨⟨_,rfl⟩,.inl ⟨_,_,_,_,_,_,_,rfl,rL N3 hX hY (.inr e6)⟩⟩
       rw [yIn (by simpa using e6)]
       exact J _ _ ⟨N3,gt3,by lia,by lia⟩
      ·obtain rfl:k'=q2 - 1:=by lia
       exact ⟨N2,gt3,by lia,zcE _⟩
     ·have N:=M2.xs hX (m:=k) (by lia) (fun a ha b hb=>zcv (hY.le (by lia) (by lia) b hb) (zcw (Dr (P:=fun a=>R (y.toList[q2 - 1]'(by lia))<R a) (fun u hu h1 h2=>k3 u hu h1 h2) a ha)))
      rw [← HE,← xF] at N
      show wpS (model prog w) A E s (ite _ _ _) _ _
      by_cases e1:k=0
      ·rw [yIp (by simpa using e1)]
       exact wpS_pure ⟨⟨_,rfl⟩,.inl ⟨_,_,_,_,_,_,_,rfl,rL N hX hY (.inl e1)⟩⟩
      rw [yIn (by simpa using e1)]
      exact J _ _ ⟨N,gt,by lia,by lia⟩
     ·obtain rfl:k=p2:=by lia
      exact ⟨M2,gt,b1.1,zcE _⟩
end
noncomputable def KR (R:Keyed→Int) (xs:Array Keyed) (i:Nat):Int:=(xs[i]?.map R).getD 0
theorem cN {R:Keyed→Int}{xs ys:Array Keyed}{i j:Nat} (h:xs[i]? = ys[j]?):KR R xs i=KR R ys j:=by unfold KR;rw [h]
def Up (R:Keyed→Int) (xs:Array Keyed) (lo m:Nat):Prop:=∀ i j,lo≤i→i≤j→j<lo+m→KR R xs i≤KR R xs j
def Dn (R:Keyed→Int) (xs:Array Keyed) (lo m:Nat):Prop:=∀ i j,lo≤i→i≤j→j<lo+m→KR R xs j≤KR R xs i
structure G (a₀:Array Keyed) (κ:SortKind) (p:Array (Nat×Nat×Nat)) (lo:Nat) (b:Array Keyed) (st:SortSt):Prop where
 perm:(arrOf st).Perm a₀
 kind:kindOf st=κ
 failed:failedOf st=none
 pend:pendingOf st=p
 below:∀ k,k<lo→(arrOf st)[k]? = b[k]?
theorem G.size {a₀ κ p lo b}{st:SortSt} (h:G a₀ κ p lo b st):(arrOf st).size=a₀.size:=h.perm.size_eq
theorem G.arr {a₀ κ p lo b}{st:SortSt} (h:G a₀ κ p lo b st) {xs:Array Keyed} (hp:xs.Perm (arrOf st)) (hb:∀ k,k<lo→xs[k]? = (arrOf st)[k]?):G a₀ κ p lo b (setArr st xs) :=
 ⟨hp.trans h.perm,h.kind,h.failed,h.pend,fun k hk=>(hb k hk).trans (h.below k hk)⟩
theorem G.Na {a₀ κ p lo b}{st:SortSt} (h:G a₀ κ p lo b st) {i j:Nat} (hi:lo≤i) (hj:j≤a₀.size):G a₀ κ p lo b (setArr st (mirror (arrOf st) i j ((j - i) / 2))) :=
 h.arr (mirror_perm _ _ _ _) fun k hk=>by
  rw [getElem?_mirror_all (by rw [h.size];exact hj),yIn (by lia)]
theorem wB {R:Keyed→Int}{xs:Array Keyed}{i j:Nat} (hj:j≤xs.size) (k:Nat):KR R (mirror xs i j ((j - i) / 2)) k=if i≤k∧k<j then KR R xs (i+j - 1 - k) else KR R xs k:=by
 have e:=getElem?_mirror_all (i:=i) hj k
 by_cases h1:i≤k∧k<j
 ·rw [yIp h1] at e ⊢;exact cN e
 ·rw [yIn h1] at e ⊢;exact cN e
theorem j8 {R:Keyed→Int}{xs:Array Keyed}{i j:Nat} (hj:j≤xs.size) (he:∀ k,i≤k→k<j→KR R xs k=KR R xs (j - 1)) (k:Nat):KR R (mirror xs i j ((j - i) / 2)) k=KR R xs k:=by
 rw [wB hj]
 split
 ·rw [he _ (by lia) (by lia),he k (by lia) (by lia)]
 ·rfl
theorem D6 {R:Keyed→Int}{xs:Array Keyed}{src d:Nat} (hs:src<xs.size) (hd:d≤src) (k:Nat) :
  KR R (bubble xs src d) k=if k=src - d then KR R xs src else if src - d<k∧k≤src then KR R xs (k - 1) else KR R xs k:=by
 have e:=getElem?_bubble hs d hd k
 by_cases h1:k=src - d
 ·rw [yIp h1] at e ⊢;exact cN e
 ·rw [yIn h1] at e ⊢
  by_cases h2:src - d<k∧k≤src
  ·rw [yIp h2] at e ⊢;exact cN e
  ·rw [yIn h2] at e ⊢;exact cN e
section
variable {prog:yak}{w:yal}{A:yam}{E:yaj→yai→Prop}{s:yai}{R:Keyed→Int}{κ:SortKind}{T:Keyed→Prop}{a₀ b:Array Keyed}{p:Array (Nat×Nat×Nat)}{lo:Nat}
theorem G.at {st:SortSt} (h:G a₀ κ p lo b st) (hT:∀ a∈a₀.toList,T a) {i:Nat} (hi:i<a₀.size):∃ hi':i<(arrOf st).toList.length,T ((arrOf st).toList[i])∧KR R (arrOf st) i=R ((arrOf st).toList[i]):=by
 have hi':i<(arrOf st).toList.length:=by rw [zaP,h.size];exact hi
 refine ⟨hi',hT _ ((zad.mp h.perm).mem_iff.mp (zbF _)),?_⟩
 unfold KR
 rw [← zaz,zak hi']
 rfl
theorem LZ (C:uB prog w A s κ R T) (hT:∀ a∈a₀.toList,T a) {st:SortSt}{i j:Nat}{Q:Option Bool→SortSt→Prop} (hB:G a₀ κ p lo b st) (hi:i<a₀.size) (hj:j<a₀.size)
  (h:Q (some (decide (KR R (arrOf st) i<KR R (arrOf st) j))) st):wpS (model prog w) A E s (ltAt' i j) Q st:=by
 obtain ⟨e1,t1,r1⟩:=hB.at (R:=R) hT hi
 obtain ⟨e2,t2,r2⟩:=hB.at (R:=R) hT hj
 rw [r1,r2] at h
 rw [ltAt'_eq]
 exact wpS_bind (wpS_get (wpS_bind (aZ e1 (wpS_bind (aZ e2 (sP C hB.kind t1 t2 h))))))
noncomputable def t3 (lo n nrem:Nat):StateT SortSt Sem (Option Nat):=do
 let mut n:=n
 reverseSlice' lo (lo+n)
 for _ in [n:nrem] do
  let some sm ← ltAt' (lo+n) (lo+n - 1) | return none
  if sm then break
  n:=n+1
 return some n
noncomputable def dP (lo n nrem:Nat):StateT SortSt Sem (Option Nat):=do
 let mut n:=n
 rule "list.sort.descending-run"
 n:=n+1
 let mut neq:=0
 for _ in [n:nrem] do
  let some sm ← ltAt' (lo+n) (lo+n - 1) | return none
  if sm then
   if neq > 0 then reverseSlice' (lo+n - (neq+1)) (lo+n)
   neq:=0
  else
   let some la ← ltAt' (lo+n - 1) (lo+n) | return none
   if la then break
   neq:=neq+1
  n:=n+1
 if neq > 0 then reverseSlice' (lo+n - (neq+1)) (lo+n)
 t3 lo n nrem
noncomputable def Mz (lo n nrem:Nat):StateT SortSt Sem (Option (Option Nat)×Nat) :=
 forIn [n:nrem] ((none,n):Option (Option Nat)×Nat) fun _ c=>do
  let x ← ltAt' (lo+c.2) (lo+c.2 - 1)
  match x with
  | some sm=>if sm=true then pure (ForInStep.done (none,c.2)) else pure (ForInStep.yield (none,c.2+1))
  | _=>pure (ForInStep.done (some none,c.2))
theorem Dt (C:uB prog w A s κ R T) (hT:∀ a∈a₀.toList,T a) {st:SortSt}{n nrem:Nat}{Q:Option (Option Nat)×Nat→SortSt→Prop} (hB:G a₀ κ p lo b st) (hn:lo+nrem≤a₀.size) (h1:1≤n) (hnn:n≤nrem) (hs:Up R (arrOf st) lo n)
  (h:∀ m,n≤m→m≤nrem→Up R (arrOf st) lo m→(m=nrem∨KR R (arrOf st) (lo+m)<KR R (arrOf st) (lo+m - 1))→Q (none,m) st):wpS (model prog w) A E s (Mz lo n nrem) Q st:=by
 unfold Mz
 refine wpS_forRange (I:=fun x c st'=>st'=st∧c=(none,x)∧Up R (arrOf st) lo x) ?step ?fin ⟨rfl,rfl,hs⟩
 case fin =>
  rintro c st' ⟨rfl,rfl,hs'⟩
  rw [show max n nrem=nrem by lia] at hs' ⊢
  exact h nrem hnn (zcE _) hs' (.inl rfl)
 case step =>
  rintro x c st' hax hxn ⟨rfl,rfl,hs'⟩
  dsimp only
  refine wpS_bind (LZ C hT hB (by lia) (by lia) ?_)
  by_cases hl:KR R (arrOf st') (lo+x)<KR R (arrOf st') (lo+x - 1)
  ·simp only [hl,decide_true,if_true]
   exact wpS_pure (h x hax (by lia) hs' (.inr hl))
  ·simp only [hl,decide_false,zbc,if_false]
   refine wpS_pure ⟨rfl,rfl,fun i j hi hij hj => ?_⟩
   by_cases hjx:j<lo+x
   ·exact hs' i j hi hij hjx
   ·obtain rfl:j=lo+x:=by lia
    by_cases hi':i=lo+x
    ·subst hi';exact zcG _
    ·exact zcv (hs' i (lo+x - 1) hi (by lia) (by lia)) (Int.not_lt.mp hl)
theorem G5 (C:uB prog w A s κ R T) (hT:∀ a∈a₀.toList,T a) {st:SortSt}{n nrem:Nat}{Q:Option Nat→SortSt→Prop} (hB:G a₀ κ p lo b st) (hn:lo+nrem≤a₀.size) (h1:1≤n) (hnn:n≤nrem) (hs:Dn R (arrOf st) lo n)
  (h:∀ m st',G a₀ κ p lo b st'→1≤m→m≤nrem→Up R (arrOf st') lo m→Q (some m) st'):wpS (model prog w) A E s (t3 lo n nrem) Q st:=by
 unfold t3
 dsimp only
 have hz:lo+n≤(arrOf st).size:=by rw [hB.size];lia
 rw [reverseSlice'_eq]
 refine wpS_bind (wpS_modify ?_)
 have hB':=hB.Na (i:=lo) (j:=lo+n) (by lia) (by lia)
 have hs':Up R (arrOf (setArr st (mirror (arrOf st) lo (lo+n) ((lo+n - lo) / 2)))) lo n:=by
  intro i j hi hij hj
  show KR R (mirror (arrOf st) lo (lo+n) ((lo+n - lo) / 2)) i≤KR R (mirror (arrOf st) lo (lo+n) ((lo+n - lo) / 2)) j
  rw [wB hz,wB hz,yIp (by lia),yIp (by lia)]
  exact hs _ _ (by lia) (by lia) (by lia)
 generalize setArr st (mirror (arrOf st) lo (lo+n) ((lo+n - lo) / 2))=st1 at hB' hs' ⊢
 refine wpS_bind (Dt C hT hB' hn h1 hnn hs' fun m m1 m2 m3 _=>wpS_pure (h m _ hB' (by lia) m2 m3))
noncomputable def Ml (lo n nrem:Nat):StateT SortSt Sem (Option (Option Nat)×Nat×Nat) :=
 forIn [n:nrem] ((none,n,0):Option (Option Nat)×Nat×Nat) fun _ c=>do
  let x ← ltAt' (lo+c.2.1) (lo+c.2.1 - 1)
  match x with
  | some sm =>
   if sm=true then
    if c.2.2 > 0 then do
     reverseSlice' (lo+c.2.1 - (c.2.2+1)) (lo+c.2.1)
     pure (ForInStep.yield (none,c.2.1+1,0))
    else pure (ForInStep.yield (none,c.2.1+1,0))
   else do
    let x ← ltAt' (lo+c.2.1 - 1) (lo+c.2.1)
    match x with
    | some la=>if la=true then pure (ForInStep.done (none,c.2.1,c.2.2)) else pure (ForInStep.yield (none,c.2.1+1,c.2.2+1))
    | _=>pure (ForInStep.done (some none,c.2.1,c.2.2))
  | _=>pure (ForInStep.done (some none,c.2.1,c.2.2))
theorem J2 (C:uB prog w A s κ R T) (hT:∀ a∈a₀.toList,T a) {st:SortSt}{n nrem:Nat}{Q:Option (Option Nat)×Nat×Nat→SortSt→Prop} (hB:G a₀ κ p lo b st) (hn:lo+nrem≤a₀.size) (h1:1≤n) (hnn:n≤nrem) (hs:Dn R (arrOf st) lo n)
  (h:∀ m neq st',G a₀ κ p lo b st'→n≤m→m≤nrem→Dn R (arrOf st') lo m→neq+1≤m→(∀ i,lo+m - (neq+1)≤i→i<lo+m→KR R (arrOf st') i=KR R (arrOf st') (lo+m - 1))→Q (none,m,neq) st'):wpS (model prog w) A E s (Ml lo n nrem) Q st:=by
 unfold Ml
 refine wpS_forRange (I:=fun x c st'=>∃ neq,c=(none,x,neq)∧G a₀ κ p lo b st'∧Dn R (arrOf st') lo x∧neq+1≤x ∧
   (∀ i,lo+x - (neq+1)≤i→i<lo+x→KR R (arrOf st') i=KR R (arrOf st') (lo+x - 1))) ?step ?fin ⟨0,rfl,hB,hs,by lia,fun i h1 h2=>by congr 1;lia⟩
 case fin =>
  rintro c st' ⟨neq,rfl,hB',hs',hq,he⟩
  rw [show max n nrem=nrem by lia] at hs' hq he ⊢
  exact h nrem neq st' hB' hnn (zcE _) hs' hq he
 case step =>
  rintro x c st' hax hxn ⟨neq,rfl,hB',hs',hq,he⟩
  dsimp only
  have hz:lo+x≤(arrOf st').size:=by rw [hB'.size];lia
  refine wpS_bind (LZ C hT hB' (by lia) (by lia) ?_)
  by_cases hl:KR R (arrOf st') (lo+x)<KR R (arrOf st') (lo+x - 1)
  ·simp only [hl,decide_true,if_true]
   have oW:∀ xs:Array Keyed,(∀ k,KR R xs k=KR R (arrOf st') k)→Dn R xs lo (x+1):=by
    intro xs hk i j hi hij hj
    rw [hk,hk]
    by_cases hjx:j<lo+x
    ·exact hs' i j hi hij hjx
    ·obtain rfl:j=lo+x:=by lia
     by_cases hi':i=lo+x
     ·subst hi';exact zcG _
     ·exact zcv (zcw hl) (hs' i (lo+x - 1) hi (by lia) (by lia))
   by_cases hneq:neq > 0
   ·rw [yIp hneq,reverseSlice'_eq]
    exact wpS_bind (wpS_modify (wpS_pure ⟨0,rfl,hB'.Na (by lia) (by lia),oW _ (j8 hz he),by lia,fun i h1 h2=>by congr 1;lia⟩))
   ·rw [yIn hneq]
    exact wpS_pure ⟨0,rfl,hB',oW _ (fun _=>rfl),by lia,fun i h1 h2=>by congr 1;lia⟩
  ·simp only [hl,decide_false,zbc,if_false]
   refine wpS_bind (LZ C hT hB' (by lia) (by lia) ?_)
   by_cases hg:KR R (arrOf st') (lo+x - 1)<KR R (arrOf st') (lo+x)
   ·simp only [hg,decide_true,if_true]
    exact wpS_pure (h x neq st' hB' hax (by lia) hs' hq he)
   ·simp only [hg,decide_false,zbc,if_false]
    have hx:KR R (arrOf st') (lo+x)=KR R (arrOf st') (lo+x - 1):=by lia
    refine wpS_pure ⟨neq+1,rfl,hB',fun i j hi hij hj => ?_,by lia,fun i h1 h2 => ?_⟩
    ·by_cases hjx:j<lo+x
     ·exact hs' i j hi hij hjx
     ·obtain rfl:j=lo+x:=by lia
      by_cases hi':i=lo+x
      ·subst hi';exact zcG _
      ·rw [hx];exact hs' i (lo+x - 1) hi (by lia) (by lia)
    ·rw [show lo+(x+1) - 1=lo+x by lia]
     by_cases hix:i=lo+x
     ·subst hix;rfl
     ·rw [hx];exact he i (by lia) (by lia)
theorem HH (C:uB prog w A s κ R T) (hT:∀ a∈a₀.toList,T a) {st:SortSt}{n nrem:Nat}{Q:Option Nat→SortSt→Prop} (hB:G a₀ κ p lo b st) (hn:lo+nrem≤a₀.size) (hnn:n+1≤nrem) (hs:Dn R (arrOf st) lo (n+1))
  (h:∀ m st',G a₀ κ p lo b st'→1≤m→m≤nrem→Up R (arrOf st') lo m→Q (some m) st'):wpS (model prog w) A E s (dP lo n nrem) Q st:=by
 unfold dP
 refine wpS_bind (wpS_lift (wpAny_rule ⟨rfl,?_⟩))
 refine wpS_bind (J2 C hT hB hn (by lia) hnn hs fun m neq st' hB' m1 m2 hs' hq he => ?_)
 dsimp only
 have hz:lo+m≤(arrOf st').size:=by rw [hB'.size];lia
 by_cases hneq:neq > 0
 ·rw [yIp hneq,reverseSlice'_eq]
  refine wpS_bind (wpS_modify (G5 C hT (hB'.Na (by lia) (by lia)) hn (by lia) m2 ?_ h))
  intro i j hi hij hj
  show KR R (mirror (arrOf st') _ _ _) j≤KR R (mirror (arrOf st') _ _ _) i
  rw [j8 hz he,j8 hz he]
  exact hs' i j hi hij hj
 ·rw [yIn hneq]
  exact G5 C hT hB' hn (by lia) m2 hs' h
theorem Jh (C:uB prog w A s κ R T) (hT:∀ a∈a₀.toList,T a) {st:SortSt}{nrem:Nat}{Q:Option Nat→SortSt→Prop} (hB:G a₀ κ p lo b st) (hn:lo+nrem≤a₀.size) (h1:1≤nrem)
  (h:∀ m st',G a₀ κ p lo b st'→1≤m→m≤nrem→Up R (arrOf st') lo m→Q (some m) st'):wpS (model prog w) A E s (countRun' lo nrem) Q st:=by
 rw [countRun'_eq]
 refine wpS_bind (Dt C hT hB hn (zcE 1) h1 (fun i j hi hij hj=>by
  obtain rfl:i=j:=by lia
  exact zcG _) fun n hn1 hn2 hsn hor => ?_)
 dsimp only
 by_cases hnn:n=nrem
 ·rw [yIp (by simpa using hnn)]
  exact wpS_pure (h n st hB hn1 hn2 hsn)
 ·rw [yIn (by simpa using hnn)]
  have hlt:KR R (arrOf st) (lo+n)<KR R (arrOf st) (lo+n - 1):=hor.resolve_left hnn
  have hz:lo+n≤(arrOf st).size:=by rw [hB.size];lia
  by_cases hgt:n > 1
  ·rw [yIp hgt]
   refine wpS_bind (LZ C hT hB (by lia) (by lia) ?_)
   by_cases hr:KR R (arrOf st) lo<KR R (arrOf st) (lo+n - 1)
   ·simp only [hr,decide_true,if_true]
    exact wpS_pure (h n st hB hn1 hn2 hsn)
   ·rw [yDf hr]
    dsimp only
    rw [yIn (by decide),reverseSlice'_eq]
    have hall:∀ k,lo≤k→k<lo+n→KR R (arrOf st) k=KR R (arrOf st) (lo+n - 1):=by
     intro k k1 hk
     have a1:=hsn lo k (by lia) k1 hk
     have a2:=hsn k (lo+n - 1) k1 (by lia) (by lia)
     lia
    refine wpS_bind (wpS_modify ?_)
    show wpS _ _ _ _ (dP lo n nrem) _ _
    refine HH C hT (hB.Na (by lia) (by lia)) hn (by lia) ?_ h
    intro i j hi hij hj
    show KR R (mirror (arrOf st) _ _ _) j≤KR R (mirror (arrOf st) _ _ _) i
    rw [j8 hz hall,j8 hz hall]
    by_cases hjn:j<lo+n
    ·rw [hall i (by lia) (by lia),hall j (by lia) hjn];exact zcG _
    ·obtain rfl:j=lo+n:=by lia
     by_cases hi':i=lo+n
     ·subst hi';exact zcG _
     ·rw [hall i (by lia) (by lia)];exact zcw hlt
  ·rw [yIn hgt]
   obtain rfl:n=1:=by lia
   show wpS _ _ _ _ (dP lo 1 nrem) _ _
   refine HH C hT hB hn (by lia) ?_ h
   intro i j hi hij hj
   by_cases hi':i=j
   ·subst hi';exact zcG _
   ·obtain rfl:i=lo:=by lia
    obtain rfl:j=i+1:=by lia
    exact zcw hlt
theorem Kr (C:uB prog w A s κ R T) (hT:∀ a∈a₀.toList,T a) {st:SortSt}{n ok:Nat}{Q:Bool→SortSt→Prop} (hB:G a₀ κ p lo b st) (hn:lo+n≤a₀.size) (hok:ok≤n) (hs:Up R (arrOf st) lo ok)
  (h:∀ st',G a₀ κ p lo b st'→Up R (arrOf st') lo n→Q true st'):wpS (model prog w) A E s (binarySort' lo n ok) Q st:=by
 rw [binarySort'_eq]
 refine wpS_bind (wpS_mono (wpS_forRange (I:=fun k c st'=>c=(none,())∧G a₀ κ p lo b st'∧Up R (arrOf st') lo (min k n))
  (Q:=fun c st'=>c=(none,())∧G a₀ κ p lo b st'∧Up R (arrOf st') lo n) ?step ?fin ?init) ?post)
 case post =>
  rintro c st' ⟨rfl,hB',hs'⟩
  exact wpS_pure (h st' hB' hs')
 case init =>
  refine ⟨rfl,hB,fun i j hi hij hj => ?_⟩
  by_cases h1:ok=0
  ·obtain rfl:i=j:=by lia
   exact zcG _
  ·exact hs i j hi hij (by lia)
 case fin =>
  rintro c st' ⟨hc,hB',hs'⟩
  refine ⟨hc,hB',?_⟩
  rwa [show min (max (max ok 1) n) n=n by lia] at hs'
 case step =>
  rintro k c st' hak hkn ⟨rfl,hB',hs'⟩
  rw [show min k n=k by lia] at hs'
  refine wpS_bind (wpS_mono (wpS_forRange (I:=fun x c st2=>st2=st'∧∃ l r,c=(none,l,r)∧l≤r∧r≤k∧r - l≤k - x ∧
    (∀ i,lo≤i→i<lo+l→KR R (arrOf st') i≤KR R (arrOf st') (lo+k))∧(∀ i,lo+r≤i→i<lo+k→KR R (arrOf st') (lo+k)<KR R (arrOf st') i))
   (Q:=fun c st2=>st2=st'∧∃ l r,c=(none,l,r)∧l≤k ∧
    (∀ i,lo≤i→i<lo+l→KR R (arrOf st') i≤KR R (arrOf st') (lo+k))∧(∀ i,lo+l≤i→i<lo+k→KR R (arrOf st') (lo+k)<KR R (arrOf st') i)) ?istep ?ifin ?iinit) ?ipost)
  case iinit=>exact ⟨rfl,0,k,rfl,by lia,by lia,by lia,fun i _ hi=>by lia,fun i h1 h2=>by lia⟩
  case ifin =>
   rintro c st2 ⟨rfl,l,r,rfl,hlr,hrk,hm,hlo,hhi⟩
   obtain rfl:l=r:=by lia
   exact ⟨rfl,l,l,rfl,hrk,hlo,hhi⟩
  case istep =>
   rintro x c st2 _ hxk ⟨rfl,l,r,rfl,hlr,hrk,hm,hlo,hhi⟩
   dsimp only
   by_cases hge:l≥r
   ·rw [yIp hge]
    obtain rfl:l=r:=by lia
    exact wpS_pure ⟨rfl,l,l,rfl,hrk,hlo,hhi⟩
   ·rw [yIn hge]
    refine wpS_bind (LZ C hT hB' (by lia) (by lia) ?_)
    by_cases hl:KR R (arrOf st2) (lo+k)<KR R (arrOf st2) (lo+(l+r) / 2)
    ·simp only [hl,decide_true,if_true]
     refine wpS_pure ⟨rfl,l,(l+r) / 2,rfl,by lia,by lia,by lia,hlo,fun i h1 h2 => ?_⟩
     exact Int.lt_of_lt_of_le hl (hs' _ _ (by lia) h1 h2)
    ·simp only [hl,decide_false,zbc,if_false]
     refine wpS_pure ⟨rfl,(l+r) / 2+1,r,rfl,by lia,by lia,by lia,fun i h0 h1 => ?_,hhi⟩
     exact zcv (hs' i (lo+(l+r) / 2) h0 (by lia) (by lia)) (Int.not_lt.mp hl)
  case ipost =>
   rintro c st2 ⟨rfl,l,r,rfl,hlk,hlo,hhi⟩
   show wpS _ _ _ _ (do moveDown' (lo+k) (lo+l);pure (ForInStep.yield (none,()))) _ _
   rw [moveDown'_eq]
   have hks:lo+k<(arrOf st2).size:=by rw [hB'.size];lia
   refine wpS_bind (wpS_modify (wpS_pure ⟨rfl,hB'.arr (bubble_perm _ _ _) (fun i hi => ?_),?_⟩))
   ·rw [getElem?_bubble hks _ (by lia),yIn (by lia),yIn (by lia)]
   rw [show min (k+1) n=k+1 by lia]
   intro i j hi hij hj
   show KR R (bubble (arrOf st2) (lo+k) (lo+k - (lo+l))) i≤KR R (bubble (arrOf st2) (lo+k) (lo+k - (lo+l))) j
   rw [D6 hks (by lia),D6 hks (by lia),show lo+k - (lo+k - (lo+l))=lo+l by lia]
   repeat' split
   all_goals first
    | (exfalso;lia)
    | exact zcG _
    | exact hlo _ (by lia) (by lia)
    | exact zcw (hhi _ (by lia) (by lia))
    | exact hs' _ _ (by lia) (by lia) (by lia)
end
theorem Em {σ:Type}{M:Model}{A:yam}{E:yaj→yai→Prop}{s:yai}{st st':σ}{Q:PUnit→σ→Prop} (h:Q ⟨⟩ st'):wpS M A E s (set st':StateT σ Sem PUnit) Q st:=by
 unfold wpS;rw [StateT.run_set];exact yab ⟨rfl,h⟩
theorem wr (c:Nat):∀ (l:List Keyed) (n:Nat) (xs:Array Keyed),c+n+l.length≤xs.size→((l.zipIdx n).foldl (fun a (p,j)=>a.setIfInBounds (c+j) p) xs).toList=xs.toList.take (c+n)++(l++xs.toList.drop (c+n+l.length))
 | [],n,xs,h=>by simp
 | p::l,n,xs,h=>by
  have h':c+n<xs.toList.length:=by simp at h ⊢;lia
  rw [List.zipIdx_cons,zbT,wr c l (n+1) _ (by simp at h ⊢;lia)]
  simp only [zae]
  rw [List.drop_set_of_lt (by lia),show c+(n+1)=(c+n)+1 by lia,List.take_succ_eq_append_getElem (by rw [zbW];exact h'),List.getElem_set_self,List.take_set_of_le (zcE _),zbl]
  simp only [List.cons_append,zbU,zbx]
  rw [show c+n+1+l.length=c+n+(l.length+1) by lia]
def Runs (R:Keyed→Int) (xs:Array Keyed):List (Nat×Nat×Nat)→Nat→Nat→Prop
 | [],a,b=>a=b
 | (s,n,_)::t,a,b=>s=a∧1≤n∧Up R xs a n∧Runs R xs t (a+n) b
section
variable {R:Keyed→Int}{xs ys:Array Keyed}
theorem Runs.le:∀ {t:List (Nat×Nat×Nat)}{a b:Nat},Runs R xs t a b→a+t.length≤b
 | [],a,b,h=>by
  have:a=b:=h
  simp;lia
 | (s,n,q)::t,a,b,h=>by
  have:=Runs.le h.2.2.2
  have:=h.2.1
  rw [zbx];lia
theorem Up.of {lo m:Nat} (h:Up R xs lo m) (e:∀ k,lo≤k→k<lo+m→KR R ys k=KR R xs k):Up R ys lo m:=fun i j hi hij hj=>by
 rw [e i hi (by lia),e j (by lia) hj];exact h i j hi hij hj
theorem Runs.of:∀ {t:List (Nat×Nat×Nat)}{a b:Nat},Runs R xs t a b→(∀ k,a≤k→k<b→KR R ys k=KR R xs k)→Runs R ys t a b
 | [],a,b,h,e=>h
 | (s,n,q)::t,a,b,h,e=>by
  have:=h.2.2.2.le
  exact ⟨h.1,h.2.1,h.2.2.1.of fun k h1 h2=>e k h1 (by lia),h.2.2.2.of fun k h1 h2=>e k (by lia) h2⟩
theorem Runs.app:∀ {t u:List (Nat×Nat×Nat)}{a b c:Nat},Runs R xs t a b→Runs R xs u b c→Runs R xs (t++u) a c
 | [],u,a,b,c,h,g=>by
  have:a=b:=h
  subst this;exact g
 | (s,n,q)::t,u,a,b,c,h,g=>⟨h.1,h.2.1,h.2.2.1,h.2.2.2.app g⟩
theorem Runs.O8:∀ {t u:List (Nat×Nat×Nat)}{a c:Nat},Runs R xs (t++u) a c→∃ b,Runs R xs t a b∧Runs R xs u b c
 | [],u,a,c,h=>⟨a,rfl,h⟩
 | (s,n,q)::t,u,a,c,h=>by
  obtain ⟨b,h1,h2⟩:=Runs.O8 h.2.2.2
  exact ⟨b,⟨h.1,h.2.1,h.2.2.1,h1⟩,h2⟩
theorem cO {k:Nat} (h:k<xs.toList.length):KR R xs k=R xs.toList[k]:=by
 unfold KR
 rw [← zaz,zak h];rfl
theorem Up.jn {lo m:Nat} (h:Up R xs lo m) (hm:lo+m≤xs.size):bz R ((xs.toList.drop lo).take m):=by
 refine List.pairwise_iff_getElem.mpr fun i j hi hj hij => ?_
 have ll:xs.toList.length=xs.size:=by simp
 rw [zby,zbA] at hi hj
 rw [zbo,zbo,zbn,zbn,← cO (R:=R) (xs:=xs),← cO (R:=R) (xs:=xs)]
 exact h _ _ (by lia) (by lia) (by lia)
theorem Up.ofL {lo m:Nat}{P M S:List Keyed} (e:xs.toList=P++(M++S)) (hP:P.length=lo) (hM:M.length=m) (h:bz R M):Up R xs lo m:=by
 intro i j hi hij hj
 have ll:xs.toList.length=P.length+(M.length+S.length):=by rw [e];simp
 have g:∀ u (hu:u<xs.toList.length),lo≤u→(hm:u<lo+m)→xs.toList[u]=M[u - lo]'(by lia):=fun u hu h1 h2=>by
  simp only [e]
  rw [List.getElem_append_right (by lia),List.getElem_append_left (by lia)]
  congr 1;lia
 rw [cO (by lia),cO (by lia),g i (by lia) hi (by lia),g j (by lia) (by lia) hj]
 exact h.at (by lia) (by lia) (by lia)
theorem MP {zs:Array Keyed}{P M M' S:List Keyed} (e:xs.toList=P++(M++S)) (e':zs.toList=P++(M'++S)) (hM:M'.length=M.length) {k:Nat} (hk:k<P.length∨P.length+M.length≤k):zs[k]? = xs[k]? := by
 rw [← zaz,← zaz,e,e']
 rcases hk with hk | hk
 ·rw [zag hk,zag hk]
 ·rw [zab (by lia),zab (by lia),zab (by lia),zab (by lia),hM]
end
section
variable {prog:yak}{w:yal}{A:yam}{E:yaj→yai→Prop}{s:yai}{R:Keyed→Int}{κ:SortKind}{T:Keyed→Prop}{a₀:Array Keyed}
theorem JK (C:uB prog w A s κ R T) {xs:Array Keyed}{p:Array (Nat×Nat×Nat)}{g:Nat} (hT:∀ a∈xs.toList,T a) {i sa na pw sb nb q:Nat}{Q:Bool→SortSt→Prop} (h1:p[i]? = some (sa,na,pw)) (h2:p[i+1]? = some (sb,nb,q))
  (hsb:sb=sa+na) (na1:1≤na) (nb1:1≤nb) (hz:sb+nb≤xs.size) (ua:Up R xs sa na) (ub:Up R xs sb nb)
  (h:∀ ys g',ys.Perm xs→Up R ys sa (na+nb)→(∀ k,k<sa∨sb+nb≤k→ys[k]? = xs[k]?)→Q true (SortSt.mk' κ ys ((p.setIfInBounds i (sa,na+nb,pw)).eraseIdxIfInBounds (i+1)) g' none)) :
  wpS (model prog w) A E s (mergeAt' i) Q (SortSt.mk' κ xs p g none):=by
 have ll:xs.toList.length=xs.size:=zaP
 refine wpS_bind (wpS_get ?_)
 dsimp only
 rw [h1,h2]
 dsimp only
 refine wpS_bind (Em ?_)
 generalize (p.setIfInBounds i (sa,na+nb,pw)).eraseIdxIfInBounds (i+1)=p' at h ⊢
 have hU:∀ {lo m:Nat},Up R xs lo m→lo+m≤xs.size→∀ (i j:Nat) (hi:lo+i<xs.toList.length) (hj:lo+j<xs.toList.length),i≤j→j<m→R xs.toList[lo+i]≤R xs.toList[lo+j]:=by
  intro lo m u um i j hi hj hij hjm
  rw [← cO (R:=R) hi,← cO (R:=R) hj]
  exact u _ _ (by lia) (by lia) (by lia)
 refine wpS_bind (aZ (by lia) (wpS_bind (CA C rfl hT (hT _ (zbF _)) (hU ua (by lia)) (by lia) (by lia) fun k k1 k2 k3 => ?_)))
 dsimp only
 by_cases c1:na - k=0
 ·rw [yIp (by simpa using c1)]
  refine wpS_pure (h xs g (Array.Perm.refl _) ?_ (fun _ _=>rfl))
  intro i j hi hij hj
  by_cases c2:j<sb
  ·exact ua i j hi hij (by lia)
  by_cases c3:sb≤i
  ·exact ub i j c3 hij (by lia)
  refine zcv ?_ (ub sb j (by lia) (by lia) (by lia))
  rw [cO (by lia),cO (by lia)]
  have:=k2 (i - sa) (by lia) (by lia)
  simpa only [show sa+(i - sa)=i by lia] using this
 rw [yIn (by simpa using c1)]
 refine wpS_bind (aZ (by lia) (wpS_bind (CB C rfl hT (hT _ (zbF _)) (hU ub (by lia)) (by lia) (by lia) fun m m1 m2 m3 => ?_)))
 have el:sa+k+(na - k) - 1=sb - 1:=by lia
 simp only [el] at m2 m3
 dsimp only
 by_cases c2:m=0
 ·rw [yIp (by simpa using c2)]
  refine wpS_pure (h xs g (Array.Perm.refl _) ?_ (fun _ _=>rfl))
  intro i j hi hij hj
  by_cases c2:j<sb
  ·exact ua i j hi hij (by lia)
  by_cases c3:sb≤i
  ·exact ub i j c3 hij (by lia)
  refine zcv (ua i (sb - 1) (by lia) (by lia) (by lia)) ?_
  rw [cO (by lia),cO (by lia)]
  have:=m3 (j - sb) (by lia) (by lia) (by lia)
  simpa only [show sb+(j - sb)=j by lia] using this
 rw [yIn (by simpa using c2)]
 have ex:(xs.extract (sa+k) sb).toList=(xs.toList.drop (sa+k)).take (na - k):=by
  rw [show sb=sa+k+(na - k) by lia];exact yd _ _ _
 have ey:(xs.extract sb (sb+m)).toList=(xs.toList.drop sb).take m:=yd _ _ _
 have zx:(xs.extract (sa+k) sb).size=na - k:=by rw [Array.size_extract];lia
 have zy:(xs.extract sb (sb+m)).size=m:=by rw [Array.size_extract];lia
 generalize hx:xs.extract (sa+k) sb=x at *
 generalize hy:xs.extract sb (sb+m)=y at *
 have tx:∀ (P:Keyed→Prop),(∀ u (hu:u<xs.toList.length),sa+k≤u→u<sb→P xs.toList[u])→∀ a∈x.toList,P a:=fun P hP a ha=>by
  rw [ex] at ha
  exact lT (fun u hu huk=>hP _ hu (by lia) (by lia)) a ha
 have ty:∀ (P:Keyed→Prop),(∀ u (hu:u<xs.toList.length),sb≤u→u<sb+m→P xs.toList[u])→∀ a∈y.toList,P a:=fun P hP a ha=>by
  rw [ey] at ha
  exact lT (fun u hu huk=>hP _ hu (by lia) (by lia)) a ha
 have sx:bz R x.toList:=by
  rw [ex];exact Up.jn (fun i j hi hij hj=>ua i j (by lia) hij (by lia)) (by lia)
 have sy:bz R y.toList:=by
  rw [ey];exact Up.jn (fun i j hi hij hj=>ub i j (by lia) hij (by lia)) (by lia)
 have low:∀ b∈x.toList,R (xs.toList[sb]'(by lia))<R b:=tx _ fun u hu h1 h2=>by
  have:=k3 (u - sa) (by lia) (by lia) (by lia)
  simpa only [show sa+(u - sa)=u by lia] using this
 have hgh:∀ a∈y.toList,R a<R (xs.toList[sb - 1]'(by lia)):=ty _ fun u hu h1 h2=>by
  have:=m2 (u - sb) (by lia) (by lia)
  simpa only [show sb+(u - sb)=u by lia] using this
 have y0:∀ hh,y.toList[0]'hh=xs.toList[sb]'(by lia):=fun hh=>by
  simp only [ey,zbo,zbn,Nat.add_zero]
 have xl:∀ hh,x.toList[x.size - 1]'hh=xs.toList[sb - 1]'(by lia):=fun hh=>by
  simp only [ex,zbo,zbn,zx]
  congr 1;lia
 have lxx:x.toList.length=na - k:=by rw [zaP,zx]
 have lyy:y.toList.length=m:=by rw [zaP,zy]
 have tail:∀ r g',Told R x.toList y.toList r→wpS (model prog w) A E s (do
   modify fun st:SortSt=>SortSt.mk' (kindOf st) (r.toList.zipIdx.foldl (fun a (p,j)=>a.setIfInBounds (sa+k+j) p) (arrOf st)) (pendingOf st) (gallopOf st) (failedOf st)
   let st ← get
   return (failedOf st).isNone) Q (SortSt.mk' κ xs p' g' none):=by
  intro r g' ht
  have rl:r.toList.length=na - k+m:=by rw [ht.2.length_eq,zaT,lxx,lyy]
  refine wpS_bind (wpS_modify (wpS_bind (wpS_get (wpS_pure ?_))))
  have e:xs.toList=xs.toList.take (sa+k)++((x.toList++y.toList)++xs.toList.drop (sb+m)):=by
   rw [ex,ey]
   have e1:=(zax (sa+k) xs.toList).symm
   have e2:=(zax (na - k) (xs.toList.drop (sa+k))).symm
   have e3:=(zax m (xs.toList.drop sb)).symm
   rw [List.drop_drop] at e2 e3
   rw [show sa+k+(na - k)=sb by lia] at e2
   rw [zbl,← e3,← e2,← e1]
  have e':=wr (sa+k) r.toList 0 xs (by rw [rl];lia)
  rw [Nat.add_zero,rl,show sa+k+(na - k+m)=sb+m by lia] at e'
  generalize r.toList.zipIdx.foldl (fun a (p,j)=>a.setIfInBounds (sa+k+j) p) xs=ys at e' ⊢
  have lM:r.toList.length=(x.toList++y.toList).length:=ht.2.length_eq
  have lP:(xs.toList.take (sa+k)).length=sa+k:=by rw [zby];lia
  refine h ys g' ?_ ?_ fun u hu=>MP e e' lM (by rw [lP,← lM,rl];lia)
  ·rw [zad,e']
   conv=>rhs;rw [e]
   exact List.Perm.append_left _ (List.Perm.append_right _ ht.2)
  ·have same:∀ u,u<sa+k∨sb+m≤u→KR R ys u=KR R xs u:=fun u hu=>cN (MP e e' lM (by rw [lP,← lM,rl];lia))
   have um:Up R ys (sa+k) (na - k+m):=Up.ofL e' lP rl ht.1
   have inn:∀ u,sa+k≤u→u<sb+m→∃ a∈x.toList++y.toList,KR R ys u=R a:=by
    intro u h1 h2
    have hh:u<ys.toList.length:=by rw [e',zaT,zaT,lP,rl];lia
    refine ⟨ys.toList[u],ht.2.mem_iff.mp ?_,cO hh⟩
    simp only [e']
    rw [List.getElem_append_right (by lia),List.getElem_append_left (by lia)]
    exact zbF _
   have A1:∀ u,sa≤u→u<sa+k→∀ a∈x.toList++y.toList,KR R xs u≤R a:=by
    intro u h1 h2 a ha
    rcases zbM.mp ha with ha | ha
    ·refine tx (fun a=>KR R xs u≤R a) (fun v hv q1 q2 => ?_) a ha
     rw [← cO (R:=R) hv];exact ua u v h1 (by lia) (by lia)
    ·refine ty (fun a=>KR R xs u≤R a) (fun v hv q1 q2 => ?_) a ha
     rw [← cO (R:=R) hv]
     refine zcv ?_ (ub sb v (by lia) (by lia) (by lia))
     rw [cO (by lia),cO (by lia)]
     have:=k2 (u - sa) (by lia) (by lia)
     simpa only [show sa+(u - sa)=u by lia] using this
   have A2:∀ u,sb+m≤u→u<sb+nb→∀ a∈x.toList++y.toList,R a≤KR R xs u:=by
    intro u h1 h2 a ha
    rcases zbM.mp ha with ha | ha
    ·refine tx (fun a=>R a≤KR R xs u) (fun v hv q1 q2 => ?_) a ha
     rw [← cO (R:=R) hv]
     refine zcv (ua v (sb - 1) (by lia) (by lia) (by lia)) ?_
     rw [cO (by lia),cO (by lia)]
     have:=m3 (u - sb) (by lia) (by lia) (by lia)
     simpa only [show sb+(u - sb)=u by lia] using this
    ·refine ty (fun a=>R a≤KR R xs u) (fun v hv q1 q2 => ?_) a ha
     rw [← cO (R:=R) hv];exact ub v u (by lia) (by lia) (by lia)
   have A3:∀ u v,sa≤u→u<sa+k→sb+m≤v→v<sb+nb→KR R xs u≤KR R xs v:=by
    intro u v h1 h2 h3 h4
    refine zcv ?_ (ub sb v (by lia) (by lia) (by lia))
    rw [cO (by lia),cO (by lia)]
    have:=k2 (u - sa) (by lia) (by lia)
    simpa only [show sa+(u - sa)=u by lia] using this
   intro i j hi hij hj
   by_cases q1:i<sa+k
   ·rw [same i (.inl q1)]
    by_cases q2:j<sa+k
    ·rw [same j (.inl q2)];exact ua i j hi hij (by lia)
    by_cases q3:j<sb+m
    ·obtain ⟨a,ha,he⟩:=inn j (by lia) q3
     rw [he];exact A1 i hi q1 a ha
    ·rw [same j (.inr (by lia))];exact A3 i j hi q1 (by lia) (by lia)
   by_cases q2:i<sb+m
   ·by_cases q3:j<sb+m
    ·exact um i j (by lia) hij (by lia)
    ·obtain ⟨a,ha,he⟩:=inn i (by lia) q2
     rw [he,same j (.inr (by lia))];exact A2 j (by lia) (by lia) a ha
   ·rw [same i (.inr (by lia)),same j (.inr (by lia))]
    exact ub i j (by lia) hij (by lia)
 have TX:∀ a∈x.toList,T a:=tx T fun u hu _ _=>hT _ (zbF _)
 have TY:∀ a∈y.toList,T a:=ty T fun u hu _ _=>hT _ (zbF _)
 by_cases c3:na - k≤m
 ·rw [yIp c3]
  refine wpS_bind (vA C rfl TX TY sx sy (by lia) (by lia) (fun b hb => ?_) (fun a ha b hb => ?_) fun r g' ht=>tail r g' ht)
  ·rw [y0];exact zcw (low b hb)
  ·obtain ⟨v,hv,rfl⟩:=zaM hb
   rw [zbA,lxx] at hv
   rw [zbn]
   have:v=0:=by lia
   subst this
   have:=xl (by lia)
   simp only [Nat.add_zero]
   rw [this];exact zcw (hgh a ha)
 ·rw [yIn c3]
  refine wpS_bind (vB C rfl TX TY sx sy (by lia) (by lia) (fun a ha b hb => ?_) (fun a ha => ?_) fun r g' ht=>tail r g' ht)
  ·obtain ⟨v,hv,rfl⟩:=zaM ha
   rw [zby] at hv
   obtain rfl:v=0:=by lia
   rw [zbo,y0]
   exact zcw (low b hb)
  ·rw [xl];exact zcw (hgh a ha)
theorem pK {α:Type} (P:List α) (x y v:α) (S:List α):((P++x::y::S).set P.length v).eraseIdx (P.length+1)=P++v::S:=by
 induction P with
 | nil=>rfl
 | cons a P ih=>simpa using ih
theorem zI (c:Prop) [Decidable c] {n:Nat} (h : ¬ n≤1):(if c then n - 2 - 1 else n - 2)+1<n:=by split <;> lia
theorem Cb (C:uB prog w A s κ R T) {xs:Array Keyed}{p:Array (Nat×Nat×Nat)}{g lo i:Nat} (hT:∀ a∈xs.toList,T a) {Q:Bool→SortSt→Prop} (hr:Runs R xs p.toList 0 lo) (hlo:lo≤xs.size) (hi:i+1<p.size)
  (h:∀ ys p' g',ys.Perm xs→Runs R ys p'.toList 0 lo→p'.size+1=p.size→(∀ k,lo≤k→ys[k]? = xs[k]?)→Q true (SortSt.mk' κ ys p' g' none)) :
  wpS (model prog w) A E s (mergeAt' i) Q (SortSt.mk' κ xs p g none):=by
 have lp:p.toList.length=p.size:=zaP
 have e:p.toList=p.toList.take i++p.toList[i]'(by lia)::p.toList[i+1]'(by lia)::p.toList.drop (i+2):=by
  conv=>lhs;rw [← zax i p.toList,zah (by lia:i<p.toList.length),zah (by lia:i+1<p.toList.length)]
 have lP:(p.toList.take i).length=i:=by rw [zby];lia
 have g1:p[i]? = some (p.toList[i]'(by lia)):=by rw [← zaz];exact zak _
 have g2:p[i+1]? = some (p.toList[i+1]'(by lia)):=by rw [← zaz];exact zak _
 generalize p.toList[i]'(by lia)=x at e g1
 generalize p.toList[i+1]'(by lia)=y at e g2
 generalize p.toList.take i=P at e lP
 generalize p.toList.drop (i+2)=S at e
 obtain ⟨sa,na,pw⟩:=x
 obtain ⟨sb,nb,q⟩:=y
 rw [e] at hr
 obtain ⟨b,r1,r2⟩:=hr.O8
 obtain ⟨rfl,n1,u1,rfl,n2,u2,r3⟩:=r2
 have l1:=r1.le
 have l3:=r3.le
 refine JK C hT g1 g2 rfl n1 n2 (by lia) u1 u2 fun ys g' hp hu hk => ?_
 refine h ys _ g' hp ?_ ?_ fun k hk'=>hk k (.inr (by lia))
 ·rw [Array.toList_eraseIdxIfInBounds,zae,e]
  subst lP
  rw [pK]
  refine (r1.of fun k h1 h2=>cN (hk k (.inl h2))).app ⟨rfl,by lia,hu,?_⟩
  rw [← Nat.add_assoc]
  exact r3.of fun k h1 h2=>cN (hk k (.inr h1))
 ·rw [← zaP,Array.toList_eraseIdxIfInBounds,zae,← zaP,e]
  subst lP
  rw [pK]
  simp only [zaT,zbx]
  lia
theorem Runs.pow:∀ {t u:List (Nat×Nat×Nat)}{xs:Array Keyed}{a b:Nat},t.map (fun x=>(x.1,x.2.1))=u.map (fun x=>(x.1,x.2.1))→Runs R xs t a b→Runs R xs u a b
 | [],[],_,_,_,_,h=>h
 | [],_::_,_,_,_,e,_=>by simp at e
 | _::_,[],_,_,_,e,_=>by simp at e
 | (s,n,q)::t,(s',n',q')::u,xs,a,b,e,h=>by
  simp only [zcg,zcJ.injEq,Prod.mk.injEq] at e
  obtain ⟨⟨rfl,rfl⟩,e⟩:=e
  exact ⟨h.1,h.2.1,h.2.2.1,h.2.2.2.pow e⟩
theorem Fw (l:List (Nat×Nat×Nat)) (i pw:Nat):l.map (fun x=>(x.1,x.2.1))=(l.modify i fun (a,b,_)=>(a,b,pw)).map (fun x=>(x.1,x.2.1)):=by
 apply List.ext_getElem?
 intro j
 rw [zbi,zbi,List.getElem?_modify]
 cases l[j]? with
 | none=>rfl
 | some x =>
  obtain ⟨a,b,c⟩:=x
  show some _=some _
  congr 1
  by_cases h:i=j <;> simp [h]
def RI (R:Keyed→Int) (κ:SortKind) (a₀:Array Keyed) (lo:Nat) (st:SortSt):Prop:=∃ xs p g,st=SortSt.mk' κ xs p g none∧xs.Perm a₀∧Runs R xs p.toList 0 lo
theorem G.ri {st:SortSt}{p:Array (Nat×Nat×Nat)}{lo:Nat}{b:Array Keyed} (B:G a₀ κ p lo b st) (hr:Runs R b p.toList 0 lo):∃ ys g,st=SortSt.mk' κ ys p g none∧ys.Perm a₀∧Runs R ys p.toList 0 lo:=by
 obtain ⟨k,ys,p',g,f⟩:=st
 obtain ⟨h1,h2,h3,h4,h5⟩:=B
 obtain rfl:k=κ:=h2
 obtain rfl:f=none:=h3
 obtain rfl:p'=p:=h4
 exact ⟨ys,g,rfl,h1,hr.of fun k _ hk=>cN (h5 k hk)⟩
set_option hygiene false in
local macro_rules | `(tactic| exact_mod_cast ⟨1,$N⟩) => `(tactic| (
 obtain ⟨ys,g3,rfl,hp3,hr3⟩:=B3.ri hr
 refine wpS_bind (wpS_get ?_)
 have fin:∀ (zs:Array Keyed) (p':Array (Nat×Nat×Nat)) (g':Nat),zs.Perm a₀→Runs R zs p'.toList 0 lo→(∀ k,lo≤k→zs[k]? = ys[k]?)→RI R κ a₀ (lo + $N) (SortSt.mk' κ zs (p'.push (lo,$N,0)) g' none):=fun zs p' g' q1 q2 q3 =>
  ⟨zs,_,g',rfl,q1,by
   rw [zbs]
   exact q2.app ⟨rfl,n1,hu3.of fun k k1 k2=>cN (q3 k k1),rfl⟩⟩
 split
 ·rename_i s1 n1' q' hb
  refine wpS_bind (wpS_mono (wpS_forRange
   (I:=fun x c st'=>c=(none,())∧∃ zs p g,st'=SortSt.mk' κ zs p g none∧zs.Perm a₀∧Runs R zs p.toList 0 lo∧∀ k,lo≤k→zs[k]? = ys[k]?)
   (Q:=fun c st'=>c=(none,())∧∃ zs p g,st'=SortSt.mk' κ zs p g none∧zs.Perm a₀∧Runs R zs p.toList 0 lo∧∀ k,lo≤k→zs[k]? = ys[k]?) ?step3 (fun _ _ h=>h) ⟨rfl,ys,p,g3,rfl,hp3,hr3,fun _ _=>rfl⟩) ?post3)
  case step3 =>
   rintro x3 c st' _ _ ⟨rfl,zs,p4,g4,rfl,hp4,hr4,hk4⟩
   refine wpS_bind (wpS_get ?_)
   split
   ·rename_i o1 o2 o3 ho
    split
    ·exact wpS_pure ⟨rfl,zs,p4,g4,rfl,hp4,hr4,hk4⟩
    ·have hs4:p4.size > 1:=by
      by_cases hc:p4.size > 1
      ·exact hc
      ·rw [yIn hc] at ho;cases ho
     refine wpS_bind (Cb C (tp hp4) hr4 (by rw [hp4.size_eq];lia) (show p4.size - 2+1<p4.size by lia) fun z5 p5 g5 q1 q2 q3 q4 => ?_)
     rw [yIn (by decide)]
     exact wpS_pure ⟨rfl,z5,p5,g5,rfl,q1.trans hp4,q2,fun k hk=>(q4 k hk).trans (hk4 k hk)⟩
   ·exact wpS_pure ⟨rfl,zs,p4,g4,rfl,hp4,hr4,hk4⟩
  case post3 =>
   rintro c st' ⟨rfl,zs,p4,g4,rfl,hp4,hr4,hk4⟩
   refine wpS_bind (wpS_modify (wpS_bind (wpS_modify (wpS_pure ⟨_,rfl,by lia,n2,fin zs _ g4 hp4 ?_ hk4⟩))))
   refine hr4.pow ?_
   rw [Array.toList_modify]
   exact Fw _ _ _
 ·exact wpS_bind (wpS_modify (wpS_pure ⟨_,rfl,by lia,n2,fin ys p g3 hp3 hr3 fun _ _=>rfl⟩))))
theorem Ir (C:uB prog w A s κ R T) {g:Nat} (hT:∀ a∈a₀.toList,T a) {Q:Unit→SortSt→Prop} (h:∀ ys p g',ys.Perm a₀→Up R ys 0 a₀.size→Q () (SortSt.mk' κ ys p g' none)):wpS (model prog w) A E s sortRuns' Q (SortSt.mk' κ a₀ #[] g none):=by
 have tp:∀ {xs:Array Keyed},xs.Perm a₀→∀ a∈xs.toList,T a:=fun hp a ha=>hT a ((zad.mp hp).mem_iff.mp ha)
 rw [sortRuns'_eq]
 refine wpS_bind (wpS_get ?_)
 dsimp only
 generalize hz:(arrOf (SortSt.mk' κ a₀ #[] g none)).size=z
 obtain rfl:a₀.size=z:=hz
 generalize minRun' a₀.size a₀.size 0=mr
 refine wpS_bind (wpS_mono (wpS_forRange
  (I:=fun x c st'=>∃ lo,c=(none,lo)∧x≤lo∧lo≤a₀.size∧RI R κ a₀ lo st')
  (Q:=fun c st'=>c=(none,a₀.size)∧RI R κ a₀ a₀.size st') ?step ?fin ⟨0,rfl,zcE _,zcF _,a₀,#[],g,rfl,Array.Perm.refl _,rfl⟩) ?post)
 case fin =>
  rintro c st' ⟨lo,rfl,h1,h2,hR⟩
  obtain rfl:lo=a₀.size:=by lia
  exact ⟨rfl,hR⟩
 case post =>
  rintro c st' ⟨rfl,xs,p,g1,rfl,hp,hr⟩
  dsimp only
  have zz:=hr.le
  rw [zaP] at zz
  refine wpS_bind (wpS_mono (wpS_forRange
   (I:=fun x c st'=>c=(none,())∧∃ xs p g,st'=SortSt.mk' κ xs p g none∧xs.Perm a₀∧Runs R xs p.toList 0 a₀.size∧p.size+x≤max 1 a₀.size+1)
   (Q:=fun c st'=>c=(none,())∧∃ xs p g,st'=SortSt.mk' κ xs p g none∧xs.Perm a₀∧Runs R xs p.toList 0 a₀.size∧p.size≤1) ?step2 ?fin2 ⟨rfl,xs,p,g1,rfl,hp,hr,by lia⟩) ?post2)
  case fin2 =>
   rintro c st' ⟨rfl,xs,p,g,rfl,hp,hr,hn⟩
   have:=hr.le
   rw [zaP] at this
   exact ⟨rfl,xs,p,g,rfl,hp,hr,by lia⟩
  case post2 =>
   rintro c st' ⟨rfl,xs,p,g,rfl,hp,hr,hn⟩
   refine wpS_pure (h xs p g hp ?_)
   obtain ⟨p⟩:=p
   match p,hr,hn with
   | [],hr,_ =>
    have:0=a₀.size:=hr
    intro i j _ _ hj
    lia
   | [(a,n,q)],hr,_ =>
    obtain ⟨rfl,h1,h2,h3⟩:=hr
    have:0+n=a₀.size:=h3
    rw [show a₀.size=n by lia];exact h2
   | _::_::_,_,hn=>simp at hn
  case step2 =>
   rintro x c st' _ hx ⟨rfl,xs,p,g,rfl,hp,hr,hn⟩
   refine wpS_bind (wpS_get ?_)
   change wpS _ _ _ _ (if p.size≤1 then _ else _) _ _
   by_cases c1:p.size≤1
   ·rw [yIp c1]
    exact wpS_pure ⟨rfl,xs,p,g,rfl,hp,hr,c1⟩
   ·rw [yIn c1]
    have key:∀ i,i+1<p.size→wpS (model prog w) A E s (mergeAt' i) (fun b st'=>b=true∧∃ xs p g,st'=SortSt.mk' κ xs p g none∧xs.Perm a₀∧Runs R xs p.toList 0 a₀.size∧p.size+(x+1)≤max 1 a₀.size+1) (SortSt.mk' κ xs p g none):=fun i hi =>
     Cb C (tp hp) hr (by rw [hp.size_eq];exact zcE _) hi fun ys p' g' q1 q2 q3 q4=>⟨rfl,ys,p',g',rfl,q1.trans hp,q2,by lia⟩
    refine wpS_bind (wpS_mono (key _ ?_) ?_)
    ·exact zI _ c1
    ·rintro b st' ⟨rfl,hq⟩
     rw [yIn (by decide)]
     exact wpS_pure ⟨rfl,hq⟩
 case step =>
  rintro x c st' _ hx ⟨lo,rfl,hxl,hlo,xs,p,g1,rfl,hp,hr⟩
  dsimp only
  by_cases c0:lo≥a₀.size
  ·rw [yIp c0]
   obtain rfl:lo=a₀.size:=by lia
   exact wpS_pure ⟨rfl,xs,p,g1,rfl,hp,hr⟩
  rw [yIn c0]
  have B:G a₀ κ p lo xs (SortSt.mk' κ xs p g1 none):=⟨hp,rfl,rfl,rfl,fun _ _=>rfl⟩
  refine wpS_bind (Jh C hT B (by lia) (by lia) fun m st2 B2 m1 m2 hu => ?_)
  dsimp only
  by_cases c1:m<mr
  ·rw [yIp c1]
   refine wpS_bind (wpS_lift (wpAny_rule ⟨rfl,?_⟩))
   have n1:1≤min (a₀.size - lo) mr:=by lia
   have n2:lo+min (a₀.size - lo) mr≤a₀.size:=by lia
   have n3:m≤min (a₀.size - lo) mr:=by lia
   generalize min (a₀.size - lo) mr=n at n1 n2 n3 ⊢
   refine wpS_bind (Kr C hT B2 n2 n3 hu fun st3 B3 hu3 => ?_)
   rw [yIn (by decide)]
   exact_mod_cast ⟨1,n⟩
  ·rw [yIn c1]
   have n1:=m1
   have n2:lo+m≤a₀.size:=by lia
   have B3:=B2
   have hu3:=hu
   exact_mod_cast ⟨1,m⟩
end
end M10
namespace M10
open PySem PySem.Spec PyProof.Rows
section
variable {prog:yak}{w:yal}{A:yam}{E:yaj→yai→Prop}{s:yai}{R:Keyed→Int}{T:Keyed→Prop}
theorem NJ {vs:List yaj}{ys:Array Keyed} (hp:ys.Perm (pairsOf vs)) (hu:Up R ys 0 (pairsOf vs).size):(ys.map (·.2)).toList.Perm vs∧(ys.map (·.2)).toList.Pairwise (fun x y=>R (x,x)≤R (y,y)):=by
 have hl:ys.toList.Perm (vs.zip vs):=by rw [← pairsOf_toList];exact zad.mp hp
 have hm:∀ p∈ys.toList,p=(p.2,p.2):=fun p h=>by
  have:=(mem_zip_self (hl.mem_iff.mp h)).1
  exact Prod.ext this rfl
 rw [Array.toList_map]
 constructor
 ·have:=hl.map (·.2)
  rwa [List.map_snd_zip (zcE _)] at this
 ·rw [zbp]
  have h2:bz R ys.toList:=by
   have:=hu.jn (by rw [hp.size_eq];lia)
   rw [List.drop_zero,zap (by rw [zaP,hp.size_eq];exact zcE _)] at this
   exact this
  refine List.Pairwise.imp_of_mem (fun {a b} ha hb h => ?_) h2
  rw [← hm a ha,← hm b hb];exact h
theorem vG {a:Addr}{vs:List yaj}{n:Nat}{P:PySem.Fin→yai→Prop} (ho:s.heap.get? a=some (seqObj "list" vs.toArray n)) (hz:vs.length≤yah)
  (hk:2≤vs.length→∃ κ,(∀ (Q:SortKind→yai→Prop),Q κ { s with heap:=M6.dX s.heap a vs }→yas (model prog w) A (keyKind' vs.toArray) Q (fun _ _=>False) { s with heap:=M6.dX s.heap a vs }) ∧
   uB prog w A { s with heap:=M6.dX s.heap a vs } κ R T) (hT:∀ v∈vs,T (v,v))
  (h:∀ out:Array yaj,out.toList.Perm vs→out.toList.Pairwise (fun x y=>R (x,x)≤R (y,y))→P (.done (.ret .none)) { s with heap:=sortedHeap s.heap a vs out }) :
  yas (model prog w) A (Builtin.«list.sort» ⟨[.ref a],[]⟩) P E s:=by
 obtain ⟨e1,ho1⟩:∃ e1,(s.heap.update a (Obj.mapSeq fun _ => #[])).get? a=some (seqObj "list" #[] e1):=⟨_,get?_update_seq ho fun _ => #[]⟩
 have ho2:(M6.dX s.heap a vs).get? a=some (seqObj "list" #[] e1):=zar _ (zar _ ho1)
 have hz':vs.toArray.size≤yah:=by rw [zbg];exact hz
 rw [list_sort_plain a]
 refine yaa (listItems_at ho rfl (yaa (listUpdate_at ho rfl ?_ hz' (zcF _))))
 refine yaa (seqEpoch_at ho1 rfl (yaa (wpAny_newTuple ?_ (by simpa using hz))))
 refine yaa (wpAny_newList (yad ?_) (zcF _))
 show yas (model prog w) A (if vs.toArray.size<2 then _ else _) P E { s with heap:=M6.dX s.heap a vs }
 by_cases h2:vs.length<2
 ·rw [yIp (by rw [zbg];exact h2)]
  refine yaa (yab ?_)
  dsimp only
  rw [yIp (by rw [zbg];exact h2)]
  refine yaa (yab ?_)
  have e2:((vs.toArray.zip vs.toArray).map (·.2)).toList=vs:=by
   rw [List.zip_toArray,List.map_toArray,List.map_snd_zip (zcE _)]
  refine yaa (seqEpoch_at ho2 rfl (yaa (listUpdate_at ho2 rfl ?_ (zcF _) ?_)))
  ·show yas (model prog w) A (if (e1 != e1)=true then _ else _) P E _
   rw [yIn (by simp)]
   refine yab (h _ (by rw [e2]) ?_)
   rw [e2]
   match vs,h2 with
   | [],_=>exact .nil
   | [v],_=>exact List.pairwise_singleton ..
   | _::_::_,h2=>simp at h2;lia
  ·show ((vs.toArray.zip vs.toArray).map (·.2)).size≤_
   rw [← zaP,e2];lia
 ·rw [yIn (by rw [zbg];exact h2)]
  obtain ⟨κ,k1,k2⟩:=hk (by lia)
  refine yaa (yac (k1 (fun κ' s'=>κ'=κ∧s'={ s with heap:=M6.dX s.heap a vs }) ⟨rfl,rfl⟩) (fun κ' s' z => ?_) (fun _ _ z=>z.elim))
  obtain ⟨rfl,rfl⟩:=z
  dsimp only
  rw [yIn (by rw [zbg];exact h2)]
  have run:wpS (model prog w) A E { s with heap:=M6.dX s.heap a vs } sortRuns' (fun _ st=>∃ ys p g',st=SortSt.mk' κ' ys p g' none∧ys.Perm (pairsOf vs)∧Up R ys 0 (pairsOf vs).size) (SortSt.mk' κ' (pairsOf vs) #[] 7 none):=by
   refine Ir k2 (fun p hp => ?_) fun ys p g' q1 q2=>⟨ys,p,g',rfl,q1,q2⟩
   rw [pairsOf_toList] at hp
   have:=mem_zip_self hp
   have e:p=(p.1,p.1):=Prod.ext rfl this.1.symm
   rw [e];exact hT _ this.2
  unfold wpS at run
  rw [show vs.toArray.zip vs.toArray=pairsOf vs from rfl]
  refine yaa (yac run ?_ (fun _ _ z=>z))
  ·rintro ⟨⟨⟩,st⟩ s' ⟨rfl,ys,p,g',rfl,q1,q2⟩
   dsimp only
   have q3:=NJ (R:=R) q1 q2
   refine yaa (seqEpoch_at ho2 rfl (yaa (listUpdate_at ho2 rfl ?_ (zcF _) ?_)))
   ·rw [yIn (by simp)]
    exact yab (h _ q3.1 q3.2)
   ·show (ys.map (·.2)).size≤_
    rw [Array.size_map,q1.size_eq,pairsOf_size];lia
theorem C8 {α:Type}{p q:α→Bool}:∀ {l:List α},(∀ x∈l,p x=true→q x=true)→l.countP p≤l.countP q:=fun h=>List.countP_mono_left h
theorem C7 {α:Type}{p q:α→Bool}{y:α}:∀ {l:List α},(∀ x∈l,p x=true→q x=true)→y∈l→p y=false→q y=true→l.countP p<l.countP q
 | [],_,hm,_,_=>by simp at hm
 | x::l,h,hm,h1,h2=>by
  have h':∀ x∈l,p x=true→q x=true:=fun z hz=>h z (zaC _ hz)
  rw [List.countP_cons,List.countP_cons]
  rcases zcf.mp hm with rfl | hm
  ·have:=C8 h'
   rw [h1,h2,yIp rfl,yIn (by decide)];lia
  ·have:=C7 h' hm h1 h2
   by_cases c:p x=true
   ·rw [yIp c,yIp (h x (by simp) c)];lia
   ·rw [yIn c];split <;> lia
def TS (ss:List Str) (p:Keyed):Prop:=∃ x t,p.1 = .str x t∧x∈ss
end
end M10
namespace L2
open PySem PySem.Spec PyProof.Rows
section
variable {X:Cx}{e:Expr}{ta:TE}{p p2 pos pos2:Pos}
theorem iz {α:Type} [DecidableEq α]:∀ {l m:List α},l.Nodup→(∀ y∈l,y∈m)→l.length≤m.length
 | [],_,_,_=>zcF _
 | x::l,m,h,hs=>by
  rw [zbP] at h
  have hx:=hs x (by simp)
  have:=iz (l:=l) (m:=m.erase x) h.2 fun y hy=>(List.mem_erase_of_ne (fun e:y=x=>h.1 (by rw [← e];exact hy))).mpr (hs y (by simp [hy]))
  rw [List.length_erase_of_mem hx] at this
  have:0<m.length:=List.length_pos_of_mem hx
  rw [zbx];lia
end
end L2
namespace M6
open PySem PySem.Spec PyProof.Rows
section
variable {prog:yak}{w:yal}
theorem Fi {A:yam}{E:yaj→yai→Prop}{s:yai}{i j:Str}{t u:Tok}{Q:Bool→yai→Prop} (h:Q (decide (i.cps.toList<j.cps.toList)) s):yas (model prog w) A (PyProof.Rows.oneLt' true (.str i t) (.str j u)) Q E s:=PyProof.Rows.oneLt_str h
theorem pB {A:yam}{Q:Bool→yai→Prop}{s:yai}{m1 m2:Nat}:∀ (lx ly:List yan) {lu lv:List yaj}{as bs:List Addr} (i:Nat),(∀ z∈lx,z.depth≤6)→(∀ z∈ly,z.depth≤6)→dU lx=true→dU ly=true→ff lx ly=true→ReadsAll s.heap lu lx as→ReadsAll s.heap lv ly bs→A.units+6<cLine →
  (i=0→∃ p q lx' ly',lx = .str p::lx'∧ly = .str q::ly')→m1+ly.length=m2+lx.length→Q (cI lx ly) s→W.KatLex prog w A true (decide (m1<m2)) Q (lu.zip lv) i s
 | [],ly,lu,lv,as,bs,i,d1,d2,k1,k2,hc,h1,h2,hu,h0,hm,h=>by
  cases h1
  show Q (decide (m1<m2)) s
  cases ly with
  | nil=>simp only [cI,zbS] at hm h;rw [yDf (by lia)];exact h
  | cons _ _=>simp only [cI,zbS,zbx] at hm h;rw [yDt (by lia)];exact h
 | x::lx,[],lu,lv,as,bs,i,d1,d2,k1,k2,hc,h1,h2,hu,h0,hm,h=>by
  cases h2
  rw [List.zip_nil_right]
  show Q (decide (m1<m2)) s
  simp only [cI,zbS,zbx] at hm h
  rw [yDf (by lia)];exact h
 | x::lx,y::ly,lu,lv,as,bs,i,d1,d2,k1,k2,hc,h1,h2,hu,h0,hm,h=>by
  simp only [dU,zbH] at k1 k2
  simp only [ff,zbH] at hc
  have dx:=d1 x (by simp)
  have dy:=d2 y (by simp)
  cases h1 with
  | @cons u us _ _ a1 b1 g1 t1 =>
   cases h2 with
   | @cons v vs _ _ a2 b2 g2 t2 =>
    rw [zaV,W.KatLex.eq_2]
    refine SeqAt.eqBoolOverData prog w _ _ _ _ _ _ _ _ _ _ g1 g2 (jb _ k1.1) (jb _ k2.1) (by lia) ?_
    rw [iD _ _ k1.1 k2.1]
    simp only [cI] at h
    by_cases he:x=y
    ·rw [yDt he,yIp rfl]
     rw [yIp he] at h
     exact pB lx ly (i+1) (fun z hz=>d1 z (zaC _ hz)) (fun z hz=>d2 z (zaC _ hz)) k1.2 k2.2 hc.2 t1 t2 hu (fun z=>by lia) (by simp only [zbx] at hm;lia) h
    ·rw [yDf he,yIn (by decide)]
     rw [yIn he] at h
     by_cases hi:i=0
     ·obtain ⟨p,q,lx',ly',e1,e2⟩:=h0 hi
      injection e1 with e1 _
      injection e2 with e2 _
      subst e1;subst e2;subst hi
      cases g1
      cases g2
      exact Fi h
     ·have:(true&&i==0)=false:=by simp [hi]
      rw [this]
      exact B4 6 dx dy k1.1 k2.1 hc.1 g1 g2 hu h
end
section
variable {prog:yak}{w:yal}{A:yam}{E:yaj→yai→Prop}{s:yai}
def kc (h:Heap) (k:yan×Addr):Prop:=isKey h k.1 k.2∧∃ p r,k.1 = .tuple (.str p::r)
theorem pC {h:Heap}:∀ {ks:List (yan×Addr)},(∀ k∈ks,kc h k)→∃ fs,W.KatTups h (ks.map fun k=>.ref k.2) fs∧fs.length=ks.length∧∀ f∈fs,∃ i t,f=Value.str i t
 | [],_=>⟨[],.nil,rfl,by simp⟩
 | (d,a)::ks,hk=>by
  obtain ⟨fs,h1,h2,h3⟩:=pC fun k hk'=>hk k (zaC _ hk')
  obtain ⟨⟨k1,k2,as,hr⟩,p,r,e⟩:=hk (d,a) (by simp)
  have e:d = .tuple (.str p::r):=e
  subst e
  cases hr with
  | @tuple _ o vs m _ _ ho hc hdat hall =>
   generalize hvs:vs.toList=l at hall
   cases hall with
   | @cons v l' _ _ a1 b1 g1 t1 =>
    cases g1 with
    | str _ t =>
     refine ⟨.str p t::fs,.cons ho hc hdat ?_ h1,by simp [h2],fun f hf => ?_⟩
     ·rw [← zaz,hvs];rfl
     ·rcases zcf.mp hf with rfl | hf
      ·exact ⟨p,t,rfl⟩
      ·exact h3 f hf
theorem Ds {ks:List (yan×Addr)} (hk:∀ k∈ks,kc s.heap k) (hc:∀ k∈ks,∀ l∈ks,aO k.1 l.1=true) (hu:A.units+6<cLine) (i j:Nat) (C:Bool→yai→Prop) (hi:i<ks.length) (hj:j<ks.length) (h:C (eF ks[i].1 ks[j].1) s) :
  W.kas_ask prog w A (tuples' true) (ks.map fun k=>.ref k.2) i j C s:=by
 have hx:=hk ks[i] (zbF hi)
 have hy:=hk ks[j] (zbF hj)
 have hxy:=hc ks[i] (zbF hi) ks[j] (zbF hj)
 have e:∀ n (hn:n<ks.length),(ks.map fun k=>Value.ref k.2).getD n Value.none = .ref ks[n].2:=fun n hn=>by simp [zcK,hn]
 unfold W.kas_ask
 rw [e i hi,e j hj]
 generalize ks[i]=x at hx hxy h
 generalize ks[j]=y at hy hxy h
 obtain ⟨⟨k1,k2,as,hr⟩,p,r,e1⟩:=hx
 obtain ⟨⟨l1,l2,bs,gr⟩,q,t,e2⟩:=hy
 obtain ⟨dx,ax⟩:=x
 obtain ⟨dy,ay⟩:=y
 have e1:dx = .tuple (.str p::r):=e1
 have e2:dy = .tuple (.str q::t):=e2
 subst e1;subst e2
 have k2:(PyData.tuple (.str p::r)).depth≤6:=k2
 have l2:(PyData.tuple (.str q::t)).depth≤6:=l2
 rw [cB] at k2 l2
 cases hr with
 | @tuple _ o us m _ _ ho hcl hdat hall =>
  cases gr with
  | @tuple _ o2 vs m2 _ _ ho2 hcl2 hdat2 hall2 =>
   have n1:=fJ hall
   have n2:=fJ hall2
   rw [zaP] at n1 n2
   exact W.kat_lt ho hdat ho2 hdat2 (pB _ _ 0 (fun z hz=>by have:=dw hz;lia) (fun z hz=>by have:=dw hz;lia) k1 l1 hxy hall hall2 hu (fun _=>⟨p,q,r,t,rfl,rfl⟩) (by lia) h)
end
end M6
namespace M5
open PySem PySem.Spec PyProof.Rows
section
variable {prog:yak}{w:yal}{A:yam}{E:yaj→yai→Prop}{s:yai}
theorem vC {d:Addr} (hd:(d==yat)=false) :
  MeetsIn prog w (Builtin.«dict.__len__» ⟨[.ref d],[]⟩) (fun _ R s=>∃ es ep,M6.jh s.heap d es ep∧R (.ok (.ret (.int es.size s.toks))) { s with toks:=s.toks+1 }) :=
 .of_wp fun A R s ⟨es,ep,⟨o,ho,hx,hdat⟩,h⟩=>by
  show yas _ _ (dictSize d >>= _) _ _ s
  unfold dictSize
  refine yaa (yaa (wpAny_dictEntries ho hdat (yab ?_)))
  show yas _ _ (Builtin.Dict.pendingCount d >>= _) _ _ s
  refine yaa (wpAny_pendingCount_other hd ?_)
  refine wpAny_ret_mkInt ?_
  rw [Nat.add_zero];exact h
theorem zE {d:Addr}{es:Array yaw}{ep:Nat}{Q:yaj→yai→Prop} (hd:(d==yat)=false) (hm:M6.jh s.heap d es ep) (hfit:(es.size:Int)<2 ^ 63)
  (h:Q (.int es.size (s.toks+1)) { s with toks:=s.toks+1+1 }):yas (model prog w) A (Builtin.«len» ⟨[.ref d],[]⟩) (fun fin s'=>∃ r,fin = .done (.ret r)∧Q r s') E s:=by
 unfold Builtin.«len»
 refine yaa (m:=oneArg "len" _) (yab ?_)
 refine yaa (m:=callSpecial? (.ref d) (Str.ofString "__len__")) (wpAny_callSpecial?_slot (name:=Str.ofString "__len__") hm.typeIs PySem.F.slot_dict_len
  (call_meetsIn PySem.F.slot_dict_len hm.typeIs PySem.F.entry_dict_len (PySem.F.args_dict_len_1 _) (vC hd) ⟨es,ep,hm,?_⟩))
 show yas _ _ _ _ _ { s with toks:=s.toks+1 }
 refine yaa (yad (yab ?_))
 refine yaa (wpAny_letGo ?_)
 show yas _ _ (if ((es.size:Nat):Int)<0 then _ else _) _ _ _
 rw [yIn (by lia)]
 show yas _ _ (if ((es.size:Nat):Int)≥2 ^ 63 then _ else _) _ _ _
 rw [yIn (by lia)]
 exact yaa (wpAny_mkInt (yab ⟨_,rfl,h⟩))
theorem rT {d:Addr}{es:Array yaw}{ep:Nat}{ss:List Str}{Q:yaj→yai→Prop} (hh:A.handled=none) (lo:(d==yat)=false) (hD:M6.jh s.heap d es ep) (hes:StrsAre (es.toList.map (·.key)) ss) (h64:es.size<64)
  (h:∀ (h1 h2:Heap) (tk:Nat) (out:List yaj) (ss':List Str) (c:Nat),(∀ b o,s.heap.get? b=some o→h1.get? b=some o)→(∀ b o,h1.get? b=some o→h2.get? b=some o)→h2.get? h1.objs.size=some (seqObj "list" out.toArray c)→StrsAre out ss'→ss'.Perm ss→sortedS ss'=true→Q (.ref h1.objs.size) { s with heap:=h2,toks:=tk }) :
  yas (model prog w) A (call (.builtin "sorted") [.ref d]) Q E s:=by
 refine zaj kind_sorted plain_sorted entry_sorted (args_sorted1 _) ?_
 unfold Builtin.«sorted»
 refine yaa (m:=checkCount "sorted" 1 1 _) (yab ?_)
 refine yaa (M6.tN lo ?_ hD (by rw [yag];lia) fun h1 tk kp => ?_)
 ·exact hh
 have hvl:(es.toList.map (·.key)).length=es.size:=by rw [zbN,zaP]
 generalize (es.toList.map (·.key))=vs at hes hvl
 refine yaa (wpAny_newList ?_ (by first | (rw [yag];lia) | (rw [zbg,yag];lia)))
 have gL:(h1.push (seqObj "list" vs.toArray 0)).get? h1.objs.size=some (seqObj "list" vs.toArray 0):=zaR _ rfl
 refine yaa (yad (wpAny_call_entry slot_list_sort ⟨_,gL,rfl⟩ entry_list_sort (list_sort_treeK (κ:=PyProof.Rows.strKind) strKind_oneLt gL hes.keysOf (fun v₁ v₂ rest e=>keyKind_strs (by rw [← e];exact hes)) (by lia) fun st' a1 a2=>⟨_,rfl,?_⟩) (args_list_sort _)))
 obtain ⟨ss',b1,b2,b3⟩:=sorted_out_str hes a1 a2
 obtain ⟨c,hcc⟩:=sortedHeap_at (out:=(arrOf st').map (·.2)) gL
 refine yab ⟨_,rfl,h h1 _ tk ((arrOf st').map (·.2)).toList ss' c kp (fun b o e => ?_) (by rw [Array.toArray_toList];exact hcc) b1 b2 b3⟩
 have lb:=zcA e
 show (sortedHeap _ _ _ _).get? b=some o
 rw [sortedHeap_old (zcr lb) (by rw [size_push'];exact Nat.lt_succ_of_lt lb)]
 exact zar _ e
end
end M5
namespace L2
open PySem PySem.Spec PyProof.Rows M6
def EY:List V→Hp→VK→Prop:=fun xs H Q=>∃ (a:Addr) (kvs:List (Key×V)) (ss:List Str),xs=[.ref a]∧H a=some (.dK kvs)∧(kvs.map fun x=>kV x.1)=ss.map V.str∧ss.length<64∧∀ p (ss':List Str),H p=none→ss'.Perm ss→sortedS ss'=true→Q (.ref p) (upd H p (.lst (ss'.map V.str)))
def LG (W:yal):List V→Hp→VK→Prop:=fun vs H Q=>∃ (a a':Addr) (ks:List (yan×Addr)),vs=[.ref a]∧H a=some (.ext (iA W a' ks))∧ks.length≤1000∧Q (.int ks.length) H
def Ob (K:yaM) (W:yal) (neg:Bool):R2:=fun y x H Q=>∃ (a a' b:Addr) (ks:List (yan×Addr)) (d:yan),x = .ref a∧y = .ref b∧H a=some (.ext (iA W a' ks))∧nZ K H ks∧b7 d=true∧d.depth≤6∧bB K H d (.ref b)∧Q (.bl (neg != (ks.any fun x=>decide (x.1=d)))) H
section
variable {X:Cx}
theorem tT {k:Nat} (hr:aU k X.A):b9 X (.builtin "sorted") EY:=by
 intro pins s σ H xs us Q I r h
 obtain ⟨a,kvs,ss,rfl,e,hi,h64,q⟩:=h
 obtain ⟨u,rfl,ru⟩:=vals1 r
 cases ru
 obtain ⟨lo,hz,es,ep,hD,hv⟩:=Jk I e
 have hl:es.size=kvs.length:=by have:=hv.length;simpa using this.symm
 rw [hi] at hv
 have hl2:es.size=ss.length:=by have:=hv.length;simpa using this.symm
 refine M5.rT hr.hd lo hD (qa hv) (by lia) fun h1 h2 tk out ss' c kp1 kp2 g a1 a2 a3 => ?_
 have I1:Inv X pins σ H { s with heap:=h1,toks:=tk }:=I.kept (t':=tk) kp1
 refine ⟨.ref h1.objs.size,_,I1.laid (a:=h1.objs.size) (t':=tk) (o:=.lst (ss'.map V.str)) kp2 (zcE _) ⟨by rw [zbN,a2.length_eq];lia,out,c,M.oR a1,g⟩,rfl,q _ ss' (I1.hok.fresh (zcE _)) a2 a3⟩
theorem pV (d:yan):∀ ks:List (yan×Addr),(atKey (ks.map fun x=>(x.1,x.2,Value.bool true)) d).isSome=(ks.any fun x=>decide (x.1=d))
 | []=>rfl
 | x::xs=>by
  have ih:=pV d xs
  unfold atKey at ih ⊢
  rw [zbw] at ih ⊢
  rw [zcg,zbR,zch]
  by_cases h:x.1=d
  ·simp [h]
  ·simp only [h,decide_false,Bool.false_or];exact ih
theorem Jx {k:Nat} (hr:aU k X.A):fV X (yao .In) (Ob X.K X.w false):=by
 intro pins s σ H y x v u Q I ry rx h
 obtain ⟨a,a',b,ks,d,rfl,rfl,e,hk,h1,h2,h3,q⟩:=h
 obtain rfl:u=Value.ref a:=rx
 obtain rfl:v=Value.ref b:=ry
 have ob:=(show aW X.prog X.w H s.heap a (.ext (iA X.w a' ks)) from I.hok a _ e)
 obtain rfl:=iC ob
 obtain ⟨⟨z,o,es,ep,ho,hx,hd,hes,hn⟩,_,_⟩:=ob
 have dd:Heap.DictOfH (fN X.prog X.w) s.heap a' (ks.map fun x=>(x.1,x.2,Value.bool true)):=by
  refine ⟨o,es,ep,ho,hx,hd,?_,fun x hx' => ?_,?_⟩
  ·rw [hes,zcp];rfl
  ·obtain ⟨y,hy,rfl⟩:=zcq.mp hx'
   obtain ⟨k1,k2,k3⟩:=hk y hy
   exact I.key k1 k2 k3
  ·rw [zcp];exact hn
 have hu:=hr.units
 refine wpAny_in_heap (knd:=fN X.prog X.w) (show X.A.units+1+10<cLine by lia) (I.key h1 h2 h3) z dd ?_
 rw [pV d ks]
 exact ⟨.bl (ks.any fun x=>decide (x.1=d)),H,I.tok _,rfl,by simpa using q⟩
theorem z6:b9 X (.builtin "len") (LG X.w):=by
 intro pins s σ H xs us Q I r h
 obtain ⟨a,a',ks,rfl,e,hl,q⟩:=h
 obtain ⟨u,rfl,ru⟩:=vals1 r
 cases ru
 have ob:=(show aW X.prog X.w H s.heap a (.ext (iA X.w a' ks)) from I.hok a _ e)
 obtain rfl:=iC ob
 obtain ⟨⟨z,o,es,ep,ho,hx,hd,hes,hn⟩,_,_⟩:=ob
 have hsz:es.size=ks.length:=by have:=congrArg zcC hes;simpa using this
 refine zaj kind_len plain_len entry_len (args_len1 _) (M5.zE z ⟨o,ho,hx,hd⟩ (by lia) ?_)
 rw [hsz]
 exact ⟨.int ks.length,H,I.tok _,⟨_,rfl⟩,q⟩
end
end L2
namespace M
open PySem PySem.Spec PyProof.Rows L2 M6
section
variable {P:yak}{w:yal}{K:yaM}{mg:Str→Option yaj}{base:Heap}{C:Addr}
theorem M7 {x qual:Str}{st:Stmt}{f:Addr}{fd:yaq}{N ps:List Str}{k:Nat}{sp:AN} (F:uz K x qual st f fd) (S:aE N ps (ai st)) (len:∀ ds S Q,sp ds S Q→ds.length=ps.length)
  (hbody:∀ (f:Addr) (cdv:yaj) (A:yam) (outer:List Env) (s:yai) (H:Hp) (E:XK),aU k (A.deeper (PyProof.Rows.envOfC qual (ai st) s.heap.objs.size f cdv)) →
   ∃ a,Aq (d7 iZ P w K mg base N qual (ai st) f cdv A outer s H E).Ed (aV st) a∧∀ ds S Q,sp ds S Q→a { nx:=fun _ S'=>Q (.dat .bw) S',rt:=Q } (aM N ds) S):bW P w K mg base iZ (k+1) f fd ps (bf K sp) :=
 F.ok S (fun vs H Q E h=>by
  obtain ⟨w,ds,S,Qa,ok,rep,q,bk⟩:=h
  rw [rep.length];exact len ds S Qa q) fun cdv A outer s H vs Q E hr h=>by
  obtain ⟨a,ha,hd⟩:=hbody f cdv A outer s H E hr
  obtain ⟨w,ds,S,Qa,ok,rep,q,bk⟩:=h
  refine ⟨_,ha.p,w,aM N ds,S,_,ok,iE rep,hd ds S Qa q,⟨fun δ S' σ w' H' le ok' env q' => ?_,bk,fun _ _ _ _ _ _ _ _ z=>z.elim,fun _ _ _ _ _ _ _ _ z=>z.elim⟩⟩
  exact bk (.dat .bw) S' .bw w' H' le ok' (show Rep K w' .bw .bw from .bw) q'
theorem gU {m qual:Str}{st:Stmt}{N ps:List Str}{k:Nat}{sp:AN} (F:dH K C m qual ps st) (S:aE N ps (ai st)) (len:∀ ds S Q,sp ds S Q→ds.length=ps.length)
  (hbody:∀ (f:Addr) (cdv:yaj) (A:yam) (outer:List Env) (s:yai) (H:Hp) (E:XK),aU k (A.deeper (PyProof.Rows.envOfC qual (ai st) s.heap.objs.size f cdv)) →
   ∃ a,Aq (d7 iZ P w K mg base N qual (ai st) f cdv A outer s H E).Ed (aV st) a∧∀ ds S Q,sp ds S Q→a { nx:=fun _ S'=>Q (.dat .bw) S',rt:=Q } (aM N ds) S):cj P w K mg base (k+1) C m ps sp:=by
 obtain ⟨f,fd,F,hm,hb⟩:=F.ex
 exact ⟨f,fd,M7 F S len hbody,hm,hb⟩
theorem OJ {x:Str}{st:Stmt}{N ps:List Str}{k:Nat}{sp:AN} (F:Src K mg x ps st) (S:aE N ps (ai st)) (len:∀ ds S Q,sp ds S Q→ds.length=ps.length)
  (hbody:∀ (f:Addr) (cdv:yaj) (A:yam) (outer:List Env) (s:yai) (H:Hp) (E:XK),aU k (A.deeper (PyProof.Rows.envOfC x (ai st) s.heap.objs.size f cdv)) →
   ∃ a,Aq (d7 iZ P w K mg base N x (ai st) f cdv A outer s H E).Ed (aV st) a∧∀ ds S Q,sp ds S Q→a { nx:=fun _ S'=>Q (.dat .bw) S',rt:=Q } (aM N ds) S):Def P w K mg base (k+1) x ps (bf K sp) :=
 F.def S (fun vs H Q E h=>by
  obtain ⟨w,ds,S,Qa,ok,rep,q,bk⟩:=h
  rw [rep.length];exact len ds S Qa q) fun f cdv A outer s H vs Q E hr h=>by
  obtain ⟨a,ha,hd⟩:=hbody f cdv A outer s H E hr
  obtain ⟨w,ds,S,Qa,ok,rep,q,bk⟩:=h
  refine ⟨_,ha.p,w,aM N ds,S,_,ok,iE rep,hd ds S Qa q,⟨fun δ S' σ w' H' le ok' env q' => ?_,bk,fun _ _ _ _ _ _ _ _ z=>z.elim,fun _ _ _ _ _ _ _ _ z=>z.elim⟩⟩
  exact bk (.dat .bw) S' .bw w' H' le ok' (show Rep K w' .bw .bw from .bw) q'
end
section
variable {X:Cx}{e o:Expr}{es:List Expr}{p p2 pos pos2:Pos}{C:Addr}{k:Nat}{m:Str}{ps:List Str}{sp:AN}{K:yaM}
theorem mU {x:Str}{f:Addr}{fd:yaq} (MK:Mk X.K C f) (F:bW X.prog X.w X.K X.mg X.base iZ k f fd ps (bf X.K sp)) (hb:Binds X.K fd ps []) (hr:aU (k+1) X.A) (hg:Gl X x) (hm:X.mg x=some (.ref C))
  (hdb:(x==("__debug__" : Str))=false:=by decide +kernel):GE X (.Call (.Name x p) [] [] pos) (HN C sp vZ):=by
 refine ⟨mE (L2.mU MK F hr hg hm hb .nil sG hdb) fun σ H Q h => ?_⟩
 obtain ⟨w,δ,S,Qa,ok,env,q,bk⟩:=h
 refine fun a dx na nd ne => ?_
 have hax:(upd H dx (HO.own a)) a=none:=by rw [av (Ne.symm ne)];exact na
 have ok2:=(ok.alloc (o:=.own a) nd)
 obtain ⟨w2,le2,lq,rep3⟩:=store (ok2.alloc (o:=.ins C dx []) hax) (ok2.fresh hax (m:=.ins C [] []) ⟨dx,[],rfl,rfl,.nil⟩)
 refine ⟨w2,_,_,_,lq,by rw [zbO];exact .cons rep3 .nil,q,fun r S2 v w3 H3 le3 ok4 rep4 ⟨er,q4⟩ => ?_⟩
 subst er
 have ev:=EV rep4 rfl
 exact ⟨ev,bk.dat (le2.trans le3) ok4 (rep3.le le3) q4⟩
structure HR (ks:List D):Prop where
 good:∀ k∈ks,fk k
 fst:∀ k∈ks,∃ p r,py k=PyData.tuple (.str p::r)
 cmp:∀ k∈ks,∀ l∈ks,aO (py k) (py l)=true
def Eo (ks:List D):Prop:=ks.Pairwise (fun x y=>eF (py y) (py x)=false)
def Gu:AN:=fun ds S Q=>∃ d es,∃ ss:List Str,ds=[d]∧bG S d = .dct (ss.map Sum.inr) es∧ss.length<64∧∀ ss':List Str,ss'.Perm ss→sortedS ss'=true→Q (.new (.lst (ss'.map D.str))) S
def MF (W:yal):AN:=fun ds S Q=>∃ n ks,ds=[.loc n]∧S[n]? = some (some (nO W ks))∧ks.length≤1000∧Q (.dat (.int ks.length)) S
noncomputable def zL (ks:List D) (k:D):Bool:=ks.any fun j=>decide (py j=py k)
def OW (W:yal) (neg:Bool):A2:=fun x y S Q=>∃ n ks,y = .loc n∧S[n]? = some (some (nO W ks))∧fk x∧(∀ k∈ks,fk k)∧Q (.dat (.bl (neg != zL ks x))) S
theorem kh {ks:List D}{bs:List Addr} (hlen:ks.length=bs.length):(∀ x∈(ks.map py).zip bs,∃ k∈ks,x.1=py k)∧(ks.map py).zip bs=(ks.zip bs).map (fun x=>(py x.1,x.2))∧((ks.map py).zip bs).map (fun k=>V.ref k.2)=bs.map V.ref∧((ks.map py).zip bs).map (·.1)=ks.map py:=by
 refine ⟨fun x hx => ?_,by rw [List.zip_map_left];rfl,?_,List.map_fst_zip (by rw [zbN];lia)⟩
 ·obtain ⟨k,hk,e⟩:=zcq.mp (zbQ hx).1
  exact ⟨k,hk,e.symm⟩
 ·have:((ks.map py).zip bs).map (·.2)=bs:=List.map_snd_zip (by rw [zbN];lia)
  rw [← this,zcp,this];rfl
theorem yW {w:Wd}{H:Hp}{S:aG}{ks:List D}{bs:List Addr}{Qa:AK}{Q:VK} (ok:Ok K w H S) (k5:az K w ks (bs.map V.ref)) (bk:dQ K w Qa Q) (q:∀ ks':List D,ks'.Perm ks→Eo ks'→Qa (.new (.lst ks')) S) :
  ∀ (p:Addr) (out:List (yan×Addr)),H p=none→out.Perm ((ks.map py).zip bs)→out.Pairwise (fun x y=>eF y.1 x.1=false)→Q (.ref p) (upd H p (.lst (out.map fun k=>V.ref k.2))):=by
 intro p out hp hperm hso
 have hlen:ks.length=bs.length:=by have:=k5.length;rw [zbN] at this;exact this.symm
 obtain ⟨_,ez,_,_⟩:=kh hlen
 rw [ez] at hperm
 obtain ⟨o',p1,rfl⟩:=jA hperm
 have e2:(List.map (fun k:yan×Addr=>V.ref k.2) (o'.map fun x=>(py x.1,x.2)))=o'.map fun x=>V.ref x.2:=by rw [zcp];rfl
 rw [e2]
 refine bk (.new (.lst (o'.map (·.1)))) S _ w _ .refl (ok.alloc hp) (ok.fresh hp ⟨_,rfl,iR fun x hx=>wI k5 x (p1.mem_iff.mp hx)⟩) (q _ ?_ ?_)
 ·have:=p1.map (·.1)
  rw [List.map_fst_zip (by lia)] at this
  exact this
 ·show (o'.map (·.1)).Pairwise _
  rw [zbp] at hso ⊢
  exact hso
theorem JI {w:Wd}{H:Hp}{S:aG}{n:Nat}{v:V}{W:yal}{ks:List D} (ok:Ok K w H S) (r:Rep K w (.loc n) v) (z:S[n]? = some (some (nO W ks))) :
  ∃ (a a':Addr) (bs:List Addr),v = .ref a∧H a=some (.ext (iA W a' ((ks.map py).zip bs)))∧az K w ks (bs.map V.ref)∧ks.length=bs.length:=by
 simp only [Rep] at r
 obtain ⟨a,h0,rfl⟩:=r
 obtain ⟨a1,u,k1,k2,k3,a',bs,rfl,k5⟩:=ok.live n _ z
 rw [h0] at k1;cases k1
 exact ⟨a,a',bs,rfl,k3,k5,by have:=k5.length;rw [zbN] at this;exact this.symm⟩
theorem sI {j:Nat} (hr:aU j X.A):DY X (.builtin "sorted") Gu:=⟨mC (tT hr) fun xs H Q h=>by
 obtain ⟨w,ds,S,Qa,ok,rep,⟨d,es,ss,rfl,z,hl,q⟩,bk⟩:=h
 obtain ⟨v,rfl,r1⟩:=gC rep
 obtain ⟨a,kvs,rfl,h1,h2,h3⟩:=ir ok r1 z
 refine ⟨a,kvs,ss,rfl,h1,?_,hl,fun p ss' hp g1 g2=>bk (.new (.lst _)) S _ w _ .refl (ok.alloc hp) (ok.fresh hp ⟨_,rfl,ju ss'⟩) (q ss' g1 g2)⟩
 have:(kvs.map fun x=>kV x.1)=(kvs.map (·.1)).map kV:=by rw [zcp];rfl
 rw [this,h2,zcp];rfl⟩
theorem B5:DY X (.builtin "len") (MF X.w):=⟨mC z6 fun xs H Q h=>by
 obtain ⟨w,ds,S,Qa,ok,rep,⟨n,ks,rfl,z,hl,q⟩,bk⟩:=h
 obtain ⟨v,rfl,r1⟩:=gC rep
 obtain ⟨a,a',bs,rfl,k3,k5,hlen⟩:=JI ok r1 z
 have e:((ks.map py).zip bs).length=ks.length:=by rw [List.length_zip,zbN];lia
 refine ⟨a,a',_,rfl,k3,by lia,?_⟩
 rw [e]
 exact bk.dat .refl ok .int q⟩
theorem LQ {j:Nat} (hr:aU j X.A):uH X (yao .In) (OW X.w false):=⟨m2 (Jx hr) fun x y H Q h=>by
 obtain ⟨w,d,e,S,Qa,ok,r1,r2,⟨n,ks,rfl,z,g1,g2,q⟩,bk⟩:=h
 obtain ⟨a,a',bs,rfl,k3,k5,hlen⟩:=JI ok r2 z
 obtain ⟨b,rfl,hb⟩:=jH ok r1 g1
 obtain ⟨mem1,ez,e1,e2⟩:=kh hlen
 refine ⟨a,a',b,_,py d,rfl,rfl,k3,gQ ok k5 g2,g1.2.1,g1.2.2.1,hb,bk.dat .refl ok .bl ?_⟩
 have:(((ks.map py).zip bs).any fun x=>decide (x.1=py d))=zL ks d:=by
  have h1:(((ks.map py).zip bs).any fun x=>decide (x.1=py d))=((((ks.map py).zip bs).map (·.1)).any fun z=>decide (z=py d)):=by rw [zcn];rfl
  rw [h1,e2,zcn];rfl
 rw [this];exact q⟩
end
end M
namespace L2
open PySem PySem.Spec PyProof.Rows
noncomputable def XN (C:Addr) (d0:Option Addr) (x:Addr):HO:=.ext fun h=>∃ t0:Addr,h.get? x=some (PySem.W.bL C d0 #[.ref t0,.none,.none,.none,.bool false,.none])
noncomputable def XT (C:Addr) (d0:Option Addr) (T x:Addr):HO:=.ext fun h=>∃ (t0:Addr) (a2 a3 a4 a5:yaj),h.get? x=some (PySem.W.bL C d0 #[.ref t0,.ref T,a2,a3,a4,a5])
noncomputable def TB (T:Addr):HO:=.ext fun h=>∃ (ob:Obj) (ts:Array yaj),h.get? T=some ob∧ob.data = .fields ts∧ts[3]? = some .none
section
variable {P:yak}{w:yal}{H:Hp}{h:Heap}
theorem XN.ok {C x:Addr}{d0:Option Addr}{t0:Addr} (e:h.get? x=some (PySem.W.bL C d0 #[.ref t0,.none,.none,.none,.bool false,.none])):aW P w H h x (XN C d0 x) :=
 ⟨⟨t0,e⟩,⟨_,e⟩,fun h1 h2 ⟨t,q⟩ k=>⟨t,k _ q⟩⟩
theorem XN.get {C x:Addr}{d0:Option Addr} (ok:fW P w H h) (e:H x=some (XN C d0 x)):∃ t0:Addr,h.get? x=some (PySem.W.bL C d0 #[.ref t0,.none,.none,.none,.bool false,.none]):=(ok x _ e).1
theorem XT.ok {C x T:Addr}{d0:Option Addr}{t0:Addr}{a2 a3 a4 a5:yaj} (e:h.get? x=some (PySem.W.bL C d0 #[.ref t0,.ref T,a2,a3,a4,a5])):aW P w H h x (XT C d0 T x) :=
 ⟨⟨t0,a2,a3,a4,a5,e⟩,⟨_,e⟩,fun h1 h2 ⟨t,b2,b3,b4,b5,q⟩ k=>⟨t,b2,b3,b4,b5,k _ q⟩⟩
theorem XT.get {C x T:Addr}{d0:Option Addr} (ok:fW P w H h) (e:H x=some (XT C d0 T x)):∃ (t0:Addr) (a2 a3 a4 a5:yaj),h.get? x=some (PySem.W.bL C d0 #[.ref t0,.ref T,a2,a3,a4,a5]):=(ok x _ e).1
theorem TB.ok {T:Addr}{ob:Obj}{ts:Array yaj} (e:h.get? T=some ob) (d:ob.data = .fields ts) (n:ts[3]? = some .none):aW P w H h T (TB T) :=
 ⟨⟨ob,ts,e,d,n⟩,⟨_,e⟩,fun h1 h2 ⟨o,t,q,r⟩ k=>⟨o,t,k _ q,r⟩⟩
theorem TB.get {T:Addr} (ok:fW P w H h) (e:H T=some (TB T)):∃ (ob:Obj) (ts:Array yaj),h.get? T=some ob∧ob.data = .fields ts∧ts[3]? = some .none:=(ok T _ e).1
end
section
variable {M:Model}{A:yam}{E:yaj→yai→Prop}{s:yai}
theorem pL {base:Heap}{env:Env}{outer:List Env}{L e:Addr}{oe:Obj}{vs:Array yaj}{head:yaj}{hadNext:Bool}{Q:Unit→yai→Prop}
  (hfr:A.frames=some (env::outer)) (hl:s.heap.FunFrames base (env::outer)) (hf:env.frame=some L)
  (he:s.heap.get? e=some oe) (hd:oe.data = .fields vs) (hsz:1<vs.size)
  (h:∀ h' T,s.heap.objs.size≤T→h'.get? e=some (Obj.mapFields (·.setIfInBounds 1 (Value.ref T)) oe)→(∃ ob ts,h'.get? T=some ob∧ob.data = .fields ts∧ts[3]? = some .none) →
   (∀ b o,b≠e→b ∉ frs (env::outer)→s.heap.get? b=some o→h'.get? b=some o)→(∀ b o,b≠e→s.heap.get? b=some o→∃ sl,h'.get? b=some { o with slots:=sl })→Q () { s with heap:=h' }) :
  yas M A (do let a ← frameOf env;let pl ← entryPlaceOf L hadNext;let b ← EntryCells.newEntry head a .none (rawInt L) .none pl;setField (.ref e) 1 b) (fun _ s'=>yas M A (setFlight (.ref e) none) Q E s') E s:=by
 have Ow:e ∉ (env::outer).filterMap (·.frame):=fun hm=>by
  obtain ⟨_,o,ho,hnf⟩:=hl.mem hm
  rw [he] at ho;injection ho with ho;subst ho;exact hnf vs hd
 refine yaa (wpAny_frameOf_fun hfr hl hf fun h₁ hs₁ => ?_)
 refine yaa (wpAny_entryPlaceOf fun pl hpl => ?_)
 unfold EntryCells.newEntry newFields
 refine yaa (yaf ?_ (hpl.sizeOk5 _ _ _ _ _))
 have he₁:h₁.get? e=some oe:=(hs₁.2.1 e Ow).trans he
 have he₂:=zar (h:=h₁) { cls:=.type "traceback",dict:=none,data:=.fields ([head,.ref L,.none,rawInt L,.none]++(if pl.isEmpty then zca 6 Value.none else pl)).toArray } he₁
 refine wpAny_setField he₂ hd hsz ?_
 have hTe:h₁.objs.size≠e:=zct (zcA he₁)
 have hd₃:=Obj.data_mapFields hd (·.setIfInBounds 1 (Value.ref h₁.objs.size))
 have he₃:=zaB (Obj.mapFields (·.setIfInBounds 1 (Value.ref h₁.objs.size))) he₂ (Obj.isFreed_of_fields hd₃)
 have hT₃:=(zas (h₁.push { cls:=.type "traceback",dict:=none,data:=.fields ([head,.ref L,.none,rawInt L,.none]++(if pl.isEmpty then zca 6 Value.none else pl)).toArray })
  (Obj.mapFields (·.setIfInBounds 1 (Value.ref h₁.objs.size))) (Ne.symm hTe)).trans (zaR h₁ rfl)
 unfold setFlight
 refine yaa (wpAny_field he₃ hd₃ (x:=.ref h₁.objs.size) (by simp [hsz]) ?_)
 rw [yIp (show (Value.ref h₁.objs.size != Value.none)=true from by simp)]
 have keep:∀ b o,b≠e→h₁.get? b=some o →
   (((h₁.push { cls:=.type "traceback",dict:=none,data:=.fields ([head,.ref L,.none,rawInt L,.none]++(if pl.isEmpty then zca 6 Value.none else pl)).toArray }).update e (Obj.mapFields (·.setIfInBounds 1 (Value.ref h₁.objs.size)))).update h₁.objs.size
    (Obj.mapFields (·.setIfInBounds 3 ((none:Option Addr).elim Value.none fun f=>rawInt f)))).get? b=some o:=fun b o hbe hb=>by
  have hbT:h₁.objs.size≠b:=zct (zcA hb)
  rw [zas _ _ hbT,zas _ _ (Ne.symm hbe)]
  exact zar _ hb
 refine wpAny_setField hT₃ rfl (by simp only [zbg,zaT,zbx,zbS] <;> lia) (h _ h₁.objs.size (by rw [hs₁.1];exact zcE _) ?_ ⟨_,_,zaB _ hT₃ (Obj.isFreed_of_fields (Obj.data_mapFields rfl _)),Obj.data_mapFields rfl _,by first | (simp;done) | (rcases hpl with rfl | ⟨_,_,_,_,_,_,_,rfl⟩ <;> simp)⟩ (fun b o hb hf' e'=>keep b o hb ((hs₁.2.1 b hf').trans e')) fun b o hb e' => ?_)
 ·rw [zas _ _ hTe];exact he₃
 ·obtain ⟨sl,q⟩:=hs₁.2.2 b o e'
  exact ⟨sl,keep b _ hb q⟩
end
structure wC (X:Cx) (A:yam):Prop where
 st:X.stack=X.env::X.outer
 fr:X.env.frame=some X.env.locals
 af:A.frames=some (X.env::X.outer)
section
variable {X:Cx}{M:Model}{A:yam}{E:yaj→yai→Prop}{pins:List (Addr×Obj)}{σ:St}{H:Hp}{s:yai}{C x T:Addr}{d0:Option Addr}{Q:Unit→yai→Prop}
theorem Inv.noted {h':Heap}{u:HO}{u':HO} (I:Inv X pins σ H s) (hs:X.stack=X.env::X.outer) (e:H x=some u) (mu:KY (some u)) (hT:s.heap.objs.size≤T)
  (hx:∀ H',aW X.prog X.w H' h' x u') (hxo:∃ o,h'.get? x=some o) (ht:∃ ob ts,h'.get? T=some ob∧ob.data = .fields ts∧ts[3]? = some .none)
  (k1:∀ b o,b≠x→b ∉ frs (X.env::X.outer)→s.heap.get? b=some o→h'.get? b=some o) (k2:∀ b o,b≠x→s.heap.get? b=some o→∃ sl,h'.get? b=some { o with slots:=sl }) :
  Inv X pins σ (upd (upd H x u') T (TB T)) { s with heap:=h' }:=by
 have nT:H T=none:=I.hok.fresh hT
 have xT:x≠T:=fun z=>by rw [z,nT] at e;cases e
 have ne:∀ {b o},s.heap.get? b=some o→b≠T:=fun {b o} q=>zcr (zaZ (zcA q) hT)
 have old:∀ {b v},H b=some v→b≠x→upd (upd H x u') T (TB T) b=some v:=fun {b v} q hb=>by
  rw [av (aK q nT),av hb];exact q
 have nx:∀ {b v},H b=some v→(KY (some v)→False)→b≠x:=fun {b v} q hm z=>by
  subst z;rw [e] at q;cases q;exact hm mu
 refine I.call (g':=s.gens) (d':=s.drawn) (t':=s.toks) (ch:=[]) ⟨fun b o q n hb _ => ?_,fun b o q n hb _ => ?_,fun b o q n _ => ?_,fun b o q _ => ?_,fun b xs q => ?_,fun b o v q => ?_,fun b ps q => ?_⟩ (fun b v q => ?_) I.bare (fun b z=>absurd z (by simp))
 ·rw [hs] at hb
  exact k1 b o (fun z=>by rw [z,e] at n;cases n) hb q
 ·exact k2 b o (fun z=>by rw [z,e] at n;cases n) q
 ·rw [av (ne q),av (fun z=>by rw [z,e] at n;cases n)];exact n
 ·by_cases hb:b=x
  ·subst hb;exact hxo
  ·obtain ⟨sl,q'⟩:=k2 b o hb q;exact ⟨_,q'⟩
 ·exact old q (nx q id)
 ·exact old q (nx q id)
 ·exact ⟨#[],by rw [Array.append_empty];exact old q (nx q id)⟩
 ·by_cases h1:b=T
  ·subst h1;rw [au] at q;cases q
   obtain ⟨ob,ts,r1,r2,r3⟩:=ht
   exact TB.ok r1 r2 r3
  ·rw [av h1] at q
   by_cases h2:b=x
   ·subst h2;rw [au] at q;cases q;exact hx _
   ·rw [av h2] at q
    refine (I.hok b v q).stay (fun c o hc r => ?_) (fun c r=>old r (nx r id)) fun c xs r=>old r (nx r id)
    have hc':∃ v',H c=some v'∧c≠x:=by
     rcases hc with z | z
     ·subst z;exact ⟨v,q,h2⟩
     ·exact ⟨_,z,nx z id⟩
    obtain ⟨v',z1,z2⟩:=hc'
    refine k1 c o z2 (fun z => ?_) r
    rw [← hs] at z
    rw [I.qb c z] at z1;cases z1
theorem vv (I:Inv X pins σ H s) (im:wC X A) (e:H x=some (XN C d0 x))
  (h:∀ T s',H T=none→T≠x→Inv X pins σ (upd (upd H x (XT C d0 T x)) T (TB T)) s'→Q () s') :
  yas M A (noteFrame (.ref x) X.env) (fun _ s'=>yas M A (setFlight (.ref x) none) Q E s') E s:=by
 obtain ⟨t0,hx⟩:=XN.get I.hok e
 have hl:s.heap.FunFrames X.base (X.env::X.outer):=by have:=I.stack;rw [im.st] at this;exact this
 unfold noteFrame
 simp only [im.fr]
 refine yaa (wpAny_field hx rfl (x:=.none) rfl ?_)
 rw [yIn (by decide)]
 refine pL im.af hl im.fr hx rfl (by simp) fun h' T hT h1 h2 h3 h4=>h T _ (I.hok.fresh hT) (fun z => ?_) (I.noted im.st e trivial hT (fun H'=>XT.ok h1) ⟨_,h1⟩ h2 h3 h4)
 exact absurd (zcA hx) (by rw [← z];exact Nat.not_lt.mpr hT)
theorem pA {T0:Addr} (I:Inv X pins σ H s) (im:wC X A) (e:H x=some (XT C d0 T0 x)) (e0:H T0=some (TB T0)) (hne:T0≠x)
  (h:∀ T s',H T=none→T≠x→Inv X pins σ (upd (upd H x (XT C d0 T x)) T (TB T)) s'→Q () s') :
  yas M A (noteFrame (.ref x) X.env) (fun _ s'=>yas M A (setFlight (.ref x) none) Q E s') E s:=by
 obtain ⟨t0,a2,a3,a4,a5,hx⟩:=XT.get I.hok e
 obtain ⟨ob,ts,g1,g2,g3⟩:=TB.get I.hok e0
 have hsz:3<ts.size:=(Array.getElem?_eq_some_iff.mp g3).1
 unfold noteFrame
 simp only [im.fr]
 refine yaa (wpAny_field hx rfl (x:=.ref T0) rfl ?_)
 rw [yIp (show (Value.ref T0 != Value.none)=true from by simp)]
 refine yaa (wpAny_field g1 g2 g3 ?_)
 rw [yIn (by simp [rawInt])]
 refine yaa (wpAny_setField g1 g2 hsz ?_)
 have d3:=Obj.data_mapFields g2 (·.setIfInBounds 3 Value.none)
 have u3:=zaB (Obj.mapFields (·.setIfInBounds 3 Value.none)) g1 (Obj.isFreed_of_fields d3)
 have I1:Inv X pins σ (upd H T0 (TB T0)) { s with heap:=s.heap.update T0 (Obj.mapFields (·.setIfInBounds 3 Value.none)),toks:=s.toks } :=
  I.write (x:=T0) (e:=T0) (by rw [e0];exact True.intro) (.inl rfl) (fun b q hb z=>by rw [zas _ _ (Ne.symm hb)];exact z) ⟨_,u3⟩ (TB.ok u3 d3 (by simp [hsz]))
 have eH:upd H T0 (TB T0)=H:=by
  funext b
  by_cases hb:b=T0
  ·subst hb;rw [au,e0]
  ·rw [av hb]
 rw [eH] at I1
 obtain ⟨t0',b2,b3,b4,b5,hx1⟩:=XT.get I1.hok e
 have hl:(s.heap.update T0 (Obj.mapFields (·.setIfInBounds 3 Value.none))).FunFrames X.base (X.env::X.outer):=by have:=I1.stack;rw [im.st] at this;exact this
 refine pL (s:={ s with heap:=s.heap.update T0 (Obj.mapFields (·.setIfInBounds 3 Value.none)),toks:=s.toks }) im.af hl im.fr hx1 rfl (by simp) fun h' T hT h1 h2 h3 h4=>h T _ (I1.hok.fresh hT) (fun z => ?_) (I1.noted im.st e trivial hT (fun H'=>XT.ok h1) ⟨_,h1⟩ h2 h3 h4)
 exact absurd (zcA hx1) (by rw [← z];exact Nat.not_lt.mpr hT)
end
theorem Inv.re {X:Cx}{pins:List (Addr×Obj)}{σ:St}{H:Hp}{s:yai}{A':yam}{c:Bool}{xe:yaj→yai→Prop} (I:Inv X pins σ H s) (hf:A'.frames=X.A.frames) (hc:c=true→A'.handled=none) :
  Inv { X with A:=A',calm:=c,xe:=xe } pins σ H s :=
 ⟨⟨I.ok.mod,I.ok.kind,I.ok.glob,I.ok.blt,I.ok.above,I.ok.inj,I.ok.has,I.ok.K9,hc,hf.trans I.ok.frames,I.ok.stk,I.ok.Ni,I.ok.bs,I.ok.Di,I.ok.zo,I.ok.CI,I.ok.jK,I.ok.FY⟩,I.os,I.bare,I.base,I.loc,I.cell,I.free,I.eG,I.pin,I.hok,I.len⟩
noncomputable abbrev Cx.at (X:Cx) (e:yaj):Cx:={ X with A:=X.A.mark (some e),calm:=false,xe:=fun _ _=>False }
theorem Inv.into {X:Cx}{pins:List (Addr×Obj)}{σ:St}{H:Hp}{s:yai} (I:Inv X pins σ H s) (e:yaj):Inv (X.at e) pins σ H s:=I.re rfl (fun z=>by cases z)
theorem Inv.LL {X:Cx}{pins:List (Addr×Obj)}{σ:St}{H:Hp}{s:yai}{e:yaj} (I:Inv (X.at e) pins σ H s) (ok:X.Ok):Inv X pins σ H s:=⟨ok,I.os,I.bare,I.base,I.loc,I.cell,I.free,I.eG,I.pin,I.hok,I.len⟩
def yN (P:yak) (w:yal):uI:=fun outer H s E e s'=>∃ H',s'.os=s.os∧AllBare s'.gens∧Un (frs outer) [] H H' s.heap s'.heap∧fW P w H' s'.heap∧E e none H'
section
variable {P:yak}{w:yal}{K:yaM}{mg:Str→Option yaj}{base:Heap}{N:List Str}{qual:Str}{scope:Scope}{f:Addr}{cd:yaj}{A:yam}{outer:List Env}{s s1:yai}{H H1:Hp}{E:XK}
theorem zb {pins:List (Addr×Obj)}{σ:St}{a C:Addr}{d0:Option Addr} (I:Inv (d7 (yN P w) P w K mg base N qual scope f cd A outer s H E) pins σ H1 s1) (e:H1 a=some (XN C d0 a))
  (h:∀ T,H1 T=none→T≠a→E (.ref a) none (upd (upd H1 a (XT C d0 T a)) T (TB T))):(d7 (yN P w) P w K mg base N qual scope f cd A outer s H E).xe (.ref a) s1:=by
 show yas _ _ (leaving _ _) _ _ _
 unfold leaving
 exact yaa (vv I ⟨rfl,rfl,I.ok.frames⟩ e fun T s' hT hne I'=>⟨_,I'.os,I'.bare,I'.base,I'.hok,h T hT hne⟩)
theorem uz.okR {x:Str}{st:Stmt}{fd:yaq}{ps:List Str}{k:Nat}{sp:Sp} (F:uz K x qual st f fd) (S:aE N ps (ai st)) (len:∀ vs H Q E,sp vs H Q E→vs.length=ps.length)
  (hbody:∀ (cdv:yaj) (A:yam) (outer:List Env) (s:yai) (H:Hp) (vs:List V) (Q:VK) (E:XK),aU k (A.deeper (envOfC qual (ai st) s.heap.objs.size f cdv))→sp vs H Q E →
   ∃ t,oO (d7 (yN P w) P w K mg base N qual (ai st) f cdv A outer s H E) (aV st) t∧t { nx:=fun _ H'=>Q .bw H',rt:=Q } (start N vs) H):bW P w K mg base (yN P w) (k+1) f fd ps sp:=by
 obtain ⟨oc,od,kV,doc,pm,an,cdv,ct,osl,rfl,lk,hcd⟩:=F.ex
 exact HC lk hcd S len fun A outer s H vs Q E hr hsp=>hbody cdv A outer s H vs Q E hr hsp
end
structure GR (P:yak) (w:yal) (K:yaM) (mg:Str→Option yaj) (base:Heap) (k:Nat) (x:Str) (ps:List Str) (sp:Sp):Prop where
 ex:∃ f fd,bW P w K mg base (yN P w) k f fd ps sp∧mg x=some (.ref f)∧zcc K (.ref f)=true∧Binds K fd ps []
section
variable {X:Cx}{e:Expr}{te:TE}{pos:Pos}
def Ii (K:yaM) (R:Addr→Addr→Option Addr→Hp→Prop) (te:TE):TS:=fun _ σ H=>te σ H fun v H1=>∃ a C d0,v = .ref a∧H1 a=some (XN C d0 a)∧XCls K C∧R a C d0 H1
theorem BQ {R:Addr→Addr→Option Addr→Hp→Prop} (hc:X.calm=true) (hR:∀ pins σ H s a C d0,Inv X pins σ H s→H a=some (XN C d0 a)→R a C d0 H→X.xe (.ref a) s) (he:PE X e te):PS X (.Raise (some e) none pos) (Ii X.K R te):=by
 intro pins s σ H D I h
 rw [arm_exec_Raise]
 refine yaa (yaz ?_)
 unfold raiseStmt
 simp only [evalOpt,Option.map]
 refine yaa (yaa (bX (he pins s σ H _ I h) fun u s1 ⟨v,H1,I1,r,a,C,d0,ev,ea,ec,q⟩=>yaa (yaz (yab ?_))))
 subst ev
 obtain rfl:u=Value.ref a:=r
 obtain ⟨t0,hx⟩:=XN.get I1.hok ea
 obtain ⟨nm,qq,N,bs,bm,hdct,sn,sub,ab,col,dd,k0,k1,k2,k3,k5,hl,hB,_,_⟩:=qP ec.ex
 have hC:=I1.iV _ _ hl
 have hh:X.A.handled=none:=I1.ok.hd hc
 have hE:=hR pins σ H1 s1 a C d0 I1 ea q
 have L0:=PySem.W.looks_subIn (M:=model X.prog X.w) I1.iV ec.sb
 obtain ⟨hp,g,d,tk,os⟩:=s1
 repeat (first | with_reducible refine yae hx ?_ | with_reducible refine yae hC ?_ | with_reducible refine PySem.W.Looks.at L0 ?_ | wp_step)
 exact wpAny_raiseNew_none hh hE
end
def Jg (K:yaM) (ta tv:TE) (f:Str):TS:=fun D σ H=>tv σ H fun y H1=>ta σ H1 fun x H2=>∃ a C,x = .ref a∧H2 a=some (XN C none a)∧XCls K C∧zcb K (.ref C) f=some none ∧
 ∀ dx,H2 dx=none→D.nx σ (upd (upd H2 a (XN C (some dx) a)) dx (we [(f,y)] dx))
def Io (K:yaM) (t:TA):TE:=fun σ H Q=>t σ H fun vs H1=>∃ x rest C d0,vs = .ref x::rest∧rest.length≤1000∧H1 x=some (XN C d0 x)∧excIn K C=true∧Q .bw H1
section
variable {X:Cx}{pins:List (Addr×Obj)}{σ:St}{H:Hp}{s:yai}
theorem Bg {A:yam}{E:yaj→yai→Prop}{x C:Addr}{f:Str}{y:V}{u:yaj}{Q:Unit→yai→Prop} (I:Inv X pins σ H s) (e:H x=some (XN C none x)) (c:XCls X.K C) (n:zcb X.K (.ref C) f=some none) (ry:RelV y u)
  (h:∀ dx s',H dx=none→Inv X pins σ (upd (upd H x (XN C (some dx) x)) dx (we [(f,y)] dx)) s'→Q () s'):yas (model X.prog X.w) A (setAttr (.ref x) f u) Q E s:=by
 obtain ⟨t0,hx⟩:=XN.get I.hok e
 refine PySem.W.Bf I.iV hx c.sa c.ov n fun h' hn hx' hk=>h s.heap.objs.size _ (I.hok.fresh (zcE _)) ?_
 have hne:s.heap.objs.size≠x:=zct (zcA hx)
 have Iw:Inv X pins σ (upd H x (XN C (some s.heap.objs.size) x)) { s with heap:=h',toks:=s.toks+2 } :=
  I.write (x:=x) (e:=x) (by rw [e];exact True.intro) (.inl rfl) (fun b q hb z=>hk b q hb z) ⟨_,hx'⟩ (XN.ok hx')
 refine Iw.wK (by rw [av hne];exact I.hok.fresh (zcE _)) I.sz (zct I.lt) (fun z cc ez => ?_) (fun p hp => ?_) ?_
 ·obtain ⟨v,o,ho,_⟩:=I.cell z cc ez
  exact zcr (zcA ho)
 ·exact zcr (zcA (I.pin p hp).1)
 ·exact we.ok (by simp) hn (fun g=>BN (fs:=[]) (mA:=fun _=>none) ry fun g=>by trivial) (E6 (fs:=[]) (mA:=fun _=>none) fun g hg=>absurd rfl hg)
end
section
variable {X:Cx}{o e value:Expr}{es:List Expr}{f d:Str}{pos pos' apos p:Pos}{ta tv:TE}{t:TA}{K:yaM}
theorem gE (ha:PE X o ta) (hv:PE X value tv) (hs:yau value (some (.Attribute o f pos')) pos.line X.env=pure false:=by rfl) (hK:X.K=K:=by rfl):PS X (.Assign [.Attribute o f pos'] value pos) (Jg K ta tv f):=by
 subst hK
 intro pins s σ H D I h
 refine plainObj_wpAny_Assign_Attribute (bX (hv pins s σ H _ I h) fun u s1 h1 => ?_) hs
 obtain ⟨y,H1,I1,ry,q⟩:=h1
 refine bX (ha pins s1 σ H1 _ I1 q) fun ov s2 h2 => ?_
 obtain ⟨x,H2,I2,rx,a,C,ex,ea,c,n,q2⟩:=h2
 subst ex
 obtain rfl:ov=Value.ref a:=rx
 exact Bg I2 ea c n ry fun dx s3 nd I3=>⟨σ,_,I3,q2 dx nd⟩
theorem gH {pl:Sem Bool}{B:Addr} (hg:Gl X d) (hm:X.mg d=some (.ref B)) (b:HP X.K B) (ha:PA X (e::es) t) (hdb:(d==("__debug__" : Str))=false:=by decide +kernel)
  (hst:(e::es).all notStar=true:=by rfl)
  (ht:eval (.Call (.Attribute (.Name d p) "__init__" apos) (e::es) [] pos) X.env=(do
   let ov ← eval (.Name d p) X.env
   standAt apos.atName
   let (g0,first) ← holding [ov] (yaF ov "__init__" pl)
   yaB pos g0 first (yav pos (yap (e::es) X.env)) (yaH pos (yaG [] X.env))):=by rfl) (hK:X.K=K:=by rfl) :
  PE X (.Call (.Attribute (.Name d p) "__init__" apos) (e::es) [] pos) (Io K t):=by
 subst hK
 have h2:=hst
 rw [zci,zbH] at h2
 intro pins s σ H Q I h
 refine zaA (pl:=pl) (e7 I hg hm ?_ hdb) ht
 refine PySem.W.method_cls I.iV b.ga (PySem.W.cls_value I.iV b.rd b.fc (by decide +kernel) ?_)
 refine PyProof.Rows.callWith_builtin1 (bX (ha pos pins { s with toks:=s.toks+1 } σ H _ (I.tok _) h) fun us s1 hh => ?_) (bU es X.env h2.1) (cC es h2.2)
 obtain ⟨vs,H1,I1,r1,x,rest,C,d0,ev,hz,ex,ec,q1⟩:=hh
 subst ev
 cases r1 with
 | @cons _ ux _ ur rx rr =>
  obtain rfl:ux=Value.ref x:=rx
  obtain ⟨t0,hx⟩:=XN.get I1.hok ex
  obtain ⟨nm,q,N,bs,bm,hdct,sn,sub,ab,col,dd,k0,k1,k2,k3,k5,hl,hB,_,_⟩:=qP ec
  refine PySem.W.Cq (I1.iV _ _ hl) hB hx (by have:=rr.length;rw [yag];lia) fun h' hx' hk=>⟨.bw,H1,?_,rfl,q1⟩
  have Iw:Inv X pins σ (upd H1 x (XN C d0 x)) { s1 with heap:=h',toks:=s1.toks } :=
   I1.write (x:=x) (e:=x) (by rw [ex];exact True.intro) (.inl rfl) (fun b q hb z=>hk b q hb z) ⟨_,hx'⟩ (XN.ok hx')
  have eH:upd H1 x (XN C d0 x)=H1:=by
   funext b
   by_cases hb:b=x
   ·subst hb;rw [au,ex]
   ·rw [av hb]
  rw [eH] at Iw
  exact Iw
end
section
variable {X:Cx}{C f:Addr}{fd:yaq}{ps:List Str}{k:Nat}{sp:Sp}{ds:List yaj}{dvs:List V}{CX:uI}{E:XK}
theorem y9 {pins:List (Addr×Obj)}{σ:St}{H:Hp}{s:yai}{Q:VK}{us:List yaj}{vs:List V} (M:OY X.K C f) (F:bW X.prog X.w X.K X.mg X.base CX k f fd ps sp) (hr:aU (k+1) X.A) (hb:Binds X.K fd ps ds) (hd:Vals dvs ds)
  (hx:Passes CX X E) (I:Inv X pins σ H s) (r:Vals vs us) (hz:vs.length≤1000)
  (h:∀ x,H x=none→sp (.ref x::(vs++dvs)) (upd H x (XN C none x)) (fun v H2=>v = .bw∧Q (.ref x) H2) E) :
  yas (model X.prog X.w) X.A (call (.ref C) us) (EP X pins σ Q) X.xe s:=by
 have hq:=h (s.heap.objs.size+1) (I.hok.fresh (Nat.le_succ _))
 have kk:∀ b o,s.heap.get? b=some o→((s.heap.push { cls:=.type "tuple",data:=.seq us.toArray }).push (PySem.W.bL C none #[.ref s.heap.objs.size,.none,.none,.none,.bool false,.none])).get? b=some o:=fun b o e=>zar _ (zar _ e)
 have hx0:((s.heap.push { cls:=.type "tuple",data:=.seq us.toArray }).push (PySem.W.bL C none #[.ref s.heap.objs.size,.none,.none,.none,.bool false,.none])).get? (s.heap.objs.size+1)=some (PySem.W.bL C none #[.ref s.heap.objs.size,.none,.none,.none,.bool false,.none]):=by heap_get
 have I2:Inv X pins σ (upd H (s.heap.objs.size+1) (XN C none (s.heap.objs.size+1))) { s with heap:=(s.heap.push { cls:=.type "tuple",data:=.seq us.toArray }).push (PySem.W.bL C none #[.ref s.heap.objs.size,.none,.none,.none,.bool false,.none]),toks:=s.toks } :=
  I.laid kk (Nat.le_succ _) (XN.ok hx0)
 have r2:Vals (V.ref (s.heap.objs.size+1)::(vs++dvs)) (Value.ref (s.heap.objs.size+1)::(us++ds)):=.cons rfl (r.append hd)
 have hl:(Value.ref (s.heap.objs.size+1)::us++ds).length=ps.length:=by
  have e:=r2.length
  rw [F.len _ _ _ _ hq] at e
  exact e.symm
 obtain ⟨nm,q,N,bs,bm,hdct,sn,sub,ab,col,dd,k0,k1,k2,k3,k5,hlk,hB,hA,hN⟩:=qP M.ex
 obtain ⟨hp,g,d,t,os⟩:=s
 refine yaL (PySem.W.Cf (f:=f) (I.iV _ _ hlk) hB hA hN (by have:=r.length;rw [yag];lia) (PySem.W.looks_findIn I.iV M.init) (fun self=>PySem.W.bind_fn I.iV self (beq_iff_eq.mp M.fn)) (yay (F.run _ X.stack _ _ ⟨Value.ref (hp.objs.size+1)::us,[]⟩ (Value.ref (hp.objs.size+1)::(us++ds)) _ _ E (hr.make C us [])
  (I2.CL.make C us []) (hb _ (Value.ref (hp.objs.size+1)::us) I2.iV hl) r2 hq) fun r s' hq' => ?_))
 cases r with
 | error e=>exact hx pins σ _ _ e s' I2 hq'
 | ok fl =>
  cases fl with
  | ret u =>
   obtain ⟨v,H',I3,rv,ev,q3⟩:=I2.after hq'
   subst ev
   exact ⟨rv,⟨V.ref (hp.objs.size+1),H',I3,rfl,q3⟩⟩
  | next=>exact False.elim hq'
  | brk=>exact False.elim hq'
  | cont=>exact False.elim hq'
def Il (C:Addr) (sp:Sp) (t:TA):TE:=fun σ H Q=>t σ H fun vs H1=>vs.length≤1000∧∀ x,H1 x=none→sp (.ref x::(vs++[])) (upd H1 x (XN C none x)) (fun v H2=>v = .bw∧Q (.ref x) H2) E0
theorem BW {x:Str}{e:Expr}{es:List Expr}{t:TA}{p pos:Pos} (D:iO X.prog X.w X.K X.mg X.base k x C ps sp) (hr:aU (k+1) X.A) (hg:Gl X x) (hx:Passes iZ X E0) (ha:PA X (e::es) t) (hdb:(x==("__debug__" : Str))=false:=by decide +kernel) (hs:(e::es).all notStar=true:=by rfl) :
  PE X (.Call (.Name x p) (e::es) [] pos) (Il C sp t):=by
 obtain ⟨⟨f,fd,M,F,hb⟩,hm⟩:=D
 have h2:=hs
 rw [zci,zbH] at h2
 intro pins s σ H Q I h
 refine wpAny_Call_Name_kw (e7 I hg hm ?_ hdb)
 refine zbd (h₀:=X.base) I.ok.mod.Hw M.kp (bX (ha pos pins s σ H _ I h) fun us s1 ⟨vs,H1,I1,r,hz,q⟩=>⟨I1.iV,?_⟩) (bU es X.env h2.1) (cC es h2.2)
 exact y9 (dvs:=[]) M F hr hb .nil hx I1 r hz q
end
structure DX (k:Nat) (A:yam):Prop where
 dp:A.depth+3*k+5<yaA
 un:A.units+16*k+200<cLine
 gd:A.guards=some []
theorem aU.h {k:Nat}{A:yam} (r:aU k A) (e:Option yaj):DX k (A.mark e):=⟨r.dp,r.un,r.gd⟩
structure HX (P:yak) (w:yal) (K:yaM) (mg:Str→Option yaj) (base:Heap) (k:Nat) (f:Addr) (fd:yaq) (ps:List Str) (sp:Sp):Prop where
 len:∀ vs H Q E,sp vs H Q E→vs.length=ps.length
 run:∀ (A:yam) (outer:List Env) (s:yai) (H:Hp) (args:Args) (us:List yaj) (vs:List V) (Q:VK) (E:XK),DX k A→rF P w K mg base A outer s H→yaD s fd args (ps.zip us)→Vals vs us→sp vs H Q E →
  codeAny (model P w) A (.call (.ref f) args) (CR iZ outer P w H s Q E) s
noncomputable def Nk (P:yak) (w:yal) (K:yaM) (mg:Str→Option yaj) (base:Heap) (N:List Str) (qual:Str) (scope:Scope) (f:Addr) (cd:yaj) (A:yam) (outer:List Env) (s:yai) (H:Hp) (E:XK):Cx :=
 { d7 iZ P w K mg base N qual scope f cd { A with handled:=none } outer s H E with A:=A.deeper (envOfC qual scope s.heap.objs.size f cd),calm:=false,xe:=fun _ _=>False }
section
variable {P:yak}{w:yal}{K:yaM}{mg:Str→Option yaj}{base:Heap}
theorem fnH {k:Nat}{x qual:Str}{st:Stmt}{f:Addr}{fd:yaq}{N ps:List Str}{sp:Sp} (F:uz K x qual st f fd) (S:aE N ps (ai st)) (len:∀ vs H Q E,sp vs H Q E→vs.length=ps.length)
  (hbody:∀ (cdv:yaj) (A:yam) (outer:List Env) (s:yai) (H:Hp) (vs:List V) (Q:VK) (E:XK),sp vs H Q E →
   ∃ t,oO (Nk P w K mg base N qual (ai st) f cdv A outer s H E) (aV st) t∧t { nx:=fun _ H'=>Q .bw H',rt:=Q } (start N vs) H):HX P w K mg base (k+1) f fd ps sp:=by
 obtain ⟨oc,od,kV,doc,pm,an,cdv,ct,osl,rfl,lk,hcd⟩:=F.ex
 refine ⟨len,fun A outer s H args us vs Q E hr e0 hb r hsp => ?_⟩
 have hl:=len _ _ _ _ hsp
 have KX:K.In s.heap:=e0.mod.Hw.keeps fun b o e=>(e0.bs b o e).1
 have lim:s.heap.NoLimit:=e0.mod.nolimit.keeps fun b o e=>(e0.bs b o e).1
 have hkind:∀ y∈ps.zip us,(ai st).names.lookup y.1=some .local∨((ai st).names.lookup y.1=some .cell∧((cellsFrom (s.heap.objs.size+1) (ai st).names []).lookup y.1).isSome=true):=fun ⟨n,v⟩ hy=>by
  rcases S.par n (zbQ hy).1 with q | q
  ·exact .inl q
  ·exact .inr ⟨q,zaq _ _ _ (.inl q)⟩
 refine codeAny_call_function (by have:=hr.dp;lia) (KX _ _ lk) rfl S.co S.gen rfl (PySem.W.codeRec_of KX hcd) (hb _ _ _ _ ?_)
 refine wpAny_newFunctionEnv_cells S.kind hkind fun env he s1 x => ?_
 subst he
 refine ⟨lim.keeps x.toInCall.keep,codeAny_func ?_⟩
 obtain ⟨t,ht,hq⟩:=hbody cdv A outer s H vs Q E hsp
 have e1:rF P w K mg base { A with handled:=none } outer s H:=⟨e0.frames,e0.mod,e0.bs,e0.Di,e0.jK,e0.FY,e0.hok,e0.bare⟩
 have I0:Inv (d7 iZ P w K mg base N qual (ai st) f cdv { A with handled:=none } outer s H E) [] (start N vs) H s1:=pF S rfl e1 hl r x
 have I:Inv (Nk P w K mg base N qual (ai st) f cdv A outer s H E) [] (start N vs) H s1:=I0.re (Around.frames_deeper e0.frames |>.trans (Around.frames_deeper (A:={ A with handled:=none }) e0.frames).symm) (fun z=>by cases z)
 refine yac (ht [] s1 (start N vs) H _ I hq) (fun fl s' hs => ?_) fun e s' hs=>False.elim hs
 have fin:∀ {σ':St}{H':Hp}{v:V}{u:yaj},Inv (Nk P w K mg base N qual (ai st) f cdv A outer s H E) [] σ' H' s'→RelV v u→Q v H'→CE outer P w H s Q u s' :=
  fun {σ' H' v u} J rv q=>⟨v,H',J.os,J.bare,J.base,J.hok,rv,q⟩
 cases fl with
 | ret u =>
  obtain ⟨v,σ',H',J,rv,q⟩:=hs
  exact fin J rv q
 | next =>
  obtain ⟨σ',H',J,q⟩:=hs
  exact fin (v:=V.bw) (u:=Value.none) J rfl q
 | brk =>
  obtain ⟨_,_,_,q⟩:=hs
  exact False.elim q
 | cont =>
  obtain ⟨_,_,_,q⟩:=hs
  exact False.elim q
structure GU (P:yak) (w:yal) (K:yaM) (mg:Str→Option yaj) (base:Heap) (k:Nat) (x:Str) (ps:List Str) (sp:Sp):Prop where
 ex:∃ f fd,HX P w K mg base k f fd ps sp∧mg x=some (.ref f)∧zcc K (.ref f)=true∧Binds K fd ps []
theorem Src.OI {x:Str}{st:Stmt}{N ps:List Str}{k:Nat}{sp:Sp} (F:Src K mg x ps st) (S:aE N ps (ai st)) (len:∀ vs H Q E,sp vs H Q E→vs.length=ps.length)
  (hbody:∀ (f:Addr) (cdv:yaj) (A:yam) (outer:List Env) (s:yai) (H:Hp) (vs:List V) (Q:VK) (E:XK),sp vs H Q E →
   ∃ t,J.HS (Nk P w K mg base N x (ai st) f cdv A outer s H E) (aV st) t∧t { nx:=fun _ H'=>Q .bw H',rt:=Q } (start N vs) H):GU P w K mg base (k+1) x ps sp:=by
 obtain ⟨f,fd,F,hm,hb⟩:=F.ex
 refine ⟨f,fd,fnH F S len fun cdv A outer s H vs Q E h => ?_,hm,F.kp,hb⟩
 obtain ⟨t,a,b⟩:=hbody f cdv A outer s H vs Q E h
 exact ⟨t,a.p,b⟩
end
section
variable {X:Cx}{e:Expr}{es:List Expr}{t:TA}{x:Str}{p pos:Pos}{k:Nat}{ps:List Str}{sp:Sp}
theorem E8 (D:GU X.prog X.w X.K X.mg X.base k x ps sp) (hr:DX k X.A) (hg:Gl X x) (ha:PA X (e::es) t) (hdb:(x==("__debug__" : Str))=false:=by decide +kernel) (hs:(e::es).all notStar=true:=by rfl) :
  PE X (.Call (.Name x p) (e::es) [] pos) (wO sp [] E0 t):=by
 obtain ⟨f,fd,F,hm,hk,hb⟩:=D.ex
 have h2:=hs
 rw [zci,zbH] at h2
 intro pins s σ H Q I h
 refine wpAny_Call_Name_kw (e7 I hg hm ?_ hdb)
 refine zbd (h₀:=X.base) I.ok.mod.Hw hk (bX (ha pos pins s σ H _ I h) fun us s1 ⟨vs,H1,I1,r,q⟩=>⟨I1.iV,?_⟩) (bU es X.env h2.1) (cC es h2.2)
 have q:sp vs H1 Q E0:=by
  have q':sp (vs++[]) H1 Q E0:=q
  rw [zbO] at q';exact q'
 have hl:us.length=ps.length:=by rw [← r.length];exact F.len _ _ _ _ q
 have hb1:=hb s1 us I1.iV (by rw [zbO];exact hl)
 rw [zbO] at hb1
 refine yaL (yay (F.run X.A X.stack s1 H1 ⟨us,[]⟩ us vs Q E0 hr I1.CL hb1 r q) fun r s' hq => ?_)
 cases r with
 | error e=>exact False.elim hq
 | ok fl =>
  cases fl with
  | ret u=>exact I1.after hq
  | next=>exact False.elim hq
  | brk=>exact False.elim hq
  | cont=>exact False.elim hq
end
section
variable {M:Model}{A:yam}{E:yaj→yai→Prop}
theorem sM {K:yaM}{h:Heap}{g:Array yax}{d:Drawn}{t:Nat}{os:yaK}{e C B:Addr}{oe:Obj}{Q:Bool→yai→Prop} (X:K.In h) (he:h.get? e=some oe) (hc:oe.cls = .ref C) (hB:excIn K B=true)
  (s1:zck K (.ref B) (.type "BaseException")=some true) (s2:zck K (.ref C) (.ref B)=some true) (hq:Q true ⟨h,g,d,t,os⟩):yas M A (excMatches (.ref e) (.ref B)) Q E ⟨h,g,d,t,os⟩:=by
 obtain ⟨nm,qq,N,bs,bm,hdct,sn,sub,ab,col,dd,k0,k1,k2,k3,k5,hl,_,_,_⟩:=qP hB
 have hC:=X _ _ hl
 have L1:=PySem.W.looks_subIn (M:=M) X s1
 have L2:=PySem.W.looks_subIn (M:=M) X s2
 have f:=tc_notTuple
 unfold excMatches
 repeat (first | (with_reducible refine yae he ?_;rw [hc]) | with_reducible refine yae hC ?_ | with_reducible refine PySem.W.Looks.at L1 ?_ | with_reducible refine PySem.W.Looks.at L2 ?_ | wp_step)
 exact hq
end
section
variable {X:Cx}{pins:List (Addr×Obj)}{σ:St}{H:Hp}{s:yai}
theorem Inv.drop {M:Model}{A:yam}{E:yaj→yai→Prop}{i:Nat}{n:Str}{v:V}{pos:Pos}{Q:Unit→yai→Prop} (I:Inv X pins σ H s) (hN:X.N.Nodup) (hi:X.N[i]? = some n) (hx:X.env.scope.names.lookup n=some .local) (hv:σ[i]? = some (some v))
  (h:∀ s',Inv X pins (σ.set i none) H s'→Q () s'):yas M A (unbindBehindTheSuite X.env n pos) Q E s:=by
 obtain ⟨m,hn,hl⟩:=id I.loc
 obtain ⟨u,ru,lk⟩:=hl i n v hi hv (.inl hx)
 have hm:m n=some u:=by
  rcases lk with ⟨_,z⟩ | ⟨z,_⟩
  ·exact z
  ·have hx':X.env.kindOf n=some .local:=hx
   rw [hx'] at z;rcases z with z | z <;> cases z
 have hcls:(X.env.scope.kind == .class||(X.env.scope.kind == .module&&X.env.locals != X.env.globals))=false:=by rw [I.ok.kind];rfl
 obtain ⟨oL,_,_,hoL,_⟩:=id hn
 unfold unbindBehindTheSuite
 refine wpAny_onRaise (wpAny_unbindName_local hx hn hm hcls fun h' u' hn' hs=>h _ ?_)
 have I0:Inv X pins (σ.set i none) H s:=I.weak (by simp) fun j w' e=>by
  by_cases hj:j=i
  ·subst hj
   rw [zbm] at e
   simp only [if_true] at e
   split at e <;> cases e
  ·rw [zaE (Ne.symm hj)] at e;exact e
 have tracked:fW X.prog X.w H h':=fun b ob e=>by
  refine (I.hok b ob e).stay (fun c w' hc q=>(hs.2 c ?_).trans q) (fun _ q=>q) fun _ _ q=>q
  rintro rfl
  rcases hc with rfl | hc
  ·rw [I.free] at e;cases e
  ·rw [I.free] at hc;cases hc
 refine ⟨I.ok,I.os,I.bare,⟨fun b o e n hb hx => ?_,fun b o e n hb hx => ?_,I.base.free,fun b o e hx => ?_,I.base.tups,I.base.nG,I.base.oz⟩,⟨_,hn',fun j y v' e1 e2 e3 => ?_⟩,fun y c e => ?_,I.free,I.eG,fun p hp => ?_,tracked,by simpa using I.len⟩
 ·exact (hs.2 b (zcr (zaZ (zcA e) I.ok.above))).trans (I.base.keep b o e n hb hx)
 ·obtain ⟨sl,e1⟩:=I.base.slot b o e n hb hx
  exact ⟨sl,(hs.2 b (zcr (zaZ (zcA e) I.ok.above))).trans e1⟩
 ·obtain ⟨o',e1⟩:=I.base.there b o e hx
  exact ⟨o',(hs.2 b (zcr (zaZ (zcA e) I.ok.above))).trans e1⟩
 ·by_cases hj:j=i
  ·subst hj
   rw [zbm] at e2
   simp only [if_true] at e2
   split at e2 <;> cases e2
  ·rw [zaE (Ne.symm hj)] at e2
   obtain ⟨u',r',q⟩:=hl j y v' e1 e2 e3
   refine ⟨u',r',?_⟩
   rcases q with ⟨k,e⟩ | ⟨k,c,e,z⟩
   ·refine .inl ⟨k,?_⟩
    have:y≠n:=fun e=>hj (m9 hN e1 (e ▸ hi))
    simp [this,e]
   ·exact .inr ⟨k,c,e,z.sameBut hs (I.Gk y c e)⟩
 ·obtain ⟨w',z⟩:=I.cell y c e
  exact ⟨w',z.sameBut hs (I.Gk y c e)⟩
 ·obtain ⟨e,n,ne,nf,d⟩:=I.pin p hp
  exact ⟨(hs.2 p.1 ne).trans e,n,ne,nf,d⟩
theorem zN {M:Model}{A:yam}{E:yaj→yai→Prop}{x C T:Addr}{d0:Option Addr}{Q:Unit→yai→Prop} (I:Inv X pins σ H s) (e:H x=some (XT C d0 T x)) (e0:H T=some (TB T))
  (h:∀ s',Inv X pins σ (upd H x (XO C d0 x)) s'→Q () s'):yas M A (setFlight (.ref x) none) Q E s:=by
 obtain ⟨t0,a2,a3,a4,a5,hx⟩:=XT.get I.hok e
 obtain ⟨ob,ts,g1,g2,g3⟩:=TB.get I.hok e0
 have hsz:3<ts.size:=(Array.getElem?_eq_some_iff.mp g3).1
 unfold setFlight
 refine yaa (wpAny_field hx rfl (x:=.ref T) rfl ?_)
 rw [yIp (show (Value.ref T != Value.none)=true from by simp)]
 refine wpAny_setField g1 g2 hsz (h _ ?_)
 have d3:=Obj.data_mapFields g2 (·.setIfInBounds 3 ((none:Option Addr).elim Value.none fun f=>rawInt f))
 have u3:=zaB (Obj.mapFields (·.setIfInBounds 3 ((none:Option Addr).elim Value.none fun f=>rawInt f))) g1 (Obj.isFreed_of_fields d3)
 have I1:Inv X pins σ (upd H T (TB T)) { s with heap:=s.heap.update T (Obj.mapFields (·.setIfInBounds 3 ((none:Option Addr).elim Value.none fun f=>rawInt f))),toks:=s.toks } :=
  I.write (x:=T) (e:=T) (by rw [e0];exact True.intro) (.inl rfl) (fun b q hb z=>by rw [zas _ _ (Ne.symm hb)];exact z) ⟨_,u3⟩ (TB.ok u3 d3 (by simp [hsz]))
 have eH:upd H T (TB T)=H:=by
  funext b
  by_cases hb:b=T
  ·subst hb;rw [au,e0]
  ·rw [av hb]
 rw [eH] at I1
 obtain ⟨t0',b2,b3,b4,b5,hx1⟩:=XT.get I1.hok e
 exact I1.write (x:=x) (e:=x) (by rw [e];exact True.intro) (.inl rfl) (fun b q hb z=>z) ⟨_,hx1⟩ (XO.ok hx1)
end
structure Pk (K:yaM) (B:Addr) (H:Hp) (a C dx T:Addr) (fs:List (Str×V)):Prop where
 x:H a=some (XT C (some dx) T a)
 t:H T=some (TB T)
 d:H dx=some (we fs dx)
 n1:T≠a
 n2:dx≠a
 sb:zck K (.ref C) (.ref B)=some true
def ND (K:yaM) (B:Addr) (i:Nat) (sp:Sp) (t:TA) (u:TS):TS:=fun D σ H=>t σ H fun vs H1=>sp vs H1 (fun _ H2=>D.nx σ H2) fun ev _ H2=>∃ a C dx T fs,ev = .ref a∧Pk K B H2 a C dx T fs ∧
 ∀ H3,H3 a=some (XO C (some dx) a)→(∀ b o,H2 b=some o→b≠a→H3 b=some o)→u { nx:=fun σ' H'=>(∃ v,σ'[i]? = some (some v))∧D.nx (σ'.set i none) H',rt:=fun _ _=>False } (σ.set i (some (.ref a))) H3
section
variable {X:Cx}{e:Expr}{es:List Expr}{t:TA}{x c n:Str}{p p1 p2 p3 p4 pos:Pos}{k i:Nat}{ps:List Str}{sp:Sp}{b₀:Stmt}{suite:List Stmt}{u:TS}{B:Addr}
theorem Jr (hxe:X.xe=fun _ _=>False) (hst:X.stack=X.env::X.outer) (hfr:X.env.frame=some X.env.locals) (Df:GR X.prog X.w X.K X.mg X.base k x ps sp) (hr:aU k X.A) (hg:Gl X x) (ha:PA X (e::es) t)
  (hgc:Gl X c) (hmc:X.mg c=some (.ref B)) (hB:excIn X.K B=true) (sB:zck X.K (.ref B) (.type "BaseException")=some true) (hN:X.N.Nodup) (hi:X.N[i]? = some n) (hx:X.env.scope.names.lookup n=some .local)
  (hu:∀ a:Addr,oO (X.at (.ref a)) (b₀::suite) u) (hs:yau (.Call (.Name x p) (e::es) [] p1) none p2.line X.env=pure false:=by rfl)
  (hdb:(x==("__debug__" : Str))=false:=by decide +kernel) (hdc:(c==("__debug__" : Str))=false:=by decide +kernel) (hss:(e::es).all notStar=true:=by rfl) :
  PS X (.Try [.Expr (.Call (.Name x p) (e::es) [] p1) p2] [.ExceptHandler (some (.Name c p3)) (some n) (b₀::suite) p4] [] [] pos) (ND X.K B i sp t u):=by
 obtain ⟨f,fd,F,hm,hk,hb⟩:=Df.ex
 have h2:=hss
 rw [zci,zbH] at h2
 intro pins s σ H D I h
 have im:wC X X.A:=⟨hst,hfr,by rw [I.ok.frames,hst]⟩
 refine wpAny_Try_except (yaJ (wpAny_Expr_any ?_ I.quiet hs))
 refine wpAny_Call_Name_kw (e7 I hg hm ?_ hdb)
 refine zbd (h₀:=X.base) I.ok.mod.Hw hk (yac (ha p1 pins s σ H _ I h) (fun us s1 ⟨vs,H1,I1,r,q⟩=>⟨I1.iV,?_⟩) (fun _ _ z=>by rw [hxe] at z;exact False.elim z)) (bU es X.env h2.1) (cC es h2.2)
 have hl:us.length=ps.length:=by rw [← r.length];exact F.len _ _ _ _ q
 have hb1:=hb s1 us I1.iV (by rw [zbO];exact hl)
 rw [zbO] at hb1
 refine yaL (yay (F.run X.A X.stack s1 H1 ⟨us,[]⟩ us vs _ _ hr I1.CL hb1 r q) fun r s' hq => ?_)
 cases r with
 | ok fl =>
  cases fl with
  | ret u =>
   obtain ⟨v,H',I2,rv,q2⟩:=I1.after hq
   exact yaI (yaI ⟨σ,H',I2,q2⟩)
  | next=>exact False.elim hq
  | brk=>exact False.elim hq
  | cont=>exact False.elim hq
 | error ev =>
  obtain ⟨H2,ho,hbare,un,hok,a,C,dx,T,fs,eva,R,hu2⟩:=hq
  subst eva
  have I2:Inv X pins σ H2 s':=I1.Dg (ch:=[]) ho un hok hbare (fun b z=>absurd z (by simp))
  refine pA I2 im R.x R.t R.n1 fun T' s3 nT' hT' I3 => ?_
  have aT':a≠T':=Ne.symm hT'
  refine wpAny_handleBy_cons (codeAny_handlers_test (e7 (X:=X.at (.ref a)) (I3.into (.ref a)) hgc hmc ?_ hdc)) (by intro q;cases q)
  have ex3:upd (upd H2 a (XT C (some dx) T' a)) T' (TB T') a=some (XT C (some dx) T' a):=by rw [av aT',au]
  obtain ⟨t0,a2,a3,a4,a5,hx3⟩:=XT.get I3.hok ex3
  obtain ⟨hp,g,d,tk,os⟩:=s3
  refine sM I3.iV hx3 rfl hB sB R.sb ?_
  refine codeAny_handlers_suite_as (zN (I3.into (.ref a)) ex3 au fun s4 I4 => ?_)
  refine gz (X:=X.at (.ref a)) I4 hN hi (.inl hx) (v:=.ref a) rfl (fun s5 I5 => ?_) (.inr hx)
  refine yac (hu a pins s5 _ _ _ I5 (hu2 _ au fun b o eb hba => ?_)) (fun fl s6 hf => ?_) (fun _ _ z=>False.elim z)
  ·rw [av hba,av (aK eb nT'),av hba];exact eb
  ·cases fl with
   | next =>
    obtain ⟨σ',H',I6,⟨v,hv⟩,q6⟩:=hf
    have I6:=I6.LL I.ok
    have hil:i<σ'.length:=(zaf.mp hv).1
    refine yaa (wpAny_bindName (gz I6 hN hi (.inl hx) (v:=.bw) rfl (fun s7 I7 => ?_) (.inr hx)))
    refine I7.drop hN hi hx (v:=.bw) (by rw [List.getElem?_set_self hil]) fun s8 I8 => ?_
    rw [zco] at I8
    exact ⟨_,_,I8,q6⟩
   | ret u=>obtain ⟨_,_,_,_,_,z⟩:=hf;exact False.elim z
   | brk=>obtain ⟨_,_,_,z⟩:=hf;exact False.elim z
   | cont=>obtain ⟨_,_,_,z⟩:=hf;exact False.elim z
end
def i0 (C:Addr) (fn:Str):Sp:=fun vs H Q _=>∃ x v,vs=[.ref x,v]∧H x=some (XN C none x)∧∀ dx,H dx=none→Q .bw (upd (upd H x (XN C (some dx) x)) dx (we [(fn,v)] dx))
theorem bW.x0 {P:yak}{w:yal}{K:yaM}{mg:Str→Option yaj}{base:Heap}{CX:uI}{k:Nat}{f:Addr}{fd:yaq}{ps:List Str}{sp:Sp} (F:bW P w K mg base iZ k f fd ps sp):bW P w K mg base CX k f fd ps sp :=
 ⟨F.len,fun A outer s H args us vs Q E hr e0 hb r h=>yay (F.run A outer s H args us vs Q E hr e0 hb r h) fun r s' q=>by
  cases r with
  | ok fl=>cases fl <;> exact q
  | error e=>exact False.elim q⟩
theorem bW.or {P:yak}{w:yal}{K:yaM}{mg:Str→Option yaj}{base:Heap}{CX:uI}{k:Nat}{f:Addr}{fd:yaq}{ps:List Str}{sp sq:Sp} (F:bW P w K mg base CX k f fd ps sp) (G:bW P w K mg base CX k f fd ps sq):bW P w K mg base CX k f fd ps fun vs H Q E=>sp vs H Q E∨sq vs H Q E :=
 ⟨fun vs H Q E h=>h.elim (F.len vs H Q E) (G.len vs H Q E),fun A outer s H args us vs Q E hr e0 hb r h=>h.elim (F.run A outer s H args us vs Q E hr e0 hb r) (G.run A outer s H args us vs Q E hr e0 hb r)⟩
end L2
namespace M6
open PySem PySem.Spec PyProof.Rows
theorem vQ {α β:Type} (f:α→β):∀ (l:List α) (j:Nat),(l.map f).eraseIdx j=(l.eraseIdx j).map f
 | [],j=>by simp
 | a::l,0=>rfl
 | a::l,j+1=>by rw [zcg,zal,zal,zcg,vQ f l j]
section
variable {prog:yak}{w:yal}{K:Type} [DecidableEq K] {knd:HeapKind prog w K}{A:yam}{E:yaj→yai→Prop}{s:yai}
theorem Az {d a:Addr}{xs:List (K×Addr×yaj)}{k:K}{Q:Option yaw→yai→Prop} (hu:knd.room A) (hkey:knd.is s.heap k a) (hm:s.heap.DictOfH knd d xs) (hsz:xs.length≤yah)
  (hnone:k ∉ xs.map (·.1)→Q none { s with toks:=s.toks+knd.draws k })
  (hsome:∀ (j:Nat) (x:K×Addr×yaj),xs[j]? = some x→x.1=k→∀ h',h'.DictOfH knd d (xs.eraseIdx j)→Heap.SameBut d s.heap h'→Q (some (entryOfKey knd x)) { s with heap:=h',toks:=s.toks+knd.draws k }) :
  yas (model prog w) A (Builtin.Dict.takeOut d (.ref a)) Q E s:=by
 obtain ⟨o,es,ep,ho,hc,hd,he,his,hn⟩:=hm
 unfold Builtin.Dict.takeOut
 try with_reducible refine yad ?_
 refine yaa (knd.pyHash hu hkey (yaa (wpAny_dictFind_heap (s:={ s with toks:=s.toks+knd.draws k }) hu hkey ho hd he his hn ?_ ?_)))
 ·intro hno
  exact yab (hnone (not_mem_keys_of_get hno))
 ·intro j p hj
  refine yaa (wpAny_dictEntries (s:={ s with toks:=s.toks+knd.draws k }) ho hd ?_)
  rw [entry_at he j,hj]
  have hsz2:=size_of_entries he
  refine yaa (wpAny_updateDictKeys (hz:=by lia) (s:={ s with toks:=s.toks+knd.draws k }) ho hd (yab (hsome j (k,p) hj rfl _ ⟨_,_,ep+1,zaB _ ho (Obj.isFreed_of_dict (Obj.data_mapDictKeys hd _)),
   hc.mapDictKeys _,Obj.data_mapDictKeys hd _,?_,?_,?_⟩ (Heap.SameBut.update ..))))
  ·have hjl:j<es.size:=by
    have:=(zaf.mp hj).1
    lia
   obtain ⟨l⟩:=es
   have he:l=xs.map (entryOfKey knd):=he
   simp only [Array.eraseIdxIfInBounds,hjl,dif_pos]
   simp [he,vQ]
  ·intro x hx
   exact knd.keeps (his x (List.mem_of_mem_eraseIdx hx)) ho hd (Heap.SameBut.update ..)
  ·exact hn.sublist ((List.eraseIdx_sublist xs j).map _)
end
section
variable {prog:yak}{w:yal}{A:yam}{E:yaj→yai→Prop}{s:yai}
theorem Oe {K:Type} [DecidableEq K] {knd:HeapKind prog w K}{d a:Addr}{xs:List (K×Addr×yaj)}{k:K}{dflt:yaj}{Q:yaj→yai→Prop} (hu:∀ A':yam,A'.units≤A.units+2→knd.room A') (hdm:(d==yat)=false) (hkey:knd.is s.heap k a) (hm:s.heap.DictOfH knd d xs) (hsz:xs.length≤yah)
  (hnone:k ∉ xs.map (·.1)→∀ t,Q dflt { s with toks:=t })
  (hsome:∀ (j:Nat) (x:K×Addr×yaj),xs[j]? = some x→x.1=k→∀ h' t,h'.DictOfH knd d (xs.eraseIdx j)→Heap.SameBut d s.heap h'→Q x.2.2 { s with heap:=h',toks:=t }) :
  yas (model prog w) A (call (.builtin "dict.pop") [.ref d,.ref a,dflt]) Q E s:=by
 refine wpAny_call_entry PySem.F.slot_dict_pop hm.typeIs PySem.F.entry_dict_pop ?_ (PySem.F.args_dict_pop_3 _ _ _)
 unfold Builtin.«dict.pop»
 refine yaa ?_
 unfold Builtin.Dict.keyAndDefault
 refine yaa (wpAny_notOrdered_dict hm.typeIs ?_)
 show yas _ _ (pure (d,Value.ref a,some dflt)) _ _ s
 refine yab ?_
 obtain ⟨o,es,ep,ho,hc,hd,he,his,hn⟩:=id hm
 simp only [show (keyPart (Value.ref a)).isSome=false from rfl,zbc,if_false]
 refine yaa (wpAny_dictEntries ho hd (yaa (yab ?_)))
 cases hz:es.isEmpty with
 | true =>
  have hx:xs=[]:=by
   have:=size_of_entries he
   have h0:es.size=0:=by simpa using hz
   exact List.length_eq_zero_iff.mp (by lia)
  refine yaa (wpAny_rule (yaa (yab ?_)))
  refine yaa (wpAny_missedRemoval_other hdm ?_)
  exact yaa (wpAny_rule (yab ⟨dflt,rfl,hnone (by rw [hx];simp) _⟩))
 | false =>
  simp only [zbc,if_false]
  refine yaa (Az (hu _ (by show _+1≤_;lia)) hkey hm hsz (fun hno => ?_) fun j x hj hx h' dd sb => ?_)
  ·simp only [Option.isNone_none,if_true]
   refine yaa (wpAny_missedRemoval_other hdm ?_)
   exact yaa (wpAny_rule (yab ⟨dflt,rfl,hnone hno _⟩))
  ·simp only [Option.isNone_some,zbc,if_false]
   exact yaa (wpAny_letGo (yab ⟨x.2.2,rfl,hsome j x hj hx h' _ dd sb⟩))
end
end M6
namespace L2
open PySem PySem.Spec PyProof.Rows M6
noncomputable def kU (xs:List (yan×Addr)) (d:yan):List (yan×Addr):=xs.filter fun x=>decide (x.1≠d)
theorem nI {κ α:Type} [DecidableEq κ] (f:α→κ):∀ (xs:List α) (j:Nat) (x:α),xs[j]? = some x→(xs.map f).Nodup→xs.eraseIdx j=xs.filter fun y=>decide (f y≠f x)
 | [],j,x,h,_=>by simp at h
 | a::xs,0,x,h,hn=>by
  have h:a=x:=by simpa using h
  subst h
  rw [zcg,zbP] at hn
  rw [List.eraseIdx_cons_zero,zam (by simp)]
  refine (zaN.mpr fun y hy=>yDt (show f y≠f a from fun z=>hn.1 ?_)).symm
  rw [← z];exact zcq.mpr ⟨y,hy,rfl⟩
 | a::xs,j+1,x,h,hn=>by
  have h:xs[j]? = some x:=by simpa using h
  rw [zcg,zbP] at hn
  rw [zal,zan,nI f xs j x h hn.2]
  exact yDt (show f a≠f x from fun z=>hn.1 (by rw [z];exact zcq.mpr ⟨x,zaF h,rfl⟩))
section
variable {X:Cx}{pins:List (Addr×Obj)}{σ:St}{H:Hp}{s:yai}{A:yam}{E:yaj→yai→Prop}
theorem LX {a b:Addr}{xs:List (yan×Addr)}{d:yan}{r:yaj}{Q:yaj→yai→Prop} (hu:A.units+20<cLine) (I:Inv X pins σ H s) (e:H a=some (.ext (iA X.w a xs))) (hk:nZ X.K H xs) (h1:b7 d=true) (h2:d.depth≤6) (h3:bB X.K H d (.ref b)) (hl:xs.length<1000)
  (h:∀ u s',(u=Value.bool true∨u=r)→Inv X pins σ (upd H a (.ext (iA X.w a (kU xs d)))) s'→Q u s'):yas (model X.prog X.w) A (call (.builtin "dict.pop") [.ref a,.ref b,r]) Q E s:=by
 obtain ⟨⟨z,o,es,ep,ho,hx,hd,hes,hn⟩,_,_⟩:=(show aW X.prog X.w H s.heap a (.ext (iA X.w a xs)) from I.hok a _ e)
 have dd:Heap.DictOfH (fN X.prog X.w) s.heap a (xs.map fun x=>(x.1,x.2,Value.bool true)):=by
  refine ⟨o,es,ep,ho,hx,hd,?_,fun x hx' => ?_,?_⟩
  ·rw [hes,zcp];rfl
  ·obtain ⟨y,hy,rfl⟩:=zcq.mp hx'
   obtain ⟨k1,k2,k3⟩:=hk y hy
   exact I.key k1 k2 k3
  ·rw [zcp];exact hn
 refine Oe (knd:=fN X.prog X.w) (fun A' hA=>show A'.units+10<cLine by lia) z (I.key h1 h2 h3) dd (by rw [zbN,yag];lia) (fun hno t => ?_) fun j x hj hx h' t dd' hs => ?_
 ·have ed:kU xs d=xs:=zaN.mpr fun y hy=>yDt (show y.1≠d from fun q=>hno (by rw [zcp];exact zcq.mpr ⟨y,hy,q⟩))
  refine h r _ (.inr rfl) ?_
  rw [ed,M.Av e]
  exact I.tok t
 ·rw [zbi] at hj
  obtain ⟨y,hy,rfl⟩:∃ y,xs[j]? = some y∧x=(y.1,y.2,Value.bool true):=by
   cases q:xs[j]? with
   | none=>rw [q] at hj;cases hj
   | some y=>rw [q] at hj;exact ⟨y,rfl,by simpa using hj.symm⟩
  have hx:y.1=d:=hx
  subst hx
  refine h _ _ (.inl rfl) ?_
  have ed:(xs.map fun x=>(x.1,x.2,Value.bool true)).eraseIdx j=(kU xs y.1).map fun x=>(x.1,x.2,Value.bool true):=by
   rw [vQ,nI (fun x:yan×Addr=>x.1) xs j y hy hn];rfl
  rw [ed] at dd'
  obtain ⟨q,es',ep',hq,x1,x2,x3,_,x5⟩:=dd'
  have nn:iA X.w a (kU xs y.1) h':=⟨z,q,es',ep',hq,x1,x2,by rw [x3,zcp];rfl,by rw [zcp] at x5;exact x5⟩
  exact iF I (by rw [e];exact True.intro) hs ⟨q,hq⟩ nn.ok
end
def GZ (K:yaM) (W:yal) (td ty tx:TE):TE:=fun σ H Q=>td σ H fun x H1=>∃ (a a':Addr) (xs0:List (yan×Addr)),x = .ref a∧H1 a=some (.ext (iA W a' xs0))∧ty σ H1 fun y H2=>tx σ H2 fun z H3 =>
 ∃ (a2 b:Addr) (xs:List (yan×Addr)) (d:yan),y = .ref b∧H3 a=some (.ext (iA W a2 xs))∧nZ K H3 xs∧b7 d=true∧d.depth≤6∧bB K H3 d (.ref b)∧xs.length<1000∧∀ v,(v = .bl true∨v=z)→a2=a→Q v (upd H3 a (.ext (iA W a (kU xs d))))
section
variable {X:Cx}{o e f:Expr}{apos cpos:Pos}{td ty tx:TE}
theorem jB (hu:X.A.units+20<cLine) (ho:PE X o td) (he:PE X e ty) (hf:PE X f tx) (m:M2 X o "pop" apos e f cpos):PE X (.Call (.Attribute o "pop" apos) [e,f] [] cpos) (GZ X.K X.w td ty tx):=by
 intro pins s σ H Q I h
 refine wpAny_Call_method m.base m.few m.line PySem.F.plainAttrs_dict PySem.F.slot_dict_pop PySem.F.type_dict_pop (bX (ho pins s σ H _ I h) fun u s1 ⟨x,H1,I1,rx,a,a',xs0,ex,d,q1⟩ => ?_)
 subst ex
 obtain rfl:u=Value.ref a:=rx
 have ob:=(show aW X.prog X.w H1 s1.heap a (.ext (iA X.w a' xs0)) from I1.hok a _ d)
 obtain rfl:=iC ob
 obtain ⟨⟨_,o,es,ep,ho',hx,hd,hes,hn⟩,_,_⟩:=ob
 refine ⟨⟨o,ho',hx.1⟩,fun b q => ?_,?_⟩
 ·cases q
  exact ⟨o,ho',hx.2.1⟩
 rw [m.trees]
 refine zat rfl (Calls.evalArgs_plain (zbf (bX (he pins s1 σ H1 _ I1 q1) fun iv s2 ⟨y,H2,I2,ry,q2⟩ =>
  zbf (bX (hf pins s2 σ H2 _ I2 q2) fun fv s3 ⟨z,H3,I3,rz,a2,b,xs,d,ey,ea,k1,k2,k3,k4,k5,q3⟩=>Calls.spliced_nil ?_))))
 subst ey
 obtain rfl:iv=Value.ref b:=ry
 obtain rfl:=iC (show aW X.prog X.w H3 s3.heap a' (.ext (iA X.w a2 xs)) from I3.hok a' _ ea)
 refine LX hu I3 ea k1 k2 k3 k4 k5 fun u s4 hv I4 => ?_
 rcases hv with rfl | rfl
 ·exact ⟨.bl true,_,I4,rfl,q3 _ (.inl rfl) rfl⟩
 ·exact ⟨z,_,I4,rz,q3 _ (.inr rfl) rfl⟩
end
end L2
namespace M
open PySem PySem.Spec PyProof.Rows L2 M6
noncomputable def jM (ks:List D) (k:D):List D:=ks.filter fun j=>decide (py j≠py k)
section
variable {K:yaM}
def DC (W:yal) (a b c:AE):AE:=fun δ S Q=>a δ S fun r1 S1=>∃ n ks0,r1.d = .loc n∧S1[n]? = some (some (nO W ks0))∧b δ S1 fun r2 S2=>c δ S2 fun r3 S3 =>
 ∃ ks,S3[n]? = some (some (nO W ks))∧fk r2.d∧(∀ k∈ks,fk k)∧ks.length<1000∧∀ d,(d = .bl true∨d=r3.d)→Q (.dat d) (S3.set n (some (nO W (jM ks r2.d))))
theorem pO {w:Wd}{k:D}:∀ {ks:List D}{bs:List Addr},az K w ks (bs.map V.ref)→∃ bs',kU ((ks.map py).zip bs) (py k)=((jM ks k).map py).zip bs'∧az K w (jM ks k) (bs'.map V.ref)
 | [],bs,h=>⟨[],by simp [kU,jM],.nil⟩
 | j::ks,[],h=>by simp only [zcm,az] at h;obtain ⟨_,_,z,_⟩:=h;cases z
 | j::ks,b::bs,h=>by
  simp only [zcg,az] at h
  obtain ⟨x,r,e,h1,h2⟩:=h
  injection e with e1 e2
  subst e1;subst e2
  obtain ⟨bs',g1,g2⟩:=pO (k:=k) h2
  unfold kU at g1 ⊢
  unfold jM at g1 g2 ⊢
  rw [zcg,zaV,zbz,zbz]
  by_cases hc:py j=py k
  ·rw [yIn (by simp [hc]),yIn (by simp [hc])]
   exact ⟨bs',g1,g2⟩
  ·rw [yIp (by simp [hc]),yIp (by simp [hc]),g1]
   exact ⟨b::bs',by rw [zcg,zaV],.cons h1 g2⟩
theorem IM {W:yal}{a b c:AE}:∀ σ H Q,bF K (DC W a b c) σ H Q→GZ K W (bF K a) (bF K b) (bF K c) σ H Q:=by
 rintro σ H Q ⟨w,δ,S,Qa,ok,env,q,bk⟩
 refine ⟨w,δ,S,_,ok,env,q,.go fun r1 S1 v1 w1 H1 le1 ok1 rep1 ⟨n,ks0,z1,z2,q1⟩ => ?_⟩
 rw [z1] at rep1
 have rep1':=rep1
 simp only [Rep] at rep1'
 obtain ⟨a,h0,rfl⟩:=rep1'
 obtain ⟨a1,u,k1,k2,k3,a',bs,rfl,k5⟩:=ok1.live n _ z2
 rw [h0] at k1;cases k1
 refine ⟨a,a',_,rfl,k3,?_⟩
 refine ⟨w1,δ,S1,_,ok1,env.le le1,q1,.go fun r2 S2 v2 w2 H2 le2 ok2 rep2 q2 => ?_⟩
 refine ⟨w2,δ,S2,_,ok2,(env.le le1).le le2,q2,.go fun r3 S3 v3 w3 H3 le3 lq rep3 ⟨ks,z3,g1,g2,hl,q3⟩ => ?_⟩
 have h0':w3.r n=some a:=(le2.trans le3).r _ _ h0
 obtain ⟨a4,u,m1,m2,m3,a'',bs',rfl,m5⟩:=lq.live n _ z3
 rw [h0'] at m1;cases m1
 obtain ⟨b,rfl,hb⟩:=jH lq (rep2.le le3) g1
 have hlen:ks.length=bs'.length:=by have:=m5.length;rw [zbN] at this;exact this.symm
 refine ⟨a'',b,_,py r2.d,rfl,m3,gQ lq m5 g2,g1.2.1,g1.2.2.1,hb,by rw [List.length_zip,zbN];lia,fun v hv e => ?_⟩
 subst e
 obtain ⟨bs2,e1,e2⟩:=pO (k:=r2.d) m5
 rw [e1]
 have ok4:=lq.put z3 h0' (o':=nO W (jM ks r2.d)) ⟨a'',bs2,rfl,e2⟩
 rcases hv with rfl | rfl
 ·exact bk.dat ((le1.trans le2).trans le3) ok4 (.bl (b:=true)) (q3 _ (.inl rfl))
 ·exact bk.dat ((le1.trans le2).trans le3) ok4 rep3 (q3 _ (.inr rfl))
noncomputable def tG (ks:List Key) (ds:List D) (k:Key):MO:=.dct (ks.filter fun j=>decide (j≠k)) (((ks.zip ds).filter fun p=>decide (p.1≠k)).map (·.2))
def DG (a b:AE):AE:=fun δ S Q=>a δ S fun r1 S1=>∃ n ks0 ds0,r1.d = .loc n∧S1[n]? = some (some (.dct ks0 ds0))∧b δ S1 fun r2 S2=>∃ ks ds k d,S2[n]? = some (some (.dct ks ds))∧keyOf r2.d=some k∧kF ks ds k=some d∧Q (.dat d) (S2.set n (some (tG ks ds k)))
theorem tu {w:Wd}{k:Key}:∀ {kvs:List (Key×V)}{ds:List D},az K w ds (kvs.map (·.2))→az K w ((((kvs.map (·.1)).zip ds).filter fun p=>decide (p.1≠k)).map (·.2)) ((kT kvs k).map (·.2))∧(kT kvs k).map (·.1)=(kvs.map (·.1)).filter fun j=>decide (j≠k)
 | [],ds,h=>⟨.nil,rfl⟩
 | (j,u)::r,ds,h=>by
  cases ds with
  | nil=>simp only [zcg,az] at h;cases h
  | cons x ds =>
   simp only [zcg,az] at h
   obtain ⟨x',r',e',h1,h2⟩:=h
   injection e' with e1 e2
   subst e1;subst e2
   obtain ⟨g1,g2⟩:=tu (k:=k) h2
   unfold kT at g1 g2 ⊢
   simp only [zcg,zaV]
   rw [zbz,zbz,zbz]
   by_cases hj:j=k
   ·rw [yIn (by simp [hj]),yIn (by simp [hj]),yIn (by simp [hj])]
    exact ⟨g1,g2⟩
   ·rw [yIp (by simp [hj]),yIp (by simp [hj]),yIp (by simp [hj])]
    refine ⟨.cons h1 g1,?_⟩
    rw [zcg,g2]
theorem Ja {a b:AE}:∀ σ H Q,bF K (DG a b) σ H Q→AJ (bF K a) (bF K b) σ H Q:=by
 rintro σ H Q ⟨w,δ,S,Qa,ok,env,q,bk⟩
 refine ⟨w,δ,S,_,ok,env,q,.go fun r1 S1 v1 w1 H1 le1 ok1 rep1 ⟨n,ks0,ds0,z1,z2,q1⟩ => ?_⟩
 rw [z1] at rep1
 obtain ⟨a,kvs0,rfl,h0,h1,_,_⟩:=vS ok1 rep1 z2
 refine ⟨a,rfl,.inl ⟨_,.inl h1⟩,?_⟩
 refine ⟨w1,δ,S1,_,ok1,env.le le1,q1,.go fun r2 S2 v2 w2 H2 le2 ok2 rep2 ⟨ks,ds,k,d,z3,z4,z5,q2⟩ => ?_⟩
 obtain ⟨a',kvs,e,g0,g1,rfl,g3⟩:=vS ok2 (rep1.le le2) z3
 cases e
 obtain ⟨v,m1,m2⟩:=qN g3 z5
 obtain ⟨p1,p2⟩:=tu (k:=k) g3
 refine ⟨kvs,k,v,g1,lH rep2 z4,m1,?_⟩
 exact bk.dat (le1.trans le2) (ok2.put z3 g0 (o':=tG (kvs.map (·.1)) ds k) ⟨_,rfl,p2,p1⟩) m2 q2
end
section
variable {X:Cx}{o e f:Expr}{apos cpos:Pos}{k:Nat}
theorem jB {ta tb tc:AE} (hr:aU k X.A) (ho:GE X o ta) (he:GE X e tb) (hf:GE X f tc) (m:M2 X o "pop" apos e f cpos):GE X (.Call (.Attribute o "pop" apos) [e,f] [] cpos) (DC X.w ta tb tc) :=
 ⟨mE (L2.jB (by have:=hr.units;lia) ho.p he.p hf.p m) IM⟩
theorem xN {ta tb:AE} (ho:GE X o ta) (he:GE X e tb) (m:M1 X o "pop" apos e cpos):GE X (.Call (.Attribute o "pop" apos) [e] [] cpos) (DG ta tb) :=
 ⟨mE (L2.BX ho.p he.p m) Ja⟩
end
end M
namespace M6
open PySem PySem.Spec PyProof.Rows
mutual
theorem o7 {h:Heap}:∀ (x y:yan) {u:yaj}{as bs:List Addr},b7 x=true→b7 y=true→Reads h u x as→Reads h u y bs→x=y
 | .int i,y,u,as,bs,hx,hy,r1,r2=>by cases r1;cases r2;rfl
 | .str i,y,u,as,bs,hx,hy,r1,r2=>by cases r1;cases r2;rfl
 | .tuple xs,y,u,as,bs,hx,hy,r1,r2=>by
  cases r1 with
  | @tuple _ o vs n _ _ ho hc hd ha =>
   cases r2 with
   | @tuple _ o2 vs2 n2 ys _ ho2 hc2 hd2 ha2 =>
    rw [ho] at ho2;cases ho2
    rw [hd] at hd2;cases hd2
    rw [mH xs ys hx hy ha ha2]
   | list _ _ _ _=>simp [b7] at hy
   | dict _ _ _ _ _=>simp [b7] at hy
 | .none,_,_,_,_,hx,_,_,_=>by simp [b7] at hx
 | .bool _,_,_,_,_,hx,_,_,_=>by simp [b7] at hx
 | .list _,_,_,_,_,hx,_,_,_=>by simp [b7] at hx
 | .dict _,_,_,_,_,hx,_,_,_=>by simp [b7] at hx
theorem mH {h:Heap}:∀ (xs ys:List yan) {us:List yaj}{as bs:List Addr},dU xs=true→dU ys=true→ReadsAll h us xs as→ReadsAll h us ys bs→xs=ys
 | [],ys,us,as,bs,hx,hy,r1,r2=>by cases r1;cases r2;rfl
 | x::xs,ys,us,as,bs,hx,hy,r1,r2=>by
  cases r1 with
  | cons a1 a2 =>
   cases r2 with
   | cons b1 b2 =>
    simp only [dU,zbH] at hx hy
    rw [o7 x _ hx.1 hy.1 a1 b1,mH xs _ hx.2 hy.2 a2 b2]
end
section
variable {prog:yak}{w:yal}{A:yam}{E:yaj→yai→Prop}{s:yai}
noncomputable def jw (ks:List (yan×Addr)) (d:yan):Nat:=ks.countP fun z=>eF z.1 d
theorem su {ks:List (yan×Addr)} (hc:∀ k∈ks,∀ l∈ks,aO k.1 l.1=true) {x y:yan×Addr} (hx:x∈ks) (hy:y∈ks):(jw ks x.1<jw ks y.1)↔eF x.1 y.1=true:=by
 constructor
 ·intro h
  by_cases c:eF x.1 y.1=true
  ·exact c
  ·exfalso
   have:jw ks y.1≤jw ks x.1:=M10.C8 fun z hz h1=>by
    by_cases d:eF z.1 x.1=true
    ·exact d
    ·exfalso
     by_cases e:x.1=z.1
     ·rw [← e] at h1;exact c h1
     ·rcases qH x.1 z.1 (hc x hx z hz) e with g | g
      ·exact c (sO _ _ _ (hc x hx z hz) (hc z hz y hy) (hc x hx y hy) g h1)
      ·exact d g
   lia
 ·intro h
  exact M10.C7 (y:=x) (fun z hz h1=>sO _ _ _ (hc z hz x hx) (hc x hx y hy) (hc z hz y hy) h1 h) hx (vF _) h
noncomputable def HG (ks:List (yan×Addr)):yaj→yan
 | .ref a=>match ks.find? fun k=>decide (k.2=a) with
  | some k=>k.1
  | none=>.none
 | _=>.none
theorem jN {h:Heap}{ks:List (yan×Addr)} (hk:∀ k∈ks,isKey h k.1 k.2) {k:yan×Addr} (m:k∈ks):HG ks (.ref k.2)=k.1:=by
 show (match ks.find? fun j=>decide (j.2=k.2) with | some k=>k.1 | none=>PyData.none)=k.1
 cases e:ks.find? fun j=>decide (j.2=k.2) with
 | none=>exact absurd (yDt rfl) (List.find?_eq_none.mp e k m)
 | some j =>
  have h1:=List.mem_of_find?_eq_some e
  have h2:j.2=k.2:=of_decide_eq_true (by simpa using List.find?_some e)
  obtain ⟨a1,_,as,a3⟩:=hk j h1
  obtain ⟨b1,_,bs,b3⟩:=hk k m
  rw [h2] at a3
  exact o7 j.1 k.1 a1 b1 a3 b3
noncomputable def RK (ks:List (yan×Addr)) (p:Keyed):Int:=jw ks (HG ks p.1)
def TK (ks:List (yan×Addr)) (p:Keyed):Prop:=∃ k∈ks,p.1 = .ref k.2
theorem C9 {ks:List (yan×Addr)} (hk:∀ k∈ks,kc s.heap k) (hc:∀ k∈ks,∀ l∈ks,aO k.1 l.1=true) (hu:A.units+6<cLine):M10.uB prog w A s (tuples' true) (RK ks) (TK ks):=by
 rintro ⟨x,x'⟩ ⟨y,y'⟩ ⟨k,mk,ek⟩ ⟨l,ml,el⟩ E Q h
 have ek:x = .ref k.2:=ek
 have el:y = .ref l.2:=el
 subst ek;subst el
 obtain ⟨i,hi,ei⟩:=zaM mk
 obtain ⟨j,hj,ej⟩:=zaM ml
 have d1:=jN (fun k hk'=>(hk k hk').1) mk
 have d2:=jN (fun k hk'=>(hk k hk').1) ml
 have e:decide (RK ks (Value.ref k.2,x')<RK ks (Value.ref l.2,y'))=eF k.1 l.1:=by
  have:=su hc mk ml
  have e1:RK ks (Value.ref k.2,x')=((jw ks k.1:Nat):Int):=by unfold RK;rw [d1]
  have e2:RK ks (Value.ref l.2,y')=((jw ks l.1:Nat):Int):=by unfold RK;rw [d2]
  rw [e1,e2]
  cases g:eF k.1 l.1 with
  | true=>rw [g] at this;exact yDt (by have:=this.mpr rfl;lia)
  | false=>exact yDf fun z=>by have:=this.mp (by lia);rw [g] at this;cases this
 rw [e] at h
 have q:=Ds (prog:=prog) (w:=w) (A:=A) (s:=s) hk hc hu i j Q hi hj (by rw [ei,ej];exact h)
 unfold W.kas_ask at q
 have g:∀ n (hn:n<ks.length),(ks.map fun k=>Value.ref k.2).getD n Value.none = .ref ks[n].2:=fun n hn=>by simp [zcK,hn]
 rw [g i hi,g j hj,ei,ej] at q
 exact yac q (fun _ _ z=>z) (fun _ _ z=>z.elim)
theorem rU {d:Addr}{ks:List (yan×Addr)}{R:yai→Prop}{Q:yaj→yai→Prop} (hh:A.handled=none) (hk:∀ k∈ks,kc s.heap k) (hc:∀ k∈ks,∀ l∈ks,aO k.1 l.1=true) (h64:ks.length≤1000) (hu:A.units+20<cLine)
  (col:∀ {A':yam}{Q':List yaj→yai→Prop}{E':yaj→yai→Prop},A'.handled=none→(∀ s1 (ord:List (yan×Addr)),(∀ b o,s.heap.get? b=some o→s1.heap.get? b=some o)→R s1→ord.Perm ks→Q' (ord.map fun k=>Value.ref k.2) s1)→yas (model prog w) A' (collect (.ref d)) Q' E' s)
  (h:∀ (s1:yai) (h2:Heap) (out:List (yan×Addr)) (c:Nat),R s1→(∀ b o,s.heap.get? b=some o→s1.heap.get? b=some o)→(∀ b o,s1.heap.get? b=some o→h2.get? b=some o)→h2.get? s1.heap.objs.size=some (seqObj "list" (out.map fun k=>Value.ref k.2).toArray c)→out.Perm ks→out.Pairwise (fun x y=>eF y.1 x.1=false)→Q (.ref s1.heap.objs.size) { s1 with heap:=h2 }) :
  yas (model prog w) A (call (.builtin "sorted") [.ref d]) Q E s:=by
 refine zaj kind_sorted plain_sorted entry_sorted (args_sorted1 _) ?_
 unfold Builtin.«sorted»
 refine yaa (m:=checkCount "sorted" 1 1 _) (yab ?_)
 refine yaa (col ?_ fun s1 ord kp hR hp0 => ?_)
 ·exact hh
 have hol:ord.length=ks.length:=hp0.length_eq
 generalize hvs:(ord.map fun k=>Value.ref k.2)=vs
 have hvl:vs.length=ord.length:=by rw [← hvs,zbN]
 refine yaa (wpAny_newList ?_ (by first | (rw [yag];lia) | (rw [zbg,yag];lia)))
 have gL:(s1.heap.push (seqObj "list" vs.toArray 0)).get? s1.heap.objs.size=some (seqObj "list" vs.toArray 0):=zaR _ rfl
 have hk':∀ k∈ord,kc (dX (s1.heap.push (seqObj "list" vs.toArray 0)) s1.heap.objs.size vs) k:=fun k hk1=>by
  obtain ⟨⟨k1,k2,as,hr⟩,r⟩:=hk k (hp0.mem_iff.mp hk1)
  exact ⟨⟨k1,k2,as,o6 gL (fun z=>by injection z with z;exact absurd z (by decide)) (fun c o hc1 e=>zC hc1 e) _ k1 (Reads.keeps (fun b o e=>zar _ (kp b o e)) hr)⟩,r⟩
 have hc':∀ k∈ord,∀ l∈ord,aO k.1 l.1=true:=fun k h1 l h2=>hc k (hp0.mem_iff.mp h1) l (hp0.mem_iff.mp h2)
 have key:∀ (A':yam),A'.units+8<cLine→∀ {P:PySem.Fin→yai→Prop}{E':yaj→yai→Prop},(∀ out:Array yaj,out.toList.Perm vs→out.toList.Pairwise (fun x y=>RK ord (x,x)≤RK ord (y,y))→P (.done (.ret .none)) { s1 with heap:=sortedHeap (s1.heap.push (seqObj "list" vs.toArray 0)) s1.heap.objs.size vs out }) →
   yas (model prog w) A' (Builtin.«list.sort» ⟨[.ref s1.heap.objs.size],[]⟩) P E' { s1 with heap:=s1.heap.push (seqObj "list" vs.toArray 0) }:=fun A' hA P E' hP=>by
  refine M10.vG (s:={ s1 with heap:=s1.heap.push (seqObj "list" vs.toArray 0) }) (R:=RK ord) (T:=TK ord) gL (by rw [yag];lia) (fun h2=>⟨tuples' true,fun Q' hQ' => ?_,C9 hk' hc' (by lia)⟩) (fun v hv => ?_) hP
  ·obtain ⟨fs,f1,f2,f3⟩:=pC hk'
   rw [hvs] at f1
   refine W.kat_kind (T:=.type "str") f1 (by lia) (fun v hv => ?_) (by decide) hQ'
   obtain ⟨i,t,rfl⟩:=f3 v hv
   intro A2 Q2 E2 s2 _ q
   exact wpAny_typeOf (typeIs_str s2 i t) q
  ·rw [← hvs] at hv
   obtain ⟨k,mk,rfl⟩:=zcq.mp hv
   exact ⟨k,mk,rfl⟩
 refine yaa (yad (wpAny_call_entry slot_list_sort ⟨_,gL,rfl⟩ entry_list_sort (key _ ?_ fun out q1 q2=>⟨_,rfl,?_⟩) (args_list_sort _)))
 ·show A.units+1+1+8<cLine
  lia
 ·obtain ⟨c,hcc⟩:=sortedHeap_at (out:=out) gL
  rw [← hvs] at q1
  obtain ⟨o',p1,p2⟩:=jA q1
  have eo:out=(o'.map fun k=>Value.ref k.2).toArray:=by rw [← p2]
  refine yab ⟨_,rfl,h s1 _ o' c hR kp (fun b o e => ?_) (by rw [← eo];exact hcc) (p1.trans hp0) ?_⟩
  ·have lb:=zcA e
   show (sortedHeap _ _ _ _).get? b=some o
   rw [sortedHeap_old (zcr lb) (by rw [size_push'];exact Nat.lt_succ_of_lt lb)]
   exact zar _ e
  ·rw [p2,zbp] at q2
   refine List.Pairwise.imp_of_mem (fun {x y} hx hy hxy => ?_) q2
   have mx:=p1.mem_iff.mp hx
   have my:=p1.mem_iff.mp hy
   have d1:=jN (fun k hk1=>(hk' k hk1).1) mx
   have d2:=jN (fun k hk1=>(hk' k hk1).1) my
   have e1:RK ord (Value.ref x.2,Value.ref x.2)=((jw ord x.1:Nat):Int):=by unfold RK;rw [d1]
   have e2:RK ord (Value.ref y.2,Value.ref y.2)=((jw ord y.1:Nat):Int):=by unfold RK;rw [d2]
   rw [e1,e2] at hxy
   cases g:eF y.1 x.1 with
   | false=>rfl
   | true=>have:=(su hc' my mx).mpr g;lia
end
end M6
namespace L2
open PySem PySem.Spec PyProof.Rows M6
def EX (K:yaM) (W:yal):List V→Hp→VK→Prop:=fun vs H Q=>∃ (a a':Addr) (ks:List (yan×Addr)),vs=[.ref a]∧H a=some (.ext (iA W a' ks))∧nZ K H ks∧(∀ k∈ks,∃ p r,k.1=PyData.tuple (.str p::r))∧(∀ k∈ks,∀ l∈ks,aO k.1 l.1=true)∧ks.length≤1000 ∧
 ∀ (p:Addr) (out:List (yan×Addr)),H p=none→out.Perm ks→out.Pairwise (fun x y=>eF y.1 x.1=false)→Q (.ref p) (upd H p (.lst (out.map fun k=>V.ref k.2)))
section
variable {X:Cx}
theorem tS {k:Nat} (hr:aU k X.A):b9 X (.builtin "sorted") (EX X.K X.w):=by
 intro pins s σ H xs us Q I r h
 obtain ⟨a,a',ks,rfl,e,hk,h0,hc,hl,q⟩:=h
 obtain ⟨u,rfl,ru⟩:=vals1 r
 cases ru
 have ob:=(show aW X.prog X.w H s.heap a (.ext (iA X.w a' ks)) from I.hok a _ e)
 obtain rfl:=iC ob
 obtain ⟨⟨z,o,es,ep,ho,hx,hd,hes,hn⟩,_,_⟩:=ob
 have hsz:es.size=ks.length:=by have:=congrArg zcC hes;simpa using this
 refine rU (R:=fun s1=>∃ h1 tk,s1={ s with heap:=h1,toks:=tk }) hr.hd (fun y hy => ?_) hc hl (by have:=hr.units;lia) (fun hh' hQ=>tN z hh' ⟨o,ho,hx,hd⟩ (by rw [yag];lia) fun h1 tk kp => ?_) fun s1 h2 out c hR k1 k2 g hp hs => ?_
 ·obtain ⟨k1,k2,k3⟩:=hk y hy
  exact ⟨I.key k1 k2 k3,h0 y hy⟩
 ·rw [hes,zcp]
  exact hQ _ ks kp ⟨h1,tk,rfl⟩ (.refl _)
 ·obtain ⟨h1,tk,rfl⟩:=hR
  have I1:Inv X pins σ H { s with heap:=h1,toks:=tk }:=I.kept (t':=tk) k1
  refine ⟨.ref h1.objs.size,_,I1.laid (a:=h1.objs.size) (t':=tk) (o:=.lst (out.map fun k=>V.ref k.2)) k2 (zcE _) ⟨by rw [zbN,hp.length_eq,yag];lia,_,c,oS (fun k=>k.2) out,g⟩,rfl,q _ out (I1.hok.fresh (zcE _)) hp hs⟩
end
end L2
namespace M
open PySem PySem.Spec PyProof.Rows L2 M6
def Gs (W:yal):AN:=fun ds S Q=>∃ n ks,ds=[.loc n]∧S[n]? = some (some (nO W ks))∧HR ks∧ks.length≤1000∧∀ ks':List D,ks'.Perm ks→Eo ks'→Q (.new (.lst ks')) S
section
variable {X:Cx}
theorem sH {j:Nat} (hr:aU j X.A):DY X (.builtin "sorted") (Gs X.w):=⟨mC (tS hr) fun xs H Q h=>by
 obtain ⟨w,ds,S,Qa,ok,rep,⟨n,ks,rfl,z,g,hl,q⟩,bk⟩:=h
 obtain ⟨v,rfl,r1⟩:=gC rep
 obtain ⟨a,a',bs,rfl,k3,k5,hlen⟩:=JI ok r1 z
 obtain ⟨mem1,ez,e1,e2⟩:=kh hlen
 refine ⟨a,a',_,rfl,k3,gQ ok k5 g.good,fun x hx => ?_,fun x hx y hy => ?_,by rw [List.length_zip,zbN];lia,yW ok k5 bk q⟩
 ·obtain ⟨k,hk,e⟩:=mem1 x hx
  rw [e];exact g.fst k hk
 ·obtain ⟨k,hk,e⟩:=mem1 x hx
  obtain ⟨k',hk',e'⟩:=mem1 y hy
  rw [e,e'];exact g.cmp k hk k' hk'⟩
end
end M
namespace L2
open PySem
section
variable {K:yaM}{mg:Str→Option yaj}{C:Addr}
structure rK (K:yaM) (x:Str) (st:Stmt):Prop where
 ex:∃ f oc od kV doc pm an cdv ct osl,zcz K yar x=some (some (.ref f))∧K.lookup f=some ⟨oc,od,.func (zcy x x (cF st) (aV st) (ai st) .none kV doc pm an cdv ct),osl⟩∧zcd K cdv x=true∧zcc K (.ref f)=true
structure k6 (K:yaM) (C:Addr) (m q:Str) (st:Stmt):Prop where
 ex:∃ f oc od kV doc pm an cdv ct osl,zcb K (.ref C) m=some (some (.ref f))∧K.lookup f=some ⟨oc,od,.func (zcy m q (cF st) (aV st) (ai st) .none kV doc pm an cdv ct),osl⟩∧zcd K cdv q=true∧zcc K (.ref f)=true∧zcx K (.ref f)=true
theorem rK.of {x:Str}{st:Stmt}{f:Addr}{oc:yaj}{od an:Option Addr}{osl:Array (Option yaj)}{kV doc pm cdv ct:yaj} (a:zcz K yar x=some (some (.ref f))) (l:K.lookup f=some ⟨oc,od,.func (zcy x x (cF st) (aV st) (ai st) .none kV doc pm an cdv ct),osl⟩)
  (c:zcd K cdv x=true) (k:zcc K (.ref f)=true):rK K x st:=⟨_,_,_,_,_,_,_,_,_,_,a,l,c,k⟩
theorem k6.of {m q:Str}{st:Stmt}{f:Addr}{oc:yaj}{od an:Option Addr}{osl:Array (Option yaj)}{kV doc pm cdv ct:yaj} (a:zcb K (.ref C) m=some (some (.ref f))) (l:K.lookup f=some ⟨oc,od,.func (zcy m q (cF st) (aV st) (ai st) .none kV doc pm an cdv ct),osl⟩)
  (c:zcd K cdv q=true) (k:zcc K (.ref f)=true) (i:zcx K (.ref f)=true):k6 K C m q st:=⟨_,_,_,_,_,_,_,_,_,_,a,l,c,k,i⟩
theorem rK.src {x:Str}{st:Stmt}{ps:List Str}{h:Heap} (e:rK K x st) (X:K.In h) (G:h.Ns yar mg)
  (b:∀ (kV doc pm:yaj) (an:Option Addr) (cdv ct:yaj) (us:List yaj),us.length=ps.length→yaC (zcy x x (cF st) (aV st) (ai st) .none kV doc pm an cdv ct) ⟨us,[]⟩=pure (ps.zip us)):Src K mg x ps st:=by
 obtain ⟨f,oc,od,kV,doc,pm,an,cdv,ct,osl,a,l,c,k⟩:=e.ex
 exact J.Iu X G a l c k b
theorem k6.src {m q:Str}{st:Stmt}{ps:List Str} (e:k6 K C m q st)
  (b:∀ (kV doc pm:yaj) (an:Option Addr) (cdv ct:yaj) (us:List yaj),us.length=ps.length→yaC (zcy m q (cF st) (aV st) (ai st) .none kV doc pm an cdv ct) ⟨us,[]⟩=pure (ps.zip us)):M.dH K C m q ps st:=by
 obtain ⟨f,oc,od,kV,doc,pm,an,cdv,ct,osl,a,l,c,k,i⟩:=e.ex
 exact ⟨f,_,jc (st:=st) l c k,⟨a,i,k⟩,(jc (st:=st) l c k).binds b⟩
end
end L2
namespace M
open PySem PySem.Spec PyProof.Rows L2 M6
noncomputable abbrev Nf (k:Str×List D):D:=.tup (.str k.1::k.2)
end M
namespace M
open PySem PySem.Spec PyProof.Rows L2
theorem xP {K:yaM}{w:Wd}{H H':Hp}{S:aG} (ok:Ok K w H S) (h:cT H H'):Ok K w H' S :=
 ⟨fun b o e=>h b o (ok.base b o e),fun n o e=>by
  obtain ⟨a,u,h1,h2,h3,h4⟩:=ok.live n o e
  exact ⟨a,u,h1,h2,h a u h3,h4⟩,ok.inj,ok.top⟩
def XW (K:yaM) (CP:Addr) (cs:Nat→Addr) (fl:Nat→Str) (S:aG) (w:Wd) (j:Nat) (d:D):XK:=fun ev _ H'=>∃ w' H0 a dx T v,w.le w'∧Ok K w' H0 S∧Rep K w' d v∧H0 a=none∧H0 dx=none∧cT H0 H'∧ev = .ref a∧Pk K CP H' a (cs j) dx T [(fl j,v)]
theorem XW.le {K:yaM}{CP:Addr}{cs:Nat→Addr}{fl:Nat→Str}{S:aG}{w w0:Wd}{j:Nat}{d:D}{ev:yaj}{o:Option Addr}{H':Hp} (h:XW K CP cs fl S w j d ev o H') (e:w0.le w):XW K CP cs fl S w0 j d ev o H':=by
 obtain ⟨w',H0,a,dx,T,v,h1,h2⟩:=h
 exact ⟨w',H0,a,dx,T,v,e.trans h1,h2⟩
structure OX (X:Cx) (CP:Addr) (cs:Nat→Addr) (fl:Nat→Str) (S:aG) (w:Wd) (j:Nat) (d:D):Prop where
 calm:X.calm=true
 pass:Passes (yN X.prog X.w) X (XW X.K CP cs fl S w j d)
 out:∀ pins σ H1 s1 a C d0,Inv X pins σ H1 s1→H1 a=some (XN C d0 a)→(∀ T,H1 T=none→T≠a→XW X.K CP cs fl S w j d (.ref a) none (upd (upd H1 a (XT C d0 T a)) T (TB T)))→X.xe (.ref a) s1
section
variable {P:yak}{w:yal}{K:yaM}{mg:Str→Option yaj}{base:Heap}{N:List Str}{qual:Str}{scope:Scope}{f:Addr}{cd:yaj}{A:yam}{outer:List Env}{s:yai}{H:Hp}{CP:Addr}{cs:Nat→Addr}{fl:Nat→Str}{S0:aG}{w0:Wd}{j:Nat}{d:D}
theorem kK:OX (d7 (yN P w) P w K mg base N qual scope f cd A outer s H (XW K CP cs fl S0 w0 j d)) CP cs fl S0 w0 j d:=by
 refine ⟨rfl,?_,fun pins σ H1 s1 a C d0 I e h=>zb I e h⟩
 intro pins σ H1 s1 e s' I h
 obtain ⟨H2,ho,hb,un,hok,w',H0,a,dx,T,v,g1,g2,g3,g4,g5,g6,rfl,R⟩:=h
 have I2:=I.Dg (ch:=[]) ho un hok hb (fun b z=>absurd z (by simp))
 show yas _ _ (leaving _ _) _ _ _
 unfold leaving
 refine yaa (pA I2 ⟨rfl,rfl,I.ok.frames⟩ R.x R.t R.n1 fun T' s3 nT hT I3=>⟨_,I3.os,I3.bare,I3.base,I3.hok,w',H0,a,dx,T',v,g1,g2,g3,g4,g5,fun b o e => ?_,rfl,⟨?_,au,?_,hT,R.n2,R.sb⟩⟩)
 ·have ba:b≠a:=aK e g4
  rw [av (aK (g6 _ _ e) nT),av ba];exact g6 _ _ e
 ·rw [av (Ne.symm hT),au]
 ·rw [av (aK R.d nT),av R.n2];exact R.d
end
def Mt (K:yaM) (w0:Wd) (a:AE):TE:=fun σ H Q=>∃ w δ S Qa,w0.le w∧Ok K w H S∧ee K w δ σ∧a δ S Qa∧dQ K w Qa Q
def Mr (K:yaM) (w0:Wd) (a:AS):TS:=fun D σ H=>∃ w δ S Da,w0.le w∧Ok K w H S∧ee K w δ σ∧a Da δ S∧uC K w Da D
structure O4 (X:Cx) (w0:Wd) (e:Expr) (a:AE):Prop where
 p:PE X e (Mt X.K w0 a)
structure GW1 (X:Cx) (w0:Wd) (s:Stmt) (a:AS):Prop where
 p:PS X s (Mr X.K w0 a)
structure D7 (X:Cx) (w0:Wd) (s:List Stmt) (a:AS):Prop where
 p:oO X s (Mr X.K w0 a)
section
variable {X:Cx}{w0:Wd}{st:Stmt}{rest p q:List Stmt}{a b:AS}{c e:Expr}{tc:AT}{t:AE}{pos:Pos}
theorem Aq.w (h:Aq X rest a):D7 X w0 rest a:=⟨Nb h.p fun D σ H ⟨w,δ,S,Da,_,r⟩=>⟨w,δ,S,Da,r⟩⟩
theorem dj (h:GW1 X w0 st a):D7 X w0 [st] a:=⟨L2.aq h.p⟩
theorem bH (h:GW1 X w0 st a) (g:D7 X w0 rest b):D7 X w0 (st::rest) (q9 a b):=⟨Nb (L2.ah h.p g.p) fun D σ H ⟨w,δ,S,Da,le,ok,env,q,bk⟩ =>
 ⟨w,δ,S,_,le,ok,env,q,⟨fun δ1 S1 σ1 w1 H1 le1 ok1 env1 q1=>⟨w1,δ1,S1,Da,le.trans le1,ok1,env1,q1,bk.le le1⟩,bk.rt,bk.bk,bk.ct⟩⟩⟩
theorem iJ (hc:GT X c tc) (ha:D7 X w0 p a) (hb:D7 X w0 q b):GW1 X w0 (.If c p q pos) (z9 tc a b):=⟨mS (L2.bC hc.p ha.p hb.p) fun D σ H ⟨w,δ,S,Da,le,ok,env,q,bk⟩=>by
 refine ⟨w,δ,S,_,ok,env,q,fun k S1 w1 H1 le1 ok1 q1 => ?_⟩
 cases k with
 | true=>exact zJ ⟨w1,δ,S1,Da,le.trans le1,ok1,env.le le1,by simpa using q1,bk.le le1⟩
 | false=>exact ny ⟨w1,δ,S1,Da,le.trans le1,ok1,env.le le1,by simpa using q1,bk.le le1⟩⟩
theorem fX (h:O4 X w0 e t) (hs:yau e none pos.line X.env=pure false:=by rfl):GW1 X w0 (.Expr e pos) (yF t):=⟨mS (L2.aR h.p hs) fun D σ H ⟨w,δ,S,Da,le,ok,env,q,bk⟩ =>
 ⟨w,δ,S,_,le,ok,env,q,.go fun r1 S1 v1 w1 H1 le1 ok1 rep1 q1=>bk.nx δ S1 σ w1 H1 le1 ok1 (env.le le1) q1⟩⟩
theorem kL (h:O4 X w0 e t):GW1 X w0 (.Return (some e) pos) (Dy t):=⟨mS (L2.aS h.p) fun D σ H ⟨w,δ,S,Da,le,ok,env,q,bk⟩=>⟨w,δ,S,_,le,ok,env,q,bk.rt⟩⟩
end
theorem cX {X:Cx}{w0:Wd}{sts:List Stmt}:D7 X w0 sts (fun _ _ _=>False):=⟨fun _ _ _ _ _ _ ⟨_,_,_,_,_,_,_,z,_⟩=>z.elim⟩
def Gv (i:Nat) (S0:aG) (j:Nat) (d:D) (ae:AE):AS:=fun _ δ S=>ae δ S fun r S'=>j=i∧r = .dat d∧S'=S0
section
variable {X:Cx}{CP:Addr}{cs:Nat→Addr}{fl:Nat→Str}{S0:aG}{w0:Wd}{i j:Nat}{d:D}{k:Nat}{ps:List Str}{C0:Addr}{m:Str}
theorem dR {x fn:Str}{e:Expr}{ae:AE}{p p1 pos:Pos} (hx:OX X CP cs fl S0 w0 j d) (Dx:iO X.prog X.w X.K X.mg X.base k x (cs i) ps (i0 (cs i) fn)) (hf:fl i=fn) (c:XCls X.K (cs i)) (sb:zck X.K (.ref (cs i)) (.ref CP)=some true)
  (hr:aU (k+1) X.A) (hg:Gl X x) (he:GE X e ae) (hdb:(x==("__debug__" : Str))=false:=by decide +kernel) (hs:[e].all notStar=true:=by rfl) :
  GW1 X w0 (.Raise (some (.Call (.Name x p) [e] [] p1)) none pos) (Gv i S0 j d ae):=by
 have ht:notStar e=true:=by rw [zci,zbH] at hs;exact hs.1
 refine ⟨mS (L2.BQ (R:=fun a C d0 H1=>∀ T,H1 T=none→T≠a→XW X.K CP cs fl S0 w0 j d (.ref a) none (upd (upd H1 a (XT C d0 T a)) T (TB T))) hx.calm (fun pins σ H1 s1 a C' d0 I ex h=>hx.out pins σ H1 s1 a C' d0 I ex h) (BW Dx hr hg sG (L2.ak he.p L2.aa ht) hdb hs)) fun D σ H1 h => ?_⟩
 obtain ⟨w1,δ,S,Da,le,ok,env,q,bk⟩:=h
 refine ⟨w1,δ,S,_,ok,env,q,fun r S' v w2 H2 le2 ok2 rep hn => ?_⟩
 obtain ⟨rfl,rfl,rfl⟩:=hn
 subst hf
 have rep:Rep X.K w2 d v:=rep
 refine ⟨by show 1≤1000;decide,fun x nx=>⟨x,v,rfl,au,fun dx ndx=>⟨rfl,?_⟩⟩⟩
 have xd:x≠dx:=fun z=>by rw [← z,au] at ndx;cases ndx
 have ndx':H2 dx=none:=by rw [av (Ne.symm xd)] at ndx;exact ndx
 refine ⟨x,cs j,some dx,rfl,by rw [av xd,au],c,fun T' nT hT => ?_⟩
 have Td:T'≠dx:=fun z=>by rw [z,au] at nT;cases nT
 have nT':H2 T'=none:=by rw [av Td,av hT,av hT] at nT;exact nT
 refine ⟨w2,H2,x,dx,T',v,le.trans le2,ok2,rep,nx,ndx',fun b o e => ?_,rfl,⟨?_,au,?_,hT,Ne.symm xd,sb⟩⟩
 ·have b1:b≠x:=aK e nx
  have b2:b≠dx:=aK e ndx'
  have b3:b≠T':=aK e nT'
  rw [av b3,av b1,av b2,av b1,av b1];exact e
 ·rw [av (Ne.symm hT),au]
 ·rw [av (Ne.symm Td),av (Ne.symm xd),au]
def Dp (K:yaM) (CP:Addr) (cs:Nat→Addr) (fl:Nat→Str) (bad:List D→aG→Nat→D→Prop):Sp:=fun vs H _ E=>∃ w ds S j d,Ok K w H S∧az K w ds vs∧bad ds S j d∧∀ ev H',XW K CP cs fl S w j d ev none H'→E ev none H'
def spW (K:yaM) (CP:Addr) (cs:Nat→Addr) (fl:Nat→Str) (sp:AN) (bad:List D→aG→Nat→D→Prop):Sp:=fun vs H Q E=>bf K sp vs H Q E∨Dp K CP cs fl bad vs H Q E
def rf (C0:Addr) (m:Str) (sp:AN) (bad:List D→aG→Nat→D→Prop) (S0:aG) (j:Nat) (d:D) (a:AE) (t:AA):AE:=fun δ S Q=>a δ S fun r S1=>∃ n ks ds,r = .dat (.loc n)∧S1[n]? = some (some (.ins C0 ks ds))∧m ∉ ks∧t δ S1 fun es S2=>sp (.loc n::es) S2 Q∨(bad (.loc n::es) S2 j d∧S2=S0)
structure cW (P:yak) (w:yal) (K:yaM) (mg:Str→Option yaj) (base:Heap) (k:Nat) (C0:Addr) (m:Str) (ps:List Str) (sp:AN) (CP:Addr) (cs:Nat→Addr) (fl:Nat→Str) (bad:List D→aG→Nat→D→Prop):Prop where
 ex:∃ f fd,bW P w K mg base (yN P w) k f fd ps (spW K CP cs fl sp bad)∧Meth K C0 m f∧Binds K fd ps []
theorem cu {sp:AN}{bad:List D→aG→Nat→D→Prop}{o e:Expr}{es:List Expr}{apos pos:Pos}{pl:Sem Bool}{ta:AE}{t:AA} (hx:OX X CP cs fl S0 w0 j d)
  (he:GE X o ta) (c:wH X.K C0) (Dm:cW X.prog X.w X.K X.mg X.base k C0 m ps sp CP cs fl bad) (hr:aU k X.A) (ha:GA X (e::es) t)
  (hst:yap (e::es) X.env=(false,eval e X.env)::yap es X.env:=by rfl) (hpl:(yav pos (yap es X.env)).any (·.1)=false:=by rfl)
  (ht:eval (.Call (.Attribute o m apos) (e::es) [] pos) X.env=(do
   let ov ← eval o X.env
   standAt apos.atName
   let (g0,first) ← holding [ov] (yaF ov m pl)
   yaB pos g0 first (yav pos (yap (e::es) X.env)) (yaH pos (yaG [] X.env))):=by rfl) :
  O4 X w0 (.Call (.Attribute o m apos) (e::es) [] pos) (rf C0 m sp bad S0 j d ta t):=by
 obtain ⟨f',fd,F,hm,hb⟩:=Dm.ex
 refine ⟨mE (L2.bh he.p c hm F hr hb .nil hx.pass ha.p hst hpl ht) ?_⟩
 rintro σ H Q ⟨w,δ,S,Qa,le,ok,env,q,bk⟩
 refine ⟨w,δ,S,_,ok,env,q,fun r S1 u w1 H1 le1 ok1 rep1 ⟨n,ks,ds,er,hS,hm,q1⟩ => ?_⟩
 subst er
 obtain ⟨a,dx,fs,rfl,hr,ha,hk,hd⟩:=nD ok1 rep1 hS
 subst hk
 refine ⟨a,dx,fs,rfl,ha,iB fs hm,w1,δ,S1,_,ok1,env.le le1,q1,fun es S2 vs w2 H2 le2 ok2 rep2 q2 => ?_⟩
 have rr:az X.K w2 (.loc n::es) (.ref a::(vs++[])):=by
  rw [zbO]
  exact .cons (by simp only [Rep];exact ⟨a,le2.r _ _ hr,rfl⟩) rep2
 rcases q2 with q2 | ⟨q2,rfl⟩
 ·exact .inl ⟨w2,.loc n::es,S2,Qa,ok2,rr,q2,bk.le (le1.trans le2)⟩
 ·exact .inr ⟨w2,.loc n::es,S2,j,d,ok2,rr,q2,fun ev H' z=>z.le (le.trans (le1.trans le2))⟩
end
section
variable {P:yak}{w:yal}{K:yaM}{mg:Str→Option yaj}{base:Heap}{CP:Addr}{cs:Nat→Addr}{fl:Nat→Str}{bad:List D→aG→Nat→D→Prop}{C0:Addr}
theorem Of {x qual:Str}{st:Stmt}{f:Addr}{fd:yaq}{N ps:List Str}{k:Nat} (F:uz K x qual st f fd) (S:aE N ps (ai st)) (len:∀ ds S j d,bad ds S j d→ds.length=ps.length)
  (hbody:∀ (cdv:yaj) (A:yam) (outer:List Env) (s:yai) (H:Hp) (w0:Wd) (S0:aG) (j:Nat) (d:D),aU k (A.deeper (envOfC qual (ai st) s.heap.objs.size f cdv)) →
   ∃ a,D7 (d7 (yN P w) P w K mg base N qual (ai st) f cdv A outer s H (XW K CP cs fl S0 w0 j d)) w0 (aV st) a∧∀ ds,bad ds S0 j d→a { nx:=fun _ _=>False,rt:=fun _ _=>False } (aM N ds) S0):bW P w K mg base (yN P w) (k+1) f fd ps (Dp K CP cs fl bad):=by
 have F0:bW P w K mg base (yN P w) (k+1) f fd ps (fun vs H _ E=>∃ w ds S j d,Ok K w H S∧az K w ds vs∧bad ds S j d∧E=XW K CP cs fl S w j d) :=
  F.okR S (fun vs H Q E h=>by
   obtain ⟨w,ds,S,j,d,_,rep,q,_⟩:=h
   rw [rep.length];exact len ds S j d q) fun cdv A outer s H vs Q E hr h=>by
   obtain ⟨w,ds,S,j,d,ok,rep,q,rfl⟩:=h
   obtain ⟨a,ha,hd⟩:=hbody cdv A outer s H w S j d hr
   exact ⟨_,ha.p,w,aM N ds,S,_,.refl,ok,iE rep,hd ds q,⟨fun _ _ _ _ _ _ _ _ z=>z.elim,fun _ _ _ _ _ _ _ _ z=>z.elim,fun _ _ _ _ _ _ _ _ z=>z.elim,fun _ _ _ _ _ _ _ _ z=>z.elim⟩⟩
 refine ⟨fun vs H Q E h => ?_,fun A outer s H args us vs Q E hr e0 hb' r h => ?_⟩
 ·obtain ⟨w,ds,S,j,d,h1,h2,h3,_⟩:=h
  exact F0.len vs H (fun _ _=>False) _ ⟨w,ds,S,j,d,h1,h2,h3,rfl⟩
 ·obtain ⟨w,ds,S,j,d,h1,h2,h3,h4⟩:=h
  refine yay (F0.run A outer s H args us vs (fun _ _=>False) _ hr e0 hb' r ⟨w,ds,S,j,d,h1,h2,h3,rfl⟩) fun r s' q => ?_
  cases r with
  | ok fl =>
   cases fl with
   | ret u=>obtain ⟨_,_,_,_,_,_,_,z⟩:=q;exact False.elim z
   | next=>exact q
   | brk=>exact q
   | cont=>exact q
  | error e =>
   obtain ⟨H',g1,g2,g3,g4,g5⟩:=q
   exact ⟨H',g1,g2,g3,g4,h4 e H' g5⟩
def gM:AN:=fun _ _ _=>False
theorem kX {m qual:Str}{st:Stmt}{N ps:List Str}{k:Nat} (F:dH K C0 m qual ps st) (S:aE N ps (ai st)) (len:∀ ds S j d,bad ds S j d→ds.length=ps.length)
  (hbody:∀ (f:Addr) (cdv:yaj) (A:yam) (outer:List Env) (s:yai) (H:Hp) (w0:Wd) (S0:aG) (j:Nat) (d:D),aU k (A.deeper (envOfC qual (ai st) s.heap.objs.size f cdv)) →
   ∃ a,D7 (d7 (yN P w) P w K mg base N qual (ai st) f cdv A outer s H (XW K CP cs fl S0 w0 j d)) w0 (aV st) a∧∀ ds,bad ds S0 j d→a { nx:=fun _ _=>False,rt:=fun _ _=>False } (aM N ds) S0):cW P w K mg base (k+1) C0 m ps gM CP cs fl bad:=by
 obtain ⟨f,fd,F,hm,hb⟩:=F.ex
 have G:=Of F S len (hbody f)
 refine ⟨f,fd,⟨fun vs H Q E h => ?_,fun A outer s H args us vs Q E hr e0 hb r h => ?_⟩,hm,hb⟩
 ·rcases h with ⟨_,_,_,_,_,_,z,_⟩ | h
  ·exact False.elim z
  ·exact G.len vs H Q E h
 ·rcases h with ⟨_,_,_,_,_,_,z,_⟩ | h
  ·exact False.elim z
  ·exact G.run A outer s H args us vs Q E hr e0 hb r h
theorem J4 {m qual:Str}{st:Stmt}{N ps:List Str}{k:Nat}{sp:AN} (F:dH K C0 m qual ps st) (S:aE N ps (ai st)) (G:∀ f fd,uz K m qual st f fd→bW P w K mg base iZ (k+1) f fd ps (bf K sp)) (len:∀ ds S j d,bad ds S j d→ds.length=ps.length)
  (hbody:∀ (f:Addr) (cdv:yaj) (A:yam) (outer:List Env) (s:yai) (H:Hp) (w0:Wd) (S0:aG) (j:Nat) (d:D),aU k (A.deeper (envOfC qual (ai st) s.heap.objs.size f cdv)) →
   ∃ a,D7 (d7 (yN P w) P w K mg base N qual (ai st) f cdv A outer s H (XW K CP cs fl S0 w0 j d)) w0 (aV st) a∧∀ ds,bad ds S0 j d→a { nx:=fun _ _=>False,rt:=fun _ _=>False } (aM N ds) S0):cj P w K mg base (k+1) C0 m ps sp∧cW P w K mg base (k+1) C0 m ps sp CP cs fl bad:=by
 obtain ⟨f,fd,F,hm,hb⟩:=F.ex
 exact ⟨⟨f,fd,G f fd F,hm,hb⟩,⟨f,fd,(G f fd F).x0.or (Of F S len (hbody f)),hm,hb⟩⟩
theorem OH {x:Str}{st:Stmt}{N ps:List Str}{k:Nat} (F:Src K mg x ps st) (S:aE N ps (ai st)) (len:∀ ds S j d,bad ds S j d→ds.length=ps.length)
  (hbody:∀ (f:Addr) (cdv:yaj) (A:yam) (outer:List Env) (s:yai) (H:Hp) (w0:Wd) (S0:aG) (j:Nat) (d:D),aU k (A.deeper (envOfC x (ai st) s.heap.objs.size f cdv)) →
   ∃ a,D7 (d7 (yN P w) P w K mg base N x (ai st) f cdv A outer s H (XW K CP cs fl S0 w0 j d)) w0 (aV st) a∧∀ ds,bad ds S0 j d→a { nx:=fun _ _=>False,rt:=fun _ _=>False } (aM N ds) S0):GR P w K mg base (k+1) x ps (Dp K CP cs fl bad):=by
 obtain ⟨f,fd,F,hm,hb⟩:=F.ex
 exact ⟨f,fd,Of F S len (hbody f),hm,F.kp,hb⟩
end
end M
theorem L2.cE {N P:List PySem.Str}{sc:PySem.Scope} (h1:sc.kind = .function:=by rfl) (h2:sc.isCoroutine=false:=by rfl) (h3:sc.isGenerator=false:=by rfl) (h4:N.Nodup:=by decide +kernel) (h5:N.take P.length=P:=by rfl) (h6:∀ x∈P,sc.names.lookup x=some .local∨sc.names.lookup x=some .cell:=by decide +kernel) (h7:∀ y∈sc.names,y.2 ≠ .free:=by decide +kernel):L2.aE N P sc:=⟨h1,h2,h3,h4,h5,h6,h7⟩
namespace M
open PySem L2
theorem ow {X:Cx}{e:Expr}{es:List Expr}{pos p:Pos}{k j:Nat}{ps:List Str}{sp:AN}{t:AA}{x:Str} (D:Def X.prog X.w X.K X.mg X.base k x ps (bf X.K sp)) (hr:aU j X.A) (ha:GA X (e::es) t) (hk:k≤j:=by decide) (hg:Gl X x:=by rfl) (hdb:(x==("__debug__" : Str))=false:=by decide +kernel) (hs:(e::es).all notStar=true:=by rfl):GE X (.Call (.Name x p) (e::es) [] pos) (aCall sp t):=M.vm D (hr.mono hk) hg ha hdb hs
end M
namespace K03
open PySem PySem.Spec L2 PyProof.Rows
noncomputable def top (i:Nat):Stmt:=PySem.Challenge.pw_pathask_k03_a_web_refuses.main.body.getD i (.Pass ⟨0,0,0,0⟩)
noncomputable def nH:Nat→Str
 | 4 => "word"
 | 5 => "tie"
 | _ => "name"
structure Txt (K:yaM) (mg:Str→Option yaj) (ec:Nat→Addr) (EP C fi:Addr):Prop where
 len:mg "len" = none
 isinstance:mg "isinstance" = none
 str:mg "str" = none
 bool:mg "bool" = none
 int:mg "int" = none
 tuple:mg "tuple" = none
 list:mg "list" = none
 dict:mg "dict" = none
 all:mg "all" = none
 max:mg "max" = none
 min:mg "min" = none
 repr:mg "repr" = none
 range:mg "range" = none
 reversed:mg "reversed" = none
 sorted:mg "sorted" = none
 ValueError:mg "ValueError" = none
 L6:∃ t,mg "MOST_KNOTS" = some (.int 40 t)
 Et:∃ t,mg "MOST_TIES" = some (.int 300 t)
 marks:∃ t,mg "MOST_MARKS" = some (.int 5 t)
 JJ:mg "Web" = some (.ref C)
 cl:wH K C
 zA:Mk K C fi
 bO:eN K C "marked"
 n_tied:eN K C "tied"
 n_near:eN K C "near"
 at_PathError:mg "PathError" = some (.ref EP)
 base_PathError:HP K EP
 ex_PathError:excIn K EP=true
 sb_PathError:zck K (.ref EP) (.type "BaseException")=some true
 g_NoKnot:mg "NoKnot" = some (.ref (ec 0))
 g_NoMark:mg "NoMark" = some (.ref (ec 1))
 g_NoName:mg "NoName" = some (.ref (ec 2))
 g_Twice:mg "Twice" = some (.ref (ec 3))
 g_TooMany:mg "TooMany" = some (.ref (ec 4))
 g_NoTie:mg "NoTie" = some (.ref (ec 5))
 g_NoMeet:mg "NoMeet" = some (.ref (ec 6))
 g_NoText:mg "NoText" = some (.ref (ec 7))
 g_NoLine:mg "NoLine" = some (.ref (ec 8))
 g_NoWay:mg "NoWay" = some (.ref (ec 9))
 g_TooLong:mg "TooLong" = some (.ref (ec 10))
 g_GoesRound:mg "GoesRound" = some (.ref (ec 11))
 g_NoSuch:mg "NoSuch" = some (.ref (ec 12))
 g_NoPair:mg "NoPair" = some (.ref (ec 13))
 xi:∀ i,i<6→OZ K (ec i)
 kit:∀ i j,i<6→j<14→zce K (.ref (ec i)) (.ref (ec j))=some (i==j)
 kitV:∀ i,i<6→zce K (.ref (ec i)) (.type "ValueError")=some true
 sub:∀ i,i<6→zck K (.ref (ec i)) (.ref EP)=some true
 fld:∀ i,i<6→zcb K (.ref (ec i)) (nH i)=some none
section
variable {X:Cx}{pos:Pos}{mg:Str→Option yaj}{K:yaM}{ec:Nat→Addr}{EP C fi:Addr}
theorem gx {x:Str}{c:Addr} (h:mg x=some (.ref c)) (hg:Gl X x:=by rfl) (hm:X.mg=mg:=by rfl) (hd:(x==("__debug__" : Str))=false:=by decide +kernel):J.QE X (.Name x pos) (tC (.ref c)):=⟨lJ hg (by rw [hm];exact h) rfl hd⟩
theorem CD {x:Str}{i:Int} (e:∃ t,mg x=some (.int i t)) (hg:Gl X x) (hm:X.mg=mg) (hd:(x==("__debug__" : Str))=false):M.GE X (.Name x pos) (M.aC (.int i)):=by
 obtain ⟨t,e⟩:=e
 exact M.lJ (v:=.int i) hg (by rw [hm];exact e) ⟨t,rfl⟩ (fun _=>.int) hd
theorem Txt.iS (T:Txt K mg ec EP C fi) (hg:Gl X "MOST_KNOTS" := by rfl) (hm:X.mg=mg:=by rfl):M.GE X (.Name "MOST_KNOTS" pos) (M.aC (.int 40)):=CD T.L6 hg hm (by decide +kernel)
theorem Txt.jF (T:Txt K mg ec EP C fi) (hg:Gl X "MOST_TIES" := by rfl) (hm:X.mg=mg:=by rfl):M.GE X (.Name "MOST_TIES" pos) (M.aC (.int 300)):=CD T.Et hg hm (by decide +kernel)
theorem Txt.oG (T:Txt K mg ec EP C fi) (hg:Gl X "MOST_MARKS" := by rfl) (hm:X.mg=mg:=by rfl):M.GE X (.Name "MOST_MARKS" pos) (M.aC (.int 5)):=CD T.marks hg hm (by decide +kernel)
end
noncomputable def sU (c:Nat):Bool:=decide (97≤c)&&decide (c≤122)
open M M6
abbrev GF (a b:Str):Prop:=a.cps.toList<b.cps.toList
theorem qe (a:Str) : ¬ GF a a:=List.lt_irrefl _
theorem Iv {a b:Str} (h : ¬ GF a b) (g : ¬ GF b a):a=b:=by
 have e:a.cps.toList=b.cps.toList:=List.le_antisymm (zcD.mp g) (zcD.mp h)
 obtain ⟨a⟩:=a
 obtain ⟨b⟩:=b
 have e:a.toList=b.toList:=e
 rw [Array.toList_inj.mp e]
def SU (l:List Str):Prop:=l.Pairwise GF
theorem xE:∀ (l:List Str) (p:Str),risingS p l=true→(p::l).Pairwise fun a b => ¬ GF b a
 | [],p,_=>List.pairwise_singleton ..
 | x::r,p,h=>by
  have h:(!ltCps x.cps.toList p.cps.toList&&risingS x r)=true:=h
  rw [zbH] at h
  have ih:=xE r x h.2
  have hx : ¬ GF x p:=by
   have:=h.1
   rw [ltCps_eq] at this
   simpa using this
  refine zaX.mpr ⟨fun y hy => ?_,ih⟩
  rcases zcf.mp hy with rfl | hy
  ·exact hx
  ·intro hlt
   have h2 : ¬ GF y x:=(zaX.mp ih).1 y hy
   exact hx (List.lt_of_le_of_lt (zcD.mp h2) hlt)
theorem yV {l:List Str} (h:sortedS l=true):l.Pairwise fun a b => ¬ GF b a:=by
 cases l with
 | nil=>exact .nil
 | cons x r=>exact xE r x h
theorem G6 {l:List Str} (hn:l.Nodup) (h:sortedS l=true):SU l:=by
 have h2:l.Pairwise fun a b=>a≠b:=hn
 refine ((yV h).and h2).imp fun {a b} ⟨h1,h2⟩ => ?_
 by_cases c:GF a b
 ·exact c
 ·exact absurd (Iv c h1) h2
theorem G7:∀ {l m:List Str},SU l→SU m→(∀ y,y∈l↔y∈m)→l=m
 | [],[],_,_,_=>rfl
 | [],y::m,_,_,h=>by have:=(h y).mpr (by simp);simp at this
 | x::l,[],_,_,h=>by have:=(h x).mp (by simp);simp at this
 | x::l,y::m,hl,hm,h=>by
  have h1:=zaX.mp hl
  have h2:=zaX.mp hm
  have e:x=y:=by
   have a:=(h x).mp (by simp)
   have b:=(h y).mpr (by simp)
   rcases zcf.mp a with a | a
   ·exact a
   ·rcases zcf.mp b with b | b
    ·exact b.symm
    ·exact absurd (List.lt_trans (h1.1 y b) (h2.1 x a)) (qe x)
  subst e
  rw [G7 (m:=m) h1.2 h2.2 fun z => ?_]
  have:=h z
  simp only [zcf] at this
  constructor
  ·intro hz
   rcases this.mp (.inr hz) with e | e
   ·subst e;exact absurd (h1.1 z hz) (qe z)
   ·exact e
  ·intro hz
   rcases this.mpr (.inr hz) with e | e
   ·subst e;exact absurd (h2.1 z hz) (qe z)
   ·exact e
theorem Ez {l m n:List Str} (hn:n.Nodup) (h1:l.Perm n) (h2:m.Perm n) (s1:sortedS l=true) (s2:sortedS m=true):l=m :=
 G7 (G6 (h1.nodup_iff.mpr hn) s1) (G6 (h2.nodup_iff.mpr hn) s2) fun y=>h1.mem_iff.trans h2.mem_iff.symm
noncomputable abbrev T3 (t:Str×Str×Str):D:=.tup [.str t.1,.str t.2.1,.str t.2.2]
theorem pe (t:Str×Str×Str):py (T3 t) = .tuple [.str t.1,.str t.2.1,.str t.2.2]:=by simp [T3,py,eW]
theorem gD {a b:Str×Str×Str} (h:py (T3 a)=py (T3 b)):a=b:=by
 obtain ⟨a1,a2,a3⟩:=a
 obtain ⟨b1,b2,b3⟩:=b
 simp only [pe,PyData.tuple.injEq,zcJ.injEq,PyData.str.injEq] at h
 rw [h.1,h.2.1,h.2.2.1]
noncomputable def gq (t:Str×Str×Str):Bool:=lg t.1&&lg t.2.1&&lg t.2.2
theorem good3 {t:Str×Str×Str} (h:gq t=true):fk (T3 t):=by
 unfold gq at h
 rw [zbH,zbH] at h
 refine ⟨by simp [T3,ck,cK],?_,?_,_,rfl⟩
 ·rw [pe];simp [b7,dU,PyData.canLay0,m6 h.1.1,m6 h.1.2,m6 h.2]
 ·rw [pe];simp [PyData.depth,PyData.depthAll]
theorem qT (a b:Str×Str×Str):aO (py (T3 a)) (py (T3 b))=true:=by
 rw [pe,pe];simp [aO,ff]
theorem jo {ts:List (Str×Str×Str)} (h:∀ t∈ts,gq t=true):HR (ts.map T3) :=
 ⟨fun k hk=>by obtain ⟨t,ht,rfl⟩:=zcq.mp hk;exact good3 (h t ht),fun k hk=>by obtain ⟨t,_,rfl⟩:=zcq.mp hk;exact ⟨_,_,pe t⟩,fun k hk l hl=>by obtain ⟨t,_,rfl⟩:=zcq.mp hk;obtain ⟨u,_,rfl⟩:=zcq.mp hl;exact qT t u⟩
theorem JW (ts:List (Str×Str×Str)) (t:Str×Str×Str):zL (ts.map T3) (T3 t)=decide (t∈ts):=by
 unfold zL
 rw [zcn]
 by_cases h:t∈ts
 ·rw [yDt h]
  exact zbG.mpr ⟨t,h,by simp⟩
 ·rw [yDf h]
  refine zbh.mpr fun x hx z=>h ?_
  have:py (T3 x)=py (T3 t):=of_decide_eq_true z
  rw [← gD this];exact hx
theorem put3 {ts:List (Str×Str×Str)}{t:Str×Str×Str} (h:t ∉ ts):putN (ts.map T3) (T3 t)=(ts++[t]).map T3:=by
 have:=JW ts t
 rw [yDf h] at this
 unfold putN
 unfold zL at this
 rw [this,yIn (by decide),zbV];rfl
theorem wJ:∀ {l m:List (Str×Str×Str)},l.Nodup→Eo (l.map T3)→Eo (m.map T3)→m.Perm l→l=m
 | [],m,_,_,_,hp=>by rw [hp.eq_nil]
 | a::l,[],_,_,_,hp=>by have:=hp.length_eq;simp at this
 | a::l,b::m,hn,hl,hm,hp=>by
  have LY:∀ {x y:Str×Str×Str},x≠y→eF (py (T3 y)) (py (T3 x))=false→eF (py (T3 x)) (py (T3 y))=true:=fun {x y} hne h=>by
   rcases qH _ _ (qT x y) (fun e=>hne (gD e)) with z | z
   ·exact z
   ·rw [h] at z;cases z
  have h1:=zaX.mp (show ((a::l).map T3).Pairwise _ from hl)
  have h2:=zaX.mp (show ((b::m).map T3).Pairwise _ from hm)
  have e:a=b:=by
   apply Classical.byContradiction
   intro hne
   have ha:a∈m:=by
    rcases zcf.mp (hp.mem_iff.mpr (zaS ..)) with z | z
    ·exact absurd z hne
    ·exact z
   have hb:b∈l:=by
    rcases zcf.mp (hp.mem_iff.mp (zaS ..)) with z | z
    ·exact absurd z.symm hne
    ·exact z
   have c1:=h1.1 (T3 b) (zcq.mpr ⟨b,hb,rfl⟩)
   have c2:=h2.1 (T3 a) (zcq.mpr ⟨a,ha,rfl⟩)
   have:=LY hne c1
   rw [c2] at this;cases this
  subst e
  rw [wJ (zbP.mp hn).2 h1.2 h2.2 hp.cons_inv]
theorem Aw {ts:List (Str×Str×Str)}{ks:List D} (hp:ks.Perm (ts.map T3)):∃ us:List (Str×Str×Str),us.Perm ts∧ks=us.map T3:=jA hp
open PySem L2
noncomputable abbrev vP:=M.vP
noncomputable abbrev BC:Stmt:=top 23
noncomputable abbrev GK:List Str:=["_law_script","_law_k","_law_seed"]
noncomputable abbrev gj:List Str:=["_law_script","_law_k"]
theorem uV:aE GK gj (ai BC):=L2.cE
noncomputable abbrev By:Stmt:=top 24
noncomputable abbrev GJ:List Str:=["_law_cell"]
noncomputable abbrev gi:List Str:=["_law_cell"]
theorem IG:aE GJ gi (ai By):=L2.cE
noncomputable abbrev Bv:Stmt:=top 25
noncomputable abbrev GH:List Str:=["_law_feed_here","_law_many","_law_found","_law_one","_law_two"]
noncomputable abbrev dg:List Str:=["_law_feed_here","_law_many"]
theorem qj:aE GH dg (ai Bv):=L2.cE
noncomputable abbrev u7:Stmt:=top 26
noncomputable abbrev uu:List Str:=["_law_feed_here","_law_many","_law_letters","_law_word","_law_way","_law_turn","_law_names_here","_law_place","_law_start","_law_k","_law_sign"]
noncomputable abbrev g8:List Str:=["_law_feed_here","_law_many"]
theorem cQ:aE uu g8 (ai u7):=L2.cE
def oh (H:Hp) (p:Addr) (d:Nat):Prop:=∃ l s:Int,H p=some (.dK (vP l s d))∧0≤l∧0≤s∧s<1000003
theorem OE {l s d:Int}:eO (vP l s d) (Sum.inr "left")=some (.int l):=rfl
theorem OD {l s d:Int}:eO (vP l s d) (Sum.inr "seed")=some (.int s):=rfl
theorem Nh {l s d:Int}:eO (vP l s d) (Sum.inr "drawn")=some (.int d):=rfl
theorem Fe {l s d z:Int}:putK (vP l s d) (Sum.inr "drawn") (.int z)=vP l s z:=rfl
theorem Js {l s d z:Int}:putK (vP l s d) (Sum.inr "left") (.int z)=vP z s d:=rfl
section
variable {P:yak}{w:yal}{K:yaM}{mg:Str→Option yaj}{base:Heap}{ec:Nat→Addr}{EP C fi:Addr}
def Bc (K:yaM):Sp:=fun vs H Q _=>∃ (a:Addr) (ns:List Int) (k:Nat),vs=[.ref a,.int k]∧dm K H a (ns.map V.int)∧k<1000∧∀ z,Q (.int z) H
theorem Ko (T:Txt K mg ec EP C fi) (F:Src K mg "_law_cell_at" gj BC):Def P w K mg base 1 "_law_cell_at" gj (Bc K):=by
 refine J.J3 F uV (fun vs H Q E h => ?_) (fun f cdv A outer s H vs Q E hr h => ?_)
 ·obtain ⟨a,ns,k,rfl,_⟩:=h;rfl
 ·obtain ⟨a,ns,k,rfl,hS,hk,q⟩:=h
  refine ⟨_,(J.ah (J.bC (J.aA Hr (J.pv 1) (J.eE Dh (by rfl) T.len (by decide +kernel) (J.ak (J.pv 0) J.aa)) (aQ _))
    (J.aq (J.aS (J.aF Oo (J.pv 0) (J.pv 1) (fun _ _=>rfl))))
    J.aJ)
   (J.ah (J.aH (i:=2) uV.nd rfl (Or.inl rfl) J.aj)
   (J.ah (J.bC (J.aA Hs (J.eE Dh (by rfl) T.len (by decide +kernel) (J.ak (J.pv 0) J.aa)) J.aj (aQ _))
    (J.aq (J.aH (i:=2) uV.nd rfl (Or.inl rfl) (J.aF Oo (J.pv 0) (J.aL gf (J.pv 1) (J.eE Dh (by rfl) T.len (by decide +kernel) (J.ak (J.pv 0) J.aa))) (fun _ _=>rfl))))
    J.aJ)
   (J.aq (J.aS (J.aL gI (J.aL gI (J.aL gc (J.aL gf (J.pv 2) J.aj) J.aj) (J.aL gc J.aj (J.pv 1))) J.aj)))))),?_⟩
  have hl:KZ K (.ref a) H ns.length:=.inl ⟨_,hS,by simp⟩
  refine ⟨_,rfl,_,rfl,_,_,rfl,hl,_,_,rfl,rfl,_,rfl,?_⟩
  refine vJ (fun h => ?_) (fun h => ?_)
  ·have hlt:k<ns.length:=by simpa using h
   have e:(ns.map V.int)[k]? = some (V.int ns[k]):=by simp [hlt]
   exact ⟨_,rfl,_,rfl,a,_,_,_,rfl,rfl,hS,cG e,q _⟩
  ·refine ⟨_,rfl,_,_,rfl,hl,_,_,rfl,rfl,_,rfl,?_⟩
   have fin:∀ z:Int,(AD (wM (Ec fun i j=>.int (i+j)) (wM (Ec fun i j=>.int (i+j)) (wM (rI Ar fun i j=>.int (i*j)) (wM (rI (fun _ j=>0<j) fun i j=>.int (i % j)) (p9 2) (tC (.int 1000003))) (tC (.int 48271))) (wM (rI Ar fun i j=>.int (i*j)) (tC (.int 7919)) (p9 1))) (tC (.int 1)))) { nx:=fun _ H'=>Q .bw H',rt:=Q } [some (.ref a),some (.int k),some (.int z)] H:=fun z=>by
    refine ⟨_,rfl,_,_,rfl,rfl,(by show (0:Int)<1000003;decide),_,_,rfl,rfl,.inr ⟨by decide,by decide⟩,_,rfl,_,_,rfl,rfl,.inl ⟨by decide,by decide⟩,_,_,rfl,rfl,_,_,rfl,rfl,q _⟩
   refine vJ (fun h => ?_) (fun h => ?_)
   ·have hp:0<ns.length:=by simpa using h
    have hm:k % ns.length<ns.length:=Nat.mod_lt _ hp
    have e:(ns.map V.int)[k % ns.length]? = some (V.int ns[k % ns.length]):=by simp [hm]
    have e2:((k:Int) % (ns.length:Int))=((k % ns.length:Nat):Int):=by simp
    refine ⟨_,rfl,_,rfl,_,rfl,_,_,rfl,hl,_,_,rfl,rfl,(by show (0:Int)<(ns.length:Int);lia),a,_,_,_,rfl,rfl,hS,(by rw [e2];exact cG e),fin _⟩
   ·exact fin 0
def Ba:Sp:=fun vs H Q _=>∃ z:Int,vs=[.int z]∧∀ p H',H p=none→oh H' p 0→(∀ b o,H b=some o→H' b=some o)→Q (.ref p) H'
theorem Kh (T:Txt K mg ec EP C fi) (F:Src K mg "_law_feed" gi By):Def P w K mg base 1 "_law_feed" gi Ba:=by
 refine J.J3 F IG (fun vs H Q E h => ?_) (fun f cdv A outer s H vs Q E hr h => ?_)
 ·obtain ⟨z,rfl,_⟩:=h;rfl
 ·obtain ⟨z,rfl,q⟩:=h
  refine ⟨_,(J.aq (J.aS (J.qA (J.gF J.ao (J.eE (zZ rfl) (by rfl) T.max (by decide +kernel) (J.ak J.aj (J.ak (J.aL Jt (J.pv 0) (J.aL Jv J.aj J.aj)) J.aa))) (J.gF J.ao (J.aL gf (J.pv 0) J.aj) (J.gF J.ao J.aj J.qy))) rfl rfl (by simp) (by decide)))),?_⟩
  intro p hp
  refine ⟨_,rfl,_,_,rfl,rfl,⟨by decide,by decide,by decide⟩,_,_,rfl,rfl,_,_,rfl,?_⟩
  refine ⟨_,rfl,_,_,rfl,rfl,(by show (0:Int)<1000003;decide),au,vP _ _ 0,rfl,(by show 3≤15;decide),?_⟩
  refine q p _ hp ⟨_,_,au,?_,?_,?_⟩ fun b o e => ?_
  ·split <;> lia
  ·exact zbX _ (by decide)
  ·exact zba _ (by decide)
  ·rw [av (aK e hp),av (aK e hp)];exact e
def A4:Sp:=fun vs H Q _=>∃ (p:Addr) (n:Int) (d:Nat),vs=[.ref p,.int n]∧oh H p d∧d<1000∧0<n∧n<1000 ∧
 ∀ (z:Int) (H':Hp),0≤z→z<n→oh H' p (d+1)→(∀ b o,H b=some o→b≠p→H' b=some o)→Q (.int z) H'
theorem J8 (T:Txt K mg ec EP C fi) (F:Src K mg "_law_next" dg Bv):Def P w K mg base 1 "_law_next" dg A4:=by
 refine J.J3 F qj (fun vs H Q E h => ?_) (fun f cdv A outer s H vs Q E hr h => ?_)
 ·obtain ⟨p,n,d,rfl,_⟩:=h;rfl
 ·obtain ⟨p,n,d,rfl,⟨l,sd,hp,hl,hs0,hs1⟩,hd,hn0,hn1,q⟩:=h
  have hu:=e8 hr
  refine ⟨_,(J.ah (J.jy hu (J.pv 0) J.ao (J.aL gI (J.c6 hu (J.pv 0) J.ao (fun _ _=>rfl)) J.aj) rfl)
   (J.ah (J.bC (J.aA Hs (J.c6 hu (J.pv 0) J.ao (fun _ _=>rfl)) J.aj (aQ _))
    (J.ah (J.aH (i:=2) qj.nd rfl (Or.inl rfl) (J.aL gf (J.c6 hu (J.pv 0) J.ao (fun _ _=>rfl)) (J.pv 1)))
    (J.ah (J.jy hu (J.pv 0) J.ao (J.aL xO (J.c6 hu (J.pv 0) J.ao (fun _ _=>rfl)) (J.pv 1)) rfl)
    (J.aq (J.aS (J.pv 2)))))
    J.aJ)
   (J.ah (J.aH (i:=3) qj.nd rfl (Or.inl rfl) (J.aL gf (J.aL gc (J.aL gI (J.c6 hu (J.pv 0) J.ao (fun _ _=>rfl)) J.aj) (J.aL gI (J.aL gc (J.c6 hu (J.pv 0) J.ao (fun _ _=>rfl)) (J.c6 hu (J.pv 0) J.ao (fun _ _=>rfl))) J.aj)) J.aj))
   (J.ah (J.aH (i:=4) qj.nd rfl (Or.inl rfl) (J.aL gf (J.aL gI (J.aL gc (J.pv 3) (J.pv 3)) (J.aL gc J.aj (J.c6 hu (J.pv 0) J.ao (fun _ _=>rfl)))) J.aj))
   (J.aq (J.aS (J.aL gf (J.aL gf (J.aL gI (J.aL gc (J.pv 4) (J.pv 4)) (J.aL gc J.aj (J.pv 3))) J.aj) (J.pv 1)))))))),?_⟩
  have e1:((d:Int)+1)=((d+1:Nat):Int):=by lia
  refine ⟨_,rfl,p,_,rfl,iP.k (k:=Sum.inr "drawn") hp,_,_,rfl,rfl,_,rfl,p,_,rfl,wG.k (k:=Sum.inr "drawn") hp (by show 3<yah;decide +kernel),?_⟩
  have h1:(upd H p (.dK (putK (vP l sd d) (Sum.inr "drawn") (.int ((d:Int)+1))))) p=some (.dK (vP l sd (d+1:Nat))):=by rw [au,Fe,e1]
  generalize hH:upd H p (.dK (putK (vP l sd d) (Sum.inr "drawn") (.int ((d:Int)+1))))=H1 at h1
  have k1:∀ b o,H b=some o→b≠p→H1 b=some o:=fun b o e hb=>by rw [← hH,av hb];exact e
  refine ⟨_,rfl,p,_,rfl,iP.k (k:=Sum.inr "left") h1,_,_,rfl,rfl,_,rfl,?_⟩
  refine vJ (fun h => ?_) (fun h => ?_)
  ·have hpos:0<l:=by simpa using h
   refine ⟨_,rfl,p,_,rfl,iP.k (k:=Sum.inr "left") h1,_,rfl,_,_,rfl,rfl,hn0,?_⟩
   refine ⟨_,rfl,p,_,rfl,iP.k (k:=Sum.inr "left") h1,_,rfl,_,_,rfl,rfl,⟨hn0,by lia⟩,_,rfl,p,_,rfl,wG.k (k:=Sum.inr "left") h1 (by show 3<yah;decide +kernel),_,rfl,?_⟩
   refine q _ _ (zbX _ (by lia)) (zba _ hn0) ⟨_,_,by rw [au,Js],Int.ediv_nonneg hl (by lia),hs0,hs1⟩ fun b o e hb => ?_
   rw [av hb];exact k1 b o e hb
  ·have gs:=iP.k (k:=Sum.inr "seed") h1
   have gd:=iP.k (k:=Sum.inr "drawn") h1
   have b1:=zbX ((sd+1)*(((d+1:Nat):Int)*((d+1:Nat):Int)+48271)) (show (65537:Int)≠0 by decide)
   have b2:=zba ((sd+1)*(((d+1:Nat):Int)*((d+1:Nat):Int)+48271)) (show (0:Int)<65537 by decide)
   refine ⟨_,rfl,p,_,rfl,gs,_,_,rfl,rfl,_,rfl,p,_,rfl,gd,_,rfl,p,_,rfl,gd,_,_,rfl,rfl,.inl ⟨by lia,by lia⟩,_,_,rfl,rfl,_,_,rfl,rfl,.inl ⟨by lia,by lia⟩,_,_,rfl,rfl,(by show (0:Int)<65537;decide),?_⟩
   generalize ((sd+1)*(((d+1:Nat):Int)*((d+1:Nat):Int)+48271)) % 65537=one at b1 b2 ⊢
   have c1:=zbX (one*one+30269*((d+1:Nat):Int)) (show (65521:Int)≠0 by decide)
   have c2:=zba (one*one+30269*((d+1:Nat):Int)) (show (0:Int)<65521 by decide)
   refine ⟨_,rfl,_,rfl,_,_,rfl,rfl,.inl ⟨by lia,by lia⟩,_,rfl,p,_,rfl,gd,_,_,rfl,rfl,.inl ⟨by decide,by decide⟩,_,_,rfl,rfl,_,_,rfl,rfl,(by show (0:Int)<65521;decide),?_⟩
   generalize (one*one+30269*((d+1:Nat):Int)) % 65521=two at c1 c2 ⊢
   refine ⟨_,rfl,_,rfl,_,_,rfl,rfl,.inl ⟨by lia,by lia⟩,_,rfl,_,_,rfl,rfl,.inl ⟨by decide,by decide⟩,_,_,rfl,rfl,_,_,rfl,rfl,(by show (0:Int)<65519;decide),_,rfl,_,_,rfl,rfl,hn0,?_⟩
   exact q _ _ (zbX _ (by lia)) (zba _ hn0) ⟨l,sd,h1,hl,hs0,hs1⟩ k1
end
theorem alloc {H:Hp}{p:Addr}{o:HO} (h:H p=none):cT H (upd H p o):=fun b u e=>by rw [av (aK e h)];exact e
def wA (x:Str):Prop:=∀ c∈x.cps.toList,sU c=true
theorem wA.append {x y:Str} (h:wA x) (g:wA y):wA (x++y):=fun c hc=>by
 have e:(x++y).cps.toList=x.cps.toList++y.cps.toList:=by show (x.cps++y.cps).toList=_;simp
 rw [e,zbM] at hc
 exact hc.elim (h c) (g c)
noncomputable def FA (x:Str):Bool:=x.cps.toList.all sU
theorem Ci {x:Str} (h:FA x=true):wA x:=fun c hc=>zbC.mp h c hc
theorem uS {y:Str}{l u:Option Int} (h:wA y):wA (Txt.slice y l u):=by
 unfold Txt.slice
 split
 ·exact h
 ·intro c hc
  have hc:c∈(Builtin.Str.strSliceIndices l u 1 y.length).filterMap (y.cps[·]?):=by simpa using hc
  obtain ⟨i,_,e⟩:=List.mem_filterMap.mp hc
  exact h c (by
   have:y.cps.toList[i]? = some c:=by rw [← e];simp
   exact zaF this)
theorem xX:∀ ys:List Str,(∀ y∈ys,y.length=1∧wA y)→(Str.join "" ys).length=ys.length∧wA (Str.join "" ys)
 | [],_=>⟨rfl,fun c hc=>absurd hc (by simp [Str.join,Str.empty])⟩
 | [y],h=>⟨(h y (by simp)).1,(h y (by simp)).2⟩
 | y::z::r,h=>by
  obtain ⟨h1,h2⟩:=xX (z::r) fun x hx=>h x (zaC _ hx)
  obtain ⟨g1,g2⟩:=h y (by simp)
  have e:Str.join "" (y::z::r)=y ++ "" ++ Str.join "" (z::r):=rfl
  rw [e]
  refine ⟨?_,(g2.append (Ci (by decide +kernel))).append h2⟩
  rw [strLen_append,strLen_append,h1,g1]
  show 1+0+_=_
  simp;lia
theorem JC {c:Nat} (h:sU c=true):(⟨#[c]⟩:Str).length=1∧wA ⟨#[c]⟩:=⟨rfl,fun d hd=>by
 have:d=c:=by simpa using hd
 rw [this];exact h⟩
theorem wQ:∀ ys:List Str,(∀ y∈ys,y.length=1∧wA y)→(ys.map (·.length)).sum=ys.length
 | [],_=>rfl
 | y::r,h=>by
  rw [zcg,List.sum_cons,wQ r fun x hx=>h x (zaC _ hx),(h y (by simp)).1,zbx];lia
def Nm (y:Str):Prop:=1≤y.length∧y.length≤8∧wA y
theorem Nm.asc {y:Str} (h:Nm y):HY y:=fun c hc=>by
 have:=h.2.2 c hc
 unfold sU at this
 simp at this;lia
theorem uR {x:Str}{a b:Nat} (hab:a≤b) (hb:b≤x.length):(Txt.slice x (some (a:Int)) (some (b:Int))).length=b - a:=by
 unfold Txt.slice
 have e:=PySem.StrLaws.sliced_plain x hab hb
 have e2:(Builtin.Str.strSliceIndices (some (a:Int)) (some (b:Int)) 1 x.length).length=b - a:=by rw [PySem.StrLaws.strSliceIndices_plain hab hb];simp
 split
 ·rename_i h
  simp only [zbH,beq_iff_eq] at h
  lia
 ·show ((Builtin.Str.strSliceIndices (some (a:Int)) (some (b:Int)) 1 x.length).filterMap (x.cps[·]?)).toArray.size=_
  rw [zbg,e,zby,zbA,zaP]
  have:x.cps.size=x.length:=rfl
  lia
theorem xo {x:Str}{u:Int}:Txt.slice x none (some u)=Txt.slice x (some ((0:Nat):Int)) (some u):=by
 have e:Builtin.Str.strSliceIndices none (some u) 1 x.length=Builtin.Str.strSliceIndices (some ((0:Nat):Int)) (some u) 1 x.length:=by
  unfold Builtin.Str.strSliceIndices
  have e0:max (0:Int) (min 0 (x.length:Int))=0:=by lia
  simp [e0]
 unfold Txt.slice
 rw [e]
theorem vz {y:Str} (h:(decide (1≤y.length)&&decide (y.length≤8)&&FA y)=true):Nm y:=by
 rw [zbH,zbH] at h
 exact ⟨of_decide_eq_true h.1.1,of_decide_eq_true h.1.2,Ci h.2⟩
theorem LW {α:Type} (f:Str→α) {zs:List Str} (h:(zs.map f).Nodup):zs.Nodup:=(zbp.mp h).imp fun {a b} h e=>h (by rw [e])
open M
section
variable {K:yaM}{w:Wd}{H H':Hp}{S:aG}
theorem E5 {n:Nat}{a:Addr}{o o':MO}{u':HO} (k:Ok K w H S) (e:S[n]? = some (some o)) (ha:w.r n=some a) (h:jV K w o' u') (hu:H' a=some u') (hk:∀ b q,H b=some q→b≠a→H' b=some q):Ok K w H' (S.set n (some o')):=by
 have g:=k.put e ha h
 obtain ⟨a0,u0,h1,h2,h3,_⟩:=k.live n o e
 rw [ha] at h1;cases h1
 refine ⟨fun b q z=>hk b q (k.base b q z) (by intro y;subst y;rw [h2] at z;cases z),fun m q z => ?_,g.inj,g.top⟩
 obtain ⟨b,u,g1,g2,g3,g4⟩:=g.live m q z
 by_cases hb:b=a
 ·subst hb
  rw [au] at g3;cases g3
  exact ⟨b,u',g1,g2,hu,g4⟩
 ·rw [av hb] at g3
  exact ⟨b,u,g1,g2,hk b u g3 hb,g4⟩
theorem FZ {p n:Nat}{v:V} (ok:Ok K w H S) (h:Rep K w (.loc p) v) (e:S[p]? = some (some (.feed n))):∃ a,v = .ref a∧w.r p=some a∧oh H a n:=by
 simp only [Rep] at h
 obtain ⟨a,h1,rfl⟩:=h
 obtain ⟨a',u,g1,g2,g3,l,s,rfl,g5⟩:=ok.live p _ e
 rw [h1] at g1;cases g1
 exact ⟨a,rfl,h1,l,s,g3,g5⟩
theorem oY {a:Addr}{n:Nat} (h:oh H' a n):∃ u,H' a=some u∧jV K w (.feed n) u:=by
 obtain ⟨l,s,h1,h2⟩:=h
 exact ⟨_,h1,l,s,rfl,h2⟩
end
def f7:AN:=fun ds S Q=>∃ (p:Nat) (m:Int) (n:Nat),ds=[.loc p,.int m]∧S[p]? = some (some (.feed n))∧n<1000∧0<m∧m<1000∧∀ z,0≤z→z<m→Q (.dat (.int z)) (S.set p (some (.feed (n+1))))
def xg:AN:=fun ds S Q=>∃ z:Int,ds=[.int z]∧Q (.dat (.loc S.length)) (S++[some (.feed 0)])
def xh:AN:=fun ds S Q=>∃ (ns:List Int) (k:Nat),ds=[.lE ns,.int k]∧k<1000∧∀ z,Q (.dat (.int z)) S
def rR:AN:=fun ds S Q=>∃ (p m n:Nat),ds=[.loc p,.int m]∧S[p]? = some (some (.feed n))∧n+20<1000∧m≤8∧∀ (ys:List Str) (n':Nat),ys.length=m→(∀ y∈ys,Nm y)→ys.Nodup→n'≤n+20→Q (.new (.lst (ys.map D.str))) (S.set p (some (.feed n')))
section
variable {P:yak}{w:yal}{K:yaM}{mg:Str→Option yaj}{base:Heap}{ec:Nat→Addr}{EP C fi:Addr}
theorem Ku (D:Def P w K mg base 1 "_law_next" dg A4):Def P w K mg base 1 "_law_next" dg (bf K f7):=D.imp fun vs H Q E h=>by
 obtain ⟨w,ds,S,Qa,ok,rep,⟨p,m,n,rfl,hS,hn,h0,h1,q⟩,bk⟩:=h
 obtain ⟨v,u,rfl,r1,r2⟩:=xJ rep
 obtain ⟨a,rfl,ha,hf⟩:=FZ ok r1 hS
 refine ⟨a,m,n,by rw [bK r2 rfl],hf,hn,h0,h1,fun z H' z0 z1 hf' hk => ?_⟩
 obtain ⟨u',hu,ho⟩:=oY (K:=K) (w:=w) hf'
 exact bk.dat .refl (E5 ok hS ha ho hu hk) .int (q z z0 z1)
theorem Kv (D:Def P w K mg base 1 "_law_feed" gi Ba):Def P w K mg base 1 "_law_feed" gi (bf K xg):=D.imp fun vs H Q E h=>by
 obtain ⟨w,ds,S,Qa,ok,rep,⟨z,rfl,q⟩,bk⟩:=h
 obtain ⟨v,rfl,r1⟩:=gC rep
 refine ⟨z,by rw [bK r1 rfl],fun p H' hp hf hk => ?_⟩
 obtain ⟨u',hu,ho⟩:=oY (K:=K) (w:=w) hf
 have ok2:Ok K w H' S:=⟨fun b o e=>hk b o (ok.base b o e),fun n o e=>by
  obtain ⟨a,u,h1,h2,h3,h4⟩:=ok.live n o e
  exact ⟨a,u,h1,h2,hk a u h3,h4⟩,ok.inj,ok.top⟩
 have rr:wm K w H' S (.new (.feed 0)) (.ref p):=⟨p,u',rfl,ok.free hp,hu,ho,fun n o' e z=>by
  obtain ⟨a,u,h1,h2,h3,h4⟩:=ok.live n o' e
  rw [z] at h1;cases h1
  rw [hp] at h3;cases h3⟩
 obtain ⟨w2,le2,lq,rep3⟩:=store ok2 rr
 exact bk.dat le2 lq rep3 q
theorem Kw (D:Def P w K mg base 1 "_law_cell_at" gj (Bc K)):Def P w K mg base 1 "_law_cell_at" gj (bf K xh):=D.imp fun vs H Q E h=>by
 obtain ⟨w,ds,S,Qa,ok,rep,⟨ns,k,rfl,hk,q⟩,bk⟩:=h
 obtain ⟨v,u,rfl,r1,r2⟩:=xJ rep
 obtain ⟨a,rfl,h1⟩:=ig ok r1 (rX (S:=S))
 exact ⟨a,ns,k,by rw [bK r2 rfl],h1,hk,fun z=>bk.dat .refl ok .int (q z)⟩
end
open PySem PySem.Spec L2 M M6 PyProof.Rows
abbrev Kn:=Str×List Str
abbrev Ti:=Str×Str×Str
noncomputable abbrev fl:List Str:=["marked","tied","near"]
structure Kc where
 nm:Str
 ml:List Str
 mc:Nat
 nc:Nat
noncomputable def Kc.kn (c:Kc):Kn:=(c.nm,c.ml)
noncomputable def kO (cs:List Kc):List Str:=cs.map (·.nm)
noncomputable def kk (cs:List Kc):List Key:=cs.map fun c=>.inr c.nm
noncomputable def mO (ms:List Str):MO:=.dct (ms.map Sum.inr) (ms.map fun _=>.bl true)
def stp (ts:List Ti) (x:Str) (j:Ti):Prop:=(j.1 = "on" ∧ (x,j.2.1,j.2.2)∈ts)∨(j.1 = "back" ∧ (j.2.2,j.2.1,x)∈ts)
noncomputable def cells (n m t e:Nat) (cs:List Kc):List Nat:=n::m::t::e::(cs.map (·.mc)++cs.map (·.nc))
structure bY (C:Addr) (W:yal) (S:aG) (n m t e:Nat) (cs:List Kc) (ts:List Ti) (N:Str→Ti→Prop):Prop where
 at_:S[n]? = some (some (.ins C fl [.loc m,.loc t,.loc e]))
 uE:S[m]? = some (some (.dct (kk cs) (cs.map fun c=>.loc c.mc)))
 ti:S[t]? = some (some (nO W (ts.map T3)))
 ne:S[e]? = some (some (.dct (kk cs) (cs.map fun c=>.loc c.nc)))
 zA:∀ c∈cs,S[c.mc]? = some (some (mO c.ml))
 zm:∀ c∈cs,∃ js:List Ti,S[c.nc]? = some (some (nO W (js.map T3)))∧js.Nodup∧js.length≤900∧(∀ j∈js,gq j=true)∧∀ j,j∈js↔N c.nm j
 nd:(cells n m t e cs).Nodup
 kn:(kO cs).Nodup
 tn:ts.Nodup
 mn:∀ c∈cs,c.ml.Nodup
 okn:∀ c∈cs,lg c.nm=true∧∀ m∈c.ml,lg m=true
 uD:∀ t∈ts,gq t=true
 tk:∀ t∈ts,t.1∈kO cs∧t.2.2∈kO cs
 kb:cs.length<64
 mb:∀ c∈cs,c.ml.length<64
 tb:ts.length≤302
def bD (C:Addr) (W:yal) (S:aG) (n:Nat) (own:List Nat) (ks:List Kn) (ts:List Ti):Prop:=∃ m t e cs,own=cells n m t e cs∧cs.map Kc.kn=ks∧bY C W S n m t e cs ts (stp ts)
noncomputable abbrev nms (ks:List Kn):List Str:=ks.map (·.1)
theorem dN (cs:List Kc):nms (cs.map Kc.kn)=kO cs:=by unfold nms kO Kc.kn;rw [zcp];rfl
structure Fr (S S':aG) (own own':List Nat):Prop where
 out:∀ k,k<S.length→k ∉ own→S'[k]? = S[k]?
 len:S.length≤S'.length
 new:∀ c∈own',c∈own∨S.length≤c
theorem Fr.refl {S:aG}{own:List Nat}:Fr S S own own:=⟨fun _ _ _=>rfl,zcE _,fun c h=>.inl h⟩
theorem gm {S:aG}{n:Nat}{o:Option MO} (h:S[n]? = some o):n<S.length:=by
 rcases zcu n S.length with z | z
 ·exact z
 ·rw [zaw z] at h;cases h
theorem bM {S:aG}{n:Nat}{o o':Option MO} (h:S[n]? = some o):(S.set n o')[n]? = some o':=by
 rw [zbm,yIp rfl,yIp (gm h)]
theorem bg {S:aG}{n k:Nat}{o':Option MO} (h:k≠n):(S.set n o')[k]? = S[k]? := zaE (Ne.symm h)
theorem fG {S:aG}{n:Nat}{o:Option MO}{X:aG} (h:S[n]? = some o):(S++X)[n]? = some o:=by
 rw [zag (gm h)];exact h
theorem fF {S:aG}{n:Nat}{X:aG} (h:n<S.length):(S++X)[n]? = S[n]? := zag h
theorem dD {S:aG}{o:Option MO}:(S++[o])[S.length]? = some o:=by
 rw [zab (zcE _),Nat.sub_self];rfl
theorem bx {S:aG}{n:Nat}{o:MO} (h:S[n]? = some (some o)):bG S (.loc n)=o.d:=by simp only [bG,h]
theorem vO {C:Addr}{n i:Nat}{ks ks':List Str}{ds ds':List D}{f:Str}{o:MO}{v:AE}{δ:bE}{S:aG}{Dx:fT} (hδ:δ[i]? = some (some (.loc n))) (hS:S[n]? = some (some (.ins C ks ds))) (hk:ks.length<1000) (hv:∀ Q:AK,Q (.dat (.loc S.length)) (S++[some o])→v δ S Q)
  (hp:putD f (.loc S.length) ks ds=(ks',ds')) (nx:Dx.nx δ ((S++[some o]).set n (some (.ins C ks' ds')))):Hf C (eT i) v f Dx δ S:=by
 refine hv _ ⟨_,hδ,n,ks,ds,rfl,fG hS,hk,?_⟩
 show Dx.nx δ ((S++[some o]).set n (some (.ins C (putD f (.loc S.length) ks ds).1 (putD f (.loc S.length) ks ds).2)))
 rw [hp];exact nx
section
variable {n m t e:Nat}{cs:List Kc}
theorem Pf:n∈cells n m t e cs:=by simp [cells]
theorem Nn:m∈cells n m t e cs:=by simp [cells]
theorem Nl:t∈cells n m t e cs:=by simp [cells]
theorem Np:e∈cells n m t e cs:=by simp [cells]
theorem Mu {c:Kc} (h:c∈cs):c.mc∈cells n m t e cs:=by
 simp only [cells,zcf,zbM,zcq]
 exact .inr (.inr (.inr (.inr (.inl ⟨c,h,rfl⟩))))
theorem z8 {c:Kc} (h:c∈cs):c.nc∈cells n m t e cs:=by
 simp only [cells,zcf,zbM,zcq]
 exact .inr (.inr (.inr (.inr (.inr ⟨c,h,rfl⟩))))
structure Apart (n m t e:Nat) (cs:List Kc):Prop where
 nm:n≠m
 nt:n≠t
 ne:n≠e
 mt:m≠t
 me:m≠e
 te:t≠e
 nc:∀ c∈cs,n≠c.mc∧n≠c.nc
 mc:∀ c∈cs,m≠c.mc∧m≠c.nc
 tc:∀ c∈cs,t≠c.mc∧t≠c.nc
 ec:∀ c∈cs,e≠c.mc∧e≠c.nc
 cc:∀ c∈cs,∀ c'∈cs,c.mc≠c'.nc
 mm:(cs.map (·.mc)).Nodup
 nn:(cs.map (·.nc)).Nodup
theorem apart (h:(cells n m t e cs).Nodup):Apart n m t e cs:=by
 unfold cells at h
 rw [zbP,zbP,zbP,zbP,zbq] at h
 obtain ⟨h1,h2,h3,h4,h5,h6,h7⟩:=h
 have P:∀ {a:Nat},a ∉ (cs.map (·.mc)++cs.map (·.nc))→∀ c∈cs,a≠c.mc∧a≠c.nc:=fun {a} h c hc =>
  ⟨fun z=>h (by rw [z];exact zaD _ (zcq.mpr ⟨c,hc,rfl⟩)),fun z=>h (by rw [z];exact zau _ (zcq.mpr ⟨c,hc,rfl⟩))⟩
 simp only [zcf,not_or] at h1 h2 h3
 exact ⟨h1.1,h1.2.1,h1.2.2.1,h2.1,h2.2.1,h3.1,P h1.2.2.2,P h2.2.2,P h3.2,P h4,fun c hc c' hc' z=>h7 _ (zcq.mpr ⟨c,hc,rfl⟩) _ (zcq.mpr ⟨c',hc',rfl⟩) z,h5,h6⟩
theorem gh {α β:Type}{f:α→β}:∀ {l:List α},(l.map f).Nodup→∀ a∈l,∀ b∈l,f a=f b→a=b
 | [],_,a,h,_,_,_=>by simp at h
 | x::l,hn,a,ha,b,hb,e=>by
  rw [zcg,zbP] at hn
  rcases zcf.mp ha with ea | ha
  ·rcases zcf.mp hb with eb | hb
   ·rw [ea,eb]
   ·exact absurd (show f x∈l.map f from zcq.mpr ⟨b,hb,by rw [← e,ea]⟩) hn.1
  ·rcases zcf.mp hb with eb | hb
   ·exact absurd (show f x∈l.map f from zcq.mpr ⟨a,ha,by rw [e,eb]⟩) hn.1
   ·exact gh hn.2 a ha b hb e
end
theorem Cv (cs:List Kc) (x:Str):oH (kk cs) (.inr x)=decide (x∈kO cs):=by
 unfold oH kk
 rw [zcn]
 by_cases h:x∈kO cs
 ·rw [yDt h]
  obtain ⟨k,hk,rfl⟩:=zcq.mp h
  exact zbG.mpr ⟨k,hk,by simp⟩
 ·rw [yDf h]
  refine zbh.mpr fun k hk z=>h ?_
  have z:(Sum.inr k.nm:Key) = .inr x:=of_decide_eq_true z
  injection z with z
  exact zcq.mpr ⟨k,hk,z⟩
theorem Cz:∀ {cs:List Kc}{x:Str},x∈kO cs→∃ c∈cs,c.nm=x∧∀ f:Kc→D,kF (kk cs) (cs.map f) (.inr x)=some (f c)
 | [],x,h=>by simp [kO] at h
 | k::ks,x,h=>by
  by_cases e:k.nm=x
  ·refine ⟨k,zaS ..,e,fun f => ?_⟩
   unfold kF kk
   rw [zcg,zcg,zaV,zbR,yDt (show (Sum.inr k.nm:Key) = .inr x by rw [e])];rfl
  ·have hx:x∈kO ks:=by
    rcases zcf.mp (show x∈k.nm::kO ks from h) with z | z
    ·exact absurd z.symm e
    ·exact z
   obtain ⟨c,hc,h1,h2⟩:=Cz hx
   refine ⟨c,zaC _ hc,h1,fun f => ?_⟩
   have:=h2 f
   unfold kF kk at this ⊢
   rw [zcg,zcg,zaV,zbR,yDf (fun z=>e (by injection z))]
   exact this
theorem BL {cs:List Kc}{c:Kc}{f:Kc→D} (h:c.nm ∉ kO cs):nN (kk cs) (cs.map f) (.inr c.nm) (f c) = .dct (kk (cs++[c])) ((cs++[c]).map f):=by
 have:=Cv cs c.nm
 rw [yDf h] at this
 unfold oH at this
 unfold nN
 rw [this,yIn (by decide)]
 unfold kk
 rw [zbV,zbV];rfl
theorem s9 {α:Type}{x:Str} (f:α→D) (g:α→Str):∀ cs:List α,((cs.map fun c=>(Sum.inr (g c):Key)).filter fun j=>decide (j ≠ .inr x))=((cs.filter fun c=>decide (g c≠x)).map fun c=>(Sum.inr (g c):Key)) ∧
  ((((cs.map fun c=>(Sum.inr (g c):Key)).zip (cs.map f)).filter fun p=>decide (p.1 ≠ .inr x)).map (·.2))=(cs.filter fun c=>decide (g c≠x)).map f
 | []=>⟨rfl,rfl⟩
 | c::cs=>by
  obtain ⟨h1,h2⟩:=s9 (x:=x) f g cs
  by_cases e:g c=x
  ·have e':(decide ((Sum.inr (g c):Key) ≠ .inr x))=false:=by simp [e]
   have e2:(decide (g c≠x))=false:=by simp [e]
   rw [zcg,zcg,zaV,zam (by simp [e]),zam (by simp [e]),zam (by simp [e])]
   exact ⟨h1,h2⟩
  ·have e':(Sum.inr (g c):Key) ≠ .inr x:=fun z=>e (by injection z)
   rw [zcg,zcg,zaV,zan (by simp [e]),zan (by simp [e]),zan (by simp [e]),zcg,zcg,zcg,h1,h2]
   exact ⟨rfl,rfl⟩
theorem yf {cs:List Kc}{x:Str}{f:Kc→D}:tG (kk cs) (cs.map f) (.inr x) = .dct (kk (cs.filter fun c=>decide (c.nm≠x))) ((cs.filter fun c=>decide (c.nm≠x)).map f):=by
 obtain ⟨h1,h2⟩:=s9 (x:=x) f (·.nm) cs
 unfold tG kk
 rw [h1,h2]
theorem tF (a:List Str) (m:Str):oH (a.map Sum.inr) (.inr m)=decide (m∈a):=by
 unfold oH
 rw [zcn]
 by_cases h:m∈a
 ·rw [yDt h]
  exact zbG.mpr ⟨m,h,by simp⟩
 ·rw [yDf h]
  refine zbh.mpr fun k hk z=>h ?_
  have z:(Sum.inr k:Key) = .inr m:=of_decide_eq_true z
  injection z with z
  rw [← z];exact hk
theorem Hj (js:List Ti) (j:Ti) (hn:js.Nodup):∃ js':List Ti,putN (js.map T3) (T3 j)=js'.map T3∧js'.Nodup∧js'.length≤js.length+1∧∀ i,i∈js'↔i∈js∨i=j:=by
 by_cases h:j∈js
 ·refine ⟨js,?_,hn,by lia,fun i=>⟨.inl,fun z=>z.elim id fun e=>e ▸ h⟩⟩
  have:=JW js j
  rw [yDt h] at this
  unfold putN
  unfold zL at this
  rw [this,yIp rfl]
 ·refine ⟨js++[j],put3 h,?_,by simp,fun i=>by simp⟩
  refine zbq.mpr ⟨hn,by simp,fun x hx y hy z=>h ?_⟩
  have:y=j:=by simpa using hy
  rw [← this,← z];exact hx
theorem CN (js:List Ti) (j:Ti):jM (js.map T3) (T3 j)=(js.filter fun i=>decide (i≠j)).map T3:=by
 unfold jM
 rw [List.filter_map]
 congr 1
 refine List.filter_congr fun x _ => ?_
 show decide (py (T3 x)≠py (T3 j))=decide (x≠j)
 by_cases h:x=j
 ·rw [h];simp
 ·rw [yDt (show py (T3 x)≠py (T3 j) from fun z=>h (gD z)),yDt h]
theorem wR {ts js:List Ti}{x:Str} (hn:js.Nodup) (h:∀ j∈js,stp ts x j):js.length≤2*ts.length:=by
 have:=L2.iz (l:=js) (m:=(ts.map fun t=>(("on",t.2.1,t.2.2):Ti))++(ts.map fun t=>(("back",t.2.1,t.1):Ti))) hn fun j hj=>by
  obtain ⟨a,b,c⟩:=j
  rcases h _ hj with ⟨e,g⟩ | ⟨e,g⟩
  ·have e:a = "on" := e
   subst e
   exact zaD _ (zcq.mpr ⟨_,g,rfl⟩)
  ·have e:a = "back" := e
   subst e
   exact zau _ (zcq.mpr ⟨_,g,rfl⟩)
 rw [zaT,zbN,zbN] at this
 lia
section
variable {C:Addr}{W:yal}{S S':aG}{n m t e:Nat}{cs:List Kc}{ts:List Ti}{N N':Str→Ti→Prop}
theorem bY.frame (X:bY C W S n m t e cs ts N) (h:∀ c∈cells n m t e cs,S'[c]? = S[c]?):bY C W S' n m t e cs ts N :=
 ⟨by rw [h _ Pf];exact X.at_,by rw [h _ Nn];exact X.uE,by rw [h _ Nl];exact X.ti,by rw [h _ Np];exact X.ne,fun c hc=>by rw [h _ (Mu hc)];exact X.zA c hc,fun c hc=>by rw [h _ (z8 hc)];exact X.zm c hc,X.nd,X.kn,X.tn,X.mn,X.okn,X.uD,X.tk,X.kb,X.mb,X.tb⟩
theorem bY.near (X:bY C W S n m t e cs ts N) {c:Kc} (hc:c∈cs) {js:List Ti} (h1:js.Nodup) (h2:js.length≤900) (h3:∀ j∈js,gq j=true) (h4:∀ j,j∈js↔N' c.nm j) (h5:∀ x,x≠c.nm→∀ j,N x j↔N' x j) :
  bY C W (S.set c.nc (some (nO W (js.map T3)))) n m t e cs ts N':=by
 have A:=apart X.nd
 obtain ⟨js0,g0,_⟩:=X.zm c hc
 refine ⟨by rw [bg (A.nc c hc).2];exact X.at_,by rw [bg (A.mc c hc).2];exact X.uE,by rw [bg (A.tc c hc).2];exact X.ti,by rw [bg (A.ec c hc).2];exact X.ne,fun c' hc'=>by rw [bg (A.cc c' hc' c hc)];exact X.zA c' hc',fun c' hc' => ?_,X.nd,X.kn,X.tn,X.mn,X.okn,X.uD,X.tk,X.kb,X.mb,X.tb⟩
 by_cases z:c'.nc=c.nc
 ·have:c'=c:=gh A.nn c' hc' c hc z
  subst this
  exact ⟨js,bM g0,h1,h2,h3,h4⟩
 ·obtain ⟨js',k1,k2,k3,k4,k5⟩:=X.zm c' hc'
  refine ⟨js',by rw [bg z];exact k1,k2,k3,k4,fun j=>(k5 j).trans (h5 c'.nm (fun y=>z ?_) j)⟩
  rw [gh X.kn c' hc' c hc y]
theorem bY.Et (X:bY C W S n m t e cs ts N) {ts':List Ti} (h1:ts'.Nodup) (h2:∀ t∈ts',gq t=true) (h3:∀ t∈ts',t.1∈kO cs∧t.2.2∈kO cs) (h4:ts'.length≤302) :
  bY C W (S.set t (some (nO W (ts'.map T3)))) n m t e cs ts' N:=by
 have A:=apart X.nd
 exact ⟨by rw [bg A.nt];exact X.at_,by rw [bg A.mt];exact X.uE,bM X.ti,by rw [bg (Ne.symm A.te)];exact X.ne,fun c hc=>by rw [bg (Ne.symm (A.tc c hc).1)];exact X.zA c hc,
  fun c hc=>by rw [bg (Ne.symm (A.tc c hc).2)];exact X.zm c hc,X.nd,X.kn,h1,X.mn,X.okn,h2,h3,X.kb,X.mb,h4⟩
theorem Fr.set {own:List Nat}{k:Nat}{o:Option MO} (h:k∈own):Fr S (S.set k o) own own :=
 ⟨fun i _ hi=>bg fun z=>hi (z ▸ h),by rw [zbW];exact zcE _,fun c h=>.inl h⟩
theorem Fr.trans {S1 S2:aG}{o1 o2 o3:List Nat} (a:Fr S S1 o1 o2) (b:Fr S1 S2 o2 o3):Fr S S2 o1 o3:=by
 refine ⟨fun k hk hn => ?_,zcs a.len b.len,fun c hc => ?_⟩
 ·rw [b.out k (zaZ hk a.len) fun z => ?_,a.out k hk hn]
  rcases a.new k z with h | h
  ·exact hn h
  ·lia
 ·rcases b.new c hc with h | h
  ·exact a.new c h
  ·exact .inr (zcs a.len h)
end
open PySem PySem.Spec L2 M M6 PyProof.Rows
noncomputable abbrev rZ:Stmt:=inClass (top 21) 0
noncomputable abbrev yL:List Str:=["self"]
noncomputable abbrev iI:List Str:=["self"]
theorem IF:aE yL iI (ai rZ):=L2.cE
noncomputable abbrev xA:Stmt:=inClass (top 21) 1
noncomputable abbrev rq:List Str:=["self","name","marks"]
noncomputable abbrev d9:List Str:=["self","name","marks"]
theorem Bm:aE rq d9 (ai xA):=L2.cE
noncomputable abbrev xy:Stmt:=inClass (top 21) 3
noncomputable abbrev rm:List Str:=["self","one","word","other"]
noncomputable abbrev fj:List Str:=["self","one","word","other"]
theorem Bl:aE rm fj (ai xy):=L2.cE
noncomputable abbrev Bu:Stmt:=inClass (top 21) 5
noncomputable abbrev yI:List Str:=["self","knot","mark"]
noncomputable abbrev jX:List Str:=["self","knot","mark"]
theorem IC:aE yI jX (ai Bu):=L2.cE
noncomputable abbrev uZ:Stmt:=inClass (top 21) 4
noncomputable abbrev uf:List Str:=["self","one","word","other"]
noncomputable abbrev gY:List Str:=["self","one","word","other"]
theorem EH:aE uf gY (ai uZ):=L2.cE
noncomputable abbrev u5:Stmt:=inClass (top 21) 6
noncomputable abbrev ug:List Str:=["self","knot","mark"]
noncomputable abbrev gZ:List Str:=["self","knot","mark"]
theorem EI:aE ug gZ (ai u5):=L2.cE
noncomputable abbrev Jf:Stmt:=inClass (top 21) 9
noncomputable abbrev D5:List Str:=["self","one","word","other"]
noncomputable abbrev ji:List Str:=["self","one","word","other"]
theorem Lm:aE D5 ji (ai Jf):=L2.cE
noncomputable abbrev rY:Stmt:=inClass (top 21) 13
noncomputable abbrev rA:List Str:=["self","name"]
noncomputable abbrev dh:List Str:=["self","name"]
theorem Bq:aE rA dh (ai rY):=L2.cE
noncomputable abbrev Bw:Stmt:=inClass (top 21) 14
noncomputable abbrev yJ:List Str:=["self","name","marks"]
noncomputable abbrev jZ:List Str:=["self","name","marks"]
theorem IE:aE yJ jZ (ai Bw):=L2.cE
noncomputable abbrev xB:Stmt:=inClass (top 21) 15
noncomputable abbrev rB:List Str:=["self","one","word","other"]
noncomputable abbrev jY:List Str:=["self","one","word","other"]
theorem ID:aE rB jY (ai xB):=L2.cE
noncomputable abbrev xD:Stmt:=inClass (top 21) 16
noncomputable abbrev rD:List Str:=["self","one","word","other"]
noncomputable abbrev j6:List Str:=["self","one","word","other"]
theorem II:aE rD j6 (ai xD):=L2.cE
section
variable {C:Addr}{W:yal}{S S':aG}{n m t e:Nat}{cs:List Kc}{ts:List Ti}{N N':Str→Ti→Prop}
theorem bY.lt (X:bY C W S n m t e cs ts N):∀ c∈cells n m t e cs,c<S.length:=fun c hc=>by
 simp only [cells,zcf,zbM,zcq] at hc
 rcases hc with rfl | rfl | rfl | rfl | ⟨d,hd,rfl⟩ | ⟨d,hd,rfl⟩
 ·exact gm X.at_
 ·exact gm X.uE
 ·exact gm X.ti
 ·exact gm X.ne
 ·exact gm (X.zA d hd)
 ·obtain ⟨js,h,_⟩:=X.zm d hd
  exact gm h
theorem bY.app (X:bY C W S n m t e cs ts N) {Y:aG}:bY C W (S++Y) n m t e cs ts N:=X.frame fun c hc=>fF (X.lt c hc)
theorem bY.Hu (X:bY C W S n m t e cs ts N) (h:∀ x j,N x j↔N' x j):bY C W S n m t e cs ts N' :=
 ⟨X.at_,X.uE,X.ti,X.ne,X.zA,fun c hc=>by
  obtain ⟨js,k1,k2,k3,k4,k5⟩:=X.zm c hc
  exact ⟨js,k1,k2,k3,k4,fun j=>(k5 j).trans (h _ _)⟩,X.nd,X.kn,X.tn,X.mn,X.okn,X.uD,X.tk,X.kb,X.mb,X.tb⟩
theorem gp (X:bY C W S n m t e cs ts N) {i:Nat}{δ:bE}{Q:AK} (hδ:δ[i]? = some (some (.loc n))) (q:Q (.dat (.loc m)) S):DE C (eT i) "marked" δ S Q:=⟨_,hδ,n,_,_,_,rfl,X.at_,rfl,q⟩
theorem pI (X:bY C W S n m t e cs ts N) {i:Nat}{δ:bE}{Q:AK} (hδ:δ[i]? = some (some (.loc n))) (q:Q (.dat (.loc t)) S):DE C (eT i) "tied" δ S Q:=⟨_,hδ,n,_,_,_,rfl,X.at_,rfl,q⟩
theorem pJ (X:bY C W S n m t e cs ts N) {i:Nat}{δ:bE}{Q:AK} (hδ:δ[i]? = some (some (.loc n))) (q:Q (.dat (.loc e)) S):DE C (eT i) "near" δ S Q:=⟨_,hδ,n,_,_,_,rfl,X.at_,rfl,q⟩
theorem FN (X:bY C W S n m t e cs ts N) {neg:Bool}{x:Str}{Q:AK} (q:Q (.dat (.bl (neg != decide (x∈kO cs)))) S):tY neg (.str x) (.loc m) S Q:=by
 unfold tY
 rw [bx X.uE]
 refine ⟨.inr x,rfl,?_⟩
 rw [Cv];exact q
theorem c8 {a b:AE}{Q:AK}{δ:bE}{S:aG} (h:a δ S fun r1 S1=>b δ S1 fun r2 S2=>∃ ks ds k d,bG S2 r1.d = .dct ks ds∧keyOf r2.d=some k∧kF ks ds k=some d∧Q (.dat d) S2):wc a b δ S Q:=h
theorem qD {W:yal}{a b:AE}{Dx:fT}{δ:bE}{S:aG} (h:a δ S fun r1 S2=>b δ S2 fun r2 S3=>∃ n ks,r1.d = .loc n∧S3[n]? = some (some (nO W ks))∧fk r2.d∧(∀ k∈ks,fk k)∧ks.length<1000∧Dx.nx δ (S3.set n (some (nO W (putN ks r2.d))))) :
  DB W a b (aC (.bl true)) Dx δ S:=by
 refine cast (congrArg (fun z=>a δ S z) ?_) h
 funext r1 S2
 refine congrArg (fun z=>b δ S2 z) ?_
 funext r2 S3
 refine propext ⟨?_,?_⟩
 ·rintro ⟨n,ks,h1,h2⟩
  exact ⟨n,ks,rfl,h1,h2⟩
 ·rintro ⟨n,ks,_,h1,h2⟩
  exact ⟨n,ks,h1,h2⟩
theorem qE {W:yal}{a b c:AE}{δ:bE}{S:aG}{Q:AK} (h:a δ S fun r1 S1=>∃ n ks0,r1.d = .loc n∧S1[n]? = some (some (nO W ks0))∧b δ S1 fun r2 S2=>c δ S2 fun r3 S3 =>
 ∃ ks,S3[n]? = some (some (nO W ks))∧fk r2.d∧(∀ k∈ks,fk k)∧ks.length<1000∧∀ d,(d = .bl true∨d=r3.d)→Q (.dat d) (S3.set n (some (nO W (jM ks r2.d))))):DC W a b c δ S Q:=h
theorem yg {a b:AE}{δ:bE}{S:aG}{Q:AK} (h:a δ S fun r1 S1=>∃ n ks0 ds0,r1.d = .loc n∧S1[n]? = some (some (.dct ks0 ds0))∧b δ S1 fun r2 S2=>∃ ks ds k d,S2[n]? = some (some (.dct ks ds))∧keyOf r2.d=some k∧kF ks ds k=some d∧Q (.dat d) (S2.set n (some (tG ks ds k)))):DG a b δ S Q:=h
theorem nU (c:Kc):(cells n m t e (cs++[c])).Perm (c.mc::c.nc::cells n m t e cs):=by
 refine List.perm_iff_count.mpr fun z => ?_
 simp only [cells,zbV,zcg,zcm,List.count_append,List.count_cons,List.count_nil]
 lia
theorem tQ (p:Kc→Bool):(cells n m t e (cs.filter p)).Sublist (cells n m t e cs):=by
 unfold cells
 refine .cons₂ _ (.cons₂ _ (.cons₂ _ (.cons₂ _ (List.Sublist.append ?_ ?_))))
 ·exact (zaO).map _
 ·exact (zaO).map _
noncomputable def Ef (ms:List Str):List (Key×D):=ms.map fun m=>(.inr m,.bl true)
theorem yl:∀ (ms a:List Str),(a++ms).Nodup→(Ef ms).foldl As (a.map Sum.inr,a.map fun _=>.bl true)=((a++ms).map Sum.inr,(a++ms).map fun _=>.bl true)
 | [],a,_=>by rw [zbO];rfl
 | m::ms,a,h=>by
  show (Ef ms).foldl As (As (a.map Sum.inr,a.map fun _=>.bl true) (.inr m,.bl true))=_
  have hm:m ∉ a:=fun z=>by
   rw [zbq] at h
   exact h.2.2 m z m (by simp) rfl
  have e:As (a.map Sum.inr,a.map fun _=>D.bl true) (.inr m,.bl true)=((a++[m]).map Sum.inr,(a++[m]).map fun _=>.bl true):=by
   unfold As
   rw [tF,yDf hm,yIn (by decide),zbV,zbV];rfl
  rw [e,yl ms (a++[m]) (by simpa using h)]
  simp
theorem Gj {ms:List Str} (h:ms.Nodup):MO.dct (qQ (Ef ms)).1 (qQ (Ef ms)).2=mO ms:=by
 have:=yl ms [] (by simpa using h)
 unfold qQ mO
 have this:(Ef ms).foldl As ([],[])=_:=this
 rw [this];rfl
end
local macro_rules
 | `(tactic| push_cast [$xs,*]) => `(tactic| simp only [$xs,*,Dy,MA,DJ,OT,MC,aCall,yG,vZ,eT,aC,Dz,aUn,aB,Kx,aIf,q9,z9,Ky,KL,OU,Ab,bP,DA,KI,Lb,pW,iH,yF,Gr,KC,cY,Jj,Fv,FD,Fx,KG,Dv,Du,F2,F1,Ic,Es,Ep,true_and,OV,MG,Bk,rW,EF,Bj,rV,gA,Bh,rX,List.getElem?_cons_zero,List.getElem?_cons_succ,zaY,List.set_cons_succ,zcH.injEq,exists_eq_left',zcJ.injEq,and_true,D.ty.injEq,D.bl.injEq,D.int.injEq,D.str.injEq,and_assoc,exists_and_left,exists_eq_left,exists_and_right,Ji,ET,zbc,if_true,if_false,Bool.not_true,Bool.not_false])
section
variable {P:yak}{w:yal}{K:yaM}{mg:Str→Option yaj}{base:Heap}{ec:Nat→Addr}{EP C fi:Addr}
theorem br {m:Str}{sp:AN}{t:AA}{δ:bE}{S:aG}{Q:AK}{n i:Nat}{ds:List D} (hδ:δ[i]? = some (some (.loc n))) (hS:S[n]? = some (some (.ins C fl ds))) (hm:m ∉ fl) (h:t δ S fun es S2=>sp (.loc n::es) S2 Q):yE C m sp (eT i) t δ S Q:=⟨_,hδ,n,_,_,rfl,hS,hm,h⟩
def f9 (C:Addr) (W:yal):AN:=fun ds S Q=>∃ n x own ks ts,ds=[.loc n,.str x]∧bD C W S n own ks ts∧x∈nms ks∧Q (.dat .bw) S
theorem CH {k:Nat}{f:Addr}{fd:yaq} (T:Txt K mg ec EP C fi) (F:uz K "need_knot" "Web.need_knot" rY f fd):bW P w K mg base iZ (k+1) f fd dh (bf K (f9 C w)):=by
 refine M7 F Bq (fun ds S Q h => ?_) (fun f cdv A outer s H E hr => ?_)
 ·obtain ⟨n,x,own,ks,ts,rfl,_⟩:=h;rfl
 ·refine ⟨_,(M.aq (M.bC (M.aA (M.m7 hr) (M.pv 1) (M.bu (M.pv 0) T.cl T.bO) rfl)
    (M.aq M.eB)
    M.aJ)),fun ds S Q h => ?_⟩
  obtain ⟨n,x,own,ks,ts,rfl,⟨m,t,e,cs,rfl,rfl,X⟩,hx,q⟩:=h
  have e0:aM rA [.loc n,.str x]=[some (.loc n),some (.str x)]:=rfl
  rw [e0]
  push_cast [true_and]
  rw [dN] at hx
  refine gp X rfl (FN X ⟨_,rfl,?_⟩)
  rw [yDt hx,yIn (by decide)]
  exact q
theorem J9 (T:Txt K mg ec EP C fi) (F:dH K C "need_knot" "Web.need_knot" dh rY):cj P w K mg base 1 C "need_knot" dh (f9 C w):=by
 obtain ⟨f,fd,F,hm,hb⟩:=F.ex
 exact ⟨f,fd,CH T F,hm,hb⟩
def w6 (C:Addr) (W:yal):AN:=fun ds S Q=>∃ n x own ks ts,ds=[.loc n,.str x.1,.str x.2.1,.str x.2.2]∧bD C W S n own ks ts∧gq x=true∧Q (.dat (.bl (decide (x∈ts)))) S
theorem Mq (T:Txt K mg ec EP C fi) (F:dH K C "has_tie" "Web.has_tie" ji Jf):cj P w K mg base 1 C "has_tie" ji (w6 C w):=by
 refine gU F Lm (fun ds S Q h => ?_) (fun f cdv A outer s H E hr => ?_)
 ·obtain ⟨n,x,own,ks,ts,rfl,_⟩:=h;rfl
 ·refine ⟨_,(M.aq (M.aS (M.jE (M.LQ hr) (M.aD (M.ak (M.pv 1) (M.ak (M.pv 2) (M.ak (M.pv 3) M.aa)))) (M.bu (M.pv 0) T.cl T.n_tied) rfl))),fun ds S Q h => ?_⟩
  obtain ⟨n,x,own,ks,ts,rfl,⟨m,t,e,cs,rfl,rfl,X⟩,hx,q⟩:=h
  have e0:aM D5 [.loc n,.str x.1,.str x.2.1,.str x.2.2]=[some (.loc n),some (.str x.1),some (.str x.2.1),some (.str x.2.2)]:=rfl
  rw [e0]
  push_cast [true_and]
  refine ⟨ySz 3,pI X rfl ⟨t,_,rfl,X.ti,good3 hx,(jo X.uD).good,?_⟩⟩
  rw [JW,show (false != decide (x∈ts))=decide (x∈ts) by cases decide (x∈ts) <;> rfl]
  exact q
def A9 (C:Addr) (W:yal):AN:=fun ds S Q=>∃ n,ds=[.loc n]∧S.length=n+1∧S[n]? = some (some (.ins C [] []))∧∀ S',bD C W S' n [n,n+1,n+2,n+3] [] []→(∀ k,k<n→S'[k]? = S[k]?)→S'.length=n+4→Q (.dat .bw) S'
theorem Kg {f:Addr}{fd:yaq} (T:Txt K mg ec EP C fi) (F:uz K "__init__" "Web.__init__" rZ f fd):bW P w K mg base iZ 1 f fd iI (bf K (A9 C w)):=by
 refine M7 F IF (fun ds S Q h => ?_) (fun f cdv A outer s H E hr => ?_)
 ·obtain ⟨n,rfl,_⟩:=h;rfl
 ·refine ⟨_,(M.ah (M.mL (M.pv 0) (M.Ei M.jD) T.cl T.bO)
   (M.ah (M.mL (M.pv 0) (M.Ei M.jC) T.cl T.n_tied)
   (M.aq (M.mL (M.pv 0) (M.Ei M.jD) T.cl T.n_near)))),fun ds S Q h => ?_⟩
  obtain ⟨n,rfl,hl,hn,q⟩:=h
  have e0:aM yL [.loc n]=[some (.loc n)]:=rfl
  rw [e0]
  push_cast [true_and]
  have p2:∀ a c:D,putD "tied" c ["marked"] [a]=((["marked","tied"]:List Str),[a,c]):=fun a c=>by
   unfold putD;rw [yIn (by decide +kernel)];rfl
  have p3:∀ a c d:D,putD "near" d ["marked","tied"] [a,c]=((["marked","tied","near"]:List Str),[a,c,d]):=fun a c d=>by
   unfold putD;rw [yIn (by decide +kernel)];unfold putD;rw [yIn (by decide +kernel)];rfl
  refine vO (o:=.dct [] []) rfl hn (by decide) (fun _ q=>q) rfl ?_
  generalize e1:(S++[some (MO.dct [] [])]).set n _=S1
  have l1:S1.length=n+2:=by rw [← e1,zbW,zaT];simp;lia
  have a1:S1[n]? = some (some (.ins C ["marked"] [.loc S.length])):=by rw [← e1];exact bM (fG hn)
  simp only [q9]
  refine vO (o:=nO w []) rfl a1 (by decide) (fun _ q=>q) (p2 _ _) ?_
  generalize e2:(S1++[some (nO w [])]).set n _=S2
  have l2:S2.length=n+3:=by rw [← e2,zbW,zaT];simp;lia
  have a2:S2[n]? = some (some (.ins C ["marked","tied"] [.loc S.length,.loc S1.length])):=by rw [← e2];exact bM (fG a1)
  try simp only [q9]
  refine vO (o:=.dct [] []) rfl a2 (by decide) (fun _ q=>q) (p3 _ _ _) ?_
  generalize e3:(S2++[some (MO.dct [] [])]).set n _=S3
  have l3:S3.length=n+4:=by rw [← e3,zbW,zaT];simp;lia
  refine q S3 ⟨n+1,n+2,n+3,[],rfl,rfl,⟨?_,?_,?_,?_,by simp,by simp,?_,.nil,.nil,by simp,by simp,by simp,by simp,by decide,by simp,by decide⟩⟩ (fun k hk => ?_) l3
  ·rw [← e3]
   have:=bM (o':=some (.ins C ["marked","tied","near"] [.loc S.length,.loc S1.length,.loc S2.length])) (fG (X:=[some (.dct [] [])]) a2)
   rw [this,hl,l1,l2]
  ·rw [← e3,bg (by lia),fF (by lia),← e2,bg (by lia),fF (by lia),← e1,bg (by lia),show n+1=S.length by lia]
   exact dD
  ·rw [← e3,bg (by lia),fF (by lia),← e2,bg (by lia),show n+2=S1.length by lia]
   exact dD
  ·rw [← e3,bg (by lia),show n+3=S2.length by lia]
   exact dD
  ·simp only [cells,zcm,zbO,zbP,zcf,zbE,or_false]
   refine ⟨by lia,by lia,by lia,by simp,.nil⟩
  ·rw [← e3,bg (by lia),fF (by lia),← e2,bg (by lia),fF (by lia),← e1,bg (by lia),fF (by lia)]
def mQ (C:Addr) (W:yal) (S:aG) (n:Nat) (own:List Nat) (ks:List Kn) (ts:List Ti) (Q:AK):Prop:=∀ S' own',bD C W S' n own' ks ts→Fr S S' own own'→Q (.dat .bw) S'
def GQ (mk:D) (ms:List Str):Prop:=mk = .lst (ms.map D.str)∨mk = .tup (ms.map D.str)
theorem GQ.walk {mk:D}{ms:List Str} (h:GQ mk ms) {S:aG}{Q:List D→(aG→Prop)→aG→Prop} (q:Q (ms.map D.str) (fun _=>True) S):Ct S Q mk:=by
 rcases h with rfl | rfl <;> exact q
def A6 (C:Addr) (W:yal):AN:=fun ds S Q=>∃ n x mk ms own ks ts,ds=[.loc n,.str x,mk]∧GQ mk ms∧bD C W S n own ks ts∧x ∉ nms ks∧ks.length<63∧ms.length<64∧ms.Nodup∧lg x=true∧(∀ m∈ms,lg m=true) ∧
 mQ C W S n own (ks++[(x,ms)]) ts Q
theorem Kd (T:Txt K mg ec EP C fi) (F:dH K C "lay_knot" "Web.lay_knot" jZ Bw):cj P w K mg base 1 C "lay_knot" jZ (A6 C w):=by
 refine gU F IE (fun ds S Q h => ?_) (fun f cdv A outer s H E hr => ?_)
 ·obtain ⟨n,x,mk,ms,own,ks,ts,rfl,_⟩:=h;rfl
 ·refine ⟨_,(M.ah (M.sF (e8 hr) (M.bu (M.pv 0) T.cl T.bO) (M.pv 1) (M.Ei (M.Fc (M.Fo hr) (by rfl) T.dict (by decide +kernel) (M.ak (M.iy (N:=["mark"]) (caps:=[none]) (iY (by decide +kernel)) (by rfl) (by rfl) rfl (M.fB (M.pv 2)) (fun _ _ _ _=>(M.aN (i:=0) (by decide +kernel:List.Nodup (["mark"]:List Str)) rfl (Or.inl rfl))) (fun _ _ _ _=>M.dz) (fun _ _ _ _=>(M.aD (M.ak (M.pv 0) (M.ak M.gk M.aa))))) M.aa))) rfl)
   (M.aq (M.sF (e8 hr) (M.bu (M.pv 0) T.cl T.n_near) (M.pv 1) (M.Ei M.jC) rfl))),fun ds S Q h => ?_⟩
  obtain ⟨n,x,mk,ms,own,ks,ts,rfl,hmk,⟨m,t,e,cs,rfl,rfl,X⟩,hx,hkl,hml,hmn,ox,oms,q⟩:=h
  have e0:aM yJ [.loc n,.str x,mk]=[some (.loc n),some (.str x),some mk]:=rfl
  rw [e0]
  rw [dN] at hx
  rw [zbN] at hkl
  push_cast [true_and]
  have A':=apart X.nd
  refine ⟨_,rfl,hmk.walk ?_⟩
  show c9 (fun _=>True) (bP 0) kJ _ (ms.map D.str) [] _ S _
  refine comp_map (δ:=nW [none] [some (.loc n),some (.str x),some mk]) (fun d=>.tup [d,.bl true]) trivial (ms.map D.str) [] _ rfl (fun y hy Q' q'=>⟨_,rfl,ySz 2,q'⟩) (by rw [zbN,yag];simp;lia) ?_
  refine ⟨_,Ef ms,rfl,?_,by unfold Ef;rw [zbN];lia,?_⟩
  ·show D.lst _=D.lst _
   rw [zbU,zcp]
   unfold Ef
   rw [zcp];rfl
  show DE _ _ _ _ (S++[some (MO.dct (qQ (Ef ms)).1 (qQ (Ef ms)).2)]) _
  rw [Gj hmn]
  have X1:=X.app (Y:=[some (mO ms)])
  have lS:(S++[some (mO ms)]).length=S.length+1:=by simp
  let c:Kc:=⟨x,ms,S.length,S.length+1⟩
  refine gp X1 rfl ⟨_,rfl,m,_,_,.inr x,rfl,rfl,X1.uE,by rw [zbN];lia,?_⟩
  have p1:nN (kk cs) (cs.map fun c=>D.loc c.mc) (.inr x) (.loc S.length) = .dct (kk (cs++[c])) ((cs++[c]).map fun c=>.loc c.mc):=BL (c:=c) (f:=fun c=>.loc c.mc) hx
  have p2:nN (kk cs) (cs.map fun c=>D.loc c.nc) (.inr x) (.loc (S.length+1)) = .dct (kk (cs++[c])) ((cs++[c]).map fun c=>.loc c.nc):=BL (c:=c) (f:=fun c=>.loc c.nc) hx
  dsimp only
  rw [show (R.dat (D.loc S.length)).d=D.loc S.length from rfl,p1]
  generalize e1:(S++[some (mO ms)]).set m _=S1
  have l1:S1.length=S.length+1:=by rw [← e1,zbW,lS]
  have o1:∀ k,k≠m→S1[k]? = (S++[some (mO ms)])[k]? := fun k hk=>by rw [← e1,bg hk]
  have m1:S1[m]? = some (some (.dct (kk (cs++[c])) ((cs++[c]).map fun c=>.loc c.mc))):=by rw [← e1];exact bM X1.uE
  refine ⟨_,rfl,n,_,_,_,rfl,fG (by rw [o1 n A'.nm];exact X1.at_),rfl,_,rfl,e,_,_,.inr x,rfl,rfl,fG (by rw [o1 e (Ne.symm A'.me)];exact X1.ne),by rw [zbN];lia,?_⟩
  show Q (.dat .bw) ((S1++[some (nO w [])]).set e (some (nN (kk cs) (cs.map fun c=>D.loc c.nc) (.inr x) (.loc S1.length))))
  rw [l1,p2]
  generalize e2:(S1++[some (nO w [])]).set e _=S2
  have l2:S2.length=S.length+2:=by rw [← e2,zbW,zaT,l1];rfl
  have el:=X.lt e Np
  have ml:=X.lt m Nn
  have o2:∀ k,k<S.length→k≠m→k≠e→S2[k]? = S[k]? := fun k hk h1 h2=>by rw [← e2,bg h2,fF (by lia),o1 k h1,fF hk]
  have m2:S2[m]? = some (some (.dct (kk (cs++[c])) ((cs++[c]).map fun c=>.loc c.mc))):=by rw [← e2,bg A'.me];exact fG m1
  have n2:S2[e]? = some (some (.dct (kk (cs++[c])) ((cs++[c]).map fun c=>.loc c.nc))):=by rw [← e2];exact bM (fG (by rw [o1 e (Ne.symm A'.me)];exact X1.ne))
  have c1:S2[S.length]? = some (some (mO ms)):=by rw [← e2,bg (by lia),fF (by lia),o1 _ (by lia)];exact dD
  have c2:S2[S.length+1]? = some (some (nO w [])):=by rw [← e2,bg (by lia),← l1];exact dD
  have hxx:∀ j,¬ stp ts x j:=fun j z=>by
   rcases z with ⟨_,z⟩ | ⟨_,z⟩
   ·exact hx (X.tk _ z).1
   ·exact hx (X.tk _ z).2
  have mem:∀ c'∈cs++[c],c'∈cs∨c'=c:=fun c' h=>by simpa using h
  have LU:kO (cs++[c])=kO cs++[x]:=by unfold kO;rw [zbV];rfl
  refine q S2 _ ⟨m,t,e,cs++[c],rfl,by rw [zbV];rfl,⟨?_,m2,?_,n2,fun c' hc' => ?_,fun c' hc' => ?_,?_,?_,X.tn,fun c' hc' => ?_,fun c' hc' => ?_,X.uD,fun t' ht' => ?_,by rw [zaT];simp;lia,fun c' hc' => ?_,X.tb⟩⟩ ⟨fun k hk hn => ?_,by lia,fun c' hc' => ?_⟩
  ·rw [o2 n (X.lt n Pf) A'.nm A'.ne];exact X.at_
  ·rw [o2 t (X.lt t Nl) (Ne.symm A'.mt) A'.te];exact X.ti
  ·rcases mem c' hc' with h | rfl
   ·rw [o2 _ (X.lt _ (Mu h)) (Ne.symm (A'.mc c' h).1) (Ne.symm (A'.ec c' h).1)];exact X.zA c' h
   ·exact c1
  ·rcases mem c' hc' with h | rfl
   ·rw [o2 _ (X.lt _ (z8 h)) (Ne.symm (A'.mc c' h).2) (Ne.symm (A'.ec c' h).2)];exact X.zm c' h
   ·exact ⟨[],c2,.nil,by simp,by simp,fun j=>⟨fun z=>by simp at z,fun z=>(hxx j z).elim⟩⟩
  ·refine (nU c).nodup_iff.mpr ?_
   have b1:S.length ∉ cells n m t e cs:=fun z=>by have:=X.lt _ z;lia
   have b2:S.length+1 ∉ cells n m t e cs:=fun z=>by have:=X.lt _ z;lia
   refine zbP.mpr ⟨fun z => ?_,zbP.mpr ⟨b2,X.nd⟩⟩
   rcases zcf.mp z with z | z
   ·have z:S.length=S.length+1:=z
    lia
   ·exact b1 z
  ·rw [LU]
   refine zbq.mpr ⟨X.kn,by simp,fun a ha b hb z=>hx ?_⟩
   have:b=x:=by simpa using hb
   rw [← this,← z];exact ha
  ·rcases mem c' hc' with h | rfl
   ·exact X.mn c' h
   ·exact hmn
  ·rcases mem c' hc' with h | rfl
   ·exact X.okn c' h
   ·exact ⟨ox,oms⟩
  ·rw [LU]
   exact ⟨zaD _ (X.tk t' ht').1,zaD _ (X.tk t' ht').2⟩
  ·rcases mem c' hc' with h | rfl
   ·exact X.mb c' h
   ·exact hml
  ·exact o2 k hk (fun z=>hn (z ▸ Nn)) fun z=>hn (z ▸ Np)
  ·have:=(nU c).mem_iff.mp hc'
   rcases zcf.mp this with z | z
   ·exact .inr (by rw [z];exact zcE _)
   ·rcases zcf.mp z with z | z
    ·exact .inr (by rw [z];exact Nat.le_succ _)
    ·exact .inl z
def uQ (C:Addr) (W:yal):AN:=fun ds S Q=>∃ n x mk ms own ks ts,ds=[.loc n,.str x,mk]∧GQ mk ms∧bD C W S n own ks ts∧x ∉ nms ks∧ks.length<40∧ms.length<64∧ms.Nodup∧lg x=true∧(∀ m∈ms,lg m=true) ∧
 mQ C W S n own (ks++[(x,ms)]) ts Q
theorem J7 (T:Txt K mg ec EP C fi) (F:dH K C "put_knot" "Web.put_knot" d9 xA) (D_lay_knot:cj P w K mg base 1 C "lay_knot" jZ (A6 C w)):cj P w K mg base 2 C "put_knot" d9 (uQ C w):=by
 refine gU F Bm (fun ds S Q h => ?_) (fun f cdv A outer s H E hr => ?_)
 ·obtain ⟨n,x,mk,ms,own,ks,ts,rfl,_⟩:=h;rfl
 ·refine ⟨_,(M.ah (M.bC (M.aA (M.B6 hr) (M.pv 1) (M.bu (M.pv 0) T.cl T.bO) rfl)
    (M.aq M.eB)
    M.aJ)
   (M.ah (M.bC (M.aA M.B7 (M.eE M.fK (by rfl) T.len (by decide +kernel) (M.ak (M.bu (M.pv 0) T.cl T.bO) M.aa)) T.iS (aQ _))
    (M.aq M.eB)
    M.aJ)
   (M.aq (M.aR (M.bh (M.pv 0) T.cl D_lay_knot (hr.mono (by decide)) (M.ak (M.pv 1) (M.ak (M.pv 2) M.aa))))))),fun ds S Q h => ?_⟩
  obtain ⟨n,x,mk,ms,own,ks,ts,rfl,hmk,⟨m,t,e,cs,rfl,rfl,X⟩,hx,hkl,hml,hmn,ox,oms,q⟩:=h
  have e0:aM rq [.loc n,.str x,mk]=[some (.loc n),some (.str x),some mk]:=rfl
  rw [e0]
  have hx':=hx
  rw [dN] at hx'
  rw [zbN] at hkl
  push_cast [true_and]
  refine gp X rfl (FN X ⟨_,rfl,?_⟩)
  rw [yDf hx',yIn (by decide)]
  refine gp X rfl ⟨cs.length,?_,?_⟩
  ·rw [cY,bx X.uE]
   show some (kk cs).length=_
   unfold kk
   rw [zbN]
  rw [yDf (by lia),yIn (by decide)]
  exact br rfl X.at_ (by decide +kernel) ⟨_,rfl,_,rfl,n,x,mk,ms,_,_,ts,rfl,hmk,⟨m,t,e,cs,rfl,rfl,X⟩,hx,by rw [zbN];lia,hml,hmn,ox,oms,q⟩
theorem lq {x:Ti} (h:gq x=true):lg x.1=true∧lg x.2.1=true∧lg x.2.2=true:=by
 unfold gq at h
 rw [zbH,zbH] at h
 exact ⟨h.1.1,h.1.2,h.2⟩
theorem bY.jI {W:yal}{S:aG}{n m t e:Nat}{cs:List Kc}{ts:List Ti}{N:Str→Ti→Prop} (X:bY C W S n m t e cs ts N) {x:Str} (hx:x∈kO cs):∃ c∈cs,c.nm=x∧kF (kk cs) (cs.map fun c=>D.loc c.nc) (.inr x)=some (.loc c.nc)∧kF (kk cs) (cs.map fun c=>D.loc c.mc) (.inr x)=some (.loc c.mc):=by
 obtain ⟨c,hc,h1,h2⟩:=Cz hx
 exact ⟨c,hc,h1,h2 _,h2 _⟩
def A5 (C:Addr) (W:yal):AN:=fun ds S Q=>∃ n x own ks ts,ds=[.loc n,.str x.1,.str x.2.1,.str x.2.2]∧bD C W S n own ks ts∧x.1∈nms ks∧x.2.2∈nms ks∧x ∉ ts∧ts.length<302∧gq x=true∧mQ C W S n own ks (ts++[x]) Q
noncomputable abbrev zj (b c:Str):Ti:=("on",b,c)
noncomputable abbrev gW (b c:Str):Ti:=("back",b,c)
theorem Ex {ts:List Ti}{x1 x2 x3 y:Str}{j:Ti}:((stp ts y j∨(y=x1∧j=zj x2 x3))∨(y=x3∧j=gW x2 x1))↔stp (ts++[(x1,x2,x3)]) y j:=by
 obtain ⟨a,b,g⟩:=j
 simp only [stp,zbM,zaW,Prod.mk.injEq]
 constructor
 ·rintro (((⟨rfl,h⟩ | ⟨rfl,h⟩) | ⟨rfl,rfl,rfl,rfl⟩) | ⟨rfl,rfl,rfl,rfl⟩)
  ·exact .inl ⟨rfl,.inl h⟩
  ·exact .inr ⟨rfl,.inl h⟩
  ·exact .inl ⟨rfl,.inr ⟨rfl,rfl,rfl⟩⟩
  ·exact .inr ⟨rfl,.inr ⟨rfl,rfl,rfl⟩⟩
 ·rintro (⟨rfl,h | ⟨rfl,rfl,rfl⟩⟩ | ⟨rfl,h | ⟨rfl,rfl,rfl⟩⟩)
  ·exact .inl (.inl (.inl ⟨rfl,h⟩))
  ·exact .inl (.inr ⟨rfl,rfl,rfl,rfl⟩)
  ·exact .inl (.inl (.inr ⟨rfl,h⟩))
  ·exact .inr ⟨rfl,rfl,rfl,rfl⟩
noncomputable def mZ (ts:List Ti) (x:Ti):List Ti:=ts.filter fun y=>decide (y≠x)
theorem ni {ts:List Ti}{x y:Ti}:y∈mZ ts x↔y∈ts∧y≠x:=by unfold mZ;rw [zbL];simp
theorem Ey {ts:List Ti}{x1 x2 x3 y:Str}{j:Ti}:((stp ts y j ∧ ¬ (y=x1∧j=zj x2 x3)) ∧ ¬ (y=x3∧j=gW x2 x1))↔stp (mZ ts (x1,x2,x3)) y j:=by
 obtain ⟨a,b,g⟩:=j
 simp only [stp,ni,ne_eq,Prod.mk.injEq]
 have nb:(Str.ofString "on")≠Str.ofString "back" := by decide +kernel
 constructor
 ·rintro ⟨⟨⟨rfl,h⟩ | ⟨rfl,h⟩,h1⟩,h2⟩
  ·exact .inl ⟨rfl,h,fun z=>h1 ⟨z.1,rfl,z.2.1,z.2.2⟩⟩
  ·exact .inr ⟨rfl,h,fun z=>h2 ⟨z.2.2,rfl,z.2.1,z.1⟩⟩
 ·rintro (⟨rfl,h,h1⟩ | ⟨rfl,h,h1⟩)
  ·exact ⟨⟨.inl ⟨rfl,h⟩,fun z=>h1 ⟨z.1,z.2.2.1,z.2.2.2⟩⟩,fun z=>nb z.2.1⟩
  ·exact ⟨⟨.inr ⟨rfl,h⟩,fun z=>nb z.2.1.symm⟩,fun z=>h1 ⟨z.2.2.2,z.2.2.1,z.1⟩⟩
theorem qB {a b c:Str} (ha:lg a=true) (h1:lg b=true) (h2:lg c=true):gq (a,b,c)=true:=by unfold gq;rw [ha,h1,h2];rfl
theorem Ka (T:Txt K mg ec EP C fi) (F:dH K C "lay_tie" "Web.lay_tie" jY xB):cj P w K mg base 1 C "lay_tie" jY (A5 C w):=by
 refine gU F ID (fun ds S Q h => ?_) (fun f cdv A outer s H E hr => ?_)
 ·obtain ⟨n,x,own,ks,ts,rfl,_⟩:=h;rfl
 ·refine ⟨_,(M.ah (M.jx hr (M.bu (M.pv 0) T.cl T.n_tied) (M.aD (M.ak (M.pv 1) (M.ak (M.pv 2) (M.ak (M.pv 3) M.aa)))) M.gk rfl)
   (M.ah (M.jx hr (M.c5 (e8 hr) (M.bu (M.pv 0) T.cl T.n_near) (M.pv 1) (fun _ _=>rfl)) (M.aD (M.ak M.ao (M.ak (M.pv 2) (M.ak (M.pv 3) M.aa)))) M.gk rfl)
   (M.aq (M.jx hr (M.c5 (e8 hr) (M.bu (M.pv 0) T.cl T.n_near) (M.pv 3) (fun _ _=>rfl)) (M.aD (M.ak M.ao (M.ak (M.pv 2) (M.ak (M.pv 1) M.aa)))) M.gk rfl)))),fun ds S Q h => ?_⟩
  obtain ⟨n,x,own,ks,ts,rfl,⟨m,t,e,cs,rfl,rfl,X⟩,hx1,hx2,hx,hkl,ox,q⟩:=h
  have e0:aM rB [.loc n,.str x.1,.str x.2.1,.str x.2.2]=[some (.loc n),some (.str x.1),some (.str x.2.1),some (.str x.2.2)]:=rfl
  rw [e0]
  rw [dN] at hx1 hx2
  push_cast [true_and]
  obtain ⟨x1,x2,x3⟩:=x
  obtain ⟨k1,k2,k3⟩:=lq ox
  have hw:(d7 iZ P w K mg base rB "Web.lay_tie" (ai xB) f cdv A outer s H E).w=w:=rfl
  simp only [hw]
  refine qD (pI X rfl ⟨_,rfl,_,rfl,_,rfl,ySz 3,t,ts.map T3,rfl,X.ti,good3 ox,(jo X.uD).good,by rw [zbN];lia,?_⟩)
  show fT.nx _ _ (S.set t (some (nO w (putN (ts.map T3) (T3 (x1,x2,x3))))))
  rw [put3 hx]
  have X1:=X.Et (ts':=ts++[(x1,x2,x3)]) (by
   refine zbq.mpr ⟨X.tn,by simp,fun a ha b hb z=>hx ?_⟩
   have:b=(x1,x2,x3):=by simpa using hb
   rw [← this,← z];exact ha) (fun t' ht'=>by
   rcases zbM.mp ht' with h | h
   ·exact X.uD t' h
   ·have:t'=(x1,x2,x3):=by simpa using h
    rw [this];exact ox) (fun t' ht'=>by
   rcases zbM.mp ht' with h | h
   ·exact X.tk t' h
   ·have:t'=(x1,x2,x3):=by simpa using h
    rw [this];exact ⟨hx1,hx2⟩) (by rw [zaT];simp;lia)
  generalize e1:S.set t _=S1 at X1
  have f1:Fr S S1 (cells n m t e cs) (cells n m t e cs):=by rw [← e1];exact .set Nl
  obtain ⟨c,hc,hcn,g1,_⟩:=X1.jI hx1
  have hcn:c.nm=x1:=hcn
  obtain ⟨js,j1,j2,j3,j4,j5⟩:=X1.zm c hc
  have jl:=wR j2 fun j hj=>hcn ▸ (j5 j).mp hj
  have on_:gq (zj x2 x3)=true:=qB (by decide +kernel) k2 k3
  have yv:gq (gW x2 x1)=true:=qB (by decide +kernel) k2 k1
  simp only [q9]
  refine qD (c8 (pJ X1 rfl ⟨_,rfl,_,_,_,_,bx X1.ne,rfl,g1,_,rfl,_,rfl,ySz 3,c.nc,js.map T3,rfl,j1,good3 on_,(jo j4).good,by rw [zbN];lia,?_⟩))
  show fT.nx _ _ (S1.set c.nc (some (nO w (putN (js.map T3) (T3 (zj x2 x3))))))
  obtain ⟨js',p1,p2,p3,p4⟩:=Hj js (zj x2 x3) j2
  rw [p1]
  have X2:=X1.near (N':=fun y j=>stp ts y j∨(y=x1∧j=(zj x2 x3))) hc p2 (by lia) (fun j hj=>by
   rcases (p4 j).mp hj with h | h
   ·exact j4 j h
   ·rw [h];exact on_) (fun j=>(p4 j).trans ⟨fun h=>h.imp (j5 j).mp fun h=>⟨hcn,h⟩,fun h=>h.imp (j5 j).mpr fun h=>h.2⟩) (fun y hy j=>⟨.inl,fun h=>h.elim id fun h=>absurd (h.1.trans hcn.symm) hy⟩)
  generalize e2:S1.set c.nc _=S2 at X2
  have f2:Fr S S2 (cells n m t e cs) (cells n m t e cs):=by rw [← e2];exact f1.trans (.set (z8 hc))
  obtain ⟨d,hd,hdn,g2,_⟩:=X2.jI hx2
  have hdn:d.nm=x3:=hdn
  obtain ⟨is,i1,i2,i3,i4,i5⟩:=X2.zm d hd
  have il:is.length≤899:=by
   by_cases hcd:d.nc=c.nc
   ·have hdc:d=c:=gh (apart X.nd).nn d hd c hc hcd
    subst hdc
    have:is.length≤js'.length:=L2.iz i2 fun j hj=>by
     rcases (i5 j).mp hj with h | h
     ·exact (p4 j).mpr (.inl ((j5 j).mpr h))
     ·exact (p4 j).mpr (.inr h.2)
    lia
   ·have:=wR (ts:=ts) (x:=x3) (js:=is) i2 fun j hj=>by
     rcases (i5 j).mp hj with h | h
     ·exact hdn ▸ h
     ·exact absurd (by rw [gh X.kn d hd c hc (h.1.trans hcn.symm)]) hcd
    lia
  try simp only [q9]
  refine qD (c8 (pJ X2 rfl ⟨_,rfl,_,_,_,_,bx X2.ne,rfl,g2,_,rfl,_,rfl,ySz 3,d.nc,is.map T3,rfl,i1,good3 yv,(jo i4).good,by rw [zbN];lia,?_⟩))
  show fT.nx _ _ (S2.set d.nc (some (nO w (putN (is.map T3) (T3 (gW x2 x1))))))
  obtain ⟨is',r1,r2,r3,r4⟩:=Hj is (gW x2 x1) i2
  rw [r1]
  have X3:=X2.near (N':=fun y j=>(stp ts y j∨(y=x1∧j=(zj x2 x3)))∨(y=x3∧j=(gW x2 x1))) hd r2 (by lia) (fun j hj=>by
   rcases (r4 j).mp hj with h | h
   ·exact i4 j h
   ·rw [h];exact yv) (fun j=>(r4 j).trans ⟨fun h=>h.imp (i5 j).mp fun h=>⟨hdn,h⟩,fun h=>h.imp (i5 j).mpr fun h=>h.2⟩) (fun y hy j=>⟨.inl,fun h=>h.elim id fun h=>absurd (h.1.trans hdn.symm) hy⟩)
  refine q _ _ ⟨m,t,e,cs,rfl,rfl,X3.Hu fun y j => ?_⟩ (f2.trans (.set (z8 hd)))
  exact Ex
def AZ (C:Addr) (W:yal):AN:=fun ds S Q=>∃ n x own ks ts,ds=[.loc n,.str x.1,.str x.2.1,.str x.2.2]∧bD C W S n own ks ts∧x.1∈nms ks∧x.2.2∈nms ks∧x ∉ ts∧ts.length<300∧gq x=true∧mQ C W S n own ks (ts++[x]) Q
theorem J6 (T:Txt K mg ec EP C fi) (F:dH K C "put_tie" "Web.put_tie" fj xy) (D_need_knot:cj P w K mg base 1 C "need_knot" dh (f9 C w)) (D_has_tie:cj P w K mg base 1 C "has_tie" ji (w6 C w)) (D_lay_tie:cj P w K mg base 1 C "lay_tie" jY (A5 C w)):cj P w K mg base 2 C "put_tie" fj (AZ C w):=by
 refine gU F Bl (fun ds S Q h => ?_) (fun f cdv A outer s H E hr => ?_)
 ·obtain ⟨n,x,own,ks,ts,rfl,_⟩:=h;rfl
 ·refine ⟨_,(M.ah (M.aR (M.bh (M.pv 0) T.cl D_need_knot (hr.mono (by decide)) (M.ak (M.pv 1) M.aa)))
   (M.ah (M.aR (M.bh (M.pv 0) T.cl D_need_knot (hr.mono (by decide)) (M.ak (M.pv 3) M.aa)))
   (M.ah (M.bC (M.i8 (M.bh (M.pv 0) T.cl D_has_tie (hr.mono (by decide)) (M.ak (M.pv 1) (M.ak (M.pv 2) (M.ak (M.pv 3) M.aa)))))
    (M.aq M.eB)
    M.aJ)
   (M.ah (M.bC (M.aA M.B7 (M.eE M.B5 (by rfl) T.len (by decide +kernel) (M.ak (M.bu (M.pv 0) T.cl T.n_tied) M.aa)) T.jF (aQ _))
    (M.aq M.eB)
    M.aJ)
   (M.aq (M.aR (M.bh (M.pv 0) T.cl D_lay_tie (hr.mono (by decide)) (M.ak (M.pv 1) (M.ak (M.pv 2) (M.ak (M.pv 3) M.aa)))))))))),fun ds S Q h => ?_⟩
  obtain ⟨n,x,own,ks,ts,rfl,X',hx1,hx2,hx,hkl,ox,q⟩:=h
  obtain ⟨m,t,e,cs,rfl,rfl,X⟩:=id X'
  have e0:aM rm [.loc n,.str x.1,.str x.2.1,.str x.2.2]=[some (.loc n),some (.str x.1),some (.str x.2.1),some (.str x.2.2)]:=rfl
  rw [e0]
  push_cast [true_and]
  refine br rfl X.at_ (by decide +kernel) ⟨_,rfl,n,x.1,_,_,ts,rfl,X',hx1,?_⟩
  refine br rfl X.at_ (by decide +kernel) ⟨_,rfl,n,x.2.2,_,_,ts,rfl,X',hx2,?_⟩
  refine br rfl X.at_ (by decide +kernel) ⟨_,rfl,_,rfl,_,rfl,n,x,_,_,ts,rfl,X',ox,?_⟩
  refine ⟨false,by rw [yDf hx];rfl,?_⟩
  rw [yIn (by decide)]
  refine pI X rfl ⟨t,ts.map T3,rfl,X.ti,by rw [zbN];lia,?_⟩
  refine ⟨_,_,rfl,rfl,trivial,_,rfl,?_⟩
  rw [zbN,yDf (by lia),yIn (by decide)]
  exact br rfl X.at_ (by decide +kernel) ⟨_,rfl,_,rfl,_,rfl,n,x,_,_,ts,rfl,X',hx1,hx2,hx,by lia,ox,q⟩
def Bb (C:Addr) (W:yal):AN:=fun ds S Q=>∃ n x own ks ts,ds=[.loc n,.str x.1,.str x.2.1,.str x.2.2]∧bD C W S n own ks ts∧x.1∈nms ks∧x.2.2∈nms ks∧gq x=true∧mQ C W S n own ks (mZ ts x) Q
theorem Kl (T:Txt K mg ec EP C fi) (F:dH K C "drop_tie" "Web.drop_tie" j6 xD):cj P w K mg base 1 C "drop_tie" j6 (Bb C w):=by
 refine gU F II (fun ds S Q h => ?_) (fun f cdv A outer s H E hr => ?_)
 ·obtain ⟨n,x,own,ks,ts,rfl,_⟩:=h;rfl
 ·refine ⟨_,(M.ah (M.aR (M.jB hr (M.bu (M.pv 0) T.cl T.n_tied) (M.aD (M.ak (M.pv 1) (M.ak (M.pv 2) (M.ak (M.pv 3) M.aa)))) M.ja ⟨rfl,rfl,rfl,rfl⟩))
   (M.ah (M.aR (M.jB hr (M.c5 (e8 hr) (M.bu (M.pv 0) T.cl T.n_near) (M.pv 1) (fun _ _=>rfl)) (M.aD (M.ak M.ao (M.ak (M.pv 2) (M.ak (M.pv 3) M.aa)))) M.ja ⟨rfl,rfl,rfl,rfl⟩))
   (M.aq (M.aR (M.jB hr (M.c5 (e8 hr) (M.bu (M.pv 0) T.cl T.n_near) (M.pv 3) (fun _ _=>rfl)) (M.aD (M.ak M.ao (M.ak (M.pv 2) (M.ak (M.pv 1) M.aa)))) M.ja ⟨rfl,rfl,rfl,rfl⟩))))),fun ds S Q h => ?_⟩
  obtain ⟨n,x,own,ks,ts,rfl,⟨m,t,e,cs,rfl,rfl,X⟩,hx1,hx2,ox,q⟩:=h
  have e0:aM rD [.loc n,.str x.1,.str x.2.1,.str x.2.2]=[some (.loc n),some (.str x.1),some (.str x.2.1),some (.str x.2.2)]:=rfl
  rw [e0]
  rw [dN] at hx1 hx2
  push_cast [true_and]
  obtain ⟨x1,x2,x3⟩:=x
  obtain ⟨k1,k2,k3⟩:=lq ox
  have hw:(d7 iZ P w K mg base rD "Web.drop_tie" (ai xD) f cdv A outer s H E).w=w:=rfl
  simp only [hw]
  have X1:=X.Et (ts':=mZ ts (x1,x2,x3)) (X.tn.sublist zaO) (fun t' ht'=>X.uD t' (ni.mp ht').1) (fun t' ht'=>X.tk t' (ni.mp ht').1) (zcs (zav ..) X.tb)
  refine qE (pI X rfl ⟨t,_,rfl,X.ti,_,rfl,_,rfl,_,rfl,ySz 3,ts.map T3,X.ti,good3 ox,(jo X.uD).good,by rw [zbN];have:=X.tb;lia,fun d0 _ => ?_⟩)
  try dsimp only
  rw [show (R.dat (D.tup [(R.dat (D.str x1)).d,(R.dat (D.str x2)).d,(R.dat (D.str x3)).d])).d=T3 (x1,x2,x3) from rfl,CN]
  change bY C w (S.set t (some (nO w ((ts.filter fun i=>decide (i≠(x1,x2,x3))).map T3)))) _ _ _ _ _ _ _ at X1
  generalize e1:S.set t _=S1 at X1 ⊢
  have f1:Fr S S1 (cells n m t e cs) (cells n m t e cs):=by rw [← e1];exact .set Nl
  obtain ⟨c,hc,hcn,g1,_⟩:=X1.jI hx1
  have hcn:c.nm=x1:=hcn
  obtain ⟨js,j1,j2,j3,j4,j5⟩:=X1.zm c hc
  have on_:gq (zj x2 x3)=true:=qB (by decide +kernel) k2 k3
  have yv:gq (gW x2 x1)=true:=qB (by decide +kernel) k2 k1
  refine qE (c8 (pJ X1 rfl ⟨_,rfl,_,_,_,_,bx X1.ne,rfl,g1,c.nc,_,rfl,j1,_,rfl,_,rfl,ySz 3,js.map T3,j1,good3 on_,(jo j4).good,by rw [zbN];lia,fun d1 _ => ?_⟩))
  try dsimp only
  rw [show (R.dat (D.tup [(R.dat (D.str "on")).d,(R.dat (D.str x2)).d,(R.dat (D.str x3)).d])).d=T3 (zj x2 x3) from rfl,CN]
  have X2:=X1.near (N':=fun y j=>stp ts y j ∧ ¬ (y=x1∧j=zj x2 x3)) hc (js:=js.filter fun i=>decide (i≠zj x2 x3)) (j2.sublist zaO) (zcs (zav ..) j3) (fun j hj=>j4 j (zbL.mp hj).1)
   (fun j=>⟨fun h=>⟨(j5 j).mp (zbL.mp h).1,fun z=>(of_decide_eq_true (zbL.mp h).2) z.2⟩,fun h=>zbL.mpr ⟨(j5 j).mpr h.1,yDt fun z=>h.2 ⟨hcn,z⟩⟩⟩) (fun y hy j=>⟨fun h=>⟨h,fun z=>hy (z.1.trans hcn.symm)⟩,fun h=>h.1⟩)
  generalize e2:S1.set c.nc _=S2 at X2 ⊢
  have f2:Fr S S2 (cells n m t e cs) (cells n m t e cs):=by rw [← e2];exact f1.trans (.set (z8 hc))
  obtain ⟨d,hd,hdn,g2,_⟩:=X2.jI hx2
  have hdn:d.nm=x3:=hdn
  obtain ⟨is,i1,i2,i3,i4,i5⟩:=X2.zm d hd
  refine qE (c8 (pJ X2 rfl ⟨_,rfl,_,_,_,_,bx X2.ne,rfl,g2,d.nc,_,rfl,i1,_,rfl,_,rfl,ySz 3,is.map T3,i1,good3 yv,(jo i4).good,by rw [zbN];lia,fun d2 _ => ?_⟩))
  try dsimp only
  rw [show (R.dat (D.tup [(R.dat (D.str "back")).d,(R.dat (D.str x2)).d,(R.dat (D.str x1)).d])).d=T3 (gW x2 x1) from rfl,CN]
  have X3:=X2.near (N':=fun y j=>(stp ts y j ∧ ¬ (y=x1∧j=zj x2 x3)) ∧ ¬ (y=x3∧j=gW x2 x1)) hd (js:=is.filter fun i=>decide (i≠gW x2 x1)) (i2.sublist zaO) (zcs (zav ..) i3) (fun j hj=>i4 j (zbL.mp hj).1)
   (fun j=>⟨fun h=>⟨(i5 j).mp (zbL.mp h).1,fun z=>(of_decide_eq_true (zbL.mp h).2) z.2⟩,fun h=>zbL.mpr ⟨(i5 j).mpr h.1,yDt fun z=>h.2 ⟨hdn,z⟩⟩⟩) (fun y hy j=>⟨fun h=>⟨h,fun z=>hy (z.1.trans hdn.symm)⟩,fun h=>h.1⟩)
  exact q _ _ ⟨m,t,e,cs,rfl,rfl,X3.Hu fun y j=>Ey⟩ (f2.trans (.set (z8 hd)))
theorem FE {cs:List Kc} (hn:(kO cs).Nodup) {c:Kc} (hc:c∈cs) {k:Kn} (hk:k∈cs.map Kc.kn) (e:k.1=c.nm):k=c.kn:=by
 obtain ⟨d,hd,rfl⟩:=zcq.mp hk
 rw [gh hn d hd c hc e]
theorem Hz {S:aG}{a:Nat}{ms:List Str} (h:S[a]? = some (some (mO ms))) {neg:Bool}{x:Str}{Q:AK} (q:Q (.dat (.bl (neg != decide (x∈ms)))) S):tY neg (.str x) (.loc a) S Q:=by
 unfold tY
 rw [bx h]
 refine ⟨.inr x,rfl,?_⟩
 rw [tF];exact q
end
open PySem PySem.Spec L2 M M6 PyProof.Rows
noncomputable abbrev vc:Stmt:=inClass (top 21) 7
noncomputable abbrev uw:List Str:=["self"]
noncomputable abbrev g9:List Str:=["self"]
theorem EK:aE uw g9 (ai vc):=L2.cE
noncomputable abbrev qt:Stmt:=inClass (top 21) 8
noncomputable abbrev uv:List Str:=["self","knot"]
noncomputable abbrev di:List Str:=["self","knot"]
theorem xw:aE uv di (ai qt):=L2.cE
noncomputable abbrev qm:Stmt:=inClass (top 21) 10
noncomputable abbrev uq:List Str:=["self","knot"]
noncomputable abbrev dc:List Str:=["self","knot"]
theorem xu:aE uq dc (ai qm):=L2.cE
noncomputable abbrev uX:Stmt:=inClass (top 21) 11
noncomputable abbrev ue:List Str:=["self","knots"]
noncomputable abbrev gX:List Str:=["self"]
theorem xr:aE ue gX (ai uX):=L2.cE
noncomputable abbrev ql:Stmt:=inClass (top 21) 2
noncomputable abbrev uh:List Str:=["self","name","side","word","other"]
noncomputable abbrev dJ:List Str:=["self","name"]
theorem jq:aE uh dJ (ai ql):=L2.cE
noncomputable def jn (l:List Str):List Str:=open Classical in if h:∃ s:List Str,s.Perm l∧sortedS s=true then h.choose else []
theorem uP {l s:List Str} (hn:l.Nodup) (hp:s.Perm l) (hs:sortedS s=true):s=jn l:=by
 have h:∃ s:List Str,s.Perm l∧sortedS s=true:=⟨s,hp,hs⟩
 unfold jn
 rw [dif_pos h]
 exact Ez hn hp h.choose_spec.1 hs h.choose_spec.2
noncomputable def l9 (l:List Ti):List Ti:=open Classical in if h:∃ s:List Ti,s.Perm l∧Eo (s.map T3) then h.choose else []
theorem wV {l s:List Ti} (hn:l.Nodup) (hp:s.Perm l) (hs:Eo (s.map T3)):s=l9 l:=by
 have h:∃ s:List Ti,s.Perm l∧Eo (s.map T3):=⟨s,hp,hs⟩
 unfold l9
 rw [dif_pos h]
 exact wJ (hp.nodup_iff.mpr hn) hs h.choose_spec.2 (h.choose_spec.1.trans hp.symm)
noncomputable def cR (ks:List Kn) (x:Str):List Str:=((ks.find? fun k=>decide (k.1=x)).map (·.2)).getD []
theorem kC {x:Str}:∀ {ks:List Kn},x∈nms ks→(x,cR ks x)∈ks
 | [],h=>by simp at h
 | k::ks,h=>by
  unfold cR
  rw [zbR]
  by_cases e:k.1=x
  ·rw [yDt e]
   subst e
   exact zaS ..
  ·rw [yDf e]
   rcases zcf.mp (show x∈k.1::nms ks from h) with z | z
   ·exact absurd z.symm e
   ·exact zaC _ (kC (ks:=ks) z)
noncomputable def LD (ks:List Kn) (x:Str):D:=.tup [.str x,.tup ((jn (cR ks x)).map D.str)]
noncomputable def r9 (ks:List Kn) (ts:List Ti):D:=.tup [.tup ((jn (nms ks)).map (LD ks)),.tup ((l9 ts).map T3)]
theorem jP {caps:List (Option Nat)}{i:AI}{g:AG}{t:AT}{e:AE}{δ:bE}{S:aG}{Q:AK} (h:i δ S fun ds P S1=>c9 P g t e ds [] (nW caps δ) S1 fun ds' S2=>Q (.new (.lst ds')) S2):jU caps i g t e δ S Q:=h
theorem kH {t:AE}{δ:bE}{S:aG}{Q:List D→(aG→Prop)→aG→Prop} (h:t δ S fun r S1=>Ct S1 Q r.d):FP t δ S Q:=h
theorem JZ {i:AI}{g:AG}{b:AS}{Dx:fT}{δ:bE}{S:aG} (h:i δ S fun ds P S1=>iT P g b ds Dx δ S1):oN i g b Dx δ S:=h
section
variable {P:yak}{w:yal}{K:yaM}{mg:Str→Option yaj}{base:Heap}{ec:Nat→Addr}{EP C fi:Addr}
def wZ (C:Addr) (W:yal):AN:=fun ds S Q=>∃ n own ks ts,ds=[.loc n]∧bD C W S n own ks ts∧((jn (nms ks)).Perm (nms ks)→Q (.new (.lst ((jn (nms ks)).map D.str))) S)
theorem Gg (T:Txt K mg ec EP C fi) (F:dH K C "knots" "Web.knots" g9 vc):cj P w K mg base 1 C "knots" g9 (wZ C w):=by
 refine gU F EK (fun ds S Q h => ?_) (fun f cdv A outer s H E hr => ?_)
 ·obtain ⟨n,own,ks,ts,rfl,_⟩:=h;rfl
 ·refine ⟨_,(M.aq (M.aS (M.eE (M.sI hr) (by rfl) T.sorted (by decide +kernel) (M.ak (M.bu (M.pv 0) T.cl T.bO) M.aa)))),fun ds S Q h => ?_⟩
  obtain ⟨n,own,ks,ts,rfl,⟨m,t,e,cs,rfl,rfl,X⟩,q⟩:=h
  have e0:aM uw [.loc n]=[some (.loc n)]:=rfl
  rw [e0]
  rw [dN] at q
  push_cast [true_and]
  refine gp X rfl ⟨_,cs.map (fun c=>.loc c.mc),kO cs,rfl,?_,by unfold kO;rw [zbN];exact X.kb,fun ss hp hs => ?_⟩
  ·rw [cY,bx X.uE]
   show D.dct _ _=_
   unfold kk kO
   rw [zcp];rfl
  ·have e:=uP X.kn hp hs
   subst e
   exact q hp
def qd (C:Addr) (W:yal):AN:=fun ds S Q=>∃ n own ks ts k,ds=[.loc n,.str k.1]∧bD C W S n own ks ts∧k∈ks∧((jn k.2).Perm k.2→Q (.new (.lst ((jn k.2).map D.str))) S)
theorem Gf (T:Txt K mg ec EP C fi) (F:dH K C "marks" "Web.marks" di qt) (D_need_knot:cj P w K mg base 1 C "need_knot" dh (f9 C w)):cj P w K mg base 2 C "marks" di (qd C w):=by
 refine gU F xw (fun ds S Q h => ?_) (fun f cdv A outer s H E hr => ?_)
 ·obtain ⟨n,own,ks,ts,k,rfl,_⟩:=h;rfl
 ·refine ⟨_,(M.ah (M.aR (M.bh (M.pv 0) T.cl D_need_knot (hr.mono (by decide)) (M.ak (M.pv 1) M.aa)))
   (M.aq (M.aS (M.eE (M.sI hr) (by rfl) T.sorted (by decide +kernel) (M.ak (M.c5 (e8 hr) (M.bu (M.pv 0) T.cl T.bO) (M.pv 1) (fun _ _=>rfl)) M.aa))))),fun ds S Q h => ?_⟩
  obtain ⟨n,own,ks,ts,x,rfl,X',hx,q⟩:=h
  obtain ⟨m,t,e,cs,rfl,rfl,X⟩:=id X'
  have e0:aM uv [.loc n,.str x.1]=[some (.loc n),some (.str x.1)]:=rfl
  rw [e0]
  push_cast [true_and]
  have hx1:x.1∈nms (cs.map Kc.kn):=zcq.mpr ⟨x,hx,rfl⟩
  have hx2:=hx1
  rw [dN] at hx2
  obtain ⟨c,hc,hcn,_,g1⟩:=X.jI hx2
  have ex:=FE X.kn hc hx hcn.symm
  subst ex
  have hm:=X.zA c hc
  refine br rfl X.at_ (by decide +kernel) ⟨_,rfl,n,c.nm,_,_,ts,rfl,X',hx1,?_⟩
  refine c8 (gp X rfl ⟨_,rfl,_,_,_,_,bx X.uE,rfl,g1,⟨_,c.ml.map (fun _=>.bl true),c.ml,rfl,by rw [cY,bx hm];rfl,X.mb c hc,fun ss hp hs => ?_⟩⟩)
  have e:=uP (X.mn c hc) hp hs
  subst e
  exact q hp
def qc (C:Addr) (W:yal):AN:=fun ds S Q=>∃ n own ks ts x,ds=[.loc n,.str x]∧bD C W S n own ks ts∧x∈nms ks ∧
 ∀ us:List Ti,us.Nodup→(∀ j,j∈us↔stp ts x j)→(∀ j∈us,gq j=true)→Eo (us.map T3)→Q (.new (.lst (us.map T3))) S
theorem F8 (T:Txt K mg ec EP C fi) (F:dH K C "steps" "Web.steps" dc qm) (D_need_knot:cj P w K mg base 1 C "need_knot" dh (f9 C w)):cj P w K mg base 2 C "steps" dc (qc C w):=by
 refine gU F xu (fun ds S Q h => ?_) (fun f cdv A outer s H E hr => ?_)
 ·obtain ⟨n,own,ks,ts,x,rfl,_⟩:=h;rfl
 ·refine ⟨_,(M.ah (M.aR (M.bh (M.pv 0) T.cl D_need_knot (hr.mono (by decide)) (M.ak (M.pv 1) M.aa)))
   (M.aq (M.aS (M.eE (M.sH hr) (by rfl) T.sorted (by decide +kernel) (M.ak (M.c5 (e8 hr) (M.bu (M.pv 0) T.cl T.n_near) (M.pv 1) (fun _ _=>rfl)) M.aa))))),fun ds S Q h => ?_⟩
  obtain ⟨n,own,ks,ts,x,rfl,X',hx,q⟩:=h
  obtain ⟨m,t,e,cs,rfl,rfl,X⟩:=id X'
  have e0:aM uq [.loc n,.str x]=[some (.loc n),some (.str x)]:=rfl
  rw [e0]
  push_cast [true_and]
  have hx2:=hx
  rw [dN] at hx2
  obtain ⟨c,hc,hcn,g1,_⟩:=X.jI hx2
  subst hcn
  obtain ⟨js,j1,j2,j3,j4,j5⟩:=X.zm c hc
  refine br rfl X.at_ (by decide +kernel) ⟨_,rfl,n,c.nm,_,_,ts,rfl,X',hx,?_⟩
  refine c8 (pJ X rfl ⟨_,rfl,_,_,_,_,bx X.ne,rfl,g1,⟨c.nc,js.map T3,rfl,j1,jo j4,by rw [zbN];lia,fun ks' hp hu => ?_⟩⟩)
  obtain ⟨us,hu1,rfl⟩:=Aw hp
  exact q us (hu1.nodup_iff.mpr j2) (fun j=>hu1.mem_iff.trans (j5 j)) (fun j hj=>j4 j (hu1.mem_iff.mp hj)) hu
def wW (C:Addr) (W:yal):AN:=fun ds S Q=>∃ n own ks ts,ds=[.loc n]∧bD C W S n own ks ts ∧
 ((jn (nms ks)).Perm (nms ks)→(l9 ts).Perm ts→(∀ x∈nms ks,(jn (cR ks x)).Perm (cR ks x))→Q (.dat (r9 ks ts)) S)
theorem F5 (T:Txt K mg ec EP C fi) (F:dH K C "rows" "Web.rows" gX uX) (rH:cj P w K mg base 1 C "knots" g9 (wZ C w)) (fq:cj P w K mg base 2 C "marks" di (qd C w)):cj P w K mg base 3 C "rows" gX (wW C w):=by
 refine gU F xr (fun ds S Q h => ?_) (fun f cdv A outer s H E hr => ?_)
 ·obtain ⟨n,own,ks,ts,rfl,_⟩:=h;rfl
 ·refine ⟨_,(M.ah (M.cz (i:=1) xr.nd rfl rfl (N:=["name","self"]) (caps:=[none,some 0]) (iY (by decide +kernel)) (by rfl) (by rfl) rfl (M.fB (M.gG (M.pv 0) T.cl rH (hr.mono (by decide)))) (fun _ _ _ _=>(M.aN (i:=0) (by decide +kernel:List.Nodup (["name","self"]:List Str)) rfl (Or.inl rfl))) (fun _ _ _ _=>M.dz) (fun _ _ _ _=>(M.aD (M.ak (M.pv 0) (M.ak (M.Fc M.kr (by rfl) T.tuple (by decide +kernel) (M.ak (M.bh (M.pv 1) T.cl fq (hr.mono (by decide)) (M.ak (M.pv 0) M.aa)) M.aa)) M.aa)))))
   (M.aq (M.aS (M.aD (M.ak (M.Fc M.kr (by rfl) T.tuple (by decide +kernel) (M.ak (M.pv 1) M.aa)) (M.ak (M.Fc M.kr (by rfl) T.tuple (by decide +kernel) (M.ak (M.eE (M.sH hr) (by rfl) T.sorted (by decide +kernel) (M.ak (M.bu (M.pv 0) T.cl T.n_tied) M.aa)) M.aa)) M.aa)))))),fun ds S Q h => ?_⟩
  obtain ⟨n,own,ks,ts,rfl,X',q⟩:=h
  have htl:ts.length≤1000:=by obtain ⟨_,_,_,_,_,_,X⟩:=id X';have:=X.tb;lia
  obtain ⟨m,t,e,cs,ro,rk,X⟩:=id X'
  have e0:aM ue [.loc n]=[some (.loc n),none]:=rfl
  rw [e0]
  push_cast [true_and]
  have hkl:ks.length<64:=by rw [← rk,zbN];exact X.kb
  refine jP (kH (br rfl X.at_ (by decide +kernel) ?_))
  refine ⟨n,own,ks,ts,rfl,X',fun hp => ?_⟩
  show c9 (fun _=>True) (bP 0) kJ _ ((jn (nms ks)).map D.str) [] [none,some (.loc n)] S _
  have hsl:(jn (nms ks)).length=ks.length:=by rw [hp.length_eq,zbN]
  refine lR (fun rest acc δ S'=>∃ (done rs:List Str) (v:Option D),rest=rs.map D.str∧done++rs=jn (nms ks)∧acc=done.map (LD ks)∧δ=[v,some (.loc n)]∧S'=S∧∀ x∈done,(jn (cR ks x)).Perm (cR ks x)) ?_ ?_ _ _ _ _ ⟨[],_,none,rfl,rfl,rfl,rfl,rfl,by simp⟩
  ·rintro acc δ S' ⟨done,rs,v,e1,e2,rfl,rfl,rfl,hd⟩
   have:rs=[]:=by cases rs with | nil=>rfl | cons _ _=>simp at e1
   subst this
   rw [zbO] at e2
   subst e2
   refine ⟨trivial,?_⟩
   refine ⟨_,rfl,?_⟩
   refine pI X rfl ⟨t,ts.map T3,rfl,X.ti,jo X.uD,by rw [zbN];exact htl,fun ks' hp' hu => ?_⟩
   obtain ⟨us,hu1,rfl⟩:=Aw hp'
   have e:=wV X.tn hu1 hu
   subst e
   refine ⟨_,rfl,ySz 2,?_⟩
   exact q hp hu1 fun x hx=>hd x (hp.mem_iff.mpr hx)
  ·rintro x xs acc δ S' N ⟨done,rs,v,e1,e2,rfl,rfl,rfl,hd⟩ hN
   cases rs with
   | nil=>simp at e1
   | cons r rs =>
    rw [zcg] at e1
    injection e1 with e1 e3
    subst e1;subst e3
    have hr:r∈nms ks:=hp.mem_iff.mp (by rw [← e2];simp)
    refine ⟨trivial,?_⟩
    simp only [bP,kJ,if_true,Gr,yG,aCall,vZ,zaY]
    refine ⟨_,rfl,br (i:=1) rfl X.at_ (by decide +kernel) ⟨_,rfl,n,own,ks,ts,(r,cR ks r),rfl,X',kC hr,fun hpm => ?_⟩⟩
    refine ⟨_,rfl,ySz 2,?_,?_⟩
    ·have:=congrArg zcC e2
     rw [zaT,hsl] at this
     rw [zbN,yag];lia
    ·refine hN _ _ _ ⟨done++[r],rs,_,rfl,by rw [← e2];simp,by rw [zbV];rfl,rfl,rfl,fun x hx => ?_⟩
     rcases zbM.mp hx with hx | hx
     ·exact hd x hx
     ·have:x=r:=by simpa using hx
      subst this
      exact hpm
noncomputable def cV (x:Str) (j:Ti):Ti:=if j.1 = "on" then (x,j.2.1,j.2.2) else (j.2.2,j.2.1,x)
noncomputable def Cw (ts:List Ti) (x:Str):List Ti:=ts.filter fun t=>decide (t.1≠x)&&decide (t.2.2≠x)
noncomputable def sW (ks:List Kn) (x:Str):List Kn:=ks.filter fun k=>decide (k.1≠x)
theorem BZ:∀ (js:List Ti) (ts:List Ti) (x:Str),js.foldl (fun ts j=>mZ ts (cV x j)) ts=ts.filter fun t=>decide (t ∉ js.map (cV x))
 | [],ts,x=>(zaN.mpr fun t _=>yDt (by simp)).symm
 | j::js,ts,x=>by
  rw [zbT,BZ js _ x]
  unfold mZ
  rw [List.filter_filter]
  refine List.filter_congr fun t _ => ?_
  by_cases h1:t=cV x j
  ·simp [h1]
  ·by_cases h2:t∈js.map (cV x)
   ·have:t∈(j::js).map (cV x):=by rw [zcg];exact zaC _ h2
    rw [yDf (not_not_intro h2),yDf (not_not_intro this)];simp
   ·have:t ∉ (j::js).map (cV x):=by rw [zcg,zcf];exact fun z=>z.elim h1 h2
    rw [yDt h2,yDt this,yDt h1];rfl
theorem FQ {js ts:List Ti}{x:Str} (h:∀ j,j∈js↔stp ts x j):js.foldl (fun ts j=>mZ ts (cV x j)) ts=Cw ts x:=by
 rw [BZ]
 unfold Cw
 refine List.filter_congr fun t ht => ?_
 have nb:(Str.ofString "back")≠Str.ofString "on" := by decide +kernel
 obtain ⟨a,b,c⟩:=t
 by_cases h1:a=x
 ·subst h1
  have:(a,b,c)∈js.map (cV a):=zcq.mpr ⟨zj b c,(h _).mpr (.inl ⟨rfl,ht⟩),by unfold cV;rw [yIp rfl]⟩
  simp [this]
 ·by_cases h2:c=x
  ·subst h2
   have:(a,b,c)∈js.map (cV c):=zcq.mpr ⟨gW b a,(h _).mpr (.inr ⟨rfl,ht⟩),by unfold cV;rw [yIn nb]⟩
   simp [this]
  ·have:(a,b,c) ∉ js.map (cV x):=fun z=>by
    obtain ⟨j,hj,e⟩:=zcq.mp z
    unfold cV at e
    split at e
    ·exact h1 (by rw [← (Prod.mk.inj e).1])
    ·exact h2 (by rw [← (Prod.mk.inj (Prod.mk.inj e).2).2])
   simp [this,h1,h2]
def wX (C:Addr) (W:yal):AN:=fun ds S Q=>∃ n own ks ts x,ds=[.loc n,.str x]∧bD C W S n own ks ts∧x∈nms ks∧mQ C W S n own (sW ks x) (Cw ts x) Q
theorem F7 (T:Txt K mg ec EP C fi) (F:dH K C "take_knot" "Web.take_knot" dJ ql) (D_need_knot:cj P w K mg base 1 C "need_knot" dh (f9 C w)) (fm:cj P w K mg base 2 C "steps" dc (qc C w)) (D_drop_tie:cj P w K mg base 1 C "drop_tie" j6 (Bb C w)):cj P w K mg base 3 C "take_knot" dJ (wX C w):=by
 refine gU F jq (fun ds S Q h => ?_) (fun f cdv A outer s H E hr => ?_)
 ·obtain ⟨n,own,ks,ts,x,rfl,_⟩:=h;rfl
 ·refine ⟨_,(M.ah (M.aR (M.bh (M.pv 0) T.cl D_need_knot (hr.mono (by decide)) (M.ak (M.pv 1) M.aa)))
   (M.ah (M.fz PassesOwn.never rfl (M.fB (M.bh (M.pv 0) T.cl fm (hr.mono (by decide)) (M.ak (M.pv 1) M.aa))) (M.fE (n:=3) rfl (M.aY (M.aN (i:=2) jq.nd rfl (Or.inl rfl)) (M.aY (M.aN (i:=3) jq.nd rfl (Or.inl rfl)) (M.aY (M.aN (i:=4) jq.nd rfl (Or.inl rfl)) M.dB))))
    (M.aq (M.bC (M.aA (M.dW hr) (M.pv 2) M.ao (aQ _))
     (M.aq (M.aR (M.bh (M.pv 0) T.cl D_drop_tie (hr.mono (by decide)) (M.ak (M.pv 1) (M.ak (M.pv 3) (M.ak (M.pv 4) M.aa))))))
     (M.aq (M.aR (M.bh (M.pv 0) T.cl D_drop_tie (hr.mono (by decide)) (M.ak (M.pv 4) (M.ak (M.pv 3) (M.ak (M.pv 1) M.aa)))))))))
   (M.ah (M.aR (M.xN (M.bu (M.pv 0) T.cl T.n_near) (M.pv 1) ⟨rfl,rfl,rfl,rfl⟩))
   (M.aq (M.aR (M.xN (M.bu (M.pv 0) T.cl T.bO) (M.pv 1) ⟨rfl,rfl,rfl,rfl⟩)))))),fun ds S Q h => ?_⟩
  obtain ⟨n,own,ks,ts,x,rfl,X',hx,q⟩:=h
  obtain ⟨m,t,e,cs,ro,rk,X⟩:=id X'
  have e0:aM uh [.loc n,.str x]=[some (.loc n),some (.str x),none,none,none]:=rfl
  rw [e0]
  push_cast [true_and]
  refine br rfl X.at_ (by decide +kernel) ⟨_,rfl,n,x,own,ks,ts,rfl,X',hx,?_⟩
  refine JZ (kH (br rfl X.at_ (by decide +kernel) ⟨_,rfl,n,own,ks,ts,x,rfl,X',hx,fun us un um uo _ => ?_⟩))
  show iT (fun _=>True) _ _ (us.map T3) _ _ S
  refine dY (fun rest δ S'=>∃ (done rs:List Ti) (own':List Nat) (v2 v3 v4:Option D),rest=rs.map T3∧done++rs=us∧δ=[some (.loc n),some (.str x),v2,v3,v4]∧bD C w S' n own' ks (done.foldl (fun ts j=>mZ ts (cV x j)) ts)∧Fr S S' own own') ?_ ?_ _ _ _ ⟨[],us,own,none,none,none,rfl,rfl,rfl,X',.refl⟩
  ·rintro δ S' ⟨done,rs,own',v2,v3,v4,e1,e2,rfl,X1',f1⟩
   have:rs=[]:=by cases rs with | nil=>rfl | cons _ _=>simp at e1
   subst this
   rw [zbO] at e2
   subst e2
   rw [FQ um] at X1'
   refine ⟨trivial,?_⟩
   obtain ⟨m1,t1,e1,ds,ro1,rk1,X1⟩:=X1'
   have hx1:x∈kO ds:=by rw [← dN,rk1];exact hx
   obtain ⟨c,hc,hcn,g1,g2⟩:=X1.jI hx1
   push_cast [true_and]
   refine yg (pJ X1 rfl ⟨e1,_,_,rfl,X1.ne,_,rfl,_,_,.inr x,_,X1.ne,rfl,g1,?_⟩)
   rw [yf]
   have A':=apart X1.nd
   generalize q1:S'.set e1 _=S1
   have o1:∀ k,k≠e1→S1[k]? = S'[k]? := fun k hk=>by rw [← q1,bg hk]
   have m1':S1[m1]? = some (some (.dct (kk ds) (ds.map fun c=>.loc c.mc))):=by rw [o1 m1 A'.me];exact X1.uE
   refine yg ⟨_,rfl,n,_,_,_,rfl,by rw [o1 n A'.ne];exact X1.at_,rfl,m1,_,_,rfl,m1',_,rfl,_,_,.inr x,_,m1',rfl,g2,?_⟩
   rw [yf]
   generalize q2:S1.set m1 _=S2
   have o2:∀ k,k≠e1→k≠m1→S2[k]? = S'[k]? := fun k h1 h2=>by rw [← q2,bg h2,o1 k h1]
   have hsub:=tQ (n:=n) (m:=m1) (t:=t1) (e:=e1) (cs:=ds) fun c=>decide (c.nm≠x)
   have keep:∀ {y:Str},y∈kO ds→y≠x→y∈kO (ds.filter fun c=>decide (c.nm≠x)):=fun {y} h1 h2=>by
    obtain ⟨c,hc,rfl⟩:=zcq.mp h1
    exact zcq.mpr ⟨c,zbL.mpr ⟨hc,yDt h2⟩,rfl⟩
   have old:∀ c'∈ds.filter (fun c=>decide (c.nm≠x)),c'∈ds:=fun c' h=>(zbL.mp h).1
   refine q S2 _ ⟨m1,t1,e1,ds.filter fun c=>decide (c.nm≠x),rfl,?_,⟨?_,?_,?_,?_,fun c' hc' => ?_,fun c' hc' => ?_,X1.nd.sublist hsub,?_,X1.tn,fun c' hc'=>X1.mn c' (old c' hc'),fun c' hc'=>X1.okn c' (old c' hc'),X1.uD,fun t' ht' => ?_,Nat.lt_of_le_of_lt (zav ..) X1.kb,fun c' hc'=>X1.mb c' (old c' hc'),X1.tb⟩⟩ (f1.trans ⟨fun k hk hn => ?_,?_,fun c' hc'=>.inl ?_⟩)
   ·unfold sW
    rw [← rk1,List.filter_map];rfl
   ·rw [o2 n A'.ne A'.nm];exact X1.at_
   ·rw [← q2];exact bM m1'
   ·rw [o2 t1 A'.te (Ne.symm A'.mt)];exact X1.ti
   ·rw [← q2,bg (Ne.symm A'.me),← q1];exact bM X1.ne
   ·rw [o2 _ (Ne.symm (A'.ec c' (old c' hc')).1) (Ne.symm (A'.mc c' (old c' hc')).1)];exact X1.zA c' (old c' hc')
   ·rw [o2 _ (Ne.symm (A'.ec c' (old c' hc')).2) (Ne.symm (A'.mc c' (old c' hc')).2)];exact X1.zm c' (old c' hc')
   ·exact X1.kn.sublist (zaO.map _)
   ·obtain ⟨b1,b2⟩:=zbL.mp ht'
    rw [zbH] at b2
    have:=X1.tk t' ht'
    exact ⟨keep this.1 (of_decide_eq_true b2.1),keep this.2 (of_decide_eq_true b2.2)⟩
   ·refine o2 k (fun z=>hn ?_) fun z=>hn ?_
    ·rw [ro1,z];exact Np
    ·rw [ro1,z];exact Nn
   ·rw [← q2,zbW,← q1,zbW];exact zcE _
   ·rw [ro1];exact hsub.subset hc'
  ·rintro y ys δ S' N ⟨done,rs,own',v2,v3,v4,e1,e2,rfl,X1',f1⟩ hN
   cases rs with
   | nil=>simp at e1
   | cons j rs =>
    rw [zcg] at e1
    injection e1 with e1 e3
    subst e1;subst e3
    refine ⟨trivial,_,rfl,rfl,_,_,rfl,_,_,rfl,_,_,rfl,rfl,?_⟩
    obtain ⟨m1,t1,e1,ds,ro1,rk1,X1⟩:=id X1'
    push_cast [true_and]
    have hst:stp ts x j:=(um j).mp (by rw [← e2];simp)
    have hin:cV x j∈ts:=by
     unfold cV
     rcases hst with ⟨h1,h2⟩ | ⟨h1,h2⟩
     ·rw [yIp h1];exact h2
     ·rw [yIn (by rw [h1];decide +kernel)];exact h2
    have hk:=X.tk _ hin
    rw [← dN,rk] at hk
    have hok:=X.uD _ hin
    have go:mQ C w S' n own' ks (mZ (done.foldl (fun ts j=>mZ ts (cV x j)) ts) (cV x j)) fun _ S1=>N [some (.loc n),some (.str x),some (.str j.1),some (.str j.2.1),some (.str j.2.2)] S1:=fun S2 own2 X2 f2 =>
     hN _ _ ⟨done++[j],rs,own2,_,_,_,rfl,by rw [← e2];simp,rfl,by rw [List.foldl_append];exact X2,f1.trans f2⟩
    by_cases h1:j.1 = "on"
    ·rw [yDt h1,yIp rfl]
     have et:cV x j=(x,j.2.1,j.2.2):=yIp h1
     rw [et] at hk hok go
     exact br rfl X1.at_ (by decide +kernel) ⟨_,rfl,_,rfl,_,rfl,n,_,own',ks,_,rfl,X1',hk.1,hk.2,hok,go⟩
    ·rw [yDf h1,yIn (by decide)]
     have et:cV x j=(j.2.2,j.2.1,x):=yIn h1
     rw [et] at hk hok go
     exact br rfl X1.at_ (by decide +kernel) ⟨_,rfl,_,rfl,_,rfl,n,_,own',ks,_,rfl,X1',hk.1,hk.2,hok,go⟩
end
open PySem PySem.Spec L2 M M6 PyProof.Rows
noncomputable abbrev Bt:Stmt:=top 28
noncomputable abbrev yH:List Str:=["_law_feed_here","_law_names_here","_law_most","_law_knots","_law_k","_law_marks","_law_ties","_law_one","_law_word","_law_tie"]
noncomputable abbrev jW:List Str:=["_law_feed_here","_law_names_here","_law_most"]
theorem gb:aE yH jW (ai Bt):=L2.cE
structure Tm (n m:Nat) (d:D):Prop where
 th:om n d=true
 sh:pP (py d)
 wt:L2.wt (py d)≤m
theorem Nx {n m:Nat}:∀ {es:List D},(∀ e∈es,Tm n m e)→es.all (om n)=true∧cJ (eW es)∧gu (eW es)≤es.length*(m+2)
 | [],_=>⟨rfl,by simp [eW,cJ],by simp [eW,gu]⟩
 | e::es,h=>by
  obtain ⟨a,b,c⟩:=Nx (es:=es) fun x hx=>h x (by simp [hx])
  have he:=h e (by simp)
  refine ⟨by simp [he.th];simpa using a,by simp only [eW,cJ];exact ⟨he.sh,b⟩,?_⟩
  have:=he.wt
  simp only [eW,gu,zbx]
  rw [Nat.succ_mul];lia
theorem Tm.tup {n m l:Nat}{es:List D} (h:∀ e∈es,Tm n m e) (hl:es.length≤l) (h100:l≤100:=by decide):Tm (n+1) (l*(m+2)+3) (.tup es):=by
 obtain ⟨a,b,c⟩:=Nx h
 refine ⟨by simp only [om,zbH];exact ⟨yDt (by lia),a⟩,by simpa [py,pP] using b,?_⟩
 have:es.length*(m+2)≤l*(m+2):=Nat.mul_le_mul_right _ hl
 simp only [py,L2.wt];lia
theorem Tm.lst {n m l:Nat}{es:List D} (h:∀ e∈es,Tm n m e) (hl:es.length≤l) (h100:l≤100:=by decide):Tm (n+1) (l*(m+2)+3) (.lst es):=by
 obtain ⟨a,b,c⟩:=Nx h
 refine ⟨by simp only [om,zbH];exact ⟨yDt (by lia),a⟩,by simpa [py,pP] using b,?_⟩
 have:es.length*(m+2)≤l*(m+2):=Nat.mul_le_mul_right _ hl
 simp only [py,L2.wt];lia
theorem Tm.asc {y:Str} (hl:y.length≤20) (h:HY y):Tm 0 202 (.str y):=by
 refine ⟨?_,?_,?_⟩
 ·show lg y=true
  unfold lg
  rw [zbH]
  exact ⟨zbC.mpr fun c hc=>yDt (h c hc),yDt (by lia)⟩
 ·simp only [py,pP];exact HY.ok h
 ·simp only [py,L2.wt];lia
theorem Tm.name {y:Str} (h:Nm y):Tm 0 202 (.str y):=.asc (by have:=h.2.1;lia) h.asc
theorem bq {S:aG}{p n:Nat}{m:Int}{Q:AK} (hS:S[p]? = some (some (.feed n))) (hn:n<1000) (h0:0<m) (h1:m<1000) (k:∀ z:Nat,(z:Int)<m→Q (.dat (.int z)) (S.set p (some (.feed (n+1))))):f7 [.loc p,.int m] S Q :=
 ⟨p,m,n,rfl,hS,hn,h0,h1,fun z z0 z1=>by
  obtain ⟨y,rfl⟩:∃ y:Nat,z=y:=⟨z.toNat,by lia⟩
  exact k y z1⟩
theorem HM {ds:List D}{z:Nat} (h:z<ds.length):∃ e,jT ds (z:Int)=some e∧e∈ds:=⟨ds[z],cG (zak h),zbF h⟩
theorem xG {S:aG}{p n:Nat}{d:D}{Q:AK} (h:ck d=true) (q:Q (.dat d) (S.set p (some (.feed n)))):ret S (S.set p (some (.feed n))) (.dat d) Q:=by
 refine ⟨_,lK h,fun k o hk e => ?_,by rw [zap (by simp)];exact q⟩
 by_cases hkp:p=k
 ·subst hkp
  rw [zbm,yIp rfl,yIp hk] at e
  have e:MO.feed n=o:=by simpa using e
  subst e
  exact .inr rfl
 ·rw [zaE hkp] at e
  exact .inl e
theorem dO {y:Str} (h:Nm y):lg y=true:=by
 unfold lg
 rw [zbH]
 exact ⟨zbC.mpr fun c hc=>yDt (h.asc c hc),yDt (by have:=h.2.1;lia)⟩
theorem Om {ds:List D}{i:Int}{S:aG}{Q:AK}:oq (.lst ds) (.int i) S Q=∃ e,jT ds i=some e∧Q (.dat e) S:=rfl
theorem vI {ds:List D}{i:Int}{S:aG}{Q:AK}:oq (.tup ds) (.int i) S Q=∃ e,jT ds i=some e∧Q (.dat e) S:=rfl
theorem pick {ds:List D}{z:Nat}{S:aG}{Q:AK} (h:z<ds.length) (k:∀ e∈ds,Q (.dat e) S):oq (.lst ds) (.int z) S Q:=by
 obtain ⟨e,h1,h2⟩:=HM h
 exact ⟨e,h1,k e h2⟩
theorem BG {S X:aG}{p n:Nat}{d:D}{Q:AK} (h:ck d=true) (q:Q (.dat d) (S.set p (some (.feed n)))):ret S (S.set p (some (.feed n))++X) (.dat d) Q:=by
 refine ⟨_,lK h,fun k o hk e => ?_,?_⟩
 ·rw [zag (by rw [zbW];exact hk)] at e
  by_cases hkp:p=k
  ·subst hkp
   rw [zbm,yIp rfl,yIp hk] at e
   have e:MO.feed n=o:=by simpa using e
   subst e
   exact .inr rfl
  ·rw [zaE hkp] at e
   exact .inl e
 ·have:(S.set p (some (.feed n))++X).take S.length=S.set p (some (.feed n)):=by
   rw [show S.length=(S.set p (some (MO.feed n))).length by rw [zbW]]
   exact List.take_left' rfl
  rw [this];exact q
noncomputable def fU (k:Kn):D:=.tup [.str k.1,.lst (k.2.map D.str)]
noncomputable def bN (ks:List Kn) (ts:List Ti):D:=.tup [.lst (ks.map fU),.lst (ts.map T3)]
def rE (A B M:List Str) (x:D):Prop:=x = .lst [.lst (A.map D.str),.lst (B.map D.str),.lst ((M.take 5).map D.str),.lst (M.map D.str)]∧A.length=8∧B.length=3∧M.length=8∧A.Nodup∧M.Nodup∧(∀ y∈A,Nm y)∧(∀ y∈B,Nm y)∧∀ y∈M,Nm y
structure RO (ks:List Kn) (ts:List Ti):Prop where
 kl:ks.length≤62
 nd:(nms ks).Nodup
 nm:∀ k∈ks,Nm k.1∧k.2.length≤5∧k.2.Nodup∧∀ m∈k.2,Nm m
 tn:ts.Nodup
 tl:ts.length≤302
 tk:∀ t∈ts,t.1∈nms ks∧t.2.2∈nms ks∧Nm t.2.1
theorem fZ {B X:aG}{L i:Nat} (h:L=B.length+i):(B++X)[L]? = X[i]? := by
 rw [h,zab (by lia)];congr 1;lia
theorem l5 {B X:aG}{L i:Nat}{o:Option MO} (h:L=B.length+i):(B++X).set L o=B++X.set i o:=by
 rw [h,List.set_append,yIn (by lia)];congr 2;lia
theorem jm {S X:aG}{p n:Nat}{a b:Option MO} (hp:p<S.length):(S.set p a++X).set p b=S.set p b++X:=by
 rw [List.set_append,yIp (by rw [zbW];exact hp),zco]
theorem AV {S X:aG}{p n:Nat}{b:Option MO} (hp:p<S.length):(S++X).set p b=S.set p b++X:=by
 rw [List.set_append,yIp hp]
theorem rM {S X:aG}{p n:Nat}{o:Option MO} (h:S[p]? = some o):(S.set p (some (.feed n))++X)[p]? = some (some (.feed n)):=fG (bM h)
theorem mz {m j:Nat}{x:D}{xs:List D} (h:x::xs=(cA 0 m).drop j):j<m∧x = .int (j:Int)∧xs=(cA 0 m).drop (j+1):=by
 have hj:j<(cA 0 m).length:=by
  rcases zcu j (cA 0 m).length with z | z
  ·exact z
  ·rw [zao z] at h;cases h
 rw [zah hj] at h
 injection h with h1 h2
 have hm:j<m:=by simpa [cA] using hj
 refine ⟨hm,?_,h2⟩
 rw [h1]
 simp [cA]
theorem jr (m:Nat):(cA 0 m).length=m:=by simp [cA]
theorem Dq {l:List Str}{j:Nat} (h:j<l.length):jT (l.map D.str) (j:Int)=some (.str l[j]):=cG (by simp [h])
theorem Co {x:D}{ds:List D}{S:aG}{z:Nat}{Q:AK} (h:bG S x = .lst ds) (hz:z<ds.length) (k:∀ e∈ds,Q (.dat e) S):oq x (.int z) S Q:=by
 obtain ⟨e,h1,h2⟩:=HM hz
 unfold oq
 rw [h]
 exact ⟨e,h1,k e h2⟩
theorem HQ {t:Ti} (h1:Tm 0 202 (.str t.1)) (h2:Tm 0 202 (.str t.2.1)) (h3:Tm 0 202 (.str t.2.2)):Tm 1 615 (T3 t):=by
 refine Tm.tup (l:=3) (m:=202) ?_ (by simp)
 simp only [zcf,zbE,or_false]
 rintro e (rfl | rfl | rfl) <;> assumption
theorem Cs {t:Ti}{ts:List Ti} (ht:gq t=true) (hts:∀ u∈ts,gq u=true):inD (T3 t) (ts.map T3)=decide (t∈ts):=by
 unfold inD
 rw [zcn]
 by_cases h:t∈ts
 ·rw [yDt h]
  refine zbG.mpr ⟨t,h,?_⟩
  show PyData.eqv _ _=true
  rw [iD _ _ (good3 ht).2.1 (good3 ht).2.1];simp
 ·rw [yDf h]
  refine zbh.mpr fun u hu z=>h ?_
  have z:PyData.eqv (py (T3 u)) (py (T3 t))=true:=z
  rw [iD _ _ (good3 (hts u hu)).2.1 (good3 ht).2.1] at z
  rw [← gD (of_decide_eq_true z)];exact hu
theorem RO.uD {ks:List Kn}{ts:List Ti} (h:RO ks ts):∀ t∈ts,gq t=true:=fun t ht=>by
 obtain ⟨h1,h2,h3⟩:=h.tk t ht
 obtain ⟨k1,hk1,e1⟩:=zcq.mp h1
 obtain ⟨k2,hk2,e2⟩:=zcq.mp h2
 unfold gq
 rw [← e1,← e2,dO (h.nm k1 hk1).1,dO (h.nm k2 hk2).1,dO h3];rfl
theorem RO.t3 {ks:List Kn}{ts:List Ti} (h:RO ks ts):∀ t∈ts,Tm 1 615 (T3 t):=fun t ht=>by
 obtain ⟨h1,h2,h3⟩:=h.tk t ht
 obtain ⟨k1,hk1,e1⟩:=zcq.mp h1
 obtain ⟨k2,hk2,e2⟩:=zcq.mp h2
 exact HQ (by rw [← e1];exact .name (h.nm k1 hk1).1) (.name h3) (by rw [← e2];exact .name (h.nm k2 hk2).1)
theorem RO.ck {ks:List Kn}{ts:List Ti}:M.ck (bN ks ts)=true:=by
 have p1:∀ l:List Str,cK (l.map D.str)=true:=fun l=>by induction l with | nil=>rfl | cons x l ih=>simp only [zcg,cK,M.ck,zbH];exact ⟨trivial,ih⟩
 have p2:cK (ks.map fU)=true:=by
  induction ks with
  | nil=>rfl
  | cons k ks ih=>simp only [zcg,cK,zbH];exact ⟨by simp [fU,M.ck,cK,p1],ih⟩
 have p3:cK (ts.map T3)=true:=by
  induction ts with
  | nil=>rfl
  | cons k ks ih=>simp only [zcg,cK,zbH];exact ⟨by simp [T3,M.ck,cK],ih⟩
 simp [bN,M.ck,cK,p2,p3]
section
variable {P:yak}{w:yal}{K:yaM}{mg:Str→Option yaj}{base:Heap}{ec:Nat→Addr}{EP C fi:Addr}
def AY:AN:=fun ds S Q=>∃ (p n:Nat) (A B M:List Str) (x:D),ds=[.loc p,x,.int 6]∧rE A B M x∧S[p]? = some (some (.feed n))∧n+150<1000∧∀ (ks:List Kn) (ts:List Ti) (n':Nat),RO ks ts→1≤ks.length→ks.length≤8→ts.length≤23→(∀ k∈ks,k.2.length≤5)→n'≤n+150→Q (.dat (bN ks ts)) (S.set p (some (.feed n')))
theorem J5 (T:Txt K mg ec EP C fi) (F:Src K mg "_law_rows" jW Bt) (D_law_next:Def P w K mg base 1 "_law_next" dg (bf K f7)):Def P w K mg base 2 "_law_rows" jW (bf K AY):=by
 refine CO F gb (fun ds S Q h => ?_) (fun f cdv A outer s H E hr => ?_)
 ·obtain ⟨p,n,A,B,M,x,rfl,_⟩:=h;rfl
 ·refine ⟨_,(M.ah (M.aH (i:=3) gb.nd rfl (Or.inl rfl) (M.Ei (M.bI M.aa)))
   (M.ah (M.fz PassesOwn.never rfl (M.bZ (by rfl) T.range (M.ak (M.aL M.eX M.aj (M.ow D_law_next hr (M.ak (M.pv 0) (M.ak (M.pv 2) M.aa)))) M.aa)) (M.aN (i:=4) gb.nd rfl (Or.inl rfl))
    (M.ah (M.cz (i:=5) gb.nd rfl rfl (N:=["_law_mark","_law_feed_here"]) (caps:=[none,some 0]) (iY (by decide +kernel)) (by rfl) (by rfl) rfl (M.fB (M.aF M.aT (M.pv 1) M.aj (fun _ _=>rfl))) (fun _ _ _ _=>(M.aN (i:=0) (by decide +kernel:List.Nodup (["_law_mark","_law_feed_here"]:List Str)) rfl (Or.inl rfl))) (fun _ _ _ _=>(M.lI (M.aA (M.dW hr) (M.ow D_law_next hr (M.ak (M.pv 1) (M.ak M.aj M.aa))) M.aj (aQ _)))) (fun _ _ _ _=>(M.pv 0)))
    (M.aq (M.aR (M.mY PySem.F.plainAttrs_list PySem.F.slot_list_append PySem.F.type_list_append M.jG (M.pv 3) (M.ak (M.aD (M.ak (M.aF M.aT (M.aF M.aT (M.pv 1) M.aj (fun _ _=>rfl)) (M.pv 4) (fun _ _=>rfl)) (M.ak (M.pv 5) M.aa))) M.aa))))))
   (M.ah (M.aH (i:=6) gb.nd rfl (Or.inl rfl) (M.Ei (M.bI M.aa)))
   (M.ah (M.fz PassesOwn.never rfl (M.bZ (by rfl) T.range (M.ak (M.ow D_law_next hr (M.ak (M.pv 0) (M.ak (M.aL M.Ht M.aj (M.pv 2)) M.aa))) M.aa)) (M.aN (i:=4) gb.nd rfl (Or.inl rfl))
    (M.ah (M.aH (i:=7) gb.nd rfl (Or.inl rfl) (M.aF M.aT (M.aF M.aT (M.pv 3) (M.ow D_law_next hr (M.ak (M.pv 0) (M.ak (M.eE M.fK (by rfl) T.len (by decide +kernel) (M.ak (M.pv 3) M.aa)) M.aa))) (fun _ _=>rfl)) M.aj (fun _ _=>rfl)))
    (M.ah (M.aH (i:=8) gb.nd rfl (Or.inl rfl) (M.aF M.aT (M.aF M.aT (M.pv 1) M.aj (fun _ _=>rfl)) (M.ow D_law_next hr (M.ak (M.pv 0) (M.ak (M.eE M.fK (by rfl) T.len (by decide +kernel) (M.ak (M.aF M.aT (M.pv 1) M.aj (fun _ _=>rfl)) M.aa)) M.aa))) (fun _ _=>rfl)))
    (M.ah (M.aH (i:=9) gb.nd rfl (Or.inl rfl) (M.aD (M.ak (M.pv 7) (M.ak (M.pv 8) (M.ak (M.aF M.aT (M.aF M.aT (M.pv 3) (M.ow D_law_next hr (M.ak (M.pv 0) (M.ak (M.eE M.fK (by rfl) T.len (by decide +kernel) (M.ak (M.pv 3) M.aa)) M.aa))) (fun _ _=>rfl)) M.aj (fun _ _=>rfl)) M.aa)))))
    (M.aq (M.bC (M.aA (M.xQ hr) (M.pv 9) (M.pv 6) rfl)
     (M.aq (M.aR (M.mY PySem.F.plainAttrs_list PySem.F.slot_list_append PySem.F.type_list_append M.jG (M.pv 6) (M.ak (M.pv 9) M.aa))))
     M.aJ))))))
   (M.aq (M.aS (M.OA (M.OA (M.aD (M.ak (M.pv 3) (M.ak (M.pv 6) M.aa))))))))))),fun ds S Q h => ?_⟩
  obtain ⟨p,n,NA,NB,N8,x,rfl,⟨rfl,lA,lB,l8,ndA,nd8,nA,nB,n8⟩,hp,hn,q⟩:=h
  have lM:(N8.take 5).length=5:=by rw [zby,l8];rfl
  have ndM:(N8.take 5).Nodup:=nd8.sublist (zbj _ _)
  have nM:∀ y∈N8.take 5,Nm y:=fun y h=>n8 y (zaH h)
  generalize N8.take 5=NM at lM ndM nM ⊢
  have e0:aM yH [.loc p,.lst [.lst (NA.map D.str),.lst (NB.map D.str),.lst (NM.map D.str),.lst (N8.map D.str)],.int 6]=[some (.loc p),some (.lst [.lst (NA.map D.str),.lst (NB.map D.str),.lst (NM.map D.str),.lst (N8.map D.str)]),some (.int 6),none,none,none,none,none,none,none]:=rfl
  rw [e0]
  generalize hXN:D.lst [D.lst (NA.map D.str),D.lst (NB.map D.str),D.lst (NM.map D.str),.lst (N8.map D.str)]=XN
  have x00:∀ {S:aG}{Q:AK},Q (.dat (.lst (NA.map D.str))) S→oq XN (.int 0) S Q:=fun {S Q} q'=>by rw [← hXN];exact ⟨_,rfl,q'⟩
  have x01:∀ {S:aG}{Q:AK},Q (.dat (.lst (NB.map D.str))) S→oq XN (.int 1) S Q:=fun {S Q} q'=>by rw [← hXN];exact ⟨_,rfl,q'⟩
  have x02:∀ {S:aG}{Q:AK},Q (.dat (.lst (NM.map D.str))) S→oq XN (.int 2) S Q:=fun {S Q} q'=>by rw [← hXN];exact ⟨_,rfl,q'⟩
  have pl:=gm hp
  push_cast [jg,oN,qL]
  refine ⟨zcF _,bq (fG hp) (by lia) (by decide) (by decide) fun z hz => ?_⟩
  refine ⟨1+(z:Int),rfl,by lia,by lia,?_⟩
  rw [AV (n:=0) pl,show (1+(z:Int)).toNat=z+1 by lia]
  refine dY (fun rest δ S'=>∃ (j:Nat) (ks:List Kn) (n2:Nat) (v4 v5:Option D),rest=(cA 0 (z+1)).drop j∧j≤z+1∧δ=[some (.loc p),some XN,some (.int 6),some (.loc S.length),v4,v5,none,none,none,none]∧S'=S.set p (some (.feed n2))++[some (.lst (ks.map fU))] ∧
   ks.length=j∧nms ks=NA.take j∧(∀ k∈ks,Nm k.1∧k.2.length≤5∧k.2.Nodup∧∀ m∈k.2,Nm m)∧n2≤n+1+5*j) ?_ ?_ _ _ _ ⟨0,[],n+1,none,none,rfl,zcF _,rfl,rfl,rfl,rfl,by simp,by lia⟩
  ·rintro δ S' ⟨j,ks,n2,v4,v5,hd,hj,rfl,rfl,hkl,hkn,hkk,hn2⟩
   refine ⟨trivial,?_⟩
   have hj:j=z+1:=by
    have:=congrArg zcC hd
    rw [zbA,jr] at this
    simp at this;lia
   subst hj
   have hkl0:0<ks.length:=by lia
   have hk8:ks.length≤8:=by lia
   have kl:(S.set p (some (.feed n2))++[some (MO.lst (ks.map fU))]).length=S.length+1:=by rw [zaT,zbW];rfl
   push_cast [jg,oN,qL,kl]
   refine ⟨zcF _,.inl ⟨by decide,by decide⟩,?_⟩
   rw [zbl]
   refine bq (m:=18) (rM hp) (by lia) (by decide) (by decide) fun z2 hz2 => ?_
   rw [jm (n:=0) pl]
   refine ⟨(z2:Int),rfl,by lia,by lia,?_⟩
   rw [show (z2:Int).toNat=z2 by lia]
   refine dY (fun rest δ S'=>∃ (ts:List Ti) (n3:Nat) (v4 v7 v8 v9:Option D),(∀ e∈rest,∃ i:Int,e = .int i)∧δ=[some (.loc p),some XN,some (.int 6),some (.loc S.length),v4,v5,some (.loc (S.length+1)),v7,v8,v9]∧S'=S.set p (some (.feed n3))++[some (.lst (ks.map fU)),some (.lst (ts.map T3))] ∧
    ts.length+rest.length≤23∧ts.Nodup∧(∀ t∈ts,t.1∈nms ks∧t.2.2∈nms ks∧Nm t.2.1)∧n3+3*rest.length≤n+140) ?_ ?_ _ _ _ ⟨[],n2+1,_,none,none,none,fun e he => ?_,rfl,rfl,by rw [jr];simp;lia,.nil,by simp,by rw [jr];lia⟩
   ·rintro δ S' ⟨ts,n3,v4,v7,v8,v9,_,rfl,rfl,tl,tn,tk,hn3⟩
    refine ⟨trivial,?_⟩
    push_cast [Gx]
    have Ny:ts.length≤23:=by simpa using tl
    have hRO:RO ks ts:=⟨by lia,by rw [hkn];exact ndA.sublist (zbj _ _),fun k hk=>⟨(hkk k hk).1,by have:=(hkk k hk).2.1;lia,(hkk k hk).2.2⟩,tn,by lia,tk⟩
    refine ⟨ySz 2,S.length,ks.map fU,_,rfl,fZ (i:=0) (by rw [zbW];rfl),S.length+1,ts.map T3,_,rfl,?_,?_⟩
    ·rw [zaE (by lia)]
     exact fZ (i:=1) (by rw [zbW])
    ·rw [l5 (i:=0) (by rw [zbW];rfl),l5 (i:=1) (by rw [zbW])]
     have ev:(([D.loc S.length,D.loc (S.length+1)].map (sb S.length (.lst (ks.map fU)))).map (sb (S.length+1) (.lst (ts.map T3))))=[.lst (ks.map fU),.lst (ts.map T3)]:=by
      simp [sb]
     rw [ev]
     exact BG RO.ck (q ks ts n3 hRO (by lia) hk8 Ny (fun k hk=>(hkk k hk).2.1) (by lia))
   ·rintro x xs δ S' N ⟨ts,n3,v4,v7,v8,v9,hx,rfl,rfl,tl,tn,tk,hn3⟩ hN
    obtain ⟨i,rfl⟩:=hx x (by simp)
    refine ⟨trivial,?_⟩
    have e3:∀ m,bG (S.set p (some (.feed m))++[some (MO.lst (ks.map fU)),some (.lst (ts.map T3))]) (.loc S.length) = .lst (ks.map fU):=fun m=>(bx (o:=.lst (ks.map fU)) (fZ (i:=0) (by rw [zbW];rfl)))
    have e4:∀ m,bG (S.set p (some (.feed m))++[some (MO.lst (ks.map fU)),some (.lst (ts.map T3))]) (.loc (S.length+1)) = .lst (ts.map T3):=fun m=>(bx (o:=.lst (ts.map T3)) (fZ (i:=1) (by rw [zbW])))
    push_cast [e3]
    simp only [zbx] at tl hn3
    refine ⟨ks.length,by show some _=_;rw [zbN],?_⟩
    refine bq (rM hp) (by lia) (by lia) (by lia) fun a ha => ?_
    rw [jm (n:=0) pl]
    refine Co (e3 _) (by rw [zbN];lia) (fun y hy => ?_)
    obtain ⟨k,hk,rfl⟩:=zcq.mp hy
    refine ⟨.str k.1,rfl,x01 (x01 ⟨3,by show some _=_;rw [zbN,lB],?_⟩)⟩
    refine bq (rM hp) (by lia) (by decide) (by decide) fun b hb => ?_
    rw [jm (n:=0) pl]
    refine pick (by rw [zbN,lB];lia) (fun y hy => ?_)
    obtain ⟨v,hv,rfl⟩:=zcq.mp hy
    refine ⟨ks.length,by rw [e3];show some _=_;rw [zbN],?_⟩
    refine bq (rM hp) (by lia) (by lia) (by lia) fun c hc => ?_
    rw [jm (n:=0) pl]
    refine Co (e3 _) (by rw [zbN];lia) (fun y hy => ?_)
    obtain ⟨k',hk',rfl⟩:=zcq.mp hy
    refine ⟨.str k'.1,rfl,ySz 3,?_⟩
    have t1:Tm 1 615 (T3 (k.1,v,k'.1)):=HQ (.name (hkk k hk).1) (.name (nB v hv)) (.name (hkk k' hk').1)
    have ot:gq (k.1,v,k'.1)=true:=by unfold gq;rw [dO (hkk k hk).1,dO (nB v hv),dO (hkk k' hk').1];rfl
    have hRO:RO ks ts:=⟨by lia,by rw [hkn];exact ndA.sublist (zbj _ _),fun k hk=>⟨(hkk k hk).1,by have:=(hkk k hk).2.1;lia,(hkk k hk).2.2⟩,tn,by lia,tk⟩
    have tts:Tm 2 14194 (.lst (ts.map T3)):=Tm.lst (n:=1) (l:=23) (m:=615) (fun e he=>by obtain ⟨t,ht,rfl⟩:=zcq.mp he;exact hRO.t3 t ht) (by rw [zbN];lia)
    show Ej true (T3 (k.1,v,k'.1)) _ _ _
    unfold Ej
    rw [e4]
    refine ⟨lY t1.th (by decide),lY tts.th (by decide),_,rfl,?_⟩
    rw [show bG _ (T3 (k.1,v,k'.1))=T3 (k.1,v,k'.1) from rfl,Cs ot hRO.uD]
    by_cases hin:(k.1,v,k'.1)∈ts
    ·rw [yDt hin,yIn (by decide)]
     exact hN _ _ ⟨ts,_,_,_,_,_,fun e he=>hx e (zaC _ he),rfl,rfl,by lia,tn,tk,by lia⟩
    ·rw [yDf hin,yIp (by decide)]
     push_cast [KJ,e4,vK,true_and]
     refine ⟨_,_,_,rfl,rfl,fZ (i:=1) (by rw [zbW]),by rw [zbN,yag];lia,?_⟩
     rw [l5 (i:=1) (by rw [zbW])]
     refine hN _ _ ⟨ts++[(k.1,v,k'.1)],_,_,_,_,_,fun e he=>hx e (zaC _ he),rfl,by rw [zbV];rfl,by rw [zaT];simp;lia,?_,fun t ht => ?_,by lia⟩
     ·refine zbq.mpr ⟨tn,by simp,fun x hx y hy z => ?_⟩
      have:y=(k.1,v,k'.1):=by simpa using hy
      exact hin (by rw [← this,← z];exact hx)
     ·rcases zbM.mp ht with ht | ht
      ·exact tk t ht
      ·have:t=(k.1,v,k'.1):=by simpa using ht
       subst this
       exact ⟨zcq.mpr ⟨k,hk,rfl⟩,zcq.mpr ⟨k',hk',rfl⟩,nB v hv⟩
   ·unfold cA at he
    rw [zcq] at he
    obtain ⟨i,_,rfl⟩:=he
    exact ⟨_,rfl⟩
  ·rintro x xs δ S' N ⟨j,ks,n2,v4,v5,hd,hj,rfl,rfl,hkl,hkn,hkk,hn2⟩ hN
   obtain ⟨hj2,rfl,rfl⟩:=mz hd
   refine ⟨trivial,?_⟩
   push_cast [jU,FP]
   refine x02 ?_
   show c9 (fun _=>True) (bP 0) _ (eT 0) (NM.map D.str) [] [none,some (.loc p)] _ _
   refine lR (fun rest acc δ S''=>∃ (ms rs:List Str) (n3:Nat) (v0:Option D),rest=rs.map D.str∧acc=ms.map D.str∧δ=[v0,some (.loc p)]∧S''=S.set p (some (.feed n3))++[some (.lst (ks.map fU))]∧ms.length+rs.length≤5∧(ms++rs).Nodup∧(∀ m∈ms,Nm m)∧(∀ m∈rs,Nm m)∧n3+rs.length≤n2+5) ?_ ?_ _ _ _ _ ⟨[],NM,n2,none,rfl,rfl,rfl,rfl,by simp [lM],by simpa using ndM,by simp,nM,by lia⟩
   ·rintro acc δ S'' ⟨ms,rs,n3,v0,e1,rfl,rfl,rfl,hl,hmd,hm,_,hn3⟩
    have:rs=[]:=by cases rs with | nil=>rfl | cons _ _=>simp at e1
    subst this
    refine ⟨trivial,?_⟩
    have e3:(S.set p (some (.feed n3))++[some (MO.lst (ks.map fU))])[S.length]? = some (some (.lst (ks.map fU))):=fZ (i:=0) (by rw [zbW];rfl)
    push_cast [KJ,bx e3,vK,true_and]
    have hjA:j<NA.length:=by lia
    refine x00 ⟨_,Dq hjA,ySz 2,_,_,_,rfl,rfl,e3,by rw [zbN,yag];lia,?_⟩
    rw [l5 (i:=0) (by rw [zbW];rfl)]
    refine hN _ _ ⟨j+1,ks++[(NA[j],ms)],n3,_,_,rfl,by lia,rfl,by rw [zbV];rfl,by rw [zaT,hkl];rfl,?_,fun k hk => ?_,by simp at hn3;lia⟩
    ·show (ks++[(NA[j],ms)]).map (·.1)=_
     rw [zbV,List.take_succ_eq_append_getElem hjA]
     have hkn:ks.map (·.1)=NA.take j:=hkn
     rw [hkn];rfl
    ·rcases zbM.mp hk with hk | hk
     ·exact hkk k hk
     ·have:k=(NA[j],ms):=by simpa using hk
      subst this
      exact ⟨nA _ (zbF _),by simp at hl;exact hl,by simpa using hmd,hm⟩
   ·rintro y ys acc δ S'' N' ⟨ms,rs,n3,v0,e1,rfl,rfl,rfl,hl,hmd,hm,hr',hn3⟩ hN'
    cases rs with
    | nil=>simp at e1
    | cons r rs =>
     rw [zcg] at e1
     injection e1 with e1 e3
     subst e1;subst e3
     refine ⟨trivial,?_⟩
     push_cast [true_and]
     refine bq (rM hp) (by lia) (by decide) (by decide) fun z' hz' => ?_
     rw [jm (n:=0) pl]
     refine ⟨_,rfl,?_⟩
     simp only [zbx] at hl hn3
     by_cases h0:(z':Int)=0
     ·rw [yDt h0,yIp rfl]
      refine ⟨by rw [zbN,yag];lia,hN' _ _ _ ⟨ms++[r],rs,n3+1,_,rfl,by rw [zbV];rfl,rfl,rfl,by rw [zaT];simp;lia,by simpa using hmd,fun m hm' => ?_,fun m hm'=>hr' m (zaC _ hm'),by lia⟩⟩
      rcases zbM.mp hm' with h | h
      ·exact hm m h
      ·have:m=r:=by simpa using h
       subst this
       exact hr' m (by simp)
     ·rw [yDf h0,yIn (by decide)]
      exact hN' _ _ _ ⟨ms,rs,n3+1,_,rfl,rfl,rfl,rfl,by lia,hmd.sublist (by simp),hm,fun m hm'=>hr' m (zaC _ hm'),by lia⟩
end
open PySem PySem.Spec L2 M M6 PyProof.Rows
theorem za {S X:aG}{p n:Nat}{ds:List D}{Q:AK} (h:cK ds=true) (q:Q (.new (.lst ds)) (S.set p (some (.feed n)))):ret S (S.set p (some (.feed n))++X) (.new (.lst ds)) Q:=by
 refine ⟨_,by simp only [out];rw [yIp (show oM _ (.lst ds)=true from fO _ ds h)],fun k o hk e => ?_,?_⟩
 ·rw [zag (by rw [zbW];exact hk)] at e
  by_cases hkp:p=k
  ·subst hkp
   rw [zbm,yIp rfl,yIp hk] at e
   have e:MO.feed n=o:=by simpa using e
   subst e
   exact .inr rfl
  ·rw [zaE hkp] at e
   exact .inl e
 ·have:(S.set p (some (.feed n))++X).take S.length=S.set p (some (.feed n)):=by
   rw [show S.length=(S.set p (some (MO.feed n))).length by rw [zbW]]
   exact List.take_left' rfl
  rw [this];exact q
theorem zU {α:Type}{xs:List α}{k:Nat} (h:k≤xs.length):M.cutD xs (some (k:Int)) none=xs.drop k:=by
 unfold M.cutD
 have e1:HT.b6 xs.length 0 (some (k:Int))=k:=by rw [HT.xC];lia
 have e2:HT.b6 xs.length xs.length none=xs.length:=by simp [HT.b6]
 rw [e1,e2,zap (by rw [zbA];lia)]
theorem qR {α:Type}{xs:List α}{k:Nat} (h:k≤xs.length):M.cutD xs none (some (k:Int))=xs.take k:=by
 unfold M.cutD
 have e1:HT.b6 xs.length xs.length (some (k:Int))=k:=by rw [HT.xC];lia
 have e2:HT.b6 xs.length 0 none=0:=by simp [HT.b6]
 rw [e1,e2,List.drop_zero,Nat.sub_zero]
theorem qg {ds:List D}{lo hi:Option Int}{S:aG}{Q:AK}:tX (.lst ds) lo hi S Q=Q (.new (.lst (M.cutD ds lo hi))) S:=rfl
theorem xm {n:Nat}{ds:List D}{lo hi:Option Int}{S:aG}{Q:AK} (h:bG S (.loc n) = .lst ds) (q:Q (.new (.lst (M.cutD ds lo hi))) S):tX (.loc n) lo hi S Q:=by unfold tX;rw [h];exact q
theorem rN (l:List Str):cK (l.map D.str)=true:=by
 induction l with
 | nil=>rfl
 | cons a l ih=>simp [cK,M.ck,ih]
theorem bR {a b:AS}{D:fT}{δ:bE}{S:aG} (h:∀ N:bE→aG→Prop,(∀ δ' S',b D δ' S'→N δ' S')→a { D with nx:=N } δ S):q9 a b D δ S:=h (b D) fun _ _ z=>z
theorem qG {α β:Type}{f:α→β}:∀ {l:List α},l.Nodup→(∀ a∈l,∀ b∈l,f a=f b→a=b)→(l.map f).Nodup
 | [],_,_=>.nil
 | a::l,h,hf=>by
  rw [zbP] at h
  rw [zcg,zbP]
  refine ⟨fun z => ?_,qG h.2 fun x hx y hy=>hf x (by simp [hx]) y (by simp [hy])⟩
  obtain ⟨b,hb,e⟩:=zcq.mp z
  have:=hf b (by simp [hb]) a (by simp) e
  exact h.1 (this ▸ hb)
theorem qI {i:Nat}{S:aG}{Q:AK} (h:i<26) (q:Q (.dat (.str ⟨#[97+i]⟩)) S):oq (.str "abcdefghijklmnopqrstuvwxyz") (.int (i:Int)) S Q:=by
 refine ⟨by rw [yag];decide +kernel,97+i,?_,q⟩
 refine cG ?_
 have:∀ i<26,("abcdefghijklmnopqrstuvwxyz" : Str).cps.toList[i]? = some (97+i):=by decide +kernel
 exact this i h
theorem L4 {i:Nat} (h:i<26):(⟨#[97+i]⟩:Str).length=1∧wA ⟨#[97+i]⟩:=JC (by unfold sU;rw [zbH];exact ⟨yDt (by lia),yDt (by lia)⟩)
def NC (S:aG) (p n:Nat) (rest acc:List D) (δ:bE) (S':aG):Prop:=∃ (ys:List Str) (n2:Nat) (v0:Option D),acc=ys.map D.str∧ys.length+rest.length=8∧(∀ y∈ys,y.length=1∧wA y)∧δ=[v0,some (.str "abcdefghijklmnopqrstuvwxyz"),some (.loc p)]∧(∀ x,S'.set p x=S.set p x)∧S'[p]? = some (some (.feed n2))∧n2+rest.length≤n+8
def NL (S:aG) (p m n2 zw t z zs:Nat) (W:Str) (rest:List D) (δ:bE) (S':aG):Prop:=∃ (j:Nat) (zl:List Str) (v9 v10:Option D),rest=(cA 0 8).drop j∧j≤8∧zl.length=j∧(∀ y∈zl,Nm y)∧zl.map (fun y=>y.cps.toList[z]?)=(zcI j).map (fun i=>some (97+(zs+5*i) % 26))∧δ=[some (.loc p),some (.int m),some (.str "abcdefghijklmnopqrstuvwxyz"),some (.str W),some (.int zw),some (.int t),some (.loc S.length),some (.int z),some (.int zs),v9,v10]∧S'=S.set p (some (.feed n2))++[some (.lst (zl.map D.str))]
section
variable {P:yak}{w:yal}{K:yaM}{mg:Str→Option yaj}{base:Heap}{ec:Nat→Addr}{EP C fi:Addr}
theorem C1 (T:Txt K mg ec EP C fi) (F:Src K mg "_law_names" g8 u7) (D_law_next:Def P w K mg base 1 "_law_next" dg (bf K f7)):Def P w K mg base 2 "_law_names" g8 (bf K rR):=by
 refine CO F cQ (fun ds S Q h => ?_) (fun f cdv A outer s H E hr => ?_)
 ·obtain ⟨p,m,n,rfl,_⟩:=h;rfl
 ·refine ⟨_,(M.ah (M.aH (i:=2) cQ.nd rfl (Or.inr rfl) M.ao)
   (M.ah (M.aH (i:=3) cQ.nd rfl (Or.inr rfl) (M.mY PySem.F.plainAttrs_str PySem.F.slot_str_join PySem.F.type_str_join M.JM M.ao (M.ak (M.iy (N:=["_law_k","_law_letters","_law_feed_here"]) (caps:=[none,some 2,some 0]) (iY (by decide +kernel)) (by rfl) (by rfl) rfl (M.bZ (by rfl) T.range (M.ak M.aj M.aa)) (fun _ _ _ _=>(M.aN (i:=0) (by decide +kernel:List.Nodup (["_law_k","_law_letters","_law_feed_here"]:List Str)) rfl (Or.inl rfl))) (fun _ _ _ _=>M.dz) (fun _ _ _ _=>(M.aF M.aT (M.pv 1) (M.ow D_law_next hr (M.ak (M.pv 2) (M.ak M.aj M.aa))) (fun _ _=>rfl)))) M.aa)))
   (M.ah (M.aH (i:=4) cQ.nd rfl (Or.inl rfl) (M.ow D_law_next hr (M.ak (M.pv 0) (M.ak M.aj M.aa))))
   (M.ah (M.aH (i:=5) cQ.nd rfl (Or.inl rfl) (M.ow D_law_next hr (M.ak (M.pv 0) (M.ak M.aj M.aa))))
   (M.ah (M.bC (M.aA (M.dW hr) (M.pv 4) M.aj (aQ _))
    (M.aq (M.sE (i:=6) cQ.nd rfl rfl (N:=["_law_k","_law_word"]) (caps:=[none,some 3]) (iY (by decide +kernel)) (by rfl) (by rfl) rfl (M.bZ (by rfl) T.range (M.ak M.aj M.aa)) (fun _ _ _ _=>(M.aN (i:=0) (by decide +kernel:List.Nodup (["_law_k","_law_word"]:List Str)) rfl (Or.inl rfl))) (fun _ _ _ _=>M.dz) (fun _ _ _ _=>(M.cL M.kN (M.pv 1) M.dS (M.cZ (M.aL M.eX (M.pv 0) M.aj))))))
    (M.aq (M.bC (M.aA (M.dW hr) (M.pv 4) M.aj (aQ _))
     (M.aq (M.aH (i:=6) cQ.nd rfl (Or.inl rfl) (M.Ei (M.bI (M.ak M.ao (M.ak M.ao (M.ak M.ao (M.ak M.ao (M.ak M.ao (M.ak M.ao (M.ak M.ao (M.ak M.ao M.aa))))))))))))
     (M.ah (M.aH (i:=7) cQ.nd rfl (Or.inl rfl) (M.ow D_law_next hr (M.ak (M.pv 0) (M.ak (M.aL M.eX (M.pv 5) M.aj) M.aa))))
     (M.ah (M.aH (i:=8) cQ.nd rfl (Or.inl rfl) (M.ow D_law_next hr (M.ak (M.pv 0) (M.ak M.aj M.aa))))
     (M.ah (M.aH (i:=6) cQ.nd rfl (Or.inl rfl) (M.Ei (M.bI M.aa)))
     (M.aq (M.fz PassesOwn.never rfl (M.bZ (by rfl) T.range (M.ak M.aj M.aa)) (M.aN (i:=9) cQ.nd rfl (Or.inl rfl))
      (M.ah (M.aH (i:=10) cQ.nd rfl (Or.inl rfl) (M.aF M.aT (M.pv 2) (M.aL M.xR (M.aL M.eX (M.pv 8) (M.aL M.Ht M.aj (M.pv 9))) M.aj) (fun _ _=>rfl)))
      (M.aq (M.aR (M.mY PySem.F.plainAttrs_list PySem.F.slot_list_append PySem.F.type_list_append M.jG (M.pv 6) (M.ak (M.aL M.eX (M.aL M.eX (M.cL M.kN (M.pv 3) M.dS (M.cZ (M.pv 7))) (M.pv 10)) (M.cL M.kN (M.pv 3) (M.cZ (M.aL M.eX (M.pv 7) M.aj)) (M.cZ (M.aL M.eX (M.pv 5) M.aj)))) M.aa)))))))))))))
   (M.aq (M.aS (M.cL M.kN (M.aL M.eX (M.cL M.kN (M.pv 6) (M.cZ (M.pv 5)) M.dS) (M.cL M.kN (M.pv 6) M.dS (M.cZ (M.pv 5)))) M.dS (M.cZ (M.pv 1)))))))))),fun ds S Q h => ?_⟩
  obtain ⟨p,m,n,rfl,hp,hn,hm,q⟩:=h
  have e0:aM uu [.loc p,.int m]=[some (.loc p),some (.int m),none,none,none,none,none,none,none,none,none]:=rfl
  rw [e0]
  have pl:=gm hp
  refine bR fun N1 h1 => ?_
  push_cast [true_and]
  refine h1 _ _ ?_
  clear h1
  refine bR fun N2 h2 => ?_
  push_cast [KJ,vK,true_and,jU,qL]
  refine ⟨by decide,by decide,lR (NC S p n) ?_ ?_ _ _ _ _ ⟨[],n,none,rfl,rfl,by simp,rfl,fun _=>rfl,hp,zcE (n+8)⟩⟩
  ·rintro acc δ S' ⟨ys,n2,v0,rfl,hl,hys,rfl,hs,hp',hn2⟩
   have hl:ys.length=8:=hl
   have hn2:n2≤n+8:=hn2
   obtain ⟨j1,j2⟩:=xX ys hys
   rw [← PySem.StrLaws.glued_eq_join] at j1 j2
   have j1:(Txt.join "" ys).length=8:=j1.trans hl
   have j2:wA (Txt.join "" ys):=j2
   refine ⟨trivial,"",_,ys,rfl,rfl,rfl,(by rw [wQ ys hys];show _+_*0≤_;lia),h2 _ _ ?_⟩
   clear h2
   rw [cY]
   generalize Txt.join "" ys=W at j1 j2
   refine bR fun N3 h3 => ?_
   push_cast [true_and]
   refine bq hp' (by lia) (by decide) (by decide) fun zw hzw => ?_
   rw [hs]
   refine h3 _ _ ?_
   clear h3 hs hp' hys
   refine bR fun N4 h4 => ?_
   push_cast [true_and]
   refine bq (bM hp) (by lia) (by decide) (by decide) fun t ht => ?_
   rw [zco]
   refine h4 _ _ ?_
   clear h4
   have ht:t<8:=by lia
   have fin:∀ (zl:List Str) (n3:Nat) (v7 v8 v9 v10:Option D),zl.length=8→(∀ y∈zl,Nm y)→zl.Nodup→n3≤n+20→Dy (Lb tX (Dz DK (Lb tX (eT 6) (pW (eT 5)) iH) (Lb tX (eT 6) iH (pW (eT 5)))) iH (pW (eT 1))) { nx:=fun x S'=>M.ret S S' (R.dat D.bw) Q,rt:=fun r S'=>M.ret S S' r Q }
     [some (.loc p),some (.int m),some (.str "abcdefghijklmnopqrstuvwxyz"),some (.str W),some (.int zw),some (.int t),some (.loc S.length),v7,v8,v9,v10] (S.set p (some (.feed n3))++[some (.lst (zl.map D.str))]):=fun zl n3 v7 v8 v9 v10 hl hm1 hd h3=>by
    have es:=bx (S:=S.set p (some (.feed n3))++[some (MO.lst (zl.map D.str))]) (n:=S.length) (o:=.lst (zl.map D.str)) (fZ (i:=0) (by rw [zbW];rfl))
    have L8:(zl.map D.str).length=8:=by rw [zbN,hl]
    push_cast [true_and]
    refine xm es (xm es ?_)
    rw [zU (k:=t) (by lia),qR (k:=t) (by lia),← List.map_drop,← List.map_take]
    push_cast [true_and]
    have L9:(zl.drop t++zl.take t).length=8:=by rw [zaT,zbA,zby];lia
    refine ⟨by rw [zbN,zbN,zbA,zby,yag];lia,?_⟩
    rw [qg,← zbV,qR (k:=m) (by rw [zbN];lia),← List.map_take]
    refine za (rN _) (q _ n3 (by rw [zby];lia) (fun y hy => ?_) (((zay.trans (List.Perm.of_eq (zax t zl))).nodup_iff.mpr hd).sublist (zbj _ _)) h3)
    rcases zbM.mp (zaH hy) with hy | hy
    ·exact hm1 y (zaI hy)
    ·exact hm1 y (zaH hy)
   refine bR fun N5 h5 => ?_
   have go:∀ (zl:List Str) (n3:Nat) (v7 v8 v9 v10:Option D),zl.length=8→(∀ y∈zl,Nm y)→zl.Nodup→n3≤n+20→N5 [some (.loc p),some (.int m),some (.str "abcdefghijklmnopqrstuvwxyz"),some (.str W),some (.int zw),some (.int t),some (.loc S.length),v7,v8,v9,v10] (S.set p (some (.feed n3))++[some (.lst (zl.map D.str))]):=fun zl n3 v7 v8 v9 v10 a b c d=>h5 _ _ (fin zl n3 v7 v8 v9 v10 a b c d)
   clear h5 fin
   push_cast [jg,jU,qL,oN]
   refine vJ (fun _ => ?_) (fun _=>vJ (fun _ => ?_) (fun _ => ?_))
   ·refine ⟨by decide,by decide,comp_map (δ:=[none,some (.str W)]) (fun d=>match d with | .int i=>.str (Txt.slice W none (some (i+1))) | d=>d) trivial _ [] _ rfl (fun x hx Q' q' => ?_) ?_ ?_⟩
    ·obtain ⟨k,hk,rfl⟩:=zcq.mp hx
     rw [Int.zero_add] at q' ⊢
     push_cast [zaY]
     exact ⟨by rw [j1,yag];lia,q'⟩
    ·simp [cA];rw [yag];lia
    have el:∀ k:Nat,k<8→(Txt.slice W none (some ((k:Int)+1))).length=k+1:=fun k hk=>by
     rw [xo,show ((k:Int)+1)=((k+1:Nat):Int) by lia]
     exact uR (zcF _) (by lia)
    rw [zbU,zbW,show (cA 0 (8:Int).toNat).map (fun d=>match d with | .int i=>.str (Txt.slice W none (some (i+1))) | d=>d)=((zcI 8).map fun k:Nat=>Txt.slice W none (some ((k:Int)+1))).map D.str from by
     simp only [cA,zcp]
     refine zaL fun k _ => ?_
     show D.str (Txt.slice W none (some ((0:Int)+(k:Int)+1)))=D.str (Txt.slice W none (some ((k:Int)+1)))
     rw [Int.zero_add]]
    refine go _ _ _ _ _ _ (by simp) (fun y hy => ?_) (qG List.nodup_range fun a ha b hb e => ?_) (by lia)
    ·obtain ⟨k,hk,rfl⟩:=zcq.mp hy
     have:=el k (zbZ.mp hk)
     have:=zbZ.mp hk
     exact ⟨by lia,by lia,uS j2⟩
    ·have h1:=el a (zbZ.mp ha)
     have h2:=el b (zbZ.mp hb)
     have:=congrArg Str.length e
     lia
   ·refine ⟨ySz 8,?_⟩
    rw [zbW]
    refine go ["on","back","at","off","stay","many","then","either"] _ _ _ _ _ rfl (fun y hy => ?_) (by decide +kernel) (by lia)
    simp only [zcf,zbE,or_false] at hy
    rcases hy with rfl | rfl | rfl | rfl | rfl | rfl | rfl | rfl <;> exact vz (by decide +kernel)
   ·refine bq (bM hp) (by lia) (by lia) (by lia) fun z hz => ?_
    rw [zco]
    refine bq (bM hp) (by lia) (by decide) (by decide) fun zs hzs => ?_
    rw [zco,zbW]
    refine ⟨zcF _,by decide,by decide,dY (NL S p m (n2+1+1+1+1) zw t z zs W) ?_ ?_ _ _ _ ⟨0,[],none,none,rfl,by decide,rfl,by simp,rfl,rfl,rfl⟩⟩
    ·rintro δ S' ⟨j,zl,v9,v10,e1,hj,hzl,hzs',hzd,rfl,rfl⟩
     have hj2:j=8:=by
      have:=congrArg zcC e1
      rw [zbA,jr] at this
      simp at this;lia
     subst hj2
     refine ⟨trivial,go zl _ _ _ _ _ hzl hzs' (LW (fun y=>y.cps.toList[z]?) ?_) (by lia)⟩
     rw [hzd]
     exact qG List.nodup_range fun a ha b hb e=>by
      have ha:=zbZ.mp ha
      have hb:=zbZ.mp hb
      have e:=zcH.inj e
      lia
    ·rintro x xs δ S' N ⟨j,zl,v9,v10,e1,hj,hzl,hzs',hzd,rfl,rfl⟩ hN
     obtain ⟨hj2,rfl,rfl⟩:=mz e1
     refine ⟨trivial,?_⟩
     have e3:bG (S.set p (some (.feed (n2+1+1+1+1)))++[some (MO.lst (zl.map D.str))]) (.loc S.length) = .lst (zl.map D.str):=bx (o:=.lst (zl.map D.str)) (fZ (i:=0) (by rw [zbW];rfl))
     push_cast [KJ,e3,vK,true_and]
     refine ⟨.inl ⟨by decide,by decide⟩,?_⟩
     have e5:((zs:Int)+5*(j:Int)) % 26=(((zs+5*j) % 26:Nat):Int):=by lia
     refine ⟨_,_,rfl,rfl,(by show (0:Int)<26;decide),?_⟩
     dsimp only [cY]
     rw [e5]
     refine qI (by lia) ⟨by rw [e3];trivial,?_⟩
     have w1:W.length≤yah:=by rw [j1,yag];lia
     have hz7:z≤t:=by lia
     have g1:(Txt.slice W none (some (z:Int))).length=z:=by rw [xo];exact uR (zcF _) (by lia)
     have g2:(Txt.slice W (some ((z:Int)+1)) (some ((t:Int)+1))).length=(t+1) - (z+1):=uR (a:=z+1) (b:=t+1) (by lia) (by lia)
     have hc:=L4 (i:=(zs+5*j) % 26) (by lia)
     refine ⟨w1,?_⟩
     dsimp only [cY]
     refine ⟨by rw [g1,hc.1,yag];lia,w1,?_⟩
     dsimp only [cY]
     refine ⟨by rw [strLen_append,g1,hc.1,g2,yag];lia,S.length,_,_,rfl,rfl,fZ (i:=0) (by rw [zbW];rfl),by rw [zbN,yag];lia,?_⟩
     rw [l5 (i:=0) (by rw [zbW];rfl)]
     refine hN _ _ ⟨j+1,zl++[_],_,_,rfl,by lia,by simp [hzl],fun y hy => ?_,?_,rfl,by rw [zbV];rfl⟩
     ·rcases zbM.mp hy with hy | hy
      ·exact hzs' y hy
      ·rw [zaW.mp hy]
       refine ⟨by rw [strLen_append,strLen_append,hc.1];lia,by rw [strLen_append,strLen_append,hc.1];lia,((uS j2).append hc.2).append (uS j2)⟩
     ·rw [zbV,hzd,List.range_succ,zbV,zcg,zcm,zcg,zcm]
      have g3:(Txt.slice W none (some (z:Int))).cps.toList.length=z:=by rw [zaP];exact g1
      have e9:(Txt.slice W none (some (z:Int))++⟨#[97+(zs+5*j) % 26]⟩++Txt.slice W (some ((z:Int)+1)) (some ((t:Int)+1))).cps.toList=(Txt.slice W none (some (z:Int))).cps.toList++[97+(zs+5*j) % 26]++(Txt.slice W (some ((z:Int)+1)) (some ((t:Int)+1))).cps.toList:=by
       show ((Txt.slice W none (some (z:Int))).cps ++ #[97+(zs+5*j) % 26]++(Txt.slice W (some ((z:Int)+1)) (some ((t:Int)+1))).cps).toList=_
       simp
      rw [e9,zbl,zab (by lia),g3,Nat.sub_self];rfl
  ·rintro x xs acc δ S' N ⟨ys,n2,v0,rfl,hl,hys,rfl,hs,hp',hn2⟩ hN
   clear h2
   refine ⟨trivial,?_⟩
   simp only [zbx] at hl hn2
   push_cast [kJ]
   refine bq hp' (by lia) (by decide) (by decide) fun z hz=>qI (by lia) ⟨by rw [zbN,yag];lia,hN _ _ _ ⟨ys++[⟨#[97+z]⟩],n2+1,_,by rw [zbV];rfl,by simp;lia,fun y hy => ?_,rfl,fun x=>by rw [zco,hs],bM hp',by lia⟩⟩
   rcases zbM.mp hy with hy | hy
   ·exact hys y hy
   ·rw [zaW.mp hy]
    exact L4 (by lia)
end
open PySem PySem.Spec L2 M M6 PyProof.Rows
noncomputable abbrev Bx:Stmt:=top 29
noncomputable abbrev yK:List Str:=["_law_rows_here","_law_web_here","_law_name","_law_marks","_law_one","_law_word","_law_other"]
noncomputable abbrev j0:List Str:=["_law_rows_here"]
theorem i6:aE yK j0 (ai Bx):=L2.cE
theorem iG {α:Type}{P:aG→Prop}{t:AT}{e:AE}{Q:List D→aG→Prop}{δ:bE}{S:aG} (g:α→D) (c:α→Bool) (f:α→D) (hP:P S):∀ (as:List α) (acc:List D) (δ':bE),δ'.set 0 none=δ.set 0 none →
  (∀ a∈as,∀ Q:Bool→aG→Prop,Q (c a) S→t (δ.set 0 (some (g a))) S Q)→(∀ a∈as,∀ Q:AK,Q (.dat (f a)) S→e (δ.set 0 (some (g a))) S Q)→acc.length+as.length≤yah→Q (acc++(as.filter c).map f) S →
  c9 P (bP 0) t e (as.map g) acc δ' S Q
 | [],acc,δ',_,_,_,_,q=>⟨hP,by simpa using q⟩
 | a::as,acc,δ',hd,ht,he,hl,q=>by
  refine ⟨hP,?_⟩
  have e1:δ'.set 0 (some (g a))=δ.set 0 (some (g a)):=by
   have:=congrArg (fun l=>l.set 0 (some (g a))) hd
   simpa [zco] using this
  show bP 0 (g a) δ' S _
  simp only [bP]
  rw [e1]
  simp only [zbx] at hl
  refine ht a (by simp) _ ?_
  cases hc:c a with
  | true =>
   rw [yIp rfl]
   refine he a (by simp) _ ⟨by lia,?_⟩
   refine iG g c f hP as _ _ (by simp [zco]) (fun x hx=>ht x (by simp [hx])) (fun x hx=>he x (by simp [hx])) (by simp;lia) ?_
   rw [zbz,hc,yIp rfl,zcg] at q
   simpa [R.d,zbl] using q
  | false =>
   rw [yIn (by decide)]
   refine iG g c f hP as _ _ (by simp [zco]) (fun x hx=>ht x (by simp [hx])) (fun x hx=>he x (by simp [hx])) (by lia) ?_
   rw [zbz,hc,yIn (by decide)] at q
   exact q
structure wz (S S':aG) (own:List Nat):Prop where
 keep:∀ k,k<S.length→S'[k]? = S[k]?
 len:S.length≤S'.length
 own:∀ c∈own,S.length≤c
theorem wz.step {S S' S2:aG}{own own':List Nat} (h:wz S S' own) (f:Fr S' S2 own own'):wz S S2 own' :=
 ⟨fun k hk=>by rw [f.out k (zaZ hk h.len) fun z=>by have:=h.own k z;lia];exact h.keep k hk,zcs h.len f.len,fun c hc=>by
  rcases f.new c hc with z | z
  ·exact h.own c z
  ·exact zcs h.len z⟩
noncomputable def knT (k:Kn):D:=.tup [.str k.1,.tup (k.2.map D.str)]
noncomputable def mw (ks:List Kn) (ts:List Ti):D:=.tup [.tup (ks.map knT),.tup (ts.map T3)]
section
variable {P:yak}{w:yal}{K:yaM}{mg:Str→Option yaj}{base:Heap}{ec:Nat→Addr}{EP C fi:Addr}
def LK (C:Addr) (W:yal) (S:aG) (ks:List Kn) (ts:List Ti) (Q:AK):Prop:=∀ S' own,bD C W S' S.length own ks ts→wz S S' own→Q (.dat (.loc S.length)) S'
def A8 (C:Addr) (W:yal):AN:=fun ds S Q=>∃ ks ts,ds=[bN ks ts]∧RO ks ts∧ks.length≤40∧ts.length≤300∧LK C W S ks ts Q
def L1 (C:Addr) (w:yal) (R:D) (g:Kn→D) (S:aG) (ks:List Kn) (rest:List D) (δ:bE) (S':aG):Prop:=∃ (done rs:List Kn) (own:List Nat) (v2 v3:Option D),rest=rs.map g∧done++rs=ks∧δ=[some R,some (.loc S.length),v2,v3,none,none,none]∧bD C w S' S.length own done []∧wz S S' own
def L2' (C:Addr) (w:yal) (R:D) (S:aG) (ks:List Kn) (ts:List Ti) (rest:List D) (δ:bE) (S':aG):Prop:=∃ (dt rt:List Ti) (own:List Nat) (v2 v3 v4 v5 v6:Option D),rest=rt.map T3∧dt++rt=ts∧δ=[some R,some (.loc S.length),v2,v3,v4,v5,v6]∧bD C w S' S.length own ks dt∧wz S S' own
theorem zP {S S1:aG}{n:Nat}{o:Option MO} (k1:∀ k,k<S.length→S1[k]? = (S++[o])[k]?) (l1:S1.length=S.length+4):wz S S1 [S.length,S.length+1,S.length+2,S.length+3] :=
 ⟨fun k hk=>by rw [k1 k hk,zag hk],by lia,fun c hc=>by simp at hc;lia⟩
theorem tw {α β:Type}{g:α→β}{rs:List α} (e:[]=rs.map g):rs=[]:=by cases rs with | nil=>rfl | cons _ _=>simp at e
theorem Ca {α:Type}{d r:List α}{x:α}{l:List α} (e:d++x::r=l) (h:l.Nodup):x ∉ d:=fun z=>by
 rw [← e,zbq] at h
 exact h.2.2 x z x (by simp) rfl
theorem Kf {fdi:yaq} (T:Txt K mg ec EP C fi) (F:Src K mg "_law_web" j0 Bx) (F_Web:bW P w K mg base iZ 1 fi fdi iI (bf K (A9 C w))) (B_Web:Binds K fdi iI [])
  (D_put_knot:cj P w K mg base 2 C "put_knot" d9 (uQ C w)) (D_put_tie:cj P w K mg base 2 C "put_tie" fj (AZ C w)):Def P w K mg base 3 "_law_web" j0 (bf K (A8 C w)):=by
 refine OJ F i6 (fun ds S Q h => ?_) (fun f cdv A outer s H E hr => ?_)
 ·obtain ⟨ks,ts,rfl,_⟩:=h;rfl
 ·refine ⟨_,(M.ah (M.aH (i:=1) i6.nd rfl (Or.inl rfl) (M.mU T.zA F_Web B_Web (hr.mono (by decide)) (by rfl) T.JJ))
   (M.ah (M.fz PassesOwn.never rfl (M.fB (M.aF M.aT (M.pv 0) M.aj (fun _ _=>rfl))) (M.fE (n:=2) rfl (M.aY (M.aN (i:=2) i6.nd rfl (Or.inl rfl)) (M.aY (M.aN (i:=3) i6.nd rfl (Or.inl rfl)) M.dB)))
    (M.aq (M.aR (M.bh (M.pv 1) T.cl D_put_knot (hr.mono (by decide)) (M.ak (M.pv 2) (M.ak (M.Fc M.m8 (by rfl) T.list (by decide +kernel) (M.ak (M.pv 3) M.aa)) M.aa))))))
   (M.ah (M.fz PassesOwn.never rfl (M.fB (M.aF M.aT (M.pv 0) M.aj (fun _ _=>rfl))) (M.fE (n:=3) rfl (M.aY (M.aN (i:=4) i6.nd rfl (Or.inl rfl)) (M.aY (M.aN (i:=5) i6.nd rfl (Or.inl rfl)) (M.aY (M.aN (i:=6) i6.nd rfl (Or.inl rfl)) M.dB))))
    (M.aq (M.aR (M.bh (M.pv 1) T.cl D_put_tie (hr.mono (by decide)) (M.ak (M.pv 4) (M.ak (M.pv 5) (M.ak (M.pv 6) M.aa)))))))
   (M.aq (M.aS (M.pv 1)))))),fun ds S Q h => ?_⟩
  obtain ⟨ks,ts,rfl,hRO,hk40,ht300,q⟩:=h
  have e0:aM yK [bN ks ts]=[some (bN ks ts),none,none,none,none,none,none]:=rfl
  rw [e0]
  push_cast [HN,oN]
  refine ⟨S.length,rfl,by rw [zaT];rfl,dD,fun S1 X1 k1 l1=>⟨rfl,?_⟩⟩
  refine ⟨_,rfl,_,rfl,?_⟩
  show iT (fun _=>True) _ _ (ks.map fU) _ _ S1
  refine dY (L1 C w (bN ks ts) fU S ks) ?_ ?_ _ _ _ ⟨[],ks,_,none,none,rfl,rfl,rfl,X1,zP (n:=0) k1 l1⟩
  ·rintro δ S2 ⟨done,rs,own,v2,v3,e1,e2,rfl,X2,k2⟩
   have:=tw e1
   subst this
   rw [zbO] at e2
   subst e2
   refine ⟨trivial,?_⟩
   push_cast [oN]
   refine ⟨_,rfl,_,rfl,?_⟩
   show iT (fun _=>True) _ _ (ts.map T3) _ _ S2
   refine dY (L2' C w (bN done ts) S done ts) ?_ ?_ _ _ _ ⟨[],ts,own,v2,v3,none,none,none,rfl,rfl,rfl,X2,k2⟩
   ·rintro δ S3 ⟨dt,rt,own,v2,v3,v4,v5,v6,e1,e2,rfl,X3,k3⟩
    have:=tw e1
    subst this
    rw [zbO] at e2
    subst e2
    exact ⟨trivial,_,rfl,q S3 own X3 k3⟩
   ·rintro x xs δ S3 N ⟨dt,rt,own,v2,v3,v4,v5,v6,e1,e2,rfl,X3,k3⟩ hN
    cases rt with
    | nil=>simp at e1
    | cons r rt =>
     rw [zcg] at e1
     injection e1 with e1 e3
     subst e1;subst e3
     obtain ⟨m,t,e,cs,ro,rk,X⟩:=id X3
     have hr:r∈ts:=by rw [← e2];simp
     have:dt.length<300:=by have:=congrArg zcC e2;rw [zaT] at this;simp at this;lia
     refine ⟨trivial,_,rfl,rfl,_,_,rfl,_,_,rfl,_,_,rfl,rfl,?_⟩
     exact br rfl X.at_ (by decide +kernel) ⟨_,rfl,_,rfl,_,rfl,S.length,r,own,done,dt,rfl,X3,(hRO.tk r hr).1,(hRO.tk r hr).2.1,Ca e2 hRO.tn,this,hRO.uD r hr,fun S4 own4 X4 f4=>hN _ _ ⟨dt++[r],rt,own4,_,_,_,_,_,rfl,by rw [← e2];simp,rfl,X4,k3.step f4⟩⟩
  ·rintro x xs δ S2 N ⟨done,rs,own,v2,v3,e1,e2,rfl,X2,k2⟩ hN
   cases rs with
   | nil=>simp at e1
   | cons r rs =>
    rw [zcg] at e1
    injection e1 with e1 e3
    subst e1;subst e3
    obtain ⟨m,t,e,cs,ro,rk,X⟩:=id X2
    have hr:r∈ks:=by rw [← e2];simp
    have hno:r.1 ∉ nms done:=Ca (r:=nms rs) (l:=nms ks) (by rw [← e2];simp [nms]) hRO.nd
    have hkl:done.length<40:=by have:=congrArg zcC e2;rw [zaT] at this;simp at this;lia
    have hm:=hRO.nm r hr
    refine ⟨trivial,_,rfl,rfl,_,_,rfl,_,_,rfl,rfl,?_⟩
    refine br rfl X.at_ (by decide +kernel) ⟨_,rfl,_,rfl,_,rfl,S.length,r.1,.lst (r.2.map D.str),r.2,own,done,[],rfl,.inl rfl,X2,hno,hkl,by lia,hm.2.2.1,dO hm.1,fun m hm'=>dO (hm.2.2.2 m hm'),fun S4 own4 X4 f4=>hN _ _ ⟨done++[r],rs,own4,_,_,rfl,by rw [← e2];simp,rfl,X4,k2.step f4⟩⟩
noncomputable def oB (ks:List Kn):List Kn:=(jn (nms ks)).map fun x=>(x,jn (cR ks x))
theorem r6 (ks:List Kn) (ts:List Ti):r9 ks ts=mw (oB ks) (l9 ts):=by
 unfold r9 mw oB
 rw [zcp];rfl
theorem sN {ks:List Kn} (hn:(nms ks).Nodup) {k:Kn} (hk:k∈ks):cR ks k.1=k.2:=by
 have h:=kC (ks:=ks) (x:=k.1) (zcq.mpr ⟨k,hk,rfl⟩)
 have:=gh hn _ h _ hk rfl
 exact congrArg (·.2) this
theorem RO.jn {ks:List Kn}{ts:List Ti} (h:RO ks ts) (p1:(jn (nms ks)).Perm (nms ks)) (p2:(l9 ts).Perm ts) (p3:∀ x∈nms ks,(K03.jn (cR ks x)).Perm (cR ks x)):RO (oB ks) (l9 ts):=by
 have en:nms (oB ks)=K03.jn (nms ks):=by unfold oB nms;rw [zcp];simp [Function.comp_def]
 refine ⟨?_,by rw [en];exact p1.nodup_iff.mpr h.nd,fun k hk => ?_,p2.nodup_iff.mpr h.tn,by rw [p2.length_eq];exact h.tl,fun t ht => ?_⟩
 ·unfold oB
  rw [zbN,p1.length_eq]
  unfold nms
  rw [zbN];exact h.kl
 ·unfold oB at hk
  obtain ⟨x,hx,rfl⟩:=zcq.mp hk
  have hx:=p1.mem_iff.mp hx
  obtain ⟨k,hk1,rfl⟩:=zcq.mp hx
  have hp:=p3 k.1 hx
  rw [sN h.nd hk1] at hp ⊢
  have hm:=h.nm k hk1
  exact ⟨hm.1,by show (K03.jn k.2).length≤5;rw [hp.length_eq];exact hm.2.1,hp.nodup_iff.mpr hm.2.2.1,fun m hm'=>hm.2.2.2 m (hp.mem_iff.mp hm')⟩
 ·have:=h.tk t (p2.mem_iff.mp ht)
  rw [en]
  exact ⟨p1.mem_iff.mpr this.1,p1.mem_iff.mpr this.2.1,this.2.2⟩
end
open PySem PySem.Spec L2 M M6 PyProof.Rows
structure Tq (n m:Nat) (d:D):Prop where
 ck:ck d=true
 dep:(py d).depth≤n
 sh:pP (py d)
 wt:L2.wt (py d)≤m
theorem O6 {n m:Nat}:∀ {es:List D},(∀ e∈es,Tq n m e)→cK es=true∧PyData.depthAll (eW es)≤n∧cJ (eW es)∧gu (eW es)≤es.length*(m+2)
 | [],_=>⟨rfl,by simp [eW,PyData.depthAll],by simp [eW,cJ],by simp [eW,gu]⟩
 | e::es,h=>by
  obtain ⟨a,b,c,d⟩:=O6 (es:=es) fun x hx=>h x (by simp [hx])
  have he:=h e (by simp)
  refine ⟨by simp only [cK,zbH];exact ⟨he.ck,a⟩,?_,by simp only [eW,cJ];exact ⟨he.sh,c⟩,?_⟩
  ·have:=he.dep
   simp only [eW,PyData.depthAll];lia
  ·have:=he.wt
   simp only [eW,gu,zbx]
   rw [Nat.succ_mul];lia
theorem Tq.tup {n m l:Nat}{es:List D} (h:∀ e∈es,Tq n m e) (hl:es.length≤l):Tq (n+1) (l*(m+2)+3) (.tup es):=by
 obtain ⟨a,b,c,d⟩:=O6 h
 refine ⟨by simpa [M.ck] using a,by simp only [py,PyData.depth];lia,by simpa [py,pP] using c,?_⟩
 have:es.length*(m+2)≤l*(m+2):=Nat.mul_le_mul_right _ hl
 simp only [py,L2.wt];lia
theorem Tq.asc {y:Str} (hl:y.length≤20) (h:HY y):Tq 0 202 (.str y):=by
 refine ⟨rfl,by simp [py,PyData.depth],?_,?_⟩
 ·simp only [py,pP];exact HY.ok h
 ·simp only [py,L2.wt];lia
theorem Tq.name {y:Str} (h:Nm y):Tq 0 202 (.str y):=.asc (by have:=h.2.1;lia) h.asc
theorem Tq.mono {n m n' m':Nat}{d:D} (h:Tq n m d) (hn:n≤n') (hm:m≤m'):Tq n' m' d:=⟨h.ck,zcs h.dep hn,h.sh,zcs h.wt hm⟩
theorem qv {n m:Nat}{x:D}{S:aG}{Q:AK} (hx:Tq n m x) (hn:n≤100) (hm:m≤1000000) (q:Q (.dat (.str (py x).shown)) S):yD [x] S Q:=by
 have hs:=ED (S:=S) hx.ck
 refine ⟨x,rfl,?_⟩
 rw [hs]
 exact ⟨hx.ck,hx.sh.show,zcs hx.dep hn,zcs (shown_le _ hx.sh) (zcs hx.wt (by rw [yag];lia)),q⟩
theorem Tq.T3 {t:Ti} (h1:Nm t.1∨t.1 = "on" ∨ t.1 = "back") (h2:Nm t.2.1) (h3:Nm t.2.2):Tq 1 615 (K03.T3 t):=by
 refine Tq.tup (n:=0) (l:=3) (m:=202) ?_ (by simp)
 simp only [zcf,zbE,or_false]
 rintro e (rfl | rfl | rfl)
 ·rcases h1 with h | h | h
  ·exact .name h
  ·rw [h];exact .asc (by decide +kernel) (kG (by decide +kernel))
  ·rw [h];exact .asc (by decide +kernel) (kG (by decide +kernel))
 ·exact .name h2
 ·exact .name h3
theorem RO.ends {ks:List Kn}{ts:List Ti} (h:RO ks ts) {t:Ti} (ht:t∈ts):Nm t.1∧Nm t.2.1∧Nm t.2.2:=by
 obtain ⟨h1,h2,h3⟩:=h.tk t ht
 obtain ⟨k1,hk1,e1⟩:=zcq.mp h1
 obtain ⟨k2,hk2,e2⟩:=zcq.mp h2
 exact ⟨by rw [← e1];exact (h.nm k1 hk1).1,h3,by rw [← e2];exact (h.nm k2 hk2).1⟩
theorem RO.tq {ks:List Kn}{ts:List Ti} (h:RO ks ts):Tq 4 372681 (mw ks ts):=by
 refine Tq.tup (n:=3) (l:=2) (m:=186337) ?_ (by simp)
 simp only [zcf,zbE,or_false]
 rintro e (rfl | rfl)
 ·refine (Tq.tup (n:=2) (l:=62) (m:=2053) (fun e he => ?_) (by rw [zbN];exact h.kl)).mono (by decide) (by decide)
  obtain ⟨k,hk,rfl⟩:=zcq.mp he
  refine Tq.tup (n:=1) (l:=2) (m:=1023) ?_ (by simp)
  simp only [zcf,zbE,or_false]
  rintro e (rfl | rfl)
  ·exact (Tq.name (h.nm k hk).1).mono (by decide) (by decide)
  ·refine Tq.tup (n:=0) (l:=5) (m:=202) (fun e he => ?_) (by rw [zbN];exact (h.nm k hk).2.1)
   obtain ⟨y,hy,rfl⟩:=zcq.mp he
   exact .name ((h.nm k hk).2.2.2 y hy)
 ·refine (Tq.tup (n:=1) (l:=302) (m:=615) (fun e he => ?_) (by rw [zbN];exact h.tl)).mono (by decide) (by decide)
  obtain ⟨t,ht,rfl⟩:=zcq.mp he
  have:=h.ends ht
  exact .T3 (.inl this.1) this.2.1 this.2.2
theorem xS {s:Str}{S:aG}{Q:AK} (q:Q (.dat (.bl false)) S):KA (.str s) (.str s) S Q:=by
 have e:KA (.str s) (.str s) S Q=Q (.dat (.bl (!decide (s=s)))) S:=rfl
 rw [e,yDt rfl];exact q
theorem EU {S X:aG}{d:D}{Q:AK} (h:ck d=true) (q:Q (.dat d) S):ret S (S++X) (.dat d) Q :=
 ⟨_,lK h,fun k o hk e=>.inl (by rw [zag hk] at e;exact e),by rw [List.take_left' rfl];exact q⟩
theorem qh {S:aG}{a b:Option MO}:(S++[a]).set S.length b=S++[b]:=by rw [List.set_append,yIn (by lia),Nat.sub_self];rfl
theorem bD.app {C:Addr}{W:yal}{S Y:aG}{n:Nat}{own:List Nat}{ks:List Kn}{ts:List Ti} (h:bD C W S n own ks ts):bD C W (S++Y) n own ks ts:=by
 obtain ⟨m,t,e,cs,ro,rk,X⟩:=h
 exact ⟨m,t,e,cs,ro,rk,X.app⟩
open PySem PySem.Spec L2 M M6 PyProof.Rows
noncomputable abbrev qp:Stmt:=inClass (top 3) 0
noncomputable abbrev Am:List Str:=["self","name"]
noncomputable abbrev fR:List Str:=["self","name"]
theorem Bp:aE Am fR (ai qp):=L2.cE
noncomputable abbrev qo:Stmt:=inClass (top 4) 0
noncomputable abbrev Al:List Str:=["self","name"]
noncomputable abbrev fQ:List Str:=["self","name"]
theorem Bo:aE Al fQ (ai qo):=L2.cE
noncomputable abbrev uY:Stmt:=inClass (top 6) 0
noncomputable abbrev DZ:List Str:=["self","name"]
noncomputable abbrev eL:List Str:=["self","name"]
theorem EG:aE DZ eL (ai uY):=L2.cE
noncomputable abbrev mq:Stmt:=inClass (top 7) 0
noncomputable abbrev wu:List Str:=["self","word"]
noncomputable abbrev cU:List Str:=["self","word"]
theorem yY:aE wu cU (ai mq):=L2.cE
noncomputable abbrev u6:Stmt:=inClass (top 8) 0
noncomputable abbrev D3:List Str:=["self","tie"]
noncomputable abbrev g7:List Str:=["self","tie"]
theorem EJ:aE D3 g7 (ai u6):=L2.cE
structure Ac (K:yaM) (mg:Str→Option yaj) (x:Str) (C:Addr) (qual:Str) (ps:List Str) (st:Stmt):Prop where
 ex:∃ f fd,OY K C f∧uz K "__init__" qual st f fd∧Binds K fd ps []
section
variable {P:yak}{w:yal}{K:yaM}{mg:Str→Option yaj}{base:Heap}{ec:Nat→Addr}{EP C fi:Addr}
theorem CZ (T:Txt K mg ec EP C fi) (F:Ac K mg "NoKnot" (ec 0) "NoKnot.__init__" fR qp):iO P w K mg base 1 "NoKnot" (ec 0) fR (i0 (ec 0) "name"):=by
 obtain ⟨f,fd,M,F',hb⟩:=F.ex
 refine ⟨⟨f,fd,M,F'.ok Bp (fun vs H Q E h => ?_) (fun cdv A outer s H vs Q E hr h => ?_),hb⟩,T.g_NoKnot⟩
 ·obtain ⟨x,v,rfl,_⟩:=h;rfl
 ·obtain ⟨x,v,rfl,hx,q⟩:=h
  refine ⟨_,L2.ah (L2.aR (gH (by rfl) T.at_PathError T.base_PathError (L2.ak (L2.pv 0) (L2.ak (L2.pv 1) L2.aa)))) (L2.aq (gE (L2.pv 0) (L2.pv 1))),?_⟩
  exact ⟨_,rfl,_,rfl,x,[v],ec 0,none,rfl,(by show 1≤1000;decide),hx,(T.xi 0 (by decide)).ex,_,rfl,_,rfl,x,ec 0,rfl,hx,(T.xi 0 (by decide)).toXCls,T.fld 0 (by decide),fun dx nd=>q dx nd⟩
theorem CY (T:Txt K mg ec EP C fi) (F:Ac K mg "NoMark" (ec 1) "NoMark.__init__" fQ qo):iO P w K mg base 1 "NoMark" (ec 1) fQ (i0 (ec 1) "name"):=by
 obtain ⟨f,fd,M,F',hb⟩:=F.ex
 refine ⟨⟨f,fd,M,F'.ok Bo (fun vs H Q E h => ?_) (fun cdv A outer s H vs Q E hr h => ?_),hb⟩,T.g_NoMark⟩
 ·obtain ⟨x,v,rfl,_⟩:=h;rfl
 ·obtain ⟨x,v,rfl,hx,q⟩:=h
  refine ⟨_,L2.ah (L2.aR (gH (by rfl) T.at_PathError T.base_PathError (L2.ak (L2.pv 0) (L2.ak (L2.pv 1) L2.aa)))) (L2.aq (gE (L2.pv 0) (L2.pv 1))),?_⟩
  exact ⟨_,rfl,_,rfl,x,[v],ec 1,none,rfl,(by show 1≤1000;decide),hx,(T.xi 1 (by decide)).ex,_,rfl,_,rfl,x,ec 1,rfl,hx,(T.xi 1 (by decide)).toXCls,T.fld 1 (by decide),fun dx nd=>q dx nd⟩
theorem F6 (T:Txt K mg ec EP C fi) (F:Ac K mg "Twice" (ec 3) "Twice.__init__" eL uY):iO P w K mg base 1 "Twice" (ec 3) eL (i0 (ec 3) "name"):=by
 obtain ⟨f,fd,M,F',hb⟩:=F.ex
 refine ⟨⟨f,fd,M,F'.ok EG (fun vs H Q E h => ?_) (fun cdv A outer s H vs Q E hr h => ?_),hb⟩,T.g_Twice⟩
 ·obtain ⟨x,v,rfl,_⟩:=h;rfl
 ·obtain ⟨x,v,rfl,hx,q⟩:=h
  refine ⟨_,L2.ah (L2.aR (gH (by rfl) T.at_PathError T.base_PathError (L2.ak (L2.pv 0) (L2.ak (L2.pv 1) L2.aa)))) (L2.aq (gE (L2.pv 0) (L2.pv 1))),?_⟩
  exact ⟨_,rfl,_,rfl,x,[v],ec 3,none,rfl,(by show 1≤1000;decide),hx,(T.xi 3 (by decide)).ex,_,rfl,_,rfl,x,ec 3,rfl,hx,(T.xi 3 (by decide)).toXCls,T.fld 3 (by decide),fun dx nd=>q dx nd⟩
theorem zS (T:Txt K mg ec EP C fi) (F:Ac K mg "TooMany" (ec 4) "TooMany.__init__" cU mq):iO P w K mg base 1 "TooMany" (ec 4) cU (i0 (ec 4) "word"):=by
 obtain ⟨f,fd,M,F',hb⟩:=F.ex
 refine ⟨⟨f,fd,M,F'.ok yY (fun vs H Q E h => ?_) (fun cdv A outer s H vs Q E hr h => ?_),hb⟩,T.g_TooMany⟩
 ·obtain ⟨x,v,rfl,_⟩:=h;rfl
 ·obtain ⟨x,v,rfl,hx,q⟩:=h
  refine ⟨_,L2.ah (L2.aR (gH (by rfl) T.at_PathError T.base_PathError (L2.ak (L2.pv 0) (L2.ak (L2.pv 1) L2.aa)))) (L2.aq (gE (L2.pv 0) (L2.pv 1))),?_⟩
  exact ⟨_,rfl,_,rfl,x,[v],ec 4,none,rfl,(by show 1≤1000;decide),hx,(T.xi 4 (by decide)).ex,_,rfl,_,rfl,x,ec 4,rfl,hx,(T.xi 4 (by decide)).toXCls,T.fld 4 (by decide),fun dx nd=>q dx nd⟩
theorem Gd (T:Txt K mg ec EP C fi) (F:Ac K mg "NoTie" (ec 5) "NoTie.__init__" g7 u6):iO P w K mg base 1 "NoTie" (ec 5) g7 (i0 (ec 5) "tie"):=by
 obtain ⟨f,fd,M,F',hb⟩:=F.ex
 refine ⟨⟨f,fd,M,F'.ok EJ (fun vs H Q E h => ?_) (fun cdv A outer s H vs Q E hr h => ?_),hb⟩,T.g_NoTie⟩
 ·obtain ⟨x,v,rfl,_⟩:=h;rfl
 ·obtain ⟨x,v,rfl,hx,q⟩:=h
  refine ⟨_,L2.ah (L2.aR (gH (by rfl) T.at_PathError T.base_PathError (L2.ak (L2.pv 0) (L2.ak (L2.pv 1) L2.aa)))) (L2.aq (gE (L2.pv 0) (L2.pv 1))),?_⟩
  exact ⟨_,rfl,_,rfl,x,[v],ec 5,none,rfl,(by show 1≤1000;decide),hx,(T.xi 5 (by decide)).ex,_,rfl,_,rfl,x,ec 5,rfl,hx,(T.xi 5 (by decide)).toXCls,T.fld 5 (by decide),fun dx nd=>q dx nd⟩
theorem cM {m:Str}{sp:AN}{bad:List D→aG→Nat→D→Prop}{t:AA}{δ:bE}{S S0:aG}{Q:AK}{n i j:Nat}{d:D}{ds:List D} (hδ:δ[i]? = some (some (.loc n))) (hS:S[n]? = some (some (.ins C fl ds))) (hm:m ∉ fl) (h:t δ S fun es S2=>sp (.loc n::es) S2 Q∨(bad (.loc n::es) S2 j d∧S2=S0)):rf C m sp bad S0 j d (eT i) t δ S Q:=⟨_,hδ,n,_,_,rfl,hS,hm,h⟩
theorem x6 {x:Str}{l:List Str} (h:x ∉ l) (neg:Bool):(neg != decide (x∈l))=neg:=by rw [yDf h];cases neg <;> rfl
theorem Cr {x:Str}{l:List Str} (h:x∈l) (neg:Bool):(neg != decide (x∈l)) = !neg:=by rw [yDt h];cases neg <;> rfl
def d8 (C:Addr) (W:yal):List D→aG→Nat→D→Prop:=fun ds S j d=>∃ n x own ks ts,ds=[.loc n,.str x]∧bD C W S n own ks ts∧x ∉ nms ks∧j=0∧d = .str x
abbrev kZ (P:yak) (w:yal) (K:yaM) (mg:Str→Option yaj) (base:Heap) (C EP:Addr) (ec:Nat→Addr):Prop:=cW P w K mg base 3 C "need_knot" dh (f9 C w) EP ec nH (d8 C w)
theorem Ge (T:Txt K mg ec EP C fi) (F:dH K C "need_knot" "Web.need_knot" dh rY) (oj:iO P w K mg base 1 "NoKnot" (ec 0) fR (i0 (ec 0) "name")):kZ P w K mg base C EP ec:=by
 refine (J4 F Bq (fun f fd F=>CH T F) (fun ds S j d h => ?_) (fun f cdv A outer s H w0 S0 j d hr => ?_)).2
 ·obtain ⟨n,x,own,ks,ts,rfl,_⟩:=h;rfl
 ·refine ⟨_,M.dj (M.iJ (M.aA (M.m7 hr) (M.pv 1) (M.bu (M.pv 0) T.cl T.bO) rfl) (M.dj (M.dR kK oj rfl (T.xi 0 (by decide)).toXCls (T.sub 0 (by decide)) hr (by rfl) (M.pv 1))) M.cX),fun ds h => ?_⟩
  obtain ⟨n,x,own,ks,ts,rfl,⟨m,t,e,cs,rfl,rfl,X⟩,hx,rfl,rfl⟩:=h
  have e0:aM rA [.loc n,.str x]=[some (.loc n),some (.str x)]:=rfl
  rw [e0]
  rw [dN] at hx
  push_cast [true_and]
  refine gp X rfl (FN X ⟨_,rfl,?_⟩)
  rw [x6 hx,yIp rfl]
  exact ⟨_,rfl,rfl,rfl,rfl⟩
theorem c7 {t:AA}{δ:bE}{S:aG}{Q:AK}{n i:Nat}{x:Str}{own:List Nat}{ks:List Kn}{ts:List Ti} (hδ:δ[i]? = some (some (.loc n))) (X:bD C w S n own ks ts) (hx:x ∉ nms ks) (h:∀ Q:List D→aG→Prop,Q [.str x] S→t δ S Q):rf C "need_knot" (f9 C w) (d8 C w) S 0 (.str x) (eT i) t δ S Q:=by
 obtain ⟨m,t',e,cs,ro,rk,X'⟩:=id X
 exact cM hδ X'.at_ (by decide +kernel) (h _ (.inr ⟨⟨n,x,own,ks,ts,rfl,X,hx,rfl,rfl⟩,rfl⟩))
theorem eY {t:AA}{δ:bE}{S S0:aG}{j:Nat}{d:D}{Q:AK}{n i:Nat}{x:Str}{own:List Nat}{ks:List Kn}{ts:List Ti} (hδ:δ[i]? = some (some (.loc n))) (X:bD C w S n own ks ts) (hx:x∈nms ks) (h:∀ Q:List D→aG→Prop,Q [.str x] S→t δ S Q) (q:Q (.dat .bw) S):rf C "need_knot" (f9 C w) (d8 C w) S0 j d (eT i) t δ S Q:=by
 obtain ⟨m,t',e,cs,ro,rk,X'⟩:=id X
 exact cM hδ X'.at_ (by decide +kernel) (h _ (.inl ⟨n,x,own,ks,ts,rfl,X,hx,q⟩))
theorem CV (T:Txt K mg ec EP C fi) (F:dH K C "take_knot" "Web.take_knot" dJ ql) (bV:kZ P w K mg base C EP ec):cW P w K mg base 4 C "take_knot" dJ gM EP ec nH (d8 C w):=by
 refine kX F jq (fun ds S j d h => ?_) (fun f cdv A outer s H w0 S0 j d hr => ?_)
 ·obtain ⟨n,x,own,ks,ts,rfl,_⟩:=h;rfl
 ·refine ⟨_,M.bH (M.fX (M.cu kK (M.pv 0) T.cl bV hr (M.ak (M.pv 1) M.aa))) M.cX,fun ds h => ?_⟩
  obtain ⟨n,x,own,ks,ts,rfl,X,hx,rfl,rfl⟩:=h
  exact c7 rfl X hx fun Q q=>⟨_,rfl,q⟩
theorem C2 (T:Txt K mg ec EP C fi) (F:dH K C "marks" "Web.marks" di qt) (bV:kZ P w K mg base C EP ec):cW P w K mg base 4 C "marks" di gM EP ec nH (d8 C w):=by
 refine kX F xw (fun ds S j d h => ?_) (fun f cdv A outer s H w0 S0 j d hr => ?_)
 ·obtain ⟨n,x,own,ks,ts,rfl,_⟩:=h;rfl
 ·refine ⟨_,M.bH (M.fX (M.cu kK (M.pv 0) T.cl bV hr (M.ak (M.pv 1) M.aa))) M.cX,fun ds h => ?_⟩
  obtain ⟨n,x,own,ks,ts,rfl,X,hx,rfl,rfl⟩:=h
  exact c7 rfl X hx fun Q q=>⟨_,rfl,q⟩
theorem CW (T:Txt K mg ec EP C fi) (F:dH K C "steps" "Web.steps" dc qm) (bV:kZ P w K mg base C EP ec):cW P w K mg base 4 C "steps" dc gM EP ec nH (d8 C w):=by
 refine kX F xu (fun ds S j d h => ?_) (fun f cdv A outer s H w0 S0 j d hr => ?_)
 ·obtain ⟨n,x,own,ks,ts,rfl,_⟩:=h;rfl
 ·refine ⟨_,M.bH (M.fX (M.cu kK (M.pv 0) T.cl bV hr (M.ak (M.pv 1) M.aa))) M.cX,fun ds h => ?_⟩
  obtain ⟨n,x,own,ks,ts,rfl,X,hx,rfl,rfl⟩:=h
  exact c7 rfl X hx fun Q q=>⟨_,rfl,q⟩
def yr (C:Addr) (W:yal):List D→aG→Nat→D→Prop:=fun ds S j d=>∃ n x mk own ks ts,ds=[.loc n,.str x,mk]∧bD C W S n own ks ts∧((x∈nms ks∧j=3∧d = .str x)∨(x ∉ nms ks∧ks.length=40∧j=4∧d = .str "knots"))
theorem Gb (T:Txt K mg ec EP C fi) (F:dH K C "put_knot" "Web.put_knot" d9 xA) (ef:iO P w K mg base 1 "Twice" (ec 3) eL (i0 (ec 3) "name")) (cH:iO P w K mg base 1 "TooMany" (ec 4) cU (i0 (ec 4) "word")):cW P w K mg base 4 C "put_knot" d9 gM EP ec nH (yr C w):=by
 refine kX F Bm (fun ds S j d h => ?_) (fun f cdv A outer s H w0 S0 j d hr => ?_)
 ·obtain ⟨n,x,mk,own,ks,ts,rfl,_⟩:=h;rfl
 ·refine ⟨_,M.bH (M.iJ (M.aA (M.B6 hr) (M.pv 1) (M.bu (M.pv 0) T.cl T.bO) rfl) (M.dj (M.dR kK ef rfl (T.xi 3 (by decide)).toXCls (T.sub 3 (by decide)) (hr.mono (by decide)) (by rfl) (M.pv 1))) M.aJ.w)
   (M.bH (M.iJ (M.aA M.B7 (M.eE M.fK (by rfl) T.len (by decide +kernel) (M.ak (M.bu (M.pv 0) T.cl T.bO) M.aa)) T.iS (aQ _)) (M.dj (M.dR kK cH rfl (T.xi 4 (by decide)).toXCls (T.sub 4 (by decide)) (hr.mono (by decide)) (by rfl) M.ao)) M.aJ.w) M.cX),fun ds h => ?_⟩
  obtain ⟨n,x,mk,own,ks,ts,rfl,⟨m,t,e,cs,rfl,rfl,X⟩,hc⟩:=h
  have e0:aM rq [.loc n,.str x,mk]=[some (.loc n),some (.str x),some mk]:=rfl
  rw [e0]
  rw [dN] at hc
  push_cast [true_and]
  refine gp X rfl (FN X ⟨_,rfl,?_⟩)
  rcases hc with ⟨hx,rfl,rfl⟩ | ⟨hx,hl,rfl,rfl⟩
  ·rw [Cr hx,yIp (by decide)]
   exact ⟨_,rfl,rfl,rfl,rfl⟩
  ·rw [x6 hx,yIn (by decide)]
   rw [zbN] at hl
   refine gp X rfl ⟨cs.length,?_,?_⟩
   ·rw [cY,bx X.uE]
    show some (kk cs).length=_
    unfold kk
    rw [zbN]
   rw [yDt (by lia),yIp rfl]
   exact ⟨rfl,rfl,rfl⟩
def yq (C:Addr) (W:yal):List D→aG→Nat→D→Prop:=fun ds S j d=>∃ n x y own ks ts,ds=[.loc n,.str x,.str y]∧bD C W S n own ks ts∧((x ∉ nms ks∧j=0∧d = .str x)∨∃ k∈ks,k.1=x∧((y∈k.2∧j=3∧d = .str y)∨(y ∉ k.2∧k.2.length=5∧j=4∧d = .str "marks")))
theorem Ga (T:Txt K mg ec EP C fi) (F:dH K C "put_mark" "Web.put_mark" jX Bu) (bV:kZ P w K mg base C EP ec) (ef:iO P w K mg base 1 "Twice" (ec 3) eL (i0 (ec 3) "name")) (cH:iO P w K mg base 1 "TooMany" (ec 4) cU (i0 (ec 4) "word")):cW P w K mg base 4 C "put_mark" jX gM EP ec nH (yq C w):=by
 refine kX F IC (fun ds S j d h => ?_) (fun f cdv A outer s H w0 S0 j d hr => ?_)
 ·obtain ⟨n,x,y,own,ks,ts,rfl,_⟩:=h;rfl
 ·refine ⟨_,M.bH (M.fX (M.cu kK (M.pv 0) T.cl bV hr (M.ak (M.pv 1) M.aa)))
   (M.bH (M.iJ (M.aA (M.B6 hr) (M.pv 2) (M.c5 (e8 hr) (M.bu (M.pv 0) T.cl T.bO) (M.pv 1) (fun _ _=>rfl)) rfl) (M.dj (M.dR kK ef rfl (T.xi 3 (by decide)).toXCls (T.sub 3 (by decide)) (hr.mono (by decide)) (by rfl) (M.pv 2))) M.aJ.w)
   (M.bH (M.iJ (M.aA M.B7 (M.eE M.fK (by rfl) T.len (by decide +kernel) (M.ak (M.c5 (e8 hr) (M.bu (M.pv 0) T.cl T.bO) (M.pv 1) (fun _ _=>rfl)) M.aa)) T.oG (aQ _)) (M.dj (M.dR kK cH rfl (T.xi 4 (by decide)).toXCls (T.sub 4 (by decide)) (hr.mono (by decide)) (by rfl) M.ao)) M.aJ.w) M.cX)),fun ds h => ?_⟩
  obtain ⟨n,x,y,own,ks,ts,rfl,X',hc⟩:=h
  have e0:aM yI [.loc n,.str x,.str y]=[some (.loc n),some (.str x),some (.str y)]:=rfl
  rw [e0]
  rcases hc with ⟨hx,rfl,rfl⟩ | ⟨k,hk,rfl,hc⟩
  ·exact c7 rfl X' hx fun Q q=>⟨_,rfl,q⟩
  ·refine eY rfl X' (zcq.mpr ⟨k,hk,rfl⟩) (fun Q q=>⟨_,rfl,q⟩) ?_
   obtain ⟨m,t,e,cs,rfl,rfl,X⟩:=id X'
   obtain ⟨c,hc1,rfl⟩:=zcq.mp hk
   obtain ⟨c2,hc2,hn2,_,g2⟩:=X.jI (x:=c.nm) (zcq.mpr ⟨c,hc1,rfl⟩)
   obtain rfl:=gh X.kn c2 hc2 c hc1 hn2
   push_cast [true_and]
   refine c8 (gp X rfl ⟨_,rfl,_,_,_,_,bx X.uE,rfl,g2,Hz (X.zA _ hc1) ⟨_,rfl,?_⟩⟩)
   rcases hc with ⟨hy,rfl,rfl⟩ | ⟨hy,hl,rfl,rfl⟩
   ·rw [Cr (l:=c2.ml) hy,yIp (by decide)]
    exact ⟨_,rfl,rfl,rfl,rfl⟩
   ·rw [x6 (l:=c2.ml) hy,yIn (by decide)]
    refine c8 (gp X rfl ⟨_,rfl,_,_,_,_,bx X.uE,rfl,g2,5,?_,?_⟩)
    ·rw [cY,bx (X.zA _ hc1)]
     show some (zcC _)=_
     rw [zbN];exact congrArg some hl
    rw [yDt (by lia),yIp rfl]
    exact ⟨rfl,rfl,rfl⟩
def tV (C:Addr) (W:yal):List D→aG→Nat→D→Prop:=fun ds S j d=>∃ n x y own ks ts,ds=[.loc n,.str x,.str y]∧bD C W S n own ks ts∧((x ∉ nms ks∧j=0∧d = .str x)∨∃ k∈ks,k.1=x∧y ∉ k.2∧j=1∧d = .str y)
theorem CU (T:Txt K mg ec EP C fi) (F:dH K C "take_mark" "Web.take_mark" gZ u5) (bV:kZ P w K mg base C EP ec) (oi:iO P w K mg base 1 "NoMark" (ec 1) fQ (i0 (ec 1) "name")):cW P w K mg base 4 C "take_mark" gZ gM EP ec nH (tV C w):=by
 refine kX F EI (fun ds S j d h => ?_) (fun f cdv A outer s H w0 S0 j d hr => ?_)
 ·obtain ⟨n,x,y,own,ks,ts,rfl,_⟩:=h;rfl
 ·refine ⟨_,M.bH (M.fX (M.cu kK (M.pv 0) T.cl bV hr (M.ak (M.pv 1) M.aa)))
   (M.bH (M.iJ (M.aA (M.m7 hr) (M.pv 2) (M.c5 (e8 hr) (M.bu (M.pv 0) T.cl T.bO) (M.pv 1) (fun _ _=>rfl)) rfl) (M.dj (M.dR kK oi rfl (T.xi 1 (by decide)).toXCls (T.sub 1 (by decide)) (hr.mono (by decide)) (by rfl) (M.pv 2))) M.cX) M.cX),fun ds h => ?_⟩
  obtain ⟨n,x,y,own,ks,ts,rfl,X',hc⟩:=h
  have e0:aM ug [.loc n,.str x,.str y]=[some (.loc n),some (.str x),some (.str y)]:=rfl
  rw [e0]
  rcases hc with ⟨hx,rfl,rfl⟩ | ⟨k,hk,rfl,hy,rfl,rfl⟩
  ·exact c7 rfl X' hx fun Q q=>⟨_,rfl,q⟩
  ·refine eY rfl X' (zcq.mpr ⟨k,hk,rfl⟩) (fun Q q=>⟨_,rfl,q⟩) ?_
   obtain ⟨m,t,e,cs,rfl,rfl,X⟩:=id X'
   obtain ⟨c,hc1,rfl⟩:=zcq.mp hk
   obtain ⟨c2,hc2,hn2,_,g2⟩:=X.jI (x:=c.nm) (zcq.mpr ⟨c,hc1,rfl⟩)
   obtain rfl:=gh X.kn c2 hc2 c hc1 hn2
   push_cast [true_and]
   refine c8 (gp X rfl ⟨_,rfl,_,_,_,_,bx X.uE,rfl,g2,Hz (X.zA _ hc1) ⟨_,rfl,?_⟩⟩)
   rw [x6 (l:=c2.ml) hy,yIp rfl]
   exact ⟨_,rfl,rfl,rfl,rfl⟩
def qV (C:Addr) (W:yal) (B:Ti→List Ti→Nat→D→Prop):List D→aG→Nat→D→Prop:=fun ds S j d=>∃ n x own ks ts,ds=[.loc n,.str x.1,.str x.2.1,.str x.2.2]∧bD C W S n own ks ts∧((x.1 ∉ nms ks∧j=0∧d = .str x.1)∨(x.1∈nms ks∧x.2.2 ∉ nms ks∧j=0∧d = .str x.2.2)∨(x.1∈nms ks∧x.2.2∈nms ks∧gq x=true∧B x ts j d))
def yw:Ti→List Ti→Nat→D→Prop:=fun x ts j d=>(x∈ts∧j=3∧d = .str x.2.1)∨(x ∉ ts∧ts.length=300∧j=4∧d = .str "ties")
def qW:Ti→List Ti→Nat→D→Prop:=fun x ts j d=>x ∉ ts∧j=5∧d=T3 x
theorem F9 (T:Txt K mg ec EP C fi) (F:dH K C "put_tie" "Web.put_tie" fj xy) (bV:kZ P w K mg base C EP ec) (D_has_tie:cj P w K mg base 1 C "has_tie" ji (w6 C w)) (ef:iO P w K mg base 1 "Twice" (ec 3) eL (i0 (ec 3) "name")) (cH:iO P w K mg base 1 "TooMany" (ec 4) cU (i0 (ec 4) "word")):cW P w K mg base 4 C "put_tie" fj gM EP ec nH (qV C w yw):=by
 refine kX F Bl (fun ds S j d h => ?_) (fun f cdv A outer s H w0 S0 j d hr => ?_)
 ·obtain ⟨n,x,own,ks,ts,rfl,_⟩:=h;rfl
 ·refine ⟨_,M.bH (M.fX (M.cu kK (M.pv 0) T.cl bV hr (M.ak (M.pv 1) M.aa))) (M.bH (M.fX (M.cu kK (M.pv 0) T.cl bV hr (M.ak (M.pv 3) M.aa)))
   (M.bH (M.iJ (M.i8 (M.bh (M.pv 0) T.cl D_has_tie (hr.mono (by decide)) (M.ak (M.pv 1) (M.ak (M.pv 2) (M.ak (M.pv 3) M.aa))))) (M.dj (M.dR kK ef rfl (T.xi 3 (by decide)).toXCls (T.sub 3 (by decide)) (hr.mono (by decide)) (by rfl) (M.pv 2))) M.aJ.w)
   (M.bH (M.iJ (M.aA M.B7 (M.eE M.B5 (by rfl) T.len (by decide +kernel) (M.ak (M.bu (M.pv 0) T.cl T.n_tied) M.aa)) T.jF (aQ _)) (M.dj (M.dR kK cH rfl (T.xi 4 (by decide)).toXCls (T.sub 4 (by decide)) (hr.mono (by decide)) (by rfl) M.ao)) M.aJ.w) M.cX))),fun ds h => ?_⟩
  obtain ⟨n,x,own,ks,ts,rfl,X',hc⟩:=h
  have e0:aM rm [.loc n,.str x.1,.str x.2.1,.str x.2.2]=[some (.loc n),some (.str x.1),some (.str x.2.1),some (.str x.2.2)]:=rfl
  rw [e0]
  rcases hc with ⟨hx,rfl,rfl⟩ | ⟨h1,hx,rfl,rfl⟩ | ⟨h1,h2,ox,hc⟩
  ·exact c7 rfl X' hx fun Q q=>⟨_,rfl,q⟩
  ·exact eY rfl X' h1 (fun Q q=>⟨_,rfl,q⟩) (c7 rfl X' hx fun Q q=>⟨_,rfl,q⟩)
  ·refine eY rfl X' h1 (fun Q q=>⟨_,rfl,q⟩) (eY rfl X' h2 (fun Q q=>⟨_,rfl,q⟩) ?_)
   obtain ⟨m,t,e,cs,rfl,rfl,X⟩:=id X'
   push_cast [true_and]
   refine br rfl X.at_ (by decide +kernel) ⟨_,rfl,_,rfl,_,rfl,n,x,_,_,ts,rfl,X',ox,?_⟩
   rcases hc with ⟨hx,rfl,rfl⟩ | ⟨hx,hl,rfl,rfl⟩
   ·refine ⟨true,by rw [yDt hx];rfl,?_⟩
    rw [yIp rfl]
    exact ⟨_,rfl,rfl,rfl,rfl⟩
   ·refine ⟨false,by rw [yDf hx];rfl,?_⟩
    rw [yIn (by decide)]
    refine pI X rfl ⟨t,ts.map T3,rfl,X.ti,by rw [zbN];lia,?_⟩
    refine ⟨_,_,rfl,rfl,trivial,_,rfl,?_⟩
    rw [zbN,yDt (by lia),yIp rfl]
    exact ⟨rfl,rfl,rfl⟩
theorem CT (T:Txt K mg ec EP C fi) (F:dH K C "take_tie" "Web.take_tie" gY uZ) (bV:kZ P w K mg base C EP ec) (D_has_tie:cj P w K mg base 1 C "has_tie" ji (w6 C w)) (rJ:iO P w K mg base 1 "NoTie" (ec 5) g7 (i0 (ec 5) "tie")):cW P w K mg base 4 C "take_tie" gY gM EP ec nH (qV C w qW):=by
 refine kX F EH (fun ds S j d h => ?_) (fun f cdv A outer s H w0 S0 j d hr => ?_)
 ·obtain ⟨n,x,own,ks,ts,rfl,_⟩:=h;rfl
 ·refine ⟨_,M.bH (M.fX (M.cu kK (M.pv 0) T.cl bV hr (M.ak (M.pv 1) M.aa))) (M.bH (M.fX (M.cu kK (M.pv 0) T.cl bV hr (M.ak (M.pv 3) M.aa)))
   (M.bH (M.iJ (M.ko (M.i8 (M.bh (M.pv 0) T.cl D_has_tie (hr.mono (by decide)) (M.ak (M.pv 1) (M.ak (M.pv 2) (M.ak (M.pv 3) M.aa)))))) (M.dj (M.dR kK rJ rfl (T.xi 5 (by decide)).toXCls (T.sub 5 (by decide)) (hr.mono (by decide)) (by rfl) (M.aD (M.ak (M.pv 1) (M.ak (M.pv 2) (M.ak (M.pv 3) M.aa)))))) M.cX) M.cX)),fun ds h => ?_⟩
  obtain ⟨n,x,own,ks,ts,rfl,X',hc⟩:=h
  have e0:aM uf [.loc n,.str x.1,.str x.2.1,.str x.2.2]=[some (.loc n),some (.str x.1),some (.str x.2.1),some (.str x.2.2)]:=rfl
  rw [e0]
  rcases hc with ⟨hx,rfl,rfl⟩ | ⟨h1,hx,rfl,rfl⟩ | ⟨h1,h2,ox,hx,rfl,rfl⟩
  ·exact c7 rfl X' hx fun Q q=>⟨_,rfl,q⟩
  ·exact eY rfl X' h1 (fun Q q=>⟨_,rfl,q⟩) (c7 rfl X' hx fun Q q=>⟨_,rfl,q⟩)
  ·refine eY rfl X' h1 (fun Q q=>⟨_,rfl,q⟩) (eY rfl X' h2 (fun Q q=>⟨_,rfl,q⟩) ?_)
   obtain ⟨m,t,e,cs,rfl,rfl,X⟩:=id X'
   push_cast [true_and]
   refine br rfl X.at_ (by decide +kernel) ⟨_,rfl,_,rfl,_,rfl,n,x,_,_,ts,rfl,X',ox,?_⟩
   refine ⟨false,by rw [yDf hx];rfl,?_⟩
   rw [yIp (by decide)]
   exact ⟨_,rfl,_,rfl,_,rfl,ySz 3,rfl,rfl,rfl⟩
end
open PySem PySem.Spec L2 M M6 PyProof.Rows
noncomputable abbrev Jd:Stmt:=top 27
noncomputable abbrev KW:List Str:=["_law_e","_law_some","_law_words"]
noncomputable abbrev nY:List Str:=["_law_e"]
theorem mj:aE KW nY (ai Jd):=L2.cE
noncomputable abbrev BA:Stmt:=top 31
noncomputable abbrev yM:List Str:=["_law_web_here","_law_deed"]
noncomputable abbrev j7:List Str:=["_law_web_here","_law_deed"]
theorem IJ:aE yM j7 (ai BA):=L2.cE
noncomputable abbrev qu:Stmt:=top 32
noncomputable abbrev An:List Str:=["_law_web_here","_law_deed","_law_caught_here","_law_e"]
noncomputable abbrev fS:List Str:=["_law_web_here","_law_deed"]
theorem eg:aE An fS (ai qu):=L2.cE
noncomputable def Kq (i:Nat):List Bool:=[i==0,i==1,i==2,i==3,i==4,i==5,i==6,i==7,i==8,i==9,i==10,i==11,i==12,i==13]
theorem Dj:∀ i,i<6→(Kq i).count true=1:=by decide
theorem Mx:∀ i,i<6→(Kq i)[i]? = some true:=by decide
theorem Mw:∀ i,i<6→∀ m,m<i→(Kq i)[m]? ≠ some true:=by decide
noncomputable def wl:List Str:=["knot","mark","name","twice","toomany","tie","meet","text","line","way","toolong","round","such","pair"]
noncomputable def wd:Nat→Str
 | 0 => "knot"
 | 1 => "mark"
 | 2 => "name"
 | 3 => "twice"
 | 4 => "toomany"
 | _ => "tie"
theorem HZ:∀ i,i<6→(wl.map V.str)[i]? = some (V.str (wd i))
 | 0,_=>rfl
 | 1,_=>rfl
 | 2,_=>rfl
 | 3,_=>rfl
 | 4,_=>rfl
 | 5,_=>rfl
section
variable {P:yak}{w:yal}{K:yaM}{mg:Str→Option yaj}{base:Heap}{ec:Nat→Addr}{EP C fi:Addr}
def G8 (ec:Nat→Addr):Sp:=fun vs H Q _=>∃ (x:Addr) (fs:List (Str×V)) (i:Nat),vs=[.ref x]∧i<6∧XAt (ec i) H x fs∧∀ H',cT H H'→Q (.str (wd i)) H'
theorem Mp (T:Txt K mg ec EP C fi) (F:Src K mg "_law_own" nY Jd):GU P w K mg base 1 "_law_own" nY (G8 ec):=by
 refine F.OI mj (fun vs H Q E h => ?_) (fun f cdv A outer s H vs Q E h => ?_)
 ·obtain ⟨x,fs,i,rfl,_⟩:=h;rfl
 ·obtain ⟨x,fs,i,rfl,hi,⟨dx,hx,hd,hne⟩,q⟩:=h
  refine ⟨_,(J.ah (J.aH (i:=1) mj.nd rfl (Or.inl rfl) (J.bI (J.ak (J.eE cS (by rfl) T.isinstance (by decide +kernel) (J.ak (J.pv 0) (J.ak (gx T.g_NoKnot) J.aa))) (J.ak (J.eE cS (by rfl) T.isinstance (by decide +kernel) (J.ak (J.pv 0) (J.ak (gx T.g_NoMark) J.aa))) (J.ak (J.eE cS (by rfl) T.isinstance (by decide +kernel) (J.ak (J.pv 0) (J.ak (gx T.g_NoName) J.aa))) J.aa)))))
   (J.ah (J.aH (i:=1) mj.nd rfl (Or.inl rfl) (J.aL kq (J.pv 1) (J.bI (J.ak (J.eE cS (by rfl) T.isinstance (by decide +kernel) (J.ak (J.pv 0) (J.ak (gx T.g_Twice) J.aa))) (J.ak (J.eE cS (by rfl) T.isinstance (by decide +kernel) (J.ak (J.pv 0) (J.ak (gx T.g_TooMany) J.aa))) (J.ak (J.eE cS (by rfl) T.isinstance (by decide +kernel) (J.ak (J.pv 0) (J.ak (gx T.g_NoTie) J.aa))) J.aa))))))
   (J.ah (J.aH (i:=1) mj.nd rfl (Or.inl rfl) (J.aL kq (J.pv 1) (J.bI (J.ak (J.eE cS (by rfl) T.isinstance (by decide +kernel) (J.ak (J.pv 0) (J.ak (gx T.g_NoMeet) J.aa))) (J.ak (J.eE cS (by rfl) T.isinstance (by decide +kernel) (J.ak (J.pv 0) (J.ak (gx T.g_NoText) J.aa))) (J.ak (J.eE cS (by rfl) T.isinstance (by decide +kernel) (J.ak (J.pv 0) (J.ak (gx T.g_NoLine) J.aa))) J.aa))))))
   (J.ah (J.aH (i:=1) mj.nd rfl (Or.inl rfl) (J.aL kq (J.pv 1) (J.bI (J.ak (J.eE cS (by rfl) T.isinstance (by decide +kernel) (J.ak (J.pv 0) (J.ak (gx T.g_NoWay) J.aa))) (J.ak (J.eE cS (by rfl) T.isinstance (by decide +kernel) (J.ak (J.pv 0) (J.ak (gx T.g_TooLong) J.aa))) (J.ak (J.eE cS (by rfl) T.isinstance (by decide +kernel) (J.ak (J.pv 0) (J.ak (gx T.g_GoesRound) J.aa))) J.aa))))))
   (J.ah (J.aH (i:=1) mj.nd rfl (Or.inl rfl) (J.aL kq (J.pv 1) (J.bI (J.ak (J.eE cS (by rfl) T.isinstance (by decide +kernel) (J.ak (J.pv 0) (J.ak (gx T.g_NoSuch) J.aa))) (J.ak (J.eE cS (by rfl) T.isinstance (by decide +kernel) (J.ak (J.pv 0) (J.ak (gx T.g_NoPair) J.aa))) J.aa)))))
   (J.ah (J.bC (J.pw_pt (J.pw_or (J.ko (J.i8 (J.eE cS (by rfl) T.isinstance (by decide +kernel) (J.ak (J.pv 0) (J.ak (J.BV "ValueError" (by rfl) T.ValueError (by decide +kernel)) J.aa))))) (J.pw_or1 (J.aA Hq (J.mV PySem.F.plainAttrs_list PySem.F.slot_list_count PySem.F.type_list_count zu (J.pv 1) (J.ak J.gk J.aa)) J.aj (aQ _)))))
    (J.aq (J.aS J.ao))
    J.aJ)
   (J.ah (J.aH (i:=2) mj.nd rfl (Or.inl rfl) (J.bI (J.ak J.ao (J.ak J.ao (J.ak J.ao (J.ak J.ao (J.ak J.ao (J.ak J.ao (J.ak J.ao (J.ak J.ao (J.ak J.ao (J.ak J.ao (J.ak J.ao (J.ak J.ao J.aa))))))))))))))
   (J.aq (J.aS (J.aF Oo (J.aL kq (J.pv 2) (J.bI (J.ak J.ao (J.ak J.ao J.aa)))) (J.mV PySem.F.plainAttrs_list PySem.F.slot_list_index PySem.F.type_list_index zq (J.pv 1) (J.ak J.gk J.aa)) (fun _ _=>rfl))))))))))),?_⟩
  have isi:∀ {σ:L2.St}{H':Hp}{Q':VK},cT H H'→∀ j,j<14→Q' (.bl (i==j)) H'→l0 (tC (.ref (ec j))) uN σ H' fun xs H2=>Hi K (.ref x::xs) H2 Q':=fun {σ H' Q'} s j hj q'=>⟨x,ec i,some dx,_,_,_,rfl,s _ _ hx,.inr ⟨dx,fs,rfl,s _ _ hd⟩,T.xi i hi,BJ.1,BJ.2,T.kit i j hi hj,q'⟩
  refine oF fun N hN => ?_
  refine ⟨_,rfl,isi (cT.refl _) 0 (by decide) ⟨_,rfl,isi (cT.refl _) 1 (by decide) ⟨_,rfl,isi (cT.refl _) 2 (by decide) ⟨(ySz 3),fun a1 n1 => ?_⟩⟩⟩⟩
  have s1:=alloc (o:=.lst [.bl (i==0),.bl (i==1),.bl (i==2)]) n1
  refine hN _ _ ?_
  refine oF fun N hN => ?_
  refine ⟨_,rfl,_,rfl,isi s1 3 (by decide) ⟨_,rfl,isi s1 4 (by decide) ⟨_,rfl,isi s1 5 (by decide) ⟨(ySz 3),fun a2 n2 => ?_⟩⟩⟩⟩
  have t1:=s1.trans (alloc (o:=.lst [.bl (i==3),.bl (i==4),.bl (i==5)]) n2)
  refine ⟨a1,a2,_,_,rfl,rfl,alloc n2 _ _ au,au,(ySz 6),fun a3 n3 => ?_⟩
  have s2:=t1.trans (alloc (o:=.lst ([.bl (i==0),.bl (i==1),.bl (i==2)]++[.bl (i==3),.bl (i==4),.bl (i==5)])) n3)
  refine hN _ _ ?_
  refine oF fun N hN => ?_
  refine ⟨_,rfl,_,rfl,isi s2 6 (by decide) ⟨_,rfl,isi s2 7 (by decide) ⟨_,rfl,isi s2 8 (by decide) ⟨(ySz 3),fun a4 n4 => ?_⟩⟩⟩⟩
  have t2:=s2.trans (alloc (o:=.lst [.bl (i==6),.bl (i==7),.bl (i==8)]) n4)
  refine ⟨a3,a4,_,_,rfl,rfl,alloc n4 _ _ au,au,(ySz 9),fun a5 n5 => ?_⟩
  have s3:=t2.trans (alloc (o:=.lst ([.bl (i==0),.bl (i==1),.bl (i==2)]++[.bl (i==3),.bl (i==4),.bl (i==5)]++[.bl (i==6),.bl (i==7),.bl (i==8)])) n5)
  refine hN _ _ ?_
  refine oF fun N hN => ?_
  refine ⟨_,rfl,_,rfl,isi s3 9 (by decide) ⟨_,rfl,isi s3 10 (by decide) ⟨_,rfl,isi s3 11 (by decide) ⟨(ySz 3),fun a6 n6 => ?_⟩⟩⟩⟩
  have t3:=s3.trans (alloc (o:=.lst [.bl (i==9),.bl (i==10),.bl (i==11)]) n6)
  refine ⟨a5,a6,_,_,rfl,rfl,alloc n6 _ _ au,au,(ySz 12),fun a7 n7 => ?_⟩
  have s4:=t3.trans (alloc (o:=.lst ([.bl (i==0),.bl (i==1),.bl (i==2)]++[.bl (i==3),.bl (i==4),.bl (i==5)]++[.bl (i==6),.bl (i==7),.bl (i==8)]++[.bl (i==9),.bl (i==10),.bl (i==11)])) n7)
  refine hN _ _ ?_
  refine oF fun N hN => ?_
  refine ⟨_,rfl,_,rfl,isi s4 12 (by decide) ⟨_,rfl,isi s4 13 (by decide) ⟨(ySz 2),fun a8 n8 => ?_⟩⟩⟩
  have t4:=s4.trans (alloc (o:=.lst [.bl (i==12),.bl (i==13)]) n8)
  refine ⟨a7,a8,_,_,rfl,rfl,alloc n8 _ _ au,au,(ySz 14),fun a9 n9 => ?_⟩
  have s5:=t4.trans (alloc (o:=.lst ([.bl (i==0),.bl (i==1),.bl (i==2)]++[.bl (i==3),.bl (i==4),.bl (i==5)]++[.bl (i==6),.bl (i==7),.bl (i==8)]++[.bl (i==9),.bl (i==10),.bl (i==11)]++[.bl (i==12),.bl (i==13)])) n9)
  refine hN _ _ ?_
  refine oF fun N hN => ?_
  refine ⟨_,rfl,x,ec i,some dx,_,_,_,rfl,s5 _ _ hx,.inr ⟨dx,fs,rfl,s5 _ _ hd⟩,T.xi i hi,Hg.1,Hg.2,T.kitV i hi,_,rfl,ny ?_⟩
  refine ⟨_,rfl,.inl ⟨rfl,_,dm.of au⟩,a9,Kq i,true,rfl,rfl,dm.of (xs:=(Kq i).map V.bl) au,rfl,_,rfl,?_⟩
  refine Ma (by rw [Dj i hi];rfl) ?_
  refine hN _ _ ?_
  refine oF fun N hN => ?_
  refine ⟨(ySz 12),fun c1 m1 => ?_⟩
  refine hN _ _ ?_
  refine ⟨_,rfl,(ySz 2),fun c2 m2 => ?_⟩
  refine ⟨c1,c2,_,_,rfl,rfl,alloc m2 _ _ au,au,(ySz 14),fun c3 m3 => ?_⟩
  refine ⟨_,rfl,.inl ⟨rfl,_,dm.of (alloc m3 _ _ (alloc m2 _ _ (alloc m1 _ _ au)))⟩,a9,Kq i,true,i,rfl,rfl,dm.of (xs:=(Kq i).map V.bl) (alloc m3 _ _ (alloc m2 _ _ (alloc m1 _ _ au))),Mx i hi,Mw i hi,?_⟩
  exact ⟨c3,wl.map V.str,_,V.str (wd i),rfl,rfl,dm.of (xs:=wl.map V.str) au,cG (HZ i hi),q _ (s5.trans ((alloc m1).trans ((alloc m2).trans (alloc m3))))⟩
def uA (ks:List Kn) (ts:List Ti) (dd:D) (j:Nat) (d:D):Prop :=
 (∃ (x:Str) (ms:List Str),dd = .tup [.str "put_knot",.str x,.lst (ms.map D.str)]∧ms.length≤1000∧((x∈nms ks∧j=3∧d = .str x)∨(x ∉ nms ks∧ks.length=40∧j=4∧d = .str "knots"))) ∨
 (∃ m x r,dd = .tup (.str m :: .str x::r)∧(m = "take_knot" ∨ m = "marks" ∨ m = "steps")∧x ∉ nms ks∧j=0∧d = .str x) ∨
 (∃ x y,dd = .tup [.str "put_mark",.str x,.str y]∧((x ∉ nms ks∧j=0∧d = .str x)∨∃ k∈ks,k.1=x∧((y∈k.2∧j=3∧d = .str y)∨(y ∉ k.2∧k.2.length=5∧j=4∧d = .str "marks")))) ∨
 (∃ x y,dd = .tup [.str "take_mark",.str x,.str y]∧((x ∉ nms ks∧j=0∧d = .str x)∨∃ k∈ks,k.1=x∧y ∉ k.2∧j=1∧d = .str y)) ∨
 (∃ (m:Str) (x:Ti) (B:Ti→List Ti→Nat→D→Prop),dd = .tup [.str m,.str x.1,.str x.2.1,.str x.2.2]∧((m = "put_tie" ∧ B=yw)∨(m = "take_tie" ∧ B=qW))∧((x.1 ∉ nms ks∧j=0∧d = .str x.1)∨(x.1∈nms ks∧x.2.2 ∉ nms ks∧j=0∧d = .str x.2.2)∨(x.1∈nms ks∧x.2.2∈nms ks∧gq x=true∧B x ts j d)))
def yu (C:Addr) (W:yal):List D→aG→Nat→D→Prop:=fun ds S j d=>∃ n dd own ks ts,ds=[.loc n,dd]∧bD C W S n own ks ts∧uA ks ts dd j d
section
variable {m y:Str}{r:List D}{a b:AS}{D0:fT}{δ:bE}{S:aG}
theorem bQ (hδ:δ[1]? = some (some (.tup (.str m::r)))) (h:m≠y) (q:b D0 δ S):z9 (aB (Dz Aa (Dz oq (eT 1) (aC (.int 0))) (aC (.str y)))) a b D0 δ S:=by
 have e:∀ Q:AK,Q (.dat (.bl false)) S→Aa (.str m) (.str y) S Q:=fun Q h'=>by
  have:Aa (.str m) (.str y) S Q=Q (.dat (.bl (decide (m=y)))) S:=rfl
  rw [this,yDf h];exact h'
 refine ⟨_,hδ,.str m,(show jT (D.str m::r) ((0:Nat):Int)=some (.str m) from cG rfl),?_⟩
 dsimp only [aC,cY]
 refine e _ ⟨false,rfl,?_⟩
 exact q
theorem jd (hδ:δ[1]? = some (some (.tup (.str y::r)))) (q:a D0 δ S):z9 (aB (Dz Aa (Dz oq (eT 1) (aC (.int 0))) (aC (.str y)))) a b D0 δ S:=by
 have e:∀ Q:AK,Q (.dat (.bl true)) S→Aa (.str y) (.str y) S Q:=fun Q h'=>by
  have:Aa (.str y) (.str y) S Q=Q (.dat (.bl (decide (y=y)))) S:=rfl
  rw [this,yDt rfl];exact h'
 refine ⟨_,hδ,.str y,(show jT (D.str y::r) ((0:Nat):Int)=some (.str y) from cG rfl),?_⟩
 dsimp only [aC,cY]
 refine e _ ⟨true,rfl,?_⟩
 exact q
theorem OP {d e:D}:jT (d::e::r) 1=some e:=(show jT (d::e::r) ((1:Nat):Int)=some e from cG rfl)
end
theorem Km (T:Txt K mg ec EP C fi) (F:Src K mg "_law_done" j7 BA) (D_put_knot:cW P w K mg base 4 C "put_knot" d9 gM EP ec nH (yr C w)) (D_take_knot:cW P w K mg base 4 C "take_knot" dJ gM EP ec nH (d8 C w)) (fq:cW P w K mg base 4 C "marks" di gM EP ec nH (d8 C w)) (fm:cW P w K mg base 4 C "steps" dc gM EP ec nH (d8 C w))
  (D_put_mark:cW P w K mg base 4 C "put_mark" jX gM EP ec nH (yq C w)) (D_take_mark:cW P w K mg base 4 C "take_mark" gZ gM EP ec nH (tV C w)) (D_put_tie:cW P w K mg base 4 C "put_tie" fj gM EP ec nH (qV C w yw)) (D_take_tie:cW P w K mg base 4 C "take_tie" gY gM EP ec nH (qV C w qW)):GR P w K mg base 5 "_law_done" j7 (Dp K EP ec nH (yu C w)):=by
 refine OH F IJ (fun ds S j d h => ?_) (fun f cdv A outer s H w0 S0 j d hr => ?_)
 ·obtain ⟨n,dd,own,ks,ts,rfl,_⟩:=h;rfl
 ·refine ⟨_,(M.bH (M.iJ (M.aA (M.dW hr) (M.aF M.aT (M.pv 1) M.aj (fun _ _=>rfl)) M.ao (aQ _))
    (M.dj (M.kL (M.cu kK (M.pv 0) T.cl D_put_knot hr (M.ak (M.aF M.aT (M.pv 1) M.aj (fun _ _=>rfl)) (M.ak (M.Fc M.m8 (by rfl) T.list (by decide +kernel) (M.ak (M.aF M.aT (M.pv 1) M.aj (fun _ _=>rfl)) M.aa)) M.aa)))))
    M.aJ.w)
   (M.bH (M.iJ (M.aA (M.dW hr) (M.aF M.aT (M.pv 1) M.aj (fun _ _=>rfl)) M.ao (aQ _))
    (M.dj (M.kL (M.cu kK (M.pv 0) T.cl D_take_knot hr (M.ak (M.aF M.aT (M.pv 1) M.aj (fun _ _=>rfl)) M.aa))))
    M.aJ.w)
   (M.bH (M.iJ (M.aA (M.dW hr) (M.aF M.aT (M.pv 1) M.aj (fun _ _=>rfl)) M.ao (aQ _))
    (M.dj (M.kL (M.cu kK (M.pv 0) T.cl D_put_tie hr (M.ak (M.aF M.aT (M.pv 1) M.aj (fun _ _=>rfl)) (M.ak (M.aF M.aT (M.pv 1) M.aj (fun _ _=>rfl)) (M.ak (M.aF M.aT (M.pv 1) M.aj (fun _ _=>rfl)) M.aa))))))
    M.aJ.w)
   (M.bH (M.iJ (M.aA (M.dW hr) (M.aF M.aT (M.pv 1) M.aj (fun _ _=>rfl)) M.ao (aQ _))
    (M.dj (M.kL (M.cu kK (M.pv 0) T.cl D_take_tie hr (M.ak (M.aF M.aT (M.pv 1) M.aj (fun _ _=>rfl)) (M.ak (M.aF M.aT (M.pv 1) M.aj (fun _ _=>rfl)) (M.ak (M.aF M.aT (M.pv 1) M.aj (fun _ _=>rfl)) M.aa))))))
    M.aJ.w)
   (M.bH (M.iJ (M.aA (M.dW hr) (M.aF M.aT (M.pv 1) M.aj (fun _ _=>rfl)) M.ao (aQ _))
    (M.dj (M.kL (M.cu kK (M.pv 0) T.cl D_put_mark hr (M.ak (M.aF M.aT (M.pv 1) M.aj (fun _ _=>rfl)) (M.ak (M.aF M.aT (M.pv 1) M.aj (fun _ _=>rfl)) M.aa)))))
    M.aJ.w)
   (M.bH (M.iJ (M.aA (M.dW hr) (M.aF M.aT (M.pv 1) M.aj (fun _ _=>rfl)) M.ao (aQ _))
    (M.dj (M.kL (M.cu kK (M.pv 0) T.cl D_take_mark hr (M.ak (M.aF M.aT (M.pv 1) M.aj (fun _ _=>rfl)) (M.ak (M.aF M.aT (M.pv 1) M.aj (fun _ _=>rfl)) M.aa)))))
    M.aJ.w)
   (M.bH (M.iJ (M.aA (M.dW hr) (M.aF M.aT (M.pv 1) M.aj (fun _ _=>rfl)) M.ao (aQ _))
    (M.dj (M.kL (M.cu kK (M.pv 0) T.cl fq hr (M.ak (M.aF M.aT (M.pv 1) M.aj (fun _ _=>rfl)) M.aa))))
    M.aJ.w)
   (M.dj (M.kL (M.cu kK (M.pv 0) T.cl fm hr (M.ak (M.aF M.aT (M.pv 1) M.aj (fun _ _=>rfl)) M.aa))))))))))),fun ds h => ?_⟩
  obtain ⟨n,dd,own,ks,ts,rfl,X',hc⟩:=h
  obtain ⟨mc,t,e,cs,ro,rk,X⟩:=id X'
  have e0:aM yM [.loc n,dd]=[some (.loc n),some dd]:=rfl
  rw [e0]
  rcases hc with ⟨x,ms,rfl,ml,hc⟩ | ⟨m,x,r,rfl,hm,hx,rfl,rfl⟩ | ⟨x,y,rfl,hc⟩ | ⟨x,y,rfl,hc⟩ | ⟨m,x,B,rfl,hm,hc⟩
  ·refine jd rfl (cM rfl X.at_ (by decide +kernel) ?_)
   exact ⟨_,rfl,.str x,rfl,_,rfl,.lst (ms.map D.str),rfl,_,rfl,.inr ⟨⟨n,x,.lst (ms.map D.str),own,ks,ts,rfl,X',hc⟩,rfl⟩⟩
  ·rcases hm with rfl | rfl | rfl
   ·refine bQ rfl (by decide +kernel) (jd rfl (cM rfl X.at_ (by decide +kernel) ⟨_,rfl,.str x,OP,.inr ⟨⟨n,x,own,ks,ts,rfl,X',hx,rfl,rfl⟩,rfl⟩⟩))
   ·refine bQ rfl (by decide +kernel) (bQ rfl (by decide +kernel) (bQ rfl (by decide +kernel) (bQ rfl (by decide +kernel) (bQ rfl (by decide +kernel) (bQ rfl (by decide +kernel) (jd rfl (cM rfl X.at_ (by decide +kernel) ⟨_,rfl,.str x,OP,.inr ⟨⟨n,x,own,ks,ts,rfl,X',hx,rfl,rfl⟩,rfl⟩⟩)))))))
   ·refine bQ rfl (by decide +kernel) (bQ rfl (by decide +kernel) (bQ rfl (by decide +kernel) (bQ rfl (by decide +kernel) (bQ rfl (by decide +kernel) (bQ rfl (by decide +kernel) (bQ rfl (by decide +kernel) (cM rfl X.at_ (by decide +kernel) ⟨_,rfl,.str x,OP,.inr ⟨⟨n,x,own,ks,ts,rfl,X',hx,rfl,rfl⟩,rfl⟩⟩)))))))
  ·exact bQ rfl (by decide +kernel) (bQ rfl (by decide +kernel) (bQ rfl (by decide +kernel) (bQ rfl (by decide +kernel) (jd rfl (cM rfl X.at_ (by decide +kernel) ⟨_,rfl,.str x,rfl,_,rfl,.str y,rfl,.inr ⟨⟨n,x,y,own,ks,ts,rfl,X',hc⟩,rfl⟩⟩)))))
  ·exact bQ rfl (by decide +kernel) (bQ rfl (by decide +kernel) (bQ rfl (by decide +kernel) (bQ rfl (by decide +kernel) (bQ rfl (by decide +kernel) (jd rfl (cM rfl X.at_ (by decide +kernel) ⟨_,rfl,.str x,rfl,_,rfl,.str y,rfl,.inr ⟨⟨n,x,y,own,ks,ts,rfl,X',hc⟩,rfl⟩⟩))))))
  ·rcases hm with ⟨rfl,rfl⟩ | ⟨rfl,rfl⟩
   ·exact bQ rfl (by decide +kernel) (bQ rfl (by decide +kernel) (jd rfl (cM rfl X.at_ (by decide +kernel) ⟨_,rfl,.str x.1,rfl,_,rfl,.str x.2.1,rfl,_,rfl,.str x.2.2,rfl,.inr ⟨⟨n,x,own,ks,ts,rfl,X',hc⟩,rfl⟩⟩)))
   ·exact bQ rfl (by decide +kernel) (bQ rfl (by decide +kernel) (bQ rfl (by decide +kernel) (jd rfl (cM rfl X.at_ (by decide +kernel) ⟨_,rfl,.str x.1,rfl,_,rfl,.str x.2.1,rfl,_,rfl,.str x.2.2,rfl,.inr ⟨⟨n,x,own,ks,ts,rfl,X',hc⟩,rfl⟩⟩))))
end
open PySem PySem.Spec L2 M M6 PyProof.Rows
theorem uA.num {ks:List Kn}{ts:List Ti}{dd d:D}{j:Nat} (h:uA ks ts dd j d):j<6∧j≠2:=by
 rcases h with ⟨x,ms,_,_,h⟩ | ⟨m,x,r,_,_,_,rfl,_⟩ | ⟨x,y,_,h⟩ | ⟨x,y,_,h⟩ | ⟨m,x,B,_,hm,h⟩
 ·rcases h with ⟨_,rfl,_⟩ | ⟨_,_,rfl,_⟩ <;> decide
 ·decide
 ·rcases h with ⟨_,rfl,_⟩ | ⟨k,_,_,⟨_,rfl,_⟩ | ⟨_,_,rfl,_⟩⟩ <;> decide
 ·rcases h with ⟨_,rfl,_⟩ | ⟨k,_,_,_,rfl,_⟩ <;> decide
 ·rcases h with ⟨_,rfl,_⟩ | ⟨_,_,rfl,_⟩ | ⟨_,_,_,h⟩
  ·decide
  ·decide
  ·rcases hm with ⟨_,rfl⟩ | ⟨_,rfl⟩
   ·rcases h with ⟨_,rfl,_⟩ | ⟨_,_,rfl,_⟩ <;> decide
   ·obtain ⟨_,rfl,_⟩:=h;decide
section
variable {P:yak}{w:yal}{K:yaM}{mg:Str→Option yaj}{base:Heap}{ec:Nat→Addr}{EP C fi:Addr}
def rS (C:Addr) (W:yal):AN:=fun ds S Q=>∃ n dd own ks ts j d,ds=[.loc n,dd]∧bD C W S n own ks ts∧uA ks ts dd j d∧Q (.dat (.tup [.str (wd j),d])) S
theorem C3 (T:Txt K mg ec EP C fi) (F:Src K mg "_law_caught" fS qu) (wF:GR P w K mg base 5 "_law_done" j7 (Dp K EP ec nH (yu C w))) (D_own:GU P w K mg base 1 "_law_own" nY (G8 ec)):Def P w K mg base 6 "_law_caught" fS (bf K (rS C w)):=by
 refine F.def eg (fun vs H Q E h => ?_) (fun f cdv A outer s H vs Q E hr h => ?_)
 ·obtain ⟨w,ds,S,Qa,_,r,⟨n,dd,own,ks,ts,j,d,rfl,_⟩,_⟩:=h;rw [r.length];rfl
 ·obtain ⟨w1,ds,S,Qa,ok,rep,⟨n,dd,own,ks,ts,j,d,rfl,X,hd,q⟩,bk⟩:=h
  refine ⟨_,L2.ah (L2.aH (i:=2) eg.nd rfl (Or.inl rfl) (L2.aD (L2.ak L2.ao (L2.ak L2.ja L2.aa)))) (L2.ah (Jr (i:=3) rfl rfl rfl wF hr (by rfl) (L2.ak (L2.pv 0) (L2.ak (L2.pv 1) L2.aa)) (by rfl) T.at_PathError T.ex_PathError T.sb_PathError eg.nd rfl rfl (fun a =>
   (L2.ah (L2.aH (i:=2) eg.nd rfl (Or.inl rfl) (L2.aD (L2.ak (E8 D_own ((hr.mono (by decide)).h _) (by rfl) (L2.ak (L2.pv 3) L2.aa)) (L2.ak L2.ja L2.aa)))) (L2.aq (L2.bC (L2.aA L2.Fl (L2.aF K8 (L2.pv 2) L2.aj (fun _ _=>rfl)) (L2.aD (L2.ak L2.ao (L2.ak L2.ao (L2.ak L2.ao L2.aa)))) rfl)
    (L2.aq (L2.aH (i:=2) eg.nd rfl (Or.inl rfl) (L2.aD (L2.ak (L2.aF K8 (L2.pv 2) L2.aj (fun _ _=>rfl)) (L2.ak (qz (L2.pv 3)) L2.aa)))))
    (L2.aq (L2.bC (L2.aA B0 (L2.aF K8 (L2.pv 2) L2.aj (fun _ _=>rfl)) L2.ao (aQ _))
     (L2.aq (L2.aH (i:=2) eg.nd rfl (Or.inl rfl) (L2.aD (L2.ak (L2.aF K8 (L2.pv 2) L2.aj (fun _ _=>rfl)) (L2.ak (qz (L2.pv 3)) L2.aa)))))
     (L2.aq (L2.bC (L2.aA B0 (L2.aF K8 (L2.pv 2) L2.aj (fun _ _=>rfl)) L2.ao (aQ _))
      (L2.aq (L2.aH (i:=2) eg.nd rfl (Or.inl rfl) (L2.aD (L2.ak (L2.aF K8 (L2.pv 2) L2.aj (fun _ _=>rfl)) (L2.ak (qz (L2.pv 3)) L2.aa)))))
      L2.aJ))))))))) (L2.aq (L2.aS (L2.pv 2)))),?_⟩
  obtain ⟨v1,v2,rfl,r1,r2⟩:=xJ rep
  refine oF fun N1 hN1 => ?_
  refine ⟨ySz 2,fun p np=>hN1 _ _ ?_⟩
  refine oF fun N2 hN2 => ?_
  refine ⟨v1,rfl,v2,rfl,w1,[.loc n,dd],S,j,d,xP ok (alloc np),.cons r1 (.cons r2 .nil),⟨n,dd,own,ks,ts,rfl,X,hd⟩,fun ev H' ⟨w',H0,a,dx,T',v,le,ok0,rv,na,nd,sm,eva,R⟩=>⟨a,ec j,dx,T',_,eva,R,fun H3 h3 hk => ?_⟩⟩
  obtain ⟨hj,hj2⟩:=hd.num
  have s3:cT H0 H3:=fun b o e=>hk b o (sm b o e) (aK e na)
  have h3d:=hk _ _ R.d R.n2
  refine oF fun N3 hN3 => ?_
  refine ⟨.ref a,rfl,a,_,j,rfl,hj,⟨dx,h3,h3d,R.n2⟩,fun H4 s4 => ?_⟩
  refine ⟨ySz 2,fun p2 np2=>hN3 _ _ ?_⟩
  have s5:cT H3 (upd H4 p2 (.tup [.str (wd j),.bw])):=s4.trans (alloc np2)
  clear hN1 hN3
  have fin:∀ H5,cT (upd H4 p2 (.tup [.str (wd j),.bw])) H5→∀ p3,H5 p3=none→AD (p9 2) { nx:=fun x H'=>Q V.bw H',rt:=Q } [some v1,some v2,some (.ref p3),none] (upd H5 p3 (.tup [.str (wd j),v])):=fun H5 s6 p3 n3=>by
   refine ⟨.ref p3,rfl,?_⟩
   obtain ⟨w3,le3,ok6,rep6⟩:=(xP ok0 (s3.trans (s5.trans s6))).ng (ds:=[.str (wd j),d]) n3 (.cons .str (.cons rv .nil))
   exact bk.dat (le.trans le3) ok6 rep6 q
  have t0:∀ H5,cT (upd H4 p2 (.tup [.str (wd j),.bw])) H5→H5 p2=some (.tup [.str (wd j),.bw]):=fun H5 s6=>s6 _ _ au
  have asg:∀ H5,cT (upd H4 p2 (.tup [.str (wd j),.bw])) H5→yR (Ih (l0 (wM (EZ K) (p9 2) (tC (V.int 0))) (l0 (G1 K (p9 3) (nH j)) uN))) (pH 2) { nx:=fun σ' H'=>(∃ v,σ'[3]? = some (some v))∧N2 (List.set σ' 3 none) H',rt:=fun _ _=>False } [some v1,some v2,some (.ref p2),some (.ref a)] H5:=fun H5 s6 =>
   ⟨_,rfl,p2,_,0,.str (wd j),rfl,rfl,dI.of (t0 H5 s6),rfl,_,rfl,a,ec j,dx,_,v,rfl,s6 _ _ (s5 _ _ h3),s6 _ _ (s5 _ _ h3d),(T.xi j hj).toXCls,T.fld j hj,by simp [zcB],ySz 2,fun p3 n3=>⟨⟨_,rfl⟩,hN2 _ _ (fin H5 s6 p3 n3)⟩⟩
  clear fin hN2
  refine ⟨.ref p2,rfl,p2,_,0,.str (wd j),rfl,rfl,dI.of au,rfl,ySz 3,fun p3 n3=>⟨p3,[.str "knot",.str "mark",.str "twice"],rfl,.inr (dI.of au),rfl,rfl,_,rfl,?_⟩⟩
  have s7:=alloc (o:=.tup [.str "knot",.str "mark",.str "twice"]) n3
  show if Ot (V.str (wd j)) [.str "knot",.str "mark",.str "twice"]=true then _ else _
  obtain rfl | rfl | rfl | rfl | rfl:j=0∨j=1∨j=3∨j=4∨j=5:=by lia
  ·rw [yIp (by decide +kernel)];exact asg _ s7
  ·rw [yIp (by decide +kernel)];exact asg _ s7
  ·rw [yIp (by decide +kernel)];exact asg _ s7
  ·rw [yIn (by decide +kernel)]
   refine ⟨.ref p2,rfl,p2,_,0,.str (wd 4),rfl,rfl,dI.of (t0 _ s7),rfl,rfl,_,rfl,?_⟩
   dsimp only
   rw [yIp (by decide +kernel)];exact asg _ s7
  ·rw [yIn (by decide +kernel)]
   refine ⟨.ref p2,rfl,p2,_,0,.str (wd 5),rfl,rfl,dI.of (t0 _ s7),rfl,rfl,_,rfl,?_⟩
   dsimp only
   rw [yIn (by decide +kernel)]
   refine ⟨.ref p2,rfl,p2,_,0,.str (wd 5),rfl,rfl,dI.of (t0 _ s7),rfl,rfl,_,rfl,?_⟩
   dsimp only
   rw [yIp (by decide +kernel)];exact asg _ s7
end
open PySem PySem.Spec L2 M M6 PyProof.Rows
noncomputable abbrev vd:Stmt:=top 30
noncomputable abbrev uy:List Str:=["_law_names_here","_law_letters","_law_heads","_law_knots","_law_ties","_law_k"]
noncomputable abbrev ic:List Str:=["_law_names_here"]
theorem iu:aE uy ic (ai vd):=L2.cE
theorem C6 {α:Type}{e:AE}{Q:List D→aG→Prop}{δ:bE}{S:aG} (g f:α→D) (as:List α) (acc:List D) (he:∀ a∈as,∀ Q:AK,Q (.dat (f a)) S→e (δ.set 0 (some (g a))) S Q) (hl:acc.length+as.length≤yah) (q:Q (acc++as.map f) S):c9 (fun _=>True) (bP 0) kJ e (as.map g) acc δ S Q :=
 iG g (fun _=>true) f trivial as acc δ rfl (fun a ha Q q=>q) he hl (by rw [zaN.mpr fun _ _=>rfl];exact q)
theorem AW (l:List Str):∃ s:List Str,s.Perm l∧sortedS s=true:=by
 let le:Str→Str→Bool:=fun a b => !decide (b.cps.toList<a.cps.toList)
 refine ⟨l.mergeSort le,List.mergeSort_perm l le,sortedS_of_pairwise _ ?_⟩
 have h:=List.pairwise_mergeSort (le:=le) (fun a b c h1 h2 => ?_) (fun a b => ?_) l
 ·refine h.imp fun {a b} z => ?_
  rw [ltCps_eq]
  have z:(!decide (b.cps.toList<a.cps.toList))=true:=z
  simpa using z
 ·have h1 : ¬ b.cps.toList<a.cps.toList:=by simpa [le] using h1
  have h2 : ¬ c.cps.toList<b.cps.toList:=by simpa [le] using h2
  show (!decide (c.cps.toList<a.cps.toList))=true
  have : ¬ c.cps.toList<a.cps.toList:=zcD.mpr (List.le_trans (zcD.mp h1) (zcD.mp h2))
  simpa using this
 ·show ((!decide (b.cps.toList<a.cps.toList))||(!decide (a.cps.toList<b.cps.toList)))=true
  by_cases e:b.cps.toList<a.cps.toList
  ·have : ¬ a.cps.toList<b.cps.toList:=fun z=>List.lt_irrefl _ (List.lt_trans z e)
   simp [this]
  ·simp [e]
theorem AX {l:List Str} (hn:l.Nodup):(jn l).Perm l:=by
 obtain ⟨s,s1,s2⟩:=AW l
 rw [← uP hn s1 s2];exact s1
theorem yU (l:List Ti):∃ s:List Ti,s.Perm l∧Eo (s.map T3):=by
 let le:Ti→Ti→Bool:=fun a b => !eF (py (T3 b)) (py (T3 a))
 refine ⟨l.mergeSort le,List.mergeSort_perm l le,?_⟩
 have h:=List.pairwise_mergeSort (le:=le) (fun a b c h1 h2 => ?_) (fun a b => ?_) l
 ·show ((l.mergeSort le).map T3).Pairwise _
  rw [zbp]
  refine h.imp fun {a b} z => ?_
  have z:(!eF (py (T3 b)) (py (T3 a)))=true:=z
  simpa using z
 ·have h1:eF (py (T3 b)) (py (T3 a))=false:=by simpa [le] using h1
  have h2:eF (py (T3 c)) (py (T3 b))=false:=by simpa [le] using h2
  show (!eF (py (T3 c)) (py (T3 a)))=true
  cases z:eF (py (T3 c)) (py (T3 a)) with
  | false=>rfl
  | true =>
   exfalso
   by_cases e:b=c
   ·subst e;rw [h1] at z;cases z
   ·rcases qH _ _ (qT b c) (fun y=>e (gD y)) with y | y
    ·have:=sO _ _ _ (qT b c) (qT c a) (qT b a) y z
     rw [h1] at this;cases this
    ·rw [h2] at y;cases y
 ·show ((!eF (py (T3 b)) (py (T3 a)))||(!eF (py (T3 a)) (py (T3 b))))=true
  cases z:eF (py (T3 b)) (py (T3 a)) with
  | false=>rfl
  | true =>
   cases y:eF (py (T3 a)) (py (T3 b)) with
   | false=>rfl
   | true =>
    have:=sO _ _ _ (qT a b) (qT b a) (qT a a) y z
    rw [vF] at this;cases this
theorem EA {l:List Ti} (hn:l.Nodup):(l9 l).Perm l:=by
 obtain ⟨s,s1,s2⟩:=yU l
 rw [← wV hn s1 s2];exact s1
theorem RO.NH {ks:List Kn}{ts:List Ti} (h:RO ks ts):RO (oB ks) (l9 ts) :=
 h.jn (AX h.nd) (EA h.tn) fun x hx=>by
  obtain ⟨k,hk,rfl⟩:=zcq.mp hx
  rw [sN h.nd hk]
  exact AX (h.nm k hk).2.2.1
noncomputable def hd (k:Nat):Str:=⟨#[107,97+k % 26,97+k / 26]⟩
noncomputable def gK (M:List Str):List Kn:=(zcI 40).map fun k=>(hd k,M)
noncomputable def gT (B:List Str) (k:Nat):Ti:=(hd (k % 10),B.getD (k / 100) "",hd (k / 10 % 10))
noncomputable def uF (B:List Str) (n:Nat):List Ti:=(zcI n).map (gT B)
theorem Me:∀ k<61,(decide (1≤(hd k).length)&&decide ((hd k).length≤8)&&FA (hd k))=true:=by decide +kernel
theorem Mf:((zcI 40).map hd).Nodup:=by decide +kernel
theorem JH {l:List Str} (h:l.Nodup) {i j:Nat} (hi:i<l.length) (hj:j<l.length) (e:l.getD i "" = l.getD j ""):i=j:=by
 rw [zac,zac,zak hi,zak hj] at e
 exact (List.getElem_inj h).mp e
theorem JY {B:List Str} (hB:B.Nodup) (hl:B.length=3):∀ i<300,∀ j<300,gT B i=gT B j→i=j:=by
 intro i hi j hj e
 unfold gT hd at e
 simp only [Prod.mk.injEq,Str.mk.injEq,Array.mk.injEq,zcJ.injEq] at e
 have:=JH hB (i:=i / 100) (j:=j / 100) (by lia) (by lia) e.2.1
 lia
theorem vN (M:List Str):nms (gK M)=(zcI 40).map hd:=by unfold nms gK;rw [zcp];rfl
theorem gRO {B M:List Str} (hB:B.Nodup) (lB:B.length=3) (nB:∀ y∈B,Nm y) (hM:M.Nodup) (lM:M.length=5) (nM:∀ y∈M,Nm y):RO (gK M) (uF B 300):=by
 refine ⟨by unfold gK;rw [zbN,zbr];lia,by rw [vN];exact Mf,fun k hk => ?_,?_,by unfold uF;rw [zbN,zbr];lia,fun t ht => ?_⟩
 ·unfold gK at hk
  obtain ⟨i,hi,rfl⟩:=zcq.mp hk
  have hi:=zbZ.mp hi
  exact ⟨vz (Me i (by lia)),by show M.length≤5;lia,hM,nM⟩
 ·unfold uF
  exact qG List.nodup_range fun a ha b hb e=>JY hB lB a (zbZ.mp ha) b (zbZ.mp hb) e
 ·unfold uF at ht
  obtain ⟨i,hi,rfl⟩:=zcq.mp ht
  have hi:=zbZ.mp hi
  rw [vN]
  refine ⟨zcq.mpr ⟨i % 10,zbZ.mpr (by lia),rfl⟩,zcq.mpr ⟨i / 10 % 10,zbZ.mpr (by lia),rfl⟩,nB _ ?_⟩
  show B.getD (i / 100) "" ∈ B
  rw [zac,zak (show i / 100<B.length by lia)]
  exact zbF _
section
variable {P:yak}{w:yal}{K:yaM}{mg:Str→Option yaj}{base:Heap}{ec:Nat→Addr}{EP C fi:Addr}
theorem Hv {i:Nat}{M:List Str}{S:aG}{Q:AK} (h:i<40) (q:Q (.dat (.str (hd i))) S):oq (.lst ((gK M).map fU)) (.int (i:Int)) S fun r S1=>oq r.d (.int 0) S1 Q:=by
 refine ⟨fU (hd i,M),cG ?_,.str (hd i),rfl,q⟩
 unfold gK
 rw [zbi,zbi,List.getElem?_range h];rfl
def w9:AN:=fun ds S Q=>∃ (A B M:List Str) (x:D),ds=[x]∧rE A B M x∧Q (.dat (bN (gK (M.take 5)) (uF B 300))) S
def GL (XN KD:D) (B:List Str) (S:aG) (rest:List D) (δ:bE) (S':aG):Prop:=∃ (j:Nat) (v5:Option D),rest=(cA 0 300).drop j∧j≤300∧δ=[some XN,some (.str "abcdefghijklmnopqrstuvwxyz"),some (.lst (((zcI 40).map hd).map D.str)),some KD,some (.loc S.length),v5]∧S'=S++[some (.lst ((uF B j).map T3))]
theorem Gh (T:Txt K mg ec EP C fi) (F:Src K mg "_law_great" ic vd):Def P w K mg base 1 "_law_great" ic (bf K w9):=by
 refine CO F iu (fun ds S Q h => ?_) (fun f cdv A outer s H E hr => ?_)
 ·obtain ⟨A,B,M,x,rfl,_⟩:=h;rfl
 ·refine ⟨_,(M.ah (M.aH (i:=1) iu.nd rfl (Or.inr rfl) M.ao)
   (M.ah (M.cz (i:=2) iu.nd rfl rfl (N:=["_law_k","_law_letters"]) (caps:=[none,some 1]) (iY (by decide +kernel)) (by rfl) (by rfl) rfl (M.bZ (by rfl) T.range (M.ak M.aj M.aa)) (fun _ _ _ _=>(M.aN (i:=0) (by decide +kernel:List.Nodup (["_law_k","_law_letters"]:List Str)) rfl (Or.inl rfl))) (fun _ _ _ _=>M.dz) (fun _ _ _ _=>(M.aL M.eX (M.aL M.eX M.ao (M.aF M.aT (M.pv 1) (M.aL M.xR (M.pv 0) M.aj) (fun _ _=>rfl))) (M.aF M.aT (M.pv 1) (M.aL M.vt (M.pv 0) M.aj) (fun _ _=>rfl)))))
   (M.ah (M.cz (i:=3) iu.nd rfl rfl (N:=["_law_head","_law_names_here"]) (caps:=[none,some 0]) (iY (by decide +kernel)) (by rfl) (by rfl) rfl (M.fB (M.pv 2)) (fun _ _ _ _=>(M.aN (i:=0) (by decide +kernel:List.Nodup (["_law_head","_law_names_here"]:List Str)) rfl (Or.inl rfl))) (fun _ _ _ _=>M.dz) (fun _ _ _ _=>(M.aD (M.ak (M.pv 0) (M.ak (M.Fc M.m8 (by rfl) T.list (by decide +kernel) (M.ak (M.aF M.aT (M.pv 1) M.aj (fun _ _=>rfl)) M.aa)) M.aa)))))
   (M.ah (M.aH (i:=4) iu.nd rfl (Or.inl rfl) (M.Ei (M.bI M.aa)))
   (M.ah (M.fz PassesOwn.never rfl (M.bZ (by rfl) T.range (M.ak M.aj M.aa)) (M.aN (i:=5) iu.nd rfl (Or.inl rfl))
    (M.aq (M.aR (M.mY PySem.F.plainAttrs_list PySem.F.slot_list_append PySem.F.type_list_append M.jG (M.pv 4) (M.ak (M.aD (M.ak (M.aF M.aT (M.aF M.aT (M.pv 3) (M.aL M.xR (M.pv 5) M.aj) (fun _ _=>rfl)) M.aj (fun _ _=>rfl)) (M.ak (M.aF M.aT (M.aF M.aT (M.pv 0) M.aj (fun _ _=>rfl)) (M.aL M.vt (M.pv 5) M.aj) (fun _ _=>rfl)) (M.ak (M.aF M.aT (M.aF M.aT (M.pv 3) (M.aL M.xR (M.aL M.vt (M.pv 5) M.aj) M.aj) (fun _ _=>rfl)) M.aj (fun _ _=>rfl)) M.aa)))) M.aa)))))
   (M.aq (M.aS (M.OA (M.aD (M.ak (M.pv 3) (M.ak (M.pv 4) M.aa))))))))))),fun ds S Q h => ?_⟩
  obtain ⟨NA,NB,N8,x,rfl,⟨rfl,lA,lB,l8,_⟩,q⟩:=h
  generalize N8.take 5=NM at q ⊢
  have e0:aM uy [.lst [.lst (NA.map D.str),.lst (NB.map D.str),.lst (NM.map D.str),.lst (N8.map D.str)]]=[some (.lst [.lst (NA.map D.str),.lst (NB.map D.str),.lst (NM.map D.str),.lst (N8.map D.str)]),none,none,none,none,none]:=rfl
  rw [e0]
  generalize hXN:D.lst [D.lst (NA.map D.str),D.lst (NB.map D.str),D.lst (NM.map D.str),.lst (N8.map D.str)]=XN
  have x01:∀ {S:aG}{Q:AK},Q (.dat (.lst (NB.map D.str))) S→oq XN (.int 1) S Q:=fun {S Q} q'=>by rw [← hXN];exact ⟨_,rfl,q'⟩
  have x02:∀ {S:aG}{Q:AK},Q (.dat (.lst (NM.map D.str))) S→oq XN (.int 2) S Q:=fun {S Q} q'=>by rw [← hXN];exact ⟨_,rfl,q'⟩
  refine bR fun N1 h1 => ?_
  push_cast [true_and]
  refine h1 _ _ ?_
  clear h1
  refine bR fun N3 h3 => ?_
  push_cast [jU,qL]
  refine ⟨by decide,by decide,comp_map (δ:=[none,some (.str "abcdefghijklmnopqrstuvwxyz")]) (fun d=>match d with | .int i=>.str (hd i.toNat) | d=>d) trivial _ [] _ rfl (fun x hx Q' q' => ?_) ?_ ?_⟩
  ·obtain ⟨k,hk,rfl⟩:=zcq.mp hx
   have hk:k<40:=by simpa using hk
   rw [Int.zero_add] at q' ⊢
   push_cast [zaY]
   have e1:((k:Int) % 26)=((k % 26:Nat):Int):=by lia
   have e2:((k:Int) / 26)=((k / 26:Nat):Int):=by lia
   rw [e1,e2]
   refine ⟨by decide,qI (by lia) ⟨by show 1+1≤yah;decide,by unfold Eb;lia,qI (by lia) ⟨by show 2+1≤yah;decide,?_⟩⟩⟩
   exact q'
  ·simp [cA];rw [yag];lia
  rw [zbU]
  have eh:(cA 0 (40:Int).toNat).map (fun d=>match d with | .int i=>.str (hd i.toNat) | d=>d)=((zcI 40).map hd).map D.str:=by
   simp only [cA,zcp]
   refine zaL fun k _ => ?_
   show D.str (hd ((0:Int)+(k:Int)).toNat)=D.str (hd k)
   rw [Int.zero_add];rfl
  rw [eh]
  refine h3 _ _ ?_
  clear h3 eh
  refine bR fun N4 h4 => ?_
  push_cast [true_and]
  refine jP (kH ⟨_,rfl,?_⟩)
  show c9 (fun _=>True) (bP 0) kJ _ (((zcI 40).map hd).map D.str) [] [none,some XN] S _
  rw [zcp]
  refine C6 (D.str ∘ hd) (fun k=>fU (hd k,NM)) (zcI 40) [] (fun k hk Q' q' => ?_) (by rw [yag];simp) ?_
  ·refine ⟨_,rfl,_,rfl,?_⟩
   simp only [aC,vZ,cY]
   exact x02 ⟨_,rfl,ySz 2,q'⟩
  have ek:([]:List D)++(zcI 40).map (fun k=>fU (hd k,NM))=(gK NM).map fU:=by unfold gK;rw [zcp];rfl
  rw [ek]
  refine h4 _ _ ?_
  clear h4
  refine bR fun N5 h5 => ?_
  push_cast [jg]
  refine ⟨zcF _,h5 _ _ ?_⟩
  clear h5
  refine bR fun N6 h6 => ?_
  push_cast [oN,qL]
  refine ⟨by decide,by decide,dY (GL XN (.lst ((gK NM).map fU)) NB S) ?_ ?_ _ _ _ ⟨0,none,rfl,zcF _,rfl,rfl⟩⟩
  ·rintro δ S' ⟨j,v5,e1,hj,rfl,rfl⟩
   have hj2:j=300:=by
    have:=congrArg zcC e1
    rw [zbA,jr] at this
    simp at this;lia
   subst hj2
   refine ⟨trivial,h6 _ _ ?_⟩
   clear h6
   push_cast [Gx]
   refine ⟨ySz 2,S.length,(uF NB 300).map T3,_,rfl,dD,?_⟩
   rw [qh]
   have np:∀ l:List Kn,(l.map fU).map (sb S.length (.lst ((uF NB 300).map T3)))=l.map fU:=fun l=>by
    rw [zcp]
    refine zaL fun k _ => ?_
    show sb _ _ (fU k)=fU k
    simp [fU,sb]
   have ev:[D.lst ((gK NM).map fU),D.loc S.length].map (sb S.length (.lst ((uF NB 300).map T3)))=[.lst ((gK NM).map fU),.lst ((uF NB 300).map T3)]:=by
    simp [sb]
   rw [ev]
   exact EU RO.ck q
  ·rintro x xs δ S' N ⟨j,v5,e1,hj,rfl,rfl⟩ hN
   obtain ⟨hj2,rfl,rfl⟩:=mz e1
   refine ⟨trivial,?_⟩
   have e3:bG (S++[some (MO.lst ((uF NB j).map T3))]) (.loc S.length) = .lst ((uF NB j).map T3):=bx (o:=.lst ((uF NB j).map T3)) dD
   push_cast [KJ,e3,vK,true_and]
   have e11:((j:Int) % 10)=((j % 10:Nat):Int):=by lia
   have e12:((j:Int) / 100)=((j / 100:Nat):Int):=by lia
   have e13:((j:Int) / 10 % 10)=((j / 10 % 10:Nat):Int):=by lia
   rw [e11,e12,e13]
   have hb:j / 100<NB.length:=by lia
   refine ⟨by decide,Hv (by lia) (x01 ⟨by unfold Eb;lia,_,Dq hb,by unfold Eb;lia,by decide,Hv (by lia) ⟨ySz 3,_,_,_,rfl,rfl,dD,by rw [zbN];unfold uF;rw [zbN,zbr,yag];lia,?_⟩⟩)⟩
   rw [qh]
   refine hN _ _ ⟨j+1,_,rfl,hj2,rfl,?_⟩
   have eb:NB.getD (j / 100) "" = NB[j / 100]:=by rw [zac,zak hb];rfl
   unfold uF
   rw [List.range_succ,zbV,zbV]
   show S++[some (MO.lst (((zcI j).map (gT NB)).map T3++[.tup [.str (hd (j % 10)),.str NB[j / 100],.str (hd (j / 10 % 10))]]))]=S++[some (MO.lst (((zcI j).map (gT NB)).map T3++[T3 (gT NB j)]))]
   unfold gT
   rw [eb]
end
open PySem PySem.Spec L2 M M6 PyProof.Rows
noncomputable abbrev NP:Stmt:=top 33
noncomputable abbrev HV:List Str:=["_law_feed_here","_law_rows_here","_law_names_here","_law_strange","_law_knots","_law_one","_law_other","_law_word","_law_way","_law_sort"]
noncomputable abbrev t9:List Str:=["_law_feed_here","_law_rows_here","_law_names_here","_law_strange"]
theorem uU:aE HV t9 (ai NP):=L2.cE
noncomputable abbrev NQ:Stmt:=top 34
noncomputable abbrev HW:List Str:=["_law_feed_here","_law_rows_here","_law_names_here","_law_strange","_law_one","_law_marks","_law_sort","_law_deed","_law_mark"]
noncomputable abbrev ud:List Str:=["_law_feed_here","_law_rows_here","_law_names_here","_law_strange"]
theorem yZ:aE HW ud (ai NQ):=L2.cE
theorem sX {n:Nat}{ds:List D} (hn:n+1≤64) (h:∀ d∈ds,om n d=true):fit (.lst ds)=true:=by
 have all:∀ ds:List D,(∀ d∈ds,om n d=true)→cK ds=true∧PyData.canLayAll0 (eW ds)=true∧PyData.depthAll (eW ds)≤n:=by
  intro ds
  induction ds with
  | nil=>intro _;simp [cK,eW,PyData.canLayAll0,PyData.depthAll]
  | cons d ds ih =>
   intro h
   obtain ⟨a1,a2,a3⟩:=Ay n d (h d (by simp))
   obtain ⟨b1,b2,b3⟩:=ih fun y hy=>h y (by simp [hy])
   refine ⟨by simp [cK,a1,b1],by simp [eW,PyData.canLayAll0,a2,b2],?_⟩
   simp only [eW,PyData.depthAll];lia
 obtain ⟨a,b,c⟩:=all ds h
 unfold fit PySem.SeqAt.shaped
 have e1:ck (.lst ds)=true:=by simpa [ck] using a
 have e2:(py (.lst ds)).canLay0=true:=by simpa [py,PyData.canLay0] using b
 have e3:(py (.lst ds)).depth≤64:=by simp only [py,PyData.depth];lia
 rw [e1,e2,yDt e3];rfl
theorem CF {ss:List Str} (h:∀ s∈ss,lg s=true):fit (.lst (ss.map D.str))=true:=sX (n:=0) (by decide) fun d hd'=>by
 obtain ⟨y,hy,rfl⟩:=zcq.mp hd'
 exact h y hy
theorem FO (y:Str) (ss:List Str):inD (.str y) (ss.map D.str)=decide (y∈ss):=by
 unfold inD
 rw [zcn]
 by_cases h:y∈ss
 ·rw [yDt h]
  exact zbG.mpr ⟨y,h,by simp [py,PyData.eqv]⟩
 ·rw [yDf h]
  refine zbh.mpr fun k hk z=>h ?_
  have z:PyData.eqv (.str k) (.str y)=true:=z
  have:k=y:=by simpa [PyData.eqv] using z
  rw [← this];exact hk
theorem xZ {y:Str}{ss:List Str}{x:D}{S:aG}{Q:AK}{neg:Bool} (hs:bG S x = .lst (ss.map D.str)) (hy:lg y=true) (hss:∀ s∈ss,lg s=true) (q:Q (.dat (.bl (neg != decide (y∈ss)))) S):Ej neg (.str y) x S Q:=by
 unfold Ej
 rw [hs]
 refine ⟨lY (n:=0) (show om 0 (.str y)=true from hy) (by decide),CF hss,?_⟩
 rw [rW,FO];exact q
theorem DM {t:Ti} (h:gq t=true):om 1 (T3 t)=true:=by
 unfold gq at h
 rw [zbH,zbH] at h
 simp only [T3,om,zci,List.all_nil,Bool.and_true,zbH]
 exact ⟨yDt (by simp),h.1.1,h.1.2,h.2⟩
theorem KN {t:Ti} (h:gq t=true) {S:aG}:fit (bG S (T3 t))=true:=lY (DM h) (by decide)
theorem GB {ts:List Ti} (h:∀ t∈ts,gq t=true):fit (.lst (ts.map T3))=true:=sX (n:=1) (by decide) fun d hd'=>by
 obtain ⟨t,ht,rfl⟩:=zcq.mp hd'
 exact DM (h t ht)
theorem nQ {α:Type}{e:AE}{Q:List D→aG→Prop}{S:aG} (g a b f:α→D) (hg:∀ x,g x = .tup [a x,b x]) (rest:bE):∀ (as:List α) (acc:List D) (v0 v1:Option D),
  (∀ x∈as,∀ Q:AK,Q (.dat (f x)) S→e (some (a x)::some (b x)::rest) S Q)→acc.length+as.length≤yah→Q (acc++as.map f) S →
  c9 (fun _=>True) (yz 2 (kI (bP 0) (kI (bP 1) yC))) kJ e (as.map g) acc (v0::v1::rest) S Q
 | [],acc,v0,v1,_,_,q=>⟨trivial,by simpa using q⟩
 | x::as,acc,v0,v1,he,hl,q=>by
  simp only [zbx] at hl
  refine ⟨trivial,_,hg x,rfl,_,_,rfl,_,_,rfl,rfl,?_⟩
  refine he x (by simp) _ ⟨by lia,?_⟩
  refine nQ g a b f hg rest as _ _ _ (fun y hy=>he y (by simp [hy])) (by simp;lia) ?_
  simpa [R.d,zbl] using q
theorem FL {t:Ti}{ts:List Ti}{S:aG}{Q:AK} (ht:gq t=true) (h:∀ u∈ts,gq u=true) (q:Q (.dat (.bl (decide (t∈ts)))) S):Ej false (T3 t) (.lst (ts.map T3)) S Q:=by
 unfold Ej
 rw [gA]
 refine ⟨KN ht,GB h,?_⟩
 rw [show bG _ (T3 t)=T3 t from rfl,Cs ht h]
 simpa using q
section
variable {P:yak}{w:yal}{K:yaM}{mg:Str→Option yaj}{base:Heap}{ec:Nat→Addr}{EP C fi:Addr}
def post (ks:List Kn) (ts:List Ti) (S:aG) (p n:Nat) (Q:AK):Prop:=∀ dd j d n',uA ks ts dd j d→Tq 1 615 d→ck dd=true→n'≤n+10→Q (.dat (.tup [dd,.tup [.str (wd j),d]])) (S.set p (some (.feed n')))
def A0:AN:=fun ds S Q=>∃ (p n:Nat) (A B M:List Str) (x:D) (ks:List Kn) (ts:List Ti) (z:Str),ds=[.loc p,bN ks ts,x,.str z]∧rE A B M x∧RO ks ts∧1≤ks.length∧Nm z∧z ∉ nms ks∧S[p]? = some (some (.feed n))∧n+20<1000∧post ks ts S p n Q
theorem OM (T:Txt K mg ec EP C fi) (F:Src K mg "_law_of_ties" t9 NP) (D_law_next:Def P w K mg base 1 "_law_next" dg (bf K f7)):Def P w K mg base 2 "_law_of_ties" t9 (bf K A0):=by
 refine CO F uU (fun ds S Q h => ?_) (fun f cdv A outer s H E hr => ?_)
 ·obtain ⟨p,n,A,B,M,x,ks,ts,z,rfl,_⟩:=h;rfl
 ·refine ⟨_,(M.ah (M.cz (i:=4) uU.nd rfl rfl (N:=["_law_name","_law_marks"]) (caps:=[none,none]) (iY (by decide +kernel)) (by rfl) (by rfl) rfl (M.fB (M.aF M.aT (M.pv 1) M.aj (fun _ _=>rfl))) (fun _ _ _ _=>(M.fE (n:=2) rfl (M.aY (M.aN (i:=0) (by decide +kernel:List.Nodup (["_law_name","_law_marks"]:List Str)) rfl (Or.inl rfl)) (M.aY (M.aN (i:=1) (by decide +kernel:List.Nodup (["_law_name","_law_marks"]:List Str)) rfl (Or.inl rfl)) M.dB)))) (fun _ _ _ _=>M.dz) (fun _ _ _ _=>(M.pv 0)))
   (M.ah (M.aH (i:=5) uU.nd rfl (Or.inl rfl) (M.aF M.aT (M.pv 4) (M.ow D_law_next hr (M.ak (M.pv 0) (M.ak (M.eE M.fK (by rfl) T.len (by decide +kernel) (M.ak (M.pv 4) M.aa)) M.aa))) (fun _ _=>rfl)))
   (M.ah (M.aH (i:=6) uU.nd rfl (Or.inl rfl) (M.aF M.aT (M.pv 4) (M.ow D_law_next hr (M.ak (M.pv 0) (M.ak (M.eE M.fK (by rfl) T.len (by decide +kernel) (M.ak (M.pv 4) M.aa)) M.aa))) (fun _ _=>rfl)))
   (M.ah (M.aH (i:=7) uU.nd rfl (Or.inl rfl) (M.aF M.aT (M.aF M.aT (M.pv 2) M.aj (fun _ _=>rfl)) (M.ow D_law_next hr (M.ak (M.pv 0) (M.ak M.aj M.aa))) (fun _ _=>rfl)))
   (M.ah (M.aH (i:=8) uU.nd rfl (Or.inl rfl) (M.aF M.aT (M.bI (M.ak M.ao (M.ak M.ao M.aa))) (M.ow D_law_next hr (M.ak (M.pv 0) (M.ak M.aj M.aa))) (fun _ _=>rfl)))
   (M.ah (M.aH (i:=9) uU.nd rfl (Or.inl rfl) (M.ow D_law_next hr (M.ak (M.pv 0) (M.ak M.aj M.aa))))
   (M.ah (M.bC (M.aA (M.dW hr) (M.pv 9) M.aj (aQ _))
    (M.aq (M.aS (M.aD (M.ak (M.aD (M.ak (M.pv 8) (M.ak (M.pv 3) (M.ak (M.pv 7) (M.ak (M.pv 6) M.aa))))) (M.ak (M.aD (M.ak M.ao (M.ak (M.pv 3) M.aa))) M.aa)))))
    M.aJ)
   (M.ah (M.bC (M.aA (M.dW hr) (M.pv 9) M.aj (aQ _))
    (M.aq (M.aS (M.aD (M.ak (M.aD (M.ak (M.pv 8) (M.ak (M.pv 5) (M.ak (M.pv 7) (M.ak (M.pv 3) M.aa))))) (M.ak (M.aD (M.ak M.ao (M.ak (M.pv 3) M.aa))) M.aa)))))
    M.aJ)
   (M.ah (M.bC (M.aA (M.dW hr) (M.pv 9) M.aj (aQ _))
    (M.aq (M.aS (M.aD (M.ak (M.aD (M.ak (M.pv 8) (M.ak (M.pv 3) (M.ak (M.pv 7) (M.ak (M.aL M.eX (M.pv 3) M.ao) M.aa))))) (M.ak (M.aD (M.ak M.ao (M.ak (M.pv 3) M.aa))) M.aa)))))
    M.aJ)
   (M.ah (M.bC (M.aA (M.Fl hr) (M.aD (M.ak (M.pv 5) (M.ak (M.pv 7) (M.ak (M.pv 6) M.aa)))) (M.aF M.aT (M.pv 1) M.aj (fun _ _=>rfl)) rfl)
    (M.aq (M.aS (M.aD (M.ak (M.aD (M.ak M.ao (M.ak (M.pv 5) (M.ak (M.pv 7) (M.ak (M.pv 6) M.aa))))) (M.ak (M.aD (M.ak M.ao (M.ak (M.pv 7) M.aa))) M.aa)))))
    M.aJ)
   (M.ah (M.bC (M.pw_pt (M.pw_and (M.aA (M.dW hr) (M.eE M.fK (by rfl) T.len (by decide +kernel) (M.ak (M.aF M.aT (M.pv 1) M.aj (fun _ _=>rfl)) M.aa)) M.aj (aQ _)) (M.pw_and1 (M.aA (M.dW hr) (M.pv 9) M.aj (aQ _)))))
    (M.aq (M.aS (M.aD (M.ak (M.aD (M.ak M.ao (M.ak (M.pv 5) (M.ak (M.pv 7) (M.ak (M.pv 6) M.aa))))) (M.ak (M.aD (M.ak M.ao (M.ak M.ao M.aa))) M.aa)))))
    M.aJ)
   (M.aq (M.aS (M.aD (M.ak (M.aD (M.ak M.ao (M.ak (M.pv 5) (M.ak (M.pv 7) (M.ak (M.pv 6) M.aa))))) (M.ak (M.aD (M.ak M.ao (M.ak (M.aD (M.ak (M.pv 5) (M.ak (M.pv 7) (M.ak (M.pv 6) M.aa)))) M.aa))) M.aa)))))))))))))))),fun ds S Q h => ?_⟩
  obtain ⟨p,n,NA,NB,N8,x,ks,ts,z,rfl,⟨rfl,lA,lB,l8,ndA,nd8,nA,nB,n8⟩,hR,hk1,nz,hz,hp,hn,q⟩:=h
  generalize hXN:D.lst [D.lst (NA.map D.str),D.lst (NB.map D.str),D.lst ((N8.take 5).map D.str),D.lst (N8.map D.str)]=XN
  have x01:∀ {S:aG}{Q:AK},Q (.dat (.lst (NB.map D.str))) S→oq XN (.int 1) S Q:=fun {S Q} q'=>by rw [← hXN];exact ⟨_,rfl,q'⟩
  have e0:aM HV [.loc p,bN ks ts,XN,.str z]=[some (.loc p),some (bN ks ts),some XN,some (.str z),none,none,none,none,none,none]:=rfl
  rw [e0]
  have pl:=gm hp
  refine bR fun N1 h1 => ?_
  push_cast [true_and]
  refine jP (kH ⟨_,rfl,.lst (ks.map fU),rfl,?_⟩)
  show c9 (fun _=>True) _ kJ (eT 0) (ks.map fU) [] [none,none] S _
  refine nQ fU (fun k=>.str k.1) (fun k=>.lst (k.2.map D.str)) (fun k=>.str k.1) (fun k=>rfl) [] ks [] none none (fun k hk Q' q'=>⟨_,rfl,q'⟩) ?_ ?_
  ·rw [yag];have:=hR.kl;simp;lia
  rw [zbU,show (ks.map fun k=>D.str k.1)=(nms ks).map D.str from by unfold nms;rw [zcp];rfl]
  refine h1 _ _ ?_
  clear h1
  have ln:(nms ks).length=ks.length:=by unfold nms;rw [zbN]
  have kl:=hR.kl
  refine bR fun N2 h2 => ?_
  push_cast [true_and]
  refine ⟨ks.length,by show some _=_;rw [zbN,ln],bq hp (by lia) (by lia) (by lia) fun z1 hz1=>pick (by rw [zbN,ln];lia) fun e he => ?_⟩
  obtain ⟨a,ha,rfl⟩:=zcq.mp he
  refine h2 _ _ ?_
  clear h2 he
  refine bR fun N3 h3 => ?_
  push_cast [true_and]
  refine ⟨ks.length,by show some _=_;rw [zbN,ln],bq (bM hp) (by lia) (by lia) (by lia) fun z2 hz2=>pick (by rw [zbN,ln];lia) fun e he => ?_⟩
  obtain ⟨c,hc,rfl⟩:=zcq.mp he
  rw [zco]
  refine h3 _ _ ?_
  clear h3 he
  refine bR fun N4 h4 => ?_
  push_cast [true_and]
  refine x01 (bq (bM hp) (by lia) (by decide) (by decide) fun z3 hz3=>pick (by rw [zbN,lB];lia) fun e he => ?_)
  obtain ⟨b,hb,rfl⟩:=zcq.mp he
  rw [zco]
  refine h4 _ _ ?_
  clear h4 he
  refine bR fun N5 h5 => ?_
  push_cast [true_and]
  refine ⟨ySz 2,bq (bM hp) (by lia) (by decide) (by decide) fun z4 hz4=>pick (show z4<[D.str "put_tie",.str "take_tie"].length by show z4<2;lia) fun e he => ?_⟩
  obtain ⟨m,rfl,hm⟩:∃ m:Str,e = .str m∧(m = "put_tie" ∨ m = "take_tie"):=by
   rcases zcf.mp he with h | h
   ·exact ⟨_,h,.inl rfl⟩
   ·exact ⟨_,zaW.mp h,.inr rfl⟩
  rw [zco]
  refine h5 _ _ ?_
  clear h5 he
  refine bR fun N6 h6 => ?_
  push_cast [true_and]
  refine bq (bM hp) (by lia) (by decide) (by decide) fun z5 hz5 => ?_
  rw [zco]
  refine h6 _ _ ?_
  clear h6
  have nmk:∀ y∈nms ks,Nm y:=fun y hy=>by
   obtain ⟨k,hk,rfl⟩:=zcq.mp hy
   exact (hR.nm k hk).1
  have ox:gq (a,b,c)=true:=by unfold gq;rw [dO (nmk a ha),dO (nB b hb),dO (nmk c hc)];rfl
  have hm':∃ B,(m = "put_tie" ∧ B=yw)∨(m = "take_tie" ∧ B=qW):=hm.elim (fun h=>⟨_,.inl ⟨h,rfl⟩⟩) fun h=>⟨_,.inr ⟨h,rfl⟩⟩
  obtain ⟨B,hB⟩:=hm'
  have nt:Tq 1 615 (.str z):=(Tq.name nz).mono (by decide) (by decide)
  have fin:∀ {dd:D}{j:Nat}{d:D},uA ks ts dd j d→Tq 1 615 d→ck dd=true→ret S (S.set p (some (.feed (n+1+1+1+1+1)))) (.dat (.tup [dd,.tup [.str (wd j),d]])) Q:=fun {dd j d} h1 h2 h3=>xG (by simp [M.ck,cK,h3,h2.ck]) (q dd j d _ h1 h2 h3 (by lia))
  clear q
  refine bR fun N7 h7 => ?_
  push_cast [true_and]
  by_cases c0:(z5:Int)=0
  ·rw [yDt c0,yIp rfl]
   exact ⟨ySz 4,ySz 2,ySz 2,fin (j:=0) (.inr (.inr (.inr (.inr ⟨m,(z,b,c),B,rfl,hB,.inl ⟨hz,rfl,rfl⟩⟩)))) nt rfl⟩
  rw [yDf c0,yIn (by decide)]
  refine h7 _ _ ?_
  clear h7
  refine bR fun N8 h8 => ?_
  push_cast [true_and]
  by_cases c1:(z5:Int)=1
  ·rw [yDt c1,yIp rfl]
   exact ⟨ySz 4,ySz 2,ySz 2,fin (j:=0) (.inr (.inr (.inr (.inr ⟨m,(a,b,z),B,rfl,hB,.inr (.inl ⟨ha,hz,rfl,rfl⟩)⟩)))) nt rfl⟩
  rw [yDf c1,yIn (by decide)]
  refine h8 _ _ ?_
  clear h8
  refine bR fun N9 h9 => ?_
  push_cast [true_and]
  by_cases c2:(z5:Int)=2
  ·rw [yDt c2,yIp rfl]
   refine ⟨?_,ySz 4,ySz 2,ySz 2,fin (j:=0) (.inr (.inr (.inr (.inr ⟨m,(z,b,_),B,rfl,hB,.inl ⟨hz,rfl,rfl⟩⟩)))) nt rfl⟩
   rw [yag]
   have:=nz.2.1
   show z.length+1≤_
   lia
  rw [yDf c2,yIn (by decide)]
  refine h9 _ _ ?_
  clear h9
  refine bR fun N10 h10 => ?_
  push_cast [true_and]
  refine ⟨ySz 3,.lst (ts.map T3),rfl,FL (t:=(a,b,c)) ox hR.uD ⟨_,rfl,?_⟩⟩
  by_cases hin:(a,b,c)∈ts
  ·rw [yDt hin,yIp rfl]
   exact ⟨ySz 4,ySz 2,ySz 2,fin (j:=3) (.inr (.inr (.inr (.inr ⟨_,(a,b,c),_,rfl,.inl ⟨rfl,rfl⟩,.inr (.inr ⟨ha,hc,ox,.inl ⟨hin,rfl,rfl⟩⟩)⟩)))) ((Tq.name (nB b hb)).mono (by decide) (by decide)) rfl⟩
  rw [yDf hin,yIn (by decide)]
  refine h10 _ _ ?_
  clear h10
  refine bR fun N11 h11 => ?_
  push_cast [true_and]
  refine ⟨.lst (ts.map T3),rfl,ts.length,by show some _=_;rw [zbN],?_⟩
  have tk:N11 [some (.loc p),some (bN ks ts),some XN,some (.str z),some (.lst ((nms ks).map D.str)),some (.str a),some (.str c),some (.str b),some (.str m),some (.int z5)] (S.set p (some (.feed (n+1+1+1+1+1)))):=h11 _ _ (by
   push_cast [true_and]
   exact ⟨ySz 4,ySz 3,ySz 2,ySz 2,fin (j:=5) (d:=T3 (a,b,c)) (.inr (.inr (.inr (.inr ⟨_,(a,b,c),_,rfl,.inr ⟨rfl,rfl⟩,.inr (.inr ⟨ha,hc,ox,hin,rfl,rfl⟩)⟩)))) (Tq.T3 (.inl (nmk a ha)) (nB b hb) (nmk c hc)) rfl⟩)
  clear h11
  by_cases c3:(ts.length:Int)=300
  ·rw [yDt c3,yIp rfl]
   by_cases c4:(z5:Int)=3
   ·rw [yDt c4,yIp rfl]
    exact ⟨ySz 4,ySz 2,ySz 2,fin (j:=4) (.inr (.inr (.inr (.inr ⟨_,(a,b,c),_,rfl,.inl ⟨rfl,rfl⟩,.inr (.inr ⟨ha,hc,ox,.inr ⟨hin,by lia,rfl,rfl⟩⟩)⟩)))) ((Tq.asc (by decide +kernel) (kG (by decide +kernel))).mono (by decide) (by decide)) rfl⟩
   ·rw [yDf c4,yIn (by decide)]
    exact tk
  ·rw [yDf c3,yIn (by decide)]
   exact tk
theorem ON (T:Txt K mg ec EP C fi) (F:Src K mg "_law_of_knots" ud NQ) (D_law_next:Def P w K mg base 1 "_law_next" dg (bf K f7)):Def P w K mg base 2 "_law_of_knots" ud (bf K A0):=by
 refine CO F yZ (fun ds S Q h => ?_) (fun f cdv A outer s H E hr => ?_)
 ·obtain ⟨p,n,A,B,M,x,ks,ts,z,rfl,_⟩:=h;rfl
 ·refine ⟨_,(M.ah (M.mP (M.aF M.aT (M.aF M.aT (M.pv 1) M.aj (fun _ _=>rfl)) (M.ow D_law_next hr (M.ak (M.pv 0) (M.ak (M.eE M.fK (by rfl) T.len (by decide +kernel) (M.ak (M.aF M.aT (M.pv 1) M.aj (fun _ _=>rfl)) M.aa)) M.aa))) (fun _ _=>rfl)) (M.fE (n:=2) rfl (M.aY (M.aN (i:=4) yZ.nd rfl (Or.inl rfl)) (M.aY (M.aN (i:=5) yZ.nd rfl (Or.inl rfl)) M.dB))))
   (M.ah (M.aH (i:=6) yZ.nd rfl (Or.inl rfl) (M.ow D_law_next hr (M.ak (M.pv 0) (M.ak M.aj M.aa))))
   (M.ah (M.bC (M.aA (M.dW hr) (M.pv 6) M.aj (aQ _))
    (M.aq (M.aS (M.aD (M.ak (M.aD (M.ak M.ao (M.ak (M.pv 4) (M.ak (M.cL M.kN (M.aF M.aT (M.pv 2) M.aj (fun _ _=>rfl)) M.dS (M.cZ (M.ow D_law_next hr (M.ak (M.pv 0) (M.ak M.aj M.aa))))) M.aa)))) (M.ak (M.aD (M.ak M.ao (M.ak (M.pv 4) M.aa))) M.aa)))))
    M.aJ)
   (M.ah (M.bC (M.pw_pt (M.pw_and (M.aA M.LP (M.pv 6) M.aj (aQ _)) (M.pw_and1 (M.aA (M.dW hr) (M.eE M.fK (by rfl) T.len (by decide +kernel) (M.ak (M.aF M.aT (M.pv 1) M.aj (fun _ _=>rfl)) M.aa)) M.aj (aQ _)))))
    (M.aq (M.aS (M.aD (M.ak (M.aD (M.ak M.ao (M.ak (M.pv 3) (M.ak (M.bI M.aa) M.aa)))) (M.ak (M.aD (M.ak M.ao (M.ak M.ao M.aa))) M.aa)))))
    M.aJ)
   (M.ah (M.bC (M.aA M.LP (M.pv 6) M.aj (aQ _))
    (M.ah (M.aH (i:=7) yZ.nd rfl (Or.inl rfl) (M.aF M.aT (M.bI (M.ak M.ao (M.ak M.ao (M.ak M.ao (M.ak M.ao (M.ak M.ao M.aa)))))) (M.ow D_law_next hr (M.ak (M.pv 0) (M.ak M.aj M.aa))) (fun _ _=>rfl)))
    (M.aq (M.aS (M.aD (M.ak (M.aD (M.ak (M.pv 7) (M.ak (M.pv 3) (M.ak (M.aF M.aT (M.aF M.aT (M.pv 2) M.aj (fun _ _=>rfl)) M.aj (fun _ _=>rfl)) M.aa)))) (M.ak (M.aD (M.ak M.ao (M.ak (M.pv 3) M.aa))) M.aa))))))
    M.aJ)
   (M.ah (M.aH (i:=8) yZ.nd rfl (Or.inl rfl) (M.aF M.aT (M.aF M.aT (M.pv 2) M.aj (fun _ _=>rfl)) (M.ow D_law_next hr (M.ak (M.pv 0) (M.ak M.aj M.aa))) (fun _ _=>rfl)))
   (M.ah (M.bC (M.aA (M.Fl hr) (M.pv 8) (M.pv 5) rfl)
    (M.aq (M.aS (M.aD (M.ak (M.aD (M.ak M.ao (M.ak (M.pv 4) (M.ak (M.pv 8) M.aa)))) (M.ak (M.aD (M.ak M.ao (M.ak (M.pv 8) M.aa))) M.aa)))))
    M.aJ)
   (M.ah (M.bC (M.pw_pt (M.pw_and (M.aA (M.dW hr) (M.eE M.fK (by rfl) T.len (by decide +kernel) (M.ak (M.pv 5) M.aa)) M.aj (aQ _)) (M.pw_and1 (M.aA (M.dW hr) (M.pv 6) M.aj (aQ _)))))
    (M.aq (M.aS (M.aD (M.ak (M.aD (M.ak M.ao (M.ak (M.pv 4) (M.ak (M.pv 8) M.aa)))) (M.ak (M.aD (M.ak M.ao (M.ak M.ao M.aa))) M.aa)))))
    M.aJ)
   (M.aq (M.aS (M.aD (M.ak (M.aD (M.ak M.ao (M.ak (M.pv 4) (M.ak (M.pv 8) M.aa)))) (M.ak (M.aD (M.ak M.ao (M.ak (M.pv 8) M.aa))) M.aa))))))))))))),fun ds S Q h => ?_⟩
  obtain ⟨p,n,NA,NB,N8,x,ks,ts,z,rfl,⟨rfl,lA,lB,l8,ndA,nd8,nA,nB,n8⟩,hR,hk1,nz,hz,hp,hn,q⟩:=h
  generalize hXN:D.lst [D.lst (NA.map D.str),D.lst (NB.map D.str),D.lst ((N8.take 5).map D.str),D.lst (N8.map D.str)]=XN
  have x02:∀ {S:aG}{Q:AK},Q (.dat (.lst ((N8.take 5).map D.str))) S→oq XN (.int 2) S Q:=fun {S Q} q'=>by rw [← hXN];exact ⟨_,rfl,q'⟩
  have x03:∀ {S:aG}{Q:AK},Q (.dat (.lst (N8.map D.str))) S→oq XN (.int 3) S Q:=fun {S Q} q'=>by rw [← hXN];exact ⟨_,rfl,q'⟩
  have e0:aM HW [.loc p,bN ks ts,XN,.str z]=[some (.loc p),some (bN ks ts),some XN,some (.str z),none,none,none,none,none]:=rfl
  rw [e0]
  have pl:=gm hp
  have kl:=hR.kl
  have nt:Tq 1 615 (.str z):=(Tq.name nz).mono (by decide) (by decide)
  have fin:∀ {dd:D}{j:Nat}{d:D}{n':Nat},n'≤n+10→uA ks ts dd j d→Tq 1 615 d→ck dd=true→ret S (S.set p (some (.feed n'))) (.dat (.tup [dd,.tup [.str (wd j),d]])) Q:=fun {dd j d n'} h0 h1 h2 h3=>xG (by simp [M.ck,cK,h3,h2.ck]) (q dd j d _ h1 h2 h3 h0)
  clear q
  refine bR fun N1 h1 => ?_
  push_cast [true_and]
  refine ⟨.lst (ks.map fU),rfl,.lst (ks.map fU),rfl,ks.length,by show some _=_;rw [zbN],bq hp (by lia) (by lia) (by lia) fun z1 hz1=>pick (by rw [zbN];lia) fun e he => ?_⟩
  obtain ⟨k,hk,rfl⟩:=zcq.mp he
  refine ⟨_,rfl,rfl,_,_,rfl,_,_,rfl,rfl,h1 _ _ ?_⟩
  clear h1 he
  refine bR fun N2 h2 => ?_
  push_cast [true_and]
  refine bq (bM hp) (by lia) (by decide) (by decide) fun z2 hz2 => ?_
  rw [zco]
  refine h2 _ _ ?_
  clear h2
  have hkm:=hR.nm k hk
  have hkn:k.1∈nms ks:=zcq.mpr ⟨k,hk,rfl⟩
  refine bR fun N3 h3 => ?_
  push_cast [true_and]
  by_cases c0:(z2:Int)=0
  ·rw [yDt c0,yIp rfl]
   refine x02 (bq (bM hp) (by lia) (by decide) (by decide) fun z3 hz3 => ?_)
   rw [zco]
   refine ⟨(z3:Int),rfl,?_⟩
   obtain ⟨ms,hms,hml⟩:∃ ms:List Str,M.cutD ((N8.take 5).map D.str) none (some (z3:Int))=ms.map D.str∧ms.length≤1000:=by
    refine ⟨_,qS _ _ _ _,?_⟩
    unfold M.cutD
    rw [zby,zbA,zby];lia
   rw [cY,qg,hms]
   exact ⟨ySz 3,ySz 2,ySz 2,fin (j:=3) (by lia) (.inl ⟨k.1,ms,rfl,hml,.inl ⟨hkn,rfl,rfl⟩⟩) ((Tq.name hkm.1).mono (by decide) (by decide)) (by simp [R.d,MO.d,M.ck,cK,rN])⟩
  rw [yDf c0,yIn (by decide)]
  refine h3 _ _ ?_
  clear h3
  refine bR fun N4 h4 => ?_
  push_cast [true_and]
  have rest:N4 [some (D.loc p),some (bN ks ts),some XN,some (D.str z),some (D.str k.1),some (D.lst (k.2.map D.str)),some (D.int z2),none,none] (S.set p (some (.feed (n+1+1)))):=by
   refine h4 _ _ ?_
   refine bR fun N5 h5 => ?_
   push_cast [true_and]
   by_cases c2:(z2:Int)<5
   ·rw [yDt c2,yIp rfl]
    refine ⟨ySz 5,bq (bM hp) (by lia) (by decide) (by decide) fun z4 hz4=>pick (show z4<[D.str "take_knot",.str "marks",.str "steps",.str "put_mark",.str "take_mark"].length by show z4<5;lia) fun e he => ?_⟩
    rw [zco]
    obtain ⟨m0,hm0⟩:∃ m0:Str,(N8.take 5).map D.str = .str m0::((N8.take 5).drop 1).map D.str:=by
     cases N8 with
     | nil=>simp at l8
     | cons a l=>exact ⟨a,rfl⟩
    refine x02 ?_
    rw [hm0]
    refine ⟨.str m0,(show jT (D.str m0::_) ((0:Nat):Int)=some (.str m0) from cG rfl),ySz 3,ySz 2,ySz 2,?_⟩
    have dn:∃ m:Str,e = .str m∧uA ks ts (.tup [.str m,.str z,.str m0]) 0 (.str z):=by
     simp only [zcf,zbE,or_false] at he
     rcases he with h | h | h | h | h
     ·exact ⟨_,h,.inr (.inl ⟨_,z,[.str m0],rfl,.inl rfl,hz,rfl,rfl⟩)⟩
     ·exact ⟨_,h,.inr (.inl ⟨_,z,[.str m0],rfl,.inr (.inl rfl),hz,rfl,rfl⟩)⟩
     ·exact ⟨_,h,.inr (.inl ⟨_,z,[.str m0],rfl,.inr (.inr rfl),hz,rfl,rfl⟩)⟩
     ·exact ⟨_,h,.inr (.inr (.inl ⟨z,m0,rfl,.inl ⟨hz,rfl,rfl⟩⟩))⟩
     ·exact ⟨_,h,.inr (.inr (.inr (.inl ⟨z,m0,rfl,.inl ⟨hz,rfl,rfl⟩⟩)))⟩
    obtain ⟨m,rfl,dn⟩:=dn
    exact fin (by lia) dn nt rfl
   rw [yDf c2,yIn (by decide)]
   refine h5 _ _ ?_
   clear h5
   refine bR fun N6 h6 => ?_
   push_cast [true_and]
   refine x03 (bq (bM hp) (by lia) (by decide) (by decide) fun z5 hz5=>pick (by rw [zbN,l8];lia) fun e he => ?_)
   obtain ⟨y,hy,rfl⟩:=zcq.mp he
   rw [zco]
   refine h6 _ _ ?_
   clear h6 he
   have yt:Tq 1 615 (.str y):=(Tq.name (n8 y hy)).mono (by decide) (by decide)
   refine bR fun N7 h7 => ?_
   push_cast [true_and]
   refine xZ gA (dO (n8 y hy)) (fun m hm=>dO (hkm.2.2.2 m hm)) ⟨_,rfl,?_⟩
   by_cases hin:y∈k.2
   ·rw [yDt hin,yIp (by decide)]
    exact ⟨ySz 3,ySz 2,ySz 2,fin (j:=3) (by lia) (.inr (.inr (.inl ⟨k.1,y,rfl,.inr ⟨k,hk,rfl,.inl ⟨hin,rfl,rfl⟩⟩⟩))) yt rfl⟩
   rw [yDf hin,yIn (by decide)]
   refine h7 _ _ ?_
   clear h7
   refine bR fun N8 h8 => ?_
   push_cast [true_and]
   refine ⟨k.2.length,by show some _=_;rw [zbN],?_⟩
   have tk:N8 [some (.loc p),some (bN ks ts),some XN,some (.str z),some (.str k.1),some (.lst (k.2.map D.str)),some (.int z2),none,some (.str y)] (S.set p (some (.feed (n+1+1+1)))):=h8 _ _ (by
    push_cast [true_and]
    exact ⟨ySz 3,ySz 2,ySz 2,fin (j:=1) (by lia) (.inr (.inr (.inr (.inl ⟨k.1,y,rfl,.inr ⟨k,hk,rfl,hin,rfl,rfl⟩⟩)))) yt rfl⟩)
   clear h8
   by_cases c3:(k.2.length:Int)=5
   ·rw [yDt c3,yIp rfl]
    by_cases c4:(z2:Int)=5
    ·rw [yDt c4,yIp rfl]
     exact ⟨ySz 3,ySz 2,ySz 2,fin (j:=4) (by lia) (.inr (.inr (.inl ⟨k.1,y,rfl,.inr ⟨k,hk,rfl,.inr ⟨hin,by lia,rfl,rfl⟩⟩⟩))) ((Tq.asc (by decide +kernel) (kG (by decide +kernel))).mono (by decide) (by decide)) rfl⟩
    ·rw [yDf c4,yIn (by decide)]
     exact tk
   ·rw [yDf c3,yIn (by decide)]
    exact tk
  clear h4
  have ex:∀ Q':AK,Q' (.dat (.lst (ks.map fU))) (S.set p (some (.feed (n+1+1))))→oq (bN ks ts) (D.int 0) (S.set p (some (.feed (n+1+1)))) Q':=fun Q' q'=>⟨_,rfl,q'⟩
  by_cases c1:(z2:Int)<3
  ·rw [yDt c1,yIp rfl]
   refine ex _ ⟨ks.length,by show some _=_;rw [zbN],?_⟩
   by_cases c4:(ks.length:Int)=40
   ·rw [yDt c4,yIp rfl]
    exact ⟨zcF _,ySz 3,ySz 2,ySz 2,fin (j:=4) (by lia) (.inl ⟨z,[],rfl,by decide,.inr ⟨hz,by lia,rfl,rfl⟩⟩) ((Tq.asc (by decide +kernel) (kG (by decide +kernel))).mono (by decide) (by decide)) rfl⟩
   ·rw [yDf c4,yIn (by decide)]
    exact rest
  ·rw [yDf c1,yIn (by decide)]
   exact rest
end
open PySem PySem.Spec L2 M M6 PyProof.Rows
noncomputable abbrev u9:Stmt:=top 35
noncomputable abbrev D4:List Str:=["_law_script","_law_feed_here","_law_marks","_law_names_here","_law_rows_here","_law_web_here","_law_kept","_law_knots","_law_some","_law_strange","_law_k","_law_deed","_law_due"]
noncomputable abbrev rg:List Str:=["_law_script"]
theorem dF:aE D4 rg (ai u9):=L2.cE
theorem bD.obj {C:Addr}{W:yal}{S:aG}{n:Nat}{own:List Nat}{ks:List Kn}{ts:List Ti} (h:bD C W S n own ks ts):∃ ds,S[n]? = some (some (.ins C fl ds)):=by
 obtain ⟨m,t,e,cs,rfl,rfl,X⟩:=h
 exact ⟨_,X.at_⟩
theorem JG {ds:List D}{S:aG}{Q:AK} (hf:fit (.tup ds)=true) (he:PyData.eqv (py (.tup ds)) (py (.tup ds))=true) (q:Q (.dat (.bl false)) S):KA (.tup ds) (.tup ds) S Q:=by
 unfold KA
 rw [rV]
 exact ⟨hf,hf,by rw [he];exact q⟩
theorem eq_nil {S:aG}{Q:AK} (q:Q (.dat (.bl true)) S):Aa (.lst []) (.lst []) S Q:=by
 unfold Aa
 rw [gA]
 exact ⟨by decide +kernel,by decide +kernel,q⟩
noncomputable def xj:List Str:=["zq","zr","zs","zt","zu","zv","zw","zx","zy"]
theorem Bd:∀ y∈xj,Nm y:=by
 have h:xj.all (fun y=>decide (1≤y.length)&&decide (y.length≤8)&&FA y)=true:=by decide +kernel
 exact fun y hy=>vz (zbC.mp h y hy)
theorem Ld {j:Nat} (h:j<6):Tq 1 615 (.str (wd j)):=by
 refine (Tq.asc ?_ (kG ?_)).mono (by decide) (by decide)
 ·match j,h with
  | 0,_=>decide +kernel
  | 1,_=>decide +kernel
  | 2,_=>decide +kernel
  | 3,_=>decide +kernel
  | 4,_=>decide +kernel
  | 5,_=>decide +kernel
 ·match j,h with
  | 0,_=>decide +kernel
  | 1,_=>decide +kernel
  | 2,_=>decide +kernel
  | 3,_=>decide +kernel
  | 4,_=>decide +kernel
  | 5,_=>decide +kernel
theorem J1 {j:Nat}{d:D} (h:j<6) (hd:Tq 1 615 d):Tq 2 1237 (.tup [.str (wd j),d]):=by
 refine Tq.tup (n:=1) (l:=2) (m:=615) (fun e he => ?_) (by simp)
 simp only [zcf,zbE,or_false] at he
 rcases he with rfl | rfl
 ·exact Ld h
 ·exact hd
section
variable {P:yak}{w:yal}{K:yaM}{mg:Str→Option yaj}{base:Heap}{ec:Nat→Addr}{EP C fi:Addr}
def LO (ns:List Int) (M XN R:D) (L:Nat) (kept:Str) (ks:List Kn) (z:Str) (S1:aG) (rest:List D) (δ:bE) (S':aG):Prop:=∃ (Y:aG) (v1 v10 v11 v12:Option D),(∀ e∈rest,∃ k:Nat,e = .int k∧k<100)∧δ=[some (.lE ns),v1,some M,some XN,some R,some (.loc L),some (.str kept),some (.lst ((nms ks).map D.str)),some (.lst (xj.map D.str)),some (.str z),v10,v11,v12]∧S'=S1++Y
def A7:AN:=fun ds S Q=>∃ ns:List Int,ds=[.lE ns]∧S=[]∧∀ S',Q (.dat (.bl true)) S'
theorem Ke {fl:Addr}{fd:yaq} (T:Txt K mg ec EP C fi) (F:uz K "law" "law" u9 fl fd) (D_law_cell_at:Def P w K mg base 1 "_law_cell_at" gj (bf K xh)) (D_law_feed:Def P w K mg base 1 "_law_feed" gi (bf K xg)) (D_law_next:Def P w K mg base 1 "_law_next" dg (bf K f7)) (D_law_names:Def P w K mg base 2 "_law_names" g8 (bf K rR))
  (D_law_rows:Def P w K mg base 2 "_law_rows" jW (bf K AY)) (D_law_web:Def P w K mg base 3 "_law_web" j0 (bf K (A8 C w))) (rG:cj P w K mg base 3 C "rows" gX (wW C w)) (fq:cj P w K mg base 2 C "marks" di (qd C w)) (fm:cj P w K mg base 2 C "steps" dc (qc C w)) (D_take_knot:cj P w K mg base 3 C "take_knot" dJ (wX C w)) (D_put_knot:cj P w K mg base 2 C "put_knot" d9 (uQ C w))
  (D_law_great:Def P w K mg base 1 "_law_great" ic (bf K w9)) (D_law_of_ties:Def P w K mg base 2 "_law_of_ties" t9 (bf K A0)) (D_law_of_knots:Def P w K mg base 2 "_law_of_knots" ud (bf K A0)) (D_law_caught:Def P w K mg base 6 "_law_caught" fS (bf K (rS C w))) :
  bW P w K mg base iZ 7 fl fd rg (bf K A7):=by
 refine M7 F dF (fun ds S Q h => ?_) (fun f cdv A outer s H E hr => ?_)
 ·obtain ⟨ns,rfl,_⟩:=h;rfl
 ·refine ⟨_,(M.ah (M.aH (i:=1) dF.nd rfl (Or.inl rfl) (M.ow D_law_feed hr (M.ak (M.ow D_law_cell_at hr (M.ak (M.pv 0) (M.ak M.aj M.aa))) M.aa)))
   (M.ah (M.aH (i:=2) dF.nd rfl (Or.inl rfl) (M.ow D_law_names hr (M.ak (M.pv 1) (M.ak M.aj M.aa))))
   (M.ah (M.aH (i:=3) dF.nd rfl (Or.inl rfl) (M.bI (M.ak (M.ow D_law_names hr (M.ak (M.pv 1) (M.ak M.aj M.aa))) (M.ak (M.ow D_law_names hr (M.ak (M.pv 1) (M.ak M.aj M.aa))) (M.ak (M.cL M.kN (M.pv 2) M.dS (M.cZ M.aj)) (M.ak (M.pv 2) M.aa))))))
   (M.ah (M.aH (i:=4) dF.nd rfl (Or.inl rfl) (M.ow D_law_rows hr (M.ak (M.pv 1) (M.ak (M.pv 3) (M.ak M.aj M.aa)))))
   (M.ah (M.bC (M.aA (M.dW hr) (M.ow D_law_next hr (M.ak (M.pv 1) (M.ak M.aj M.aa))) M.aj (aQ _))
    (M.aq (M.aH (i:=4) dF.nd rfl (Or.inl rfl) (M.ow D_law_great hr (M.ak (M.pv 3) M.aa))))
    M.aJ)
   (M.ah (M.aH (i:=5) dF.nd rfl (Or.inl rfl) (M.ow D_law_web hr (M.ak (M.pv 4) M.aa)))
   (M.ah (M.aH (i:=6) dF.nd rfl (Or.inl rfl) (M.eE (M.qC hr) (by rfl) T.repr (by decide +kernel) (M.ak (M.gG (M.pv 5) T.cl rG (hr.mono (by decide))) M.aa)))
   (M.ah (M.aH (i:=7) dF.nd rfl (Or.inr rfl) (M.iy (N:=["_law_name","_law_some"]) (caps:=[none,none]) (iY (by decide +kernel)) (by rfl) (by rfl) rfl (M.fB (M.aF M.aT (M.pv 4) M.aj (fun _ _=>rfl))) (fun _ _ _ _=>(M.fE (n:=2) rfl (M.aY (M.aN (i:=0) (by decide +kernel:List.Nodup (["_law_name","_law_some"]:List Str)) rfl (Or.inl rfl)) (M.aY (M.aN (i:=1) (by decide +kernel:List.Nodup (["_law_name","_law_some"]:List Str)) rfl (Or.inl rfl)) M.dB)))) (fun _ _ _ _=>M.dz) (fun _ _ _ _=>(M.pv 0))))
   (M.ah (M.aH (i:=8) dF.nd rfl (Or.inl rfl) (M.bI (M.ak M.ao (M.ak M.ao (M.ak M.ao (M.ak M.ao (M.ak M.ao (M.ak M.ao (M.ak M.ao (M.ak M.ao (M.ak M.ao M.aa)))))))))))
   (M.ah (M.aH (i:=9) dF.nd rfl (Or.inl rfl) (M.aF M.aT (M.iy (N:=["_law_name","_law_knots"]) (caps:=[none,some 7]) (iY (by decide +kernel)) (by rfl) (by rfl) rfl (M.fB (M.pv 8)) (fun _ _ _ _=>(M.aN (i:=0) (by decide +kernel:List.Nodup (["_law_name","_law_knots"]:List Str)) rfl (Or.inl rfl))) (fun _ _ _ _=>(M.lI (M.aA (M.xQ hr) (M.pv 0) (M.pv 1) rfl))) (fun _ _ _ _=>(M.pv 0))) M.aj (fun _ _=>rfl)))
   (M.ah (M.fz PassesOwn.never rfl (M.bZ (by rfl) T.range (M.ak (M.aL M.eX M.aj (M.eE (M.JE rfl) (by rfl) T.min (by decide +kernel) (M.ak M.aj (M.ak (M.eE M.fK (by rfl) T.len (by decide +kernel) (M.ak (M.pv 0) M.aa)) M.aa)))) M.aa)) (M.aN (i:=10) dF.nd rfl (Or.inl rfl))
    (M.ah (M.aH (i:=1) dF.nd rfl (Or.inl rfl) (M.ow D_law_feed hr (M.ak (M.ow D_law_cell_at hr (M.ak (M.pv 0) (M.ak (M.aL M.eX M.aj (M.pv 10)) M.aa))) M.aa)))
    (M.ah (M.bC (M.aA (M.dW hr) (M.ow D_law_next hr (M.ak (M.pv 1) (M.ak M.aj M.aa))) M.aj (aQ _))
     (M.aq (M.mP (M.ow D_law_of_ties hr (M.ak (M.pv 1) (M.ak (M.pv 4) (M.ak (M.pv 3) (M.ak (M.pv 9) M.aa))))) (M.fE (n:=2) rfl (M.aY (M.aN (i:=11) dF.nd rfl (Or.inl rfl)) (M.aY (M.aN (i:=12) dF.nd rfl (Or.inl rfl)) M.dB)))))
     (M.aq (M.mP (M.ow D_law_of_knots hr (M.ak (M.pv 1) (M.ak (M.pv 4) (M.ak (M.pv 3) (M.ak (M.pv 9) M.aa))))) (M.fE (n:=2) rfl (M.aY (M.aN (i:=11) dF.nd rfl (Or.inl rfl)) (M.aY (M.aN (i:=12) dF.nd rfl (Or.inl rfl)) M.dB))))))
    (M.aq (M.bC (M.pw_pt (M.pw_or (M.aA (M.JD hr) (M.eE (M.qC hr) (by rfl) T.repr (by decide +kernel) (M.ak (M.ow D_law_caught hr (M.ak (M.pv 5) (M.ak (M.pv 11) M.aa))) M.aa)) (M.eE (M.qC hr) (by rfl) T.repr (by decide +kernel) (M.ak (M.pv 12) M.aa)) (aQ _)) (M.pw_or1 (M.aA (M.JD hr) (M.eE (M.qC hr) (by rfl) T.repr (by decide +kernel) (M.ak (M.gG (M.pv 5) T.cl rG (hr.mono (by decide))) M.aa)) (M.pv 6) (aQ _)))))
     (M.aq (M.aS M.gk))
     M.aJ)))))
   (M.ah (M.aR (M.bh (M.pv 5) T.cl D_take_knot (hr.mono (by decide)) (M.ak (M.aF M.aT (M.pv 7) M.aj (fun _ _=>rfl)) M.aa)))
   (M.ah (M.bC (M.aA (M.JD hr) (M.ow D_law_caught hr (M.ak (M.pv 5) (M.ak (M.aD (M.ak M.ao (M.ak (M.aF M.aT (M.pv 7) M.aj (fun _ _=>rfl)) M.aa))) M.aa))) (M.aD (M.ak M.ao (M.ak (M.aF M.aT (M.pv 7) M.aj (fun _ _=>rfl)) M.aa))) (aQ _))
    (M.aq (M.aS M.gk))
    M.aJ)
   (M.ah (M.aR (M.bh (M.pv 5) T.cl D_put_knot (hr.mono (by decide)) (M.ak (M.aF M.aT (M.pv 7) M.aj (fun _ _=>rfl)) (M.ak (M.bI M.aa) M.aa))))
   (M.aq (M.aS (M.vo (M.jE (M.dW hr) (M.bh (M.pv 5) T.cl fq (hr.mono (by decide)) (M.ak (M.aF M.aT (M.pv 7) M.aj (fun _ _=>rfl)) M.aa)) (M.bI M.aa) (aQ _)) (M.vn (M.jE (M.dW hr) (M.bh (M.pv 5) T.cl fm (hr.mono (by decide)) (M.ak (M.aF M.aT (M.pv 7) M.aj (fun _ _=>rfl)) M.aa)) (M.bI M.aa) (aQ _)))))))))))))))))))),fun ds S Q h => ?_⟩
  obtain ⟨ns,rfl,rfl,q⟩:=h
  have e0:aM D4 [.lE ns]=[some (.lE ns),none,none,none,none,none,none,none,none,none,none,none,none]:=rfl
  rw [e0]
  refine bR fun N1 h1 => ?_
  push_cast [true_and]
  refine ⟨ns,0,rfl,by lia,fun z=>⟨z,rfl,h1 _ _ ?_⟩⟩
  clear h1
  refine bR fun N2 h2 => ?_
  push_cast [true_and]
  refine ⟨0,8,0,rfl,rfl,by decide,by decide,fun NM n1 lM nM ndM hn1=>h2 _ _ ?_⟩
  clear h2
  refine bR fun N3 h3 => ?_
  push_cast [true_and]
  refine ⟨0,8,n1,rfl,rfl,by lia,by decide,fun NA n2 lA nA ndA hn2 => ?_⟩
  refine ⟨0,3,n2,rfl,rfl,by lia,by decide,fun NB n3 lB nB ndB hn3 => ?_⟩
  have e5:M.cutD (NM.map D.str) none (some 5)=(NM.take 5).map D.str:=by rw [qS];exact congrArg _ (qR (k:=5) (by lia))
  dsimp only
  rw [qg,e5]
  refine ⟨ySz 4,h3 _ _ ?_⟩
  clear h3
  refine bR fun N4 h4 => ?_
  push_cast [true_and]
  have hN:rE NA NB NM (.lst [.lst (NA.map D.str),.lst (NB.map D.str),.lst ((NM.take 5).map D.str),.lst (NM.map D.str)]):=⟨rfl,lA,lB,lM,ndA,ndM,nA,nB,nM⟩
  refine ⟨0,n3,NA,NB,NM,_,rfl,hN,rfl,by lia,fun ks ts n4 hR hk1 hk8 ht23 _ hn4=>h4 _ _ ?_⟩
  clear h4
  refine bR fun N5 h5 => ?_
  have eS:((((List.set ([]++[some (MO.feed 0)]) 0 (some (MO.feed n1))).set 0 (some (MO.feed n2))).set 0 (some (MO.feed n3))).set 0 (some (MO.feed n4)))=[some (MO.feed n4)]:=rfl
  rw [eS]
  clear eS
  generalize hXN:D.lst [.lst (NA.map D.str),.lst (NB.map D.str),.lst ((NM.take 5).map D.str),.lst (NM.map D.str)]=XN at hN ⊢
  have go:∀ (ks:List Kn) (ts:List Ti) (n5:Nat),RO ks ts→1≤ks.length→ks.length≤40→ts.length≤300→(∃ y∈xj,y ∉ nms ks)→N5 [some (.lE ns),some (.loc 0),some (.lst (NM.map D.str)),some XN,some (bN ks ts),none,none,none,none,none,none,none,none] [some (.feed n5)]:=fun ks ts n5 hR hk1 hk40 ht300 hy=>h5 _ _ (by
   clear h5
   refine bR fun N6 h6 => ?_
   push_cast [true_and]
   refine ⟨ks,ts,rfl,hR,hk40,ht300,fun S1 own X1 w1=>h6 _ _ ?_⟩
   clear h6
   refine bR fun N7 h7 => ?_
   push_cast [true_and]
   obtain ⟨o1,ho1⟩:=X1.obj
   refine br rfl ho1 (by decide +kernel) ⟨_,own,ks,ts,rfl,X1,fun _ _ _ => ?_⟩
   have hS:=hR.NH
   show yD [r9 ks ts] S1 _
   rw [r6]
   refine qv hS.tq (by decide) (by decide) (h7 _ _ ?_)
   clear h7
   have X1:bD C w S1 1 own ks ts:=X1
   have ho1:S1[1]? = some (some (MO.ins C K03.fl o1)):=ho1
   rw [show [some (MO.feed n5)].length=1 from rfl]
   have ln:(nms ks).length=ks.length:=by unfold nms;rw [zbN]
   have nmk:∀ y∈nms ks,Nm y:=fun y hy=>by
    obtain ⟨k,hk,rfl⟩:=zcq.mp hy
    exact (hR.nm k hk).1
   refine bR fun N8 h8 => ?_
   push_cast [true_and]
   refine jP (kH ⟨_,rfl,.lst (ks.map fU),rfl,?_⟩)
   show c9 (fun _=>True) _ kJ (eT 0) (ks.map fU) [] [none,none] S1 _
   refine nQ fU (fun k=>.str k.1) (fun k=>.lst (k.2.map D.str)) (fun k=>.str k.1) (fun k=>rfl) [] ks [] none none (fun k hk Q' q'=>⟨_,rfl,q'⟩) ?_ ?_
   ·rw [yag];simp;lia
   rw [zbU,show (ks.map fun k=>D.str k.1)=(nms ks).map D.str from by unfold nms;rw [zcp];rfl]
   refine h8 _ _ ?_
   clear h8
   refine bR fun N9 h9 => ?_
   push_cast [true_and]
   refine ⟨ySz 9,h9 _ _ ?_⟩
   clear h9
   refine bR fun N10 h10 => ?_
   push_cast [true_and]
   refine jP (kH ⟨_,rfl,?_⟩)
   show c9 (fun _=>True) _ _ (eT 0) (xj.map D.str) [] [none,some (.lst ((nms ks).map D.str))] S1 _
   refine iG D.str (fun y => !decide (y∈nms ks)) D.str trivial xj [] _ rfl (fun y hy Q' q'=>⟨_,rfl,_,rfl,?_⟩) (fun y hy Q' q'=>⟨_,rfl,q'⟩) (by decide) ?_
   ·refine xZ gA (dO (Bd y hy)) (fun m hm=>dO (nmk m hm)) ⟨_,rfl,?_⟩
    simpa using q'
   rw [zbU]
   obtain ⟨z',r',hzr⟩:∃ z' r',xj.filter (fun y => !decide (y∈nms ks))=z'::r':=by
    obtain ⟨y,y1,y2⟩:=hy
    have:y∈xj.filter (fun y => !decide (y∈nms ks)):=zbL.mpr ⟨y1,by simp [y2]⟩
    cases hh:xj.filter (fun y => !decide (y∈nms ks)) with
    | nil=>rw [hh] at this;simp at this
    | cons a l=>exact ⟨a,l,rfl⟩
   rw [hzr]
   have hz':z'∈xj.filter (fun y => !decide (y∈nms ks)):=by rw [hzr];simp
   have hz1:=(zbL.mp hz').1
   have hz2:z' ∉ nms ks:=by simpa using (zbL.mp hz').2
   clear hz' hzr hy
   refine ⟨.str z',(show jT (D.str z'::r'.map D.str) ((0:Nat):Int)=some (.str z') from cG rfl),h10 _ _ ?_⟩
   clear h10
   refine bR fun N11 h11 => ?_
   push_cast [oN,qL]
   refine ⟨ns.length,rfl,20,ns.length,rfl,?_⟩
   obtain ⟨mm,em,hm⟩:∃ m:Nat,(6:Int)+(if (ns.length:Int)<20 then (ns.length:Int) else 20)=(m:Int)∧m≤26:=by
    by_cases h:(ns.length:Int)<20
    ·exact ⟨6+ns.length,by rw [yIp h];lia,by lia⟩
    ·exact ⟨26,by rw [yIn h];rfl,by lia⟩
   refine ⟨(mm:Int),congrArg D.int em,by lia,by lia,dY (LO ns (.lst (NM.map D.str)) XN (bN ks ts) 1 (py (mw (oB ks) (l9 ts))).shown ks z' S1) ?_ ?_ _ _ _ ⟨[],_,none,none,none,?_,rfl,(zbO _).symm⟩⟩
   ·rintro δ S' ⟨Y,v1,v10,v11,v12,_,rfl,rfl⟩
    refine ⟨trivial,h11 _ _ ?_⟩
    clear h11
    obtain ⟨x0,hx0,x7⟩:∃ x0,x0∈nms ks∧∀ {S:aG}{Q:AK},Q (.dat (.str x0)) S→oq (.lst ((nms ks).map D.str)) (.int 0) S Q:=by
     cases ks with
     | nil=>simp at hk1
     | cons a l=>exact ⟨a.1,by simp [nms],fun {S Q} q'=>⟨.str a.1,(show jT (D.str a.1::(nms l).map D.str) ((0:Nat):Int)=some (.str a.1) from cG rfl),q'⟩⟩
    have okx:=dO (nmk x0 hx0)
    have X2:bD C w (S1++Y) 1 own ks ts:=X1.app
    obtain ⟨o2,ho2⟩:=X2.obj
    have gone:x0 ∉ nms (sW ks x0):=fun h=>by
     obtain ⟨k,hk,e⟩:=zcq.mp h
     exact of_decide_eq_true (zbL.mp hk).2 e
    have Ox:(sW ks x0).length<40:=by
     obtain ⟨k,hk,e⟩:=zcq.mp hx0
     have:=(List.length_filter_lt_length_iff_exists (p:=fun k:Kn=>decide (k.1≠x0))).mpr ⟨k,hk,by simp [e]⟩
     unfold sW
     lia
    push_cast [true_and]
    refine br rfl ho2 (by decide +kernel) ?_
    push_cast [true_and]
    refine x7 ⟨1,own,ks,ts,x0,rfl,X2,hx0,fun S2 own2 X4 f2 => ?_⟩
    obtain ⟨o4,ho4⟩:=X4.obj
    refine x7 ⟨ySz 2,1,_,own2,_,_,0,.str x0,rfl,X4,.inr (.inl ⟨_,x0,[],rfl,.inr (.inl rfl),gone,rfl,rfl⟩),x7 ⟨ySz 2,?_⟩⟩
    show KA (.tup [.str "knot",.str x0]) (.tup [.str "knot",.str x0]) S2 _
    refine JG (lY (n:=1) (by simp only [om,zbH];exact ⟨by simp,by simp [om,okx];decide +kernel⟩) (by decide)) (by simp [py,eW,PyData.eqv,PyData.eqvAll]) ⟨_,rfl,ny ?_⟩
    refine br rfl ho4 (by decide +kernel) ?_
    push_cast [true_and]
    refine x7 ⟨zcF _,1,x0,.lst [],[],own2,_,_,rfl,.inl rfl,X4,gone,Ox,by decide,.nil,okx,by simp,fun S3 own3 X5 f3 => ?_⟩
    obtain ⟨o5,ho5⟩:=X5.obj
    refine br rfl ho5 (by decide +kernel) ?_
    push_cast [true_and]
    refine x7 ⟨1,own3,_,_,(x0,[]),rfl,X5,by simp,fun pm => ?_⟩
    have es:jn []=[]:=pm.eq_nil
    refine ⟨zcF _,?_⟩
    show Aa (.lst ((jn []).map D.str)) (.lst []) S3 _
    rw [es]
    refine eq_nil ⟨_,rfl,?_⟩
    rw [yIp rfl]
    refine br rfl ho5 (by decide +kernel) ?_
    push_cast [true_and]
    refine x7 ⟨1,own3,_,_,x0,rfl,X5,by simp [nms],fun us u1 u2 u3 u4 => ?_⟩
    have eu:us=[]:=List.eq_nil_iff_forall_not_mem.mpr fun j hj=>by
     rcases (u2 j).mp hj with ⟨_,h⟩ | ⟨_,h⟩
     ·have:=(zbL.mp h).2
      simp at this
     ·have:=(zbL.mp h).2
      simp at this
    subst eu
    exact ⟨zcF _,eq_nil (q _)⟩
   ·clear h11
    rintro x xs δ S' N ⟨Y,v1,v10,v11,v12,hx,rfl,rfl⟩ hN'
    obtain ⟨k,rfl,hk⟩:=hx x (by simp)
    have hxs:∀ e∈xs,∃ k:Nat,e = .int k∧k<100:=fun e he=>hx e (by simp [he])
    refine ⟨trivial,?_⟩
    refine bR fun M1 g1 => ?_
    push_cast [true_and]
    refine ⟨ns,1+k,by simp,by lia,fun z=>⟨z,rfl,g1 _ _ ?_⟩⟩
    clear g1
    generalize hL:(S1++Y).length=L
    have X2:bD C w (S1++Y) 1 own ks ts:=X1.app
    have hp2:∀ n,(S1++Y++[some (MO.feed n)])[L]? = some (some (.feed n)):=fun n=>by rw [← hL];exact dD
    have sn:∀ a b,(S1++Y++[some (MO.feed a)]).set L (some (.feed b))=S1++Y++[some (.feed b)]:=fun a b=>by rw [← hL];exact qh
    refine bR fun M2 g2 => ?_
    have both:A0 [.loc L,bN ks ts,XN,.str z'] (S1++Y++[some (.feed (0+1))]) fun r S'=>yz 2 (kI (bP 11) (kI (bP 12) yC)) r.d [some (.lE ns),some (.loc L),some (.lst (NM.map D.str)),some XN,some (bN ks ts),some (.loc 1),some (.str (py (mw (oB ks) (l9 ts))).shown),some (.lst ((nms ks).map D.str)),some (.lst (xj.map D.str)),some (.str z'),some (.int (k:Int)),v11,v12] S' M2:=by
     refine ⟨L,0+1,NA,NB,NM,XN,ks,ts,z',rfl,hN,hR,hk1,Bd z' hz1,hz2,hp2 _,by decide,fun dd j d n7 h1 h2 _ h7=>⟨_,rfl,rfl,_,_,rfl,_,_,rfl,rfl,g2 _ _ ?_⟩⟩
     rw [sn]
     have X3:=X2.app (Y:=[some (MO.feed n7)])
     obtain ⟨o3,ho3⟩:=X3.obj
     push_cast [true_and]
     refine ⟨1,dd,own,ks,ts,j,d,rfl,X3,h1,?_⟩
     have hq:=J1 h1.num.1 h2
     refine qv hq (by decide) (by decide) (qv hq (by decide) (by decide) (xS ⟨_,rfl,ny ?_⟩))
     refine br rfl ho3 (by decide +kernel) ⟨1,own,ks,ts,rfl,X3,fun _ _ _ => ?_⟩
     show yD [r9 ks ts] _ _
     rw [r6]
     exact qv hS.tq (by decide) (by decide) (xS ⟨_,rfl,ny (hN' _ _ ⟨Y++[_],_,_,_,_,hxs,rfl,zbl _ _ _⟩)⟩)
    clear g2
    push_cast [true_and]
    refine bq (hp2 0) (by decide) (by decide) (by decide) fun z3 hz3 => ?_
    rw [sn]
    refine ⟨_,rfl,?_⟩
    exact vJ (fun _=>both) fun _=>both
   ·intro e he
    simp only [cA,zcq,zbZ] at he
    obtain ⟨a,ha,rfl⟩:=he
    exact ⟨a,by simp,by lia⟩)
  push_cast [true_and]
  refine bq rfl (by lia) (by decide) (by decide) fun z2 hz2 => ?_
  have lk0:ks.length≤40:=by lia
  have str1:∃ y∈xj,y ∉ nms ks:=by
   refine Classical.byContradiction fun h => ?_
   have h:∀ y∈xj,y∈nms ks:=fun y hy=>Classical.byContradiction fun z=>h ⟨y,hy,z⟩
   have:=L2.iz (by decide +kernel) h
   unfold nms at this
   rw [zbN] at this
   have:xj.length=9:=rfl
   lia
  refine ⟨_,rfl,?_⟩
  refine vJ (fun _ => ?_) (fun _=>go ks ts _ hR hk1 lk0 (by lia) str1)
  have gR:=gRO ndB lB nB (ndM.sublist (zbj 5 _)) (by rw [zby,lM];rfl) fun y h=>nM y (zaH h)
  refine ⟨NA,NB,NM,_,rfl,hN,go _ _ _ gR (by unfold gK;rw [zbN,zbr];decide) (by unfold gK;rw [zbN,zbr];decide) (by unfold uF;rw [zbN,zbr];decide) ⟨"zq",by decide +kernel,by rw [vN];decide +kernel⟩⟩
def wY (K:yaM):Sp:=fun vs H Q _=>∃ (a:Addr) (ns:List Int),vs=[.ref a]∧dm K H a (ns.map V.int)∧ns.length≤63∧∀ H',Q (.bl true) H'
theorem Ie {f:Addr}{fd:yaq}{k:Nat} (h:bW P w K mg base iZ k f fd rg (bf K A7)):bW P w K mg base iZ k f fd rg (wY K):=h.imp fun vs H Q E z=>by
 obtain ⟨a,ns,rfl,hS,_,q⟩:=z
 refine ⟨⟨H,fun _=>none⟩,[.lE ns],[],fun r S=>r = .dat (.bl true),⟨cT.refl _,fun n o e=>by simp at e,fun n m o o' e=>by simp at e,fun _ _=>rfl⟩,?_,⟨ns,rfl,rfl,fun _=>rfl⟩,fun r S' v w' H' _ _ rep e => ?_⟩
 ·simp only [az,Rep];exact ⟨_,_,rfl,⟨a,rfl,hS⟩,rfl⟩
 ·subst e
  have:v = .bl true:=qw rep rfl
  subst this
  exact q H'
end
open PySem PySem.Spec L2 PyProof.Rows
noncomputable def nR (K:yaM) (C:Addr):Bool:=excIn K C&&zcb K (.ref C) "__getattribute__" == some (some (.builtin "BaseException.__getattribute__"))&&zcb K (.ref C) "__getattr__" == some none &&
 zcb K (.ref C) "__setattr__" == some (some (.builtin "object.__setattr__"))&&PySem.W.jL K C&&zck K (.ref C) (.type "BaseException")==some true &&
 zcb K (.ref C) "__class__" == some (some (.builtin "object.__class__"))&&zbv K (.builtin "object.__class__") "__get__" == some (some (.builtin "getset_descriptor.__get__")) &&
 PySem.W.takesIn K (.builtin "object.__class__")==some true&&PySem.W.mroIn K C (.type "object")==some true&&zcc K (.ref C)
theorem nR.is {K:yaM}{C:Addr} (h:nR K C=true):OZ K C∧zcc K (.ref C)=true:=by
 simp only [nR,zbH,beq_iff_eq] at h
 obtain ⟨⟨⟨⟨⟨⟨⟨⟨⟨⟨a,b⟩,c⟩,d⟩,e⟩,f⟩,g⟩,h⟩,i⟩,j⟩,k⟩:=h
 exact ⟨⟨⟨a,b,c,d,e,f⟩,g,h,i,j⟩,k⟩
noncomputable def je (l:List Addr) (i:Nat):Addr:=l.getD i 0
noncomputable def Cn (K:yaM) (l:List Addr) (CP:Addr):Bool:=((zcI 6).all fun i=>((zcI 14).all fun j=>zce K (.ref (je l i)) (.ref (je l j))==some (i==j))&&zce K (.ref (je l i)) (.type "ValueError")==some true&&nR K (je l i) &&
 zcb K (.ref (je l i)) (nH i)==some none&&zck K (.ref (je l i)) (.ref CP)==some true)&&excIn K CP&&zck K (.ref CP) (.type "BaseException")==some true
structure O2 (K:yaM) (l:List Addr) (CP:Addr) (i:Nat):Prop where
 k:∀ j,j<14→zce K (.ref (je l i)) (.ref (je l j))=some (i==j)
 v:zce K (.ref (je l i)) (.type "ValueError")=some true
 c:nR K (je l i)=true
 f:zcb K (.ref (je l i)) (nH i)=some none
 s:zck K (.ref (je l i)) (.ref CP)=some true
theorem Cn.at_ {K:yaM}{l:List Addr}{CP:Addr} (h:Cn K l CP=true):(∀ i,i<6→O2 K l CP i)∧excIn K CP=true∧zck K (.ref CP) (.type "BaseException")=some true:=by
 unfold Cn at h
 rw [zbH,zbH] at h
 refine ⟨fun i hi => ?_,h.1.2,eq_of_beq h.2⟩
 have a:=zbC.mp h.1.1 i (zbZ.mpr hi)
 simp only [zbH,beq_iff_eq] at a
 obtain ⟨⟨⟨⟨a,b⟩,c⟩,d⟩,e⟩:=a
 exact ⟨fun j hj=>beq_iff_eq.mp (zbC.mp a j (zbZ.mpr hj)),b,c,d,e⟩
theorem O2.src {K:yaM}{mg:Str→Option yaj}{l:List Addr}{CP:Addr}{i:Nat}{x q:Str}{ps:List Str}{st:Stmt} (h:O2 K l CP i) (S:M.dH K (je l i) "__init__" q ps st):Ac K mg x (je l i) q ps st:=by
 obtain ⟨f,fd,F,m,b⟩:=S.ex
 have c:=nR.is h.c
 exact ⟨⟨f,fd,⟨c.1.toXCls,m.at_,m.fn,c.2⟩,F,b⟩⟩
open PySem L2
theorem all_mk {l:PySem.W.OpenLaw}{w:yal}{K:yaM}{h:Heap}{mg:Str→Option yaj}{fa:Addr} (X:K.In h) (G:h.Ns yar mg) (hfa:mg "law" = some (.ref fa))
  {C:Addr}{X0:Addr}{X1:Addr}{X2:Addr}{X3:Addr}{X4:Addr}{X5:Addr}{X6:Addr}{X7:Addr}{X8:Addr}{X9:Addr}{X10:Addr}{X11:Addr}{X12:Addr}{X13:Addr}{CP:Addr}{t_K:Tok}{t_T:Tok}{t_M:Tok}
  (a_C:zcz K yar "Web" = some (some (.ref C)))
  (a_X0:zcz K yar "NoKnot" = some (some (.ref X0)))
  (a_X1:zcz K yar "NoMark" = some (some (.ref X1)))
  (a_X2:zcz K yar "NoName" = some (some (.ref X2)))
  (a_X3:zcz K yar "Twice" = some (some (.ref X3)))
  (a_X4:zcz K yar "TooMany" = some (some (.ref X4)))
  (a_X5:zcz K yar "NoTie" = some (some (.ref X5)))
  (a_X6:zcz K yar "NoMeet" = some (some (.ref X6)))
  (a_X7:zcz K yar "NoText" = some (some (.ref X7)))
  (a_X8:zcz K yar "NoLine" = some (some (.ref X8)))
  (a_X9:zcz K yar "NoWay" = some (some (.ref X9)))
  (a_X10:zcz K yar "TooLong" = some (some (.ref X10)))
  (a_X11:zcz K yar "GoesRound" = some (some (.ref X11)))
  (a_X12:zcz K yar "NoSuch" = some (some (.ref X12)))
  (a_X13:zcz K yar "NoPair" = some (some (.ref X13)))
  (a_CP:zcz K yar "PathError" = some (some (.ref CP)))
  (e_scCell:rK K "_law_cell_at" BC)
  (e_scFeed:rK K "_law_feed" By)
  (e_scNext:rK K "_law_next" Bv)
  (e_scNames:rK K "_law_names" u7)
  (e_scOwn:rK K "_law_own" Jd)
  (e_scRows:rK K "_law_rows" Bt)
  (e_scLWeb:rK K "_law_web" Bx)
  (e_scGreat:rK K "_law_great" vd)
  (e_scDone:rK K "_law_done" BA)
  (e_scCaught:rK K "_law_caught" qu)
  (e_scOT:rK K "_law_of_ties" NP)
  (e_scOK:rK K "_law_of_knots" NQ)
  (e_scLaw:rK K "law" u9)
  (e_scInit:k6 K C "__init__" "Web.__init__" rZ)
  (e_scPutK:k6 K C "put_knot" "Web.put_knot" xA)
  (e_scTakeK:k6 K C "take_knot" "Web.take_knot" ql)
  (e_scPutT:k6 K C "put_tie" "Web.put_tie" xy)
  (e_scTakeT:k6 K C "take_tie" "Web.take_tie" uZ)
  (e_scPutM:k6 K C "put_mark" "Web.put_mark" Bu)
  (e_scTakeM:k6 K C "take_mark" "Web.take_mark" u5)
  (e_scKnots:k6 K C "knots" "Web.knots" vc)
  (e_scMarks:k6 K C "marks" "Web.marks" qt)
  (e_scHas:k6 K C "has_tie" "Web.has_tie" Jf)
  (e_scSteps:k6 K C "steps" "Web.steps" qm)
  (e_scWRows:k6 K C "rows" "Web.rows" uX)
  (e_scNeed:k6 K C "need_knot" "Web.need_knot" rY)
  (e_scLayK:k6 K C "lay_knot" "Web.lay_knot" Bw)
  (e_scLayT:k6 K C "lay_tie" "Web.lay_tie" xB)
  (e_scDrop:k6 K C "drop_tie" "Web.drop_tie" xD)
  (e_scNoKnot:k6 K X0 "__init__" "NoKnot.__init__" qp)
  (e_scNoMark:k6 K X1 "__init__" "NoMark.__init__" qo)
  (e_scTwice:k6 K X3 "__init__" "Twice.__init__" uY)
  (e_scTooMany:k6 K X4 "__init__" "TooMany.__init__" mq)
  (e_scNoTie:k6 K X5 "__init__" "NoTie.__init__" u6)
  (z_len:zcz K yar "len" = some none)
  (z_isinstance:zcz K yar "isinstance" = some none)
  (z_str:zcz K yar "str" = some none)
  (z_bool:zcz K yar "bool" = some none)
  (z_int:zcz K yar "int" = some none)
  (z_tuple:zcz K yar "tuple" = some none)
  (z_list:zcz K yar "list" = some none)
  (z_dict:zcz K yar "dict" = some none)
  (z_all:zcz K yar "all" = some none)
  (z_max:zcz K yar "max" = some none)
  (z_min:zcz K yar "min" = some none)
  (z_repr:zcz K yar "repr" = some none)
  (z_range:zcz K yar "range" = some none)
  (z_reversed:zcz K yar "reversed" = some none)
  (z_sorted:zcz K yar "sorted" = some none)
  (z_ValueError:zcz K yar "ValueError" = some none)
  (m_K:zcz K yar "MOST_KNOTS" = some (some (.int 40 t_K)))
  (m_T:zcz K yar "MOST_TIES" = some (some (.int 300 t_T)))
  (m_M:zcz K yar "MOST_MARKS" = some (some (.int 5 t_M)))
  (x_pg:zbI K C Str.empty=true)
  (x_hd:zbt K C=true)
  (x_po:PySem.W.plainOver K C=true)
  (x_sa:zcb K (.ref C) "__setattr__" = some (some (.builtin "object.__setattr__")))
  (x_marked:zcb K (.ref C) "marked" = some none)
  (x_tied:zcb K (.ref C) "tied" = some none)
  (x_near:zcb K (.ref C) "near" = some none)
  (x_mk:PySem.W.makesIn K C=true)
  (x_kp:zcc K (.ref C)=true)
  (rP:PySem.W.readsIn K CP (.type "type")=true)
  (fP:PySem.W.findCls K (.ref CP) (.type "type") "__init__" = some (.val (.builtin "ValueError.__init__")))
  (aP:zbv K (.ref CP) "__getattribute__" = some (some (.builtin "type.__getattribute__")))
  (kB:Cn K [X0,X1,X2,X3,X4,X5,X6,X7,X8,X9,X10,X11,X12,X13] CP=true) :
  ∃ fd:yaq,(∀ (s:yai) (v:yaj),yaD s fd ⟨[v],[]⟩ [("_law_script",v)])∧∀ base:Heap,K.In base→base.Ns yar mg→bW l.prog w K mg base iZ 7 fa fd ["_law_script"] (wY K):=by
 have DW:=e_scCell.src (ps:=gj) X G fun _ _ _ _ _ _=>J.vX (fun _ _=>rfl)
 have DT:=e_scFeed.src (ps:=gi) X G fun _ _ _ _ _ _=>J.Gp (fun _=>rfl)
 have DP:=e_scNext.src (ps:=dg) X G fun _ _ _ _ _ _=>J.vX (fun _ _=>rfl)
 have Ai:=e_scNames.src (ps:=g8) X G fun _ _ _ _ _ _=>J.vX (fun _ _=>rfl)
 have GC:=e_scOwn.src (ps:=nY) X G fun _ _ _ _ _ _=>J.Gp (fun _=>rfl)
 have DN:=e_scRows.src (ps:=jW) X G fun _ _ _ _ _ _=>J.La (fun _ _ _=>rfl)
 have DS:=e_scLWeb.src (ps:=j0) X G fun _ _ _ _ _ _=>J.Gp (fun _=>rfl)
 have Ak:=e_scGreat.src (ps:=ic) X G fun _ _ _ _ _ _=>J.Gp (fun _=>rfl)
 have DV:=e_scDone.src (ps:=j7) X G fun _ _ _ _ _ _=>J.vX (fun _ _=>rfl)
 have wk:=e_scCaught.src (ps:=fS) X G fun _ _ _ _ _ _=>J.vX (fun _ _=>rfl)
 have KO:=e_scOT.src (ps:=t9) X G fun _ _ _ _ _ _=>J.by4 (fun _ _ _ _=>rfl)
 have KP:=e_scOK.src (ps:=ud) X G fun _ _ _ _ _ _=>J.by4 (fun _ _ _ _=>rfl)
 have MM:=e_scInit.src (ps:=iI) fun _ _ _ _ _ _=>J.Gp (fun _=>rfl)
 have t7:=e_scPutK.src (ps:=d9) fun _ _ _ _ _ _=>J.La (fun _ _ _=>rfl)
 have pX:=e_scTakeK.src (ps:=dJ) fun _ _ _ _ _ _=>J.vX (fun _ _=>rfl)
 have t6:=e_scPutT.src (ps:=fj) fun _ _ _ _ _ _=>J.by4 (fun _ _ _ _=>rfl)
 have Af:=e_scTakeT.src (ps:=gY) fun _ _ _ _ _ _=>J.by4 (fun _ _ _ _=>rfl)
 have DO:=e_scPutM.src (ps:=jX) fun _ _ _ _ _ _=>J.La (fun _ _ _=>rfl)
 have Ag:=e_scTakeM.src (ps:=gZ) fun _ _ _ _ _ _=>J.La (fun _ _ _=>rfl)
 have Aj:=e_scKnots.src (ps:=g9) fun _ _ _ _ _ _=>J.Gp (fun _=>rfl)
 have pZ:=e_scMarks.src (ps:=di) fun _ _ _ _ _ _=>J.vX (fun _ _=>rfl)
 have GD:=e_scHas.src (ps:=ji) fun _ _ _ _ _ _=>J.by4 (fun _ _ _ _=>rfl)
 have pY:=e_scSteps.src (ps:=dc) fun _ _ _ _ _ _=>J.vX (fun _ _=>rfl)
 have Ad:=e_scWRows.src (ps:=gX) fun _ _ _ _ _ _=>J.Gp (fun _=>rfl)
 have t8:=e_scNeed.src (ps:=dh) fun _ _ _ _ _ _=>J.vX (fun _ _=>rfl)
 have DR:=e_scLayK.src (ps:=jZ) fun _ _ _ _ _ _=>J.La (fun _ _ _=>rfl)
 have DQ:=e_scLayT.src (ps:=jY) fun _ _ _ _ _ _=>J.by4 (fun _ _ _ _=>rfl)
 have DU:=e_scDrop.src (ps:=j6) fun _ _ _ _ _ _=>J.by4 (fun _ _ _ _=>rfl)
 have wj:=e_scNoKnot.src (ps:=fR) fun _ _ _ _ _ _=>J.vX (fun _ _=>rfl)
 have wg:=e_scNoMark.src (ps:=fQ) fun _ _ _ _ _ _=>J.vX (fun _ _=>rfl)
 have Ae:=e_scTwice.src (ps:=eL) fun _ _ _ _ _ _=>J.vX (fun _ _=>rfl)
 have tZ:=e_scTooMany.src (ps:=cU) fun _ _ _ _ _ _=>J.vX (fun _ _=>rfl)
 have Ah:=e_scNoTie.src (ps:=g7) fun _ _ _ _ _ _=>J.vX (fun _ _=>rfl)
 obtain ⟨f_scLaw,oc_scLaw,od_scLaw,kV_scLaw,dc_scLaw,pm_scLaw,an_scLaw,cd_scLaw,ct_scLaw,sl_scLaw,a_scLaw,l_scLaw,c_scLaw,k_scLaw⟩:=e_scLaw.ex
 obtain ⟨f_scInit,oc_scInit,od_scInit,kV_scInit,dc_scInit,pm_scInit,an_scInit,cd_scInit,ct_scInit,sl_scInit,a_scInit,l_scInit,c_scInit,k_scInit,i_scInit⟩:=e_scInit.ex
 have e:=hfa.symm.trans (zcl X G a_scLaw)
 cases e
 have F:=jc (st:=u9) l_scLaw c_scLaw k_scLaw
 obtain ⟨qk,q6,q7⟩:=Cn.at_ kB
 have T:Txt K mg (je [X0,X1,X2,X3,X4,X5,X6,X7,X8,X9,X10,X11,X12,X13]) CP C f_scInit:=⟨zbe X G z_len,zbe X G z_isinstance,zbe X G z_str,zbe X G z_bool,zbe X G z_int,zbe X G z_tuple,zbe X G z_list,zbe X G z_dict,zbe X G z_all,zbe X G z_max,zbe X G z_min,zbe X G z_repr,zbe X G z_range,zbe X G z_reversed,zbe X G z_sorted,zbe X G z_ValueError,⟨_,zcl X G m_K⟩,⟨_,zcl X G m_T⟩,⟨_,zcl X G m_M⟩,zcl X G a_C,⟨x_pg,x_hd,x_po,x_sa⟩,⟨x_mk,a_scInit,i_scInit,x_kp⟩,x_marked,x_tied,x_near,zcl X G a_CP,⟨rP,fP,aP⟩,q6,q7,zcl X G a_X0,zcl X G a_X1,zcl X G a_X2,zcl X G a_X3,zcl X G a_X4,zcl X G a_X5,zcl X G a_X6,zcl X G a_X7,zcl X G a_X8,zcl X G a_X9,zcl X G a_X10,zcl X G a_X11,zcl X G a_X12,zcl X G a_X13,fun i hi=>(nR.is (qk i hi).c).1,fun i j hi=>(qk i hi).k j,fun i hi=>(qk i hi).v,fun i hi=>(qk i hi).s,fun i hi=>(qk i hi).f⟩
 refine ⟨zcy "law" "law" (cF u9) (aV u9) (ai u9) .none kV_scLaw dc_scLaw pm_scLaw an_scLaw cd_scLaw ct_scLaw,fun s v=>.of_eq rfl,fun base _ _ => ?_⟩
 have K2:=J8 (P:=l.prog) (w:=w) (base:=base) T DP
 have NX:=Ku K2
 have oj:=CZ (P:=l.prog) (w:=w) (base:=base) T ((qk 0 (by decide)).src wj)
 have oi:=CY (P:=l.prog) (w:=w) (base:=base) T ((qk 1 (by decide)).src wg)
 have ef:=F6 (P:=l.prog) (w:=w) (base:=base) T ((qk 3 (by decide)).src Ae)
 have cH:=zS (P:=l.prog) (w:=w) (base:=base) T ((qk 4 (by decide)).src tZ)
 have rJ:=Gd (P:=l.prog) (w:=w) (base:=base) T ((qk 5 (by decide)).src Ah)
 have bV:=J9 (P:=l.prog) (w:=w) (base:=base) T t8
 have wD:=Ge T t8 oj
 have D9:=Mq (P:=l.prog) (w:=w) (base:=base) T GD
 have rH:=Gg (P:=l.prog) (w:=w) (base:=base) T Aj
 have fq:=Gf T pZ bV
 have fm:=F8 T pY bV
 have rG:=F5 T Ad rH fq
 have K0:=Kg (P:=l.prog) (w:=w) (base:=base) T (jc (st:=rZ) l_scInit c_scInit k_scInit)
 have K6:=(jc (st:=rZ) l_scInit c_scInit k_scInit).binds (ps:=iI) fun _ _ _ _ _ _=>J.Gp (fun _=>rfl)
 have K4:=Kd (P:=l.prog) (w:=w) (base:=base) T DR
 have K3:=Ka (P:=l.prog) (w:=w) (base:=base) T DQ
 have K5:=Kl (P:=l.prog) (w:=w) (base:=base) T DU
 have K1:=J6 T t6 bV D9 K3
 have D8:=J7 T t7 K4
 have GV:=F7 T pX bV fm K5
 have MT:=Kf T DS K0 K6 D8 K1
 have wF:=Km T DV (Gb T t7 ef cH) (CV T pX wD) (C2 T pZ wD) (CW T pY wD) (Ga T DO wD ef cH) (CU T Ag wD oi) (F9 T t6 wD D9 ef cH) (CT T Af wD D9 rJ)
 have Ea:=C3 T wk wF (Mp T GC)
 exact Ie (Ke T F (Kw (Ko T DW)) (Kv (Kh T DT)) NX (C1 T Ai NX) (J5 T DN NX) MT rG fq fm GV D8 (Gh T Ak) (OM T KO NX) (ON T KP NX) Ea)
theorem walk {l:PySem.W.OpenLaw}{q:yak}{loose:List Str}{XP:(Str→Option yaj)→Heap→Prop}{YP:yal→Heap→Prop}{d:DefRec}{K:Params→yaM} (hn:l.most=some 63) (hdf:d.params.defaults=[])
  (hY:∀ (w:yal) (h:Heap),YP w h→(K w.params).In h)
  (F:∀ (w:yal) (mg:Str→Option yaj) (fa:Addr) (h:Heap),(K w.params).In h→h.Ns yar mg→mg d.name=some (.ref fa) →
   ∃ fd:yaq,(∀ (s:yai) (u:yaj),yaD s fd ⟨[u],[]⟩ [("_law_script",u)])∧∀ base:Heap,(K w.params).In base→base.Ns yar mg→bW l.prog w (K w.params) mg base iZ 7 fa fd ["_law_script"] (wY (K w.params))) :
  PySem.W.WalkO q loose XP YP l.row.toRowW d [] (fun f vs=>PySem.call f vs) :=
 L2.En (n:=63) (k:=7) (x := "_law_script") (CX:=fun _=>iZ) (sp:=fun w=>wY (K w.params)) hn (by decide) hdf ⟨rfl,by decide,by decide,rfl⟩ hY F (fun _ _ a ns hl _ hS=>⟨a,ns,rfl,hS,hl,fun _=>rfl⟩) fun _ _ _ _ _ z=>z
end K03
open PySem PySem.W PyProof.Rows
namespace PySem.Challenge.cw_pathask_k03_a_web_refuses_holds
def tw9961909031582949162:=0
def tw476641822143830432:=0
def tw17173709463689789449:=0
def tw13495610617978649770:=0
def tw5207983233693318391:=0
def tw16085439131108312928:=0
def tw4774725113806115649:=0
def tw6591368162729600070:=0
def tw16374716514667235551:=0
def tw5891159978984345727:=0
def tw2783933953421354789:=0
def tw1115162281397718786:=0
def tw17954773731017754418:=0
def tw1369639957694638480:=0
def tw12483327317369671449:=0
def tw9262717426796230610:=0
def tw8199691516909429692:=0
def tw13615153681058353773:=0
def tw11646188730637624822:=0
def tw2561679731717333726:=0
def tw7497191347726248880:=0
def tw4118555592013570292:=0
def tw17838575756057967959:=0
def tw14043261613827104468:=0
def tw17876056122811530197:=0
def tw7391521489888200653:=0
def tw12420704244622777668:=0
def tw349248306659625248:=0
def tw17355791396976036602:=0
def tw7689988016344363768:=0
def tw9549429064977275357:=0
def tw9485606249485637375:=0
def tw7394898603352419327:=0
def tw17265223322785231037:=0
def tw9638957919694159705:=0
def tw15010639284038524403:=0
def tw15423811850173533261:=0
def tw5137299203633626674:=0
def tw5067877532831519084:=0
def tw5000042338213390120:=0
def tw854561827200825186:=0
def tw7866234145828567383:=0
def tw1105459408661253972:=0
def tw13752409022588343061:=0
def tw12826273646430638207:=0
def tw2048571702289975790:=0
def tw9156088501657805488:=0
def tw3607188809667156532:=0
def tw9937583516647072710:=0
def tw8757090767923165934:=0
def tw14275890499857159047:=0
def tw15478269312081294222:=0
def tw521308814209288307:=0
def tw8739771948422019816:=0
def tw16877244350368234886:=0
def tw14781917646525710123:=0
def tw10696757874163232690:=0
def tw4091460134222142539:=0
def tw11884855854978422561:=0
def tw13048189486218952207:=0
def tw15029861471957624703:=0
def tw14652636541659074344:=0
def tw13830404963299940324:=0
def tw3928995934437160256:=0
def tw6758558280560215938:=0
def tw15075390286623212478:=0
def tw17245146019280442023:=0
def tw8691405187812561163:=0
def tw2703478757985033336:=0
def tw1612425956375674952:=0
def tw79148728884112161:=0
def tw9547266615891952100:=0
def tw16403529668628639462:=0
def tw1186789636529038631:=0
def tw14843563814816992086:=0
def tw10405450588334510851:=0
def tw10409334039665786233:=0
def tw7731576250213818297:=0
def tw1320751544085722774:=0
def tw17533285202922661582:=0
def tw5785262092093197811:=0
def tw8442443023091967292:=0
def tw4592782570871035721:=0
def tw7305160405468763410:=0
def tw14195271014952361816:=0
def tw15127337264762119275:=0
def tw18033119415471010808:=0
def tw17047297358031356481:=0
def tw12781252908657766891:=0
def tw10898838336679149217:=0
def tw10175282402154405373:=0
def tw4021414041174244011:=0
def tw4144454984790439233:=0
def tw3952521743716302346:=0
def tw1245900597847578454:=0
def tw5887015114343697221:=0
def tw4935840254533244480:=0
def tw2952279371184850549:=0
def tw202603337116670515:=0
def tw5580482242999976868:=0
def tw3699811128311563601:=0
def tw13406283799886283127:=0
def tw13226185477243217627:=0
def tw5181470781854844492:=0
def tw18141969716050098122:=0
def tw13074092341672847057:=0
def tw11931653055069111039:=0
def tw12145862119859154809:=0
def tw1794021202099218454:=0
def tw751893706975384857:=0
def tw15604677805433773666:=0
def tw14005984691132810952:=0
def tw17712884688679866375:=0
def tw8640944632525505425:=0
def tw12458531545289135635:=0
def tw3582628251694976249:=0
def tw4813668241660800030:=0
def tw4962534583140807747:=0
def tw18353611710473023305:=0
def tw17688771128491049366:=0
def tw14608204508201951643:=0
def tw15633762393524666283:=0
def tw14478602360324750648:=0
def tw1679748844306343972:=0
def tw9338398745248691544:=0
def tw3371145351362186055:=0
def tw12554032031138910186:=0
def tw5086154679675003498:=0
def tw14043569697349734032:=0
def tw14920619579240279791:=0
def tw6169031913178001458:=0
def tw2909944502093491322:=0
def tw1030432172450083033:=0
def tw14262935338167509231:=0
def tw4773409294847650186:=0
def tw5275972142766259457:=0
def tw12842910593372404537:=0
def tw1587520745547725774:=0
def tw13447355242594640627:=0
def tw7802077518490860860:=0
def tw1963560466708472329:=0
def tw14243356794046176051:=0
def tw17872718648951639250:=0
def tw18407011069508527147:=0
def tw7013303724268753890:=0
def tw8071605376005425947:=0
def tw1271220486565892075:=0
def tw9810175350304250462:=0
def tw3574442690934351294:=0
def tw2972656284411505791:=0
def tw9560811622758268641:=0
def tw14266995407743713052:=0
def tw5923844249233440045:=0
def tw14192248762033388483:=0
def tw372021620631553865:=0
def tw5707128447244434989:=0
def tw16850844775262741865:=0
def tw7961723260583302090:=0
def tw5811004782763144815:=0
def tw2241855529655676362:=0
def tw6826581948365812802:=0
def tw12638878851563673637:=0
def tw2539272593007247823:=0
def tw4042270677812494548:=0
def tw2401807178549473498:=0
def tw12973604551652496829:=0
def tw17802062150129732963:=0
def tw7568352702862994681:=0
def tw10517351562833371391:=0
def tw15548404510686436189:=0
def tw17773628339783964402:=0
def tw14063526052020797462:=0
def tw8235652499015574786:=0
def tw17104880536394279556:=0
def tw5161310427392286442:=0
def tw6332769060306599427:=0
def tw3726426961740755971:=0
def tw158895988775363883:=0
def tw3566670653610249333:=0
def tw4602995719597913321:=0
def tw3262445818178957357:=0
def tw2215638275123180370:=0
def tw13566688619969384015:=0
def tw5191276311518827668:=0
def tw16493482248059000763:=0
def tw169875904522590530:=0
def tw647685827809743833:=0
def tw400818820625868517:=0
def tw17185330790254535938:=0
def tw8922900186425657291:=0
def tw9632899299180027269:=0
def tw1070236389981689200:=0
def tw13380334206191796262:=0
def tw1247063953026578914:=0
def tw3134299515643822978:=0
def tw11510339117148311689:=0
def tw16164115620629992477:=0
def tw3696867412686289813:=0
def tw3212316020753691285:=0
def tw9418542869540310966:=0
def tw13528561397329368084:=0
def tw6335443490883317396:=0
def tw11997656471584012648:=0
def tw1484718647778176514:=0
def tw7371650991171822270:=0
def tw10817828566201501172:=0
def tw8632676853423354475:=0
def tw16028321124401595448:=0
def tw15751319581545093814:=0
def tw8376107219134070295:=0
def tw7425023563800603898:=0
def tw9916988864416738541:=0
def tw10671955873307392287:=0
def tw8130978008735318895:=0
def tw2597104902350320002:=0
def tw10054079400378025357:=0
def tw14798608719021656856:=0
def tw10613390637970648579:=0
def tw15921296582417969695:=0
def tw7952968799290556541:=0
def tw636102477260878989:=0
def tw9851871912410976787:=0
def tw6848950991653674884:=0
def tw1166526044882903020:=0
def tw12182483927017606767:=0
def tw13433907324785350160:=0
def tw11581390938874334104:=0
def tw16990539737298094345:=0
def tw11677722751369428974:=0
def tw13402743143844369985:=0
def tw16398036899661775058:=0
def tw8590052668792995007:=0
def tw348222553010315251:=0
def tw6607507777962148185:=0
def tw14208367998943714937:=0
def tw14997338303355121891:=0
def tw13287217392743813707:=0
def tw14543182175299652818:=0
def tw14675423623616470348:=0
def tw12284243100671565299:=0
def tw4626007347810195476:=0
def tw6515862674379703099:=0
def tw686322820409724540:=0
def tw16947449077202832462:=0
def tw8877236848589326172:=0
def tw17395554176501625761:=0
def tw1491025233991202366:=0
def tw4981406299743764856:=0
def tw16455102756498885551:=0
def tw9334078697428399089:=0
def tw9613777321880878190:=0
def tw18024722982657433757:=0
def tw15137272549504528522:=0
def tw18107345011531416844:=0
def tw3540495453926361464:=0
def tw14834621275814576171:=0
def tw15336329550401876944:=0
def tw6443131699494933600:=0
def tw12037665891508197467:=0
def tw3546689173942020439:=0
def tw9218874395115137052:=0
def tw14794538303046048784:=0
def tw6371241972967886817:=0
def tw2759206511569421684:=0
def tw15830213761769700585:=0
def tw14792110280942810863:=0
def tw12494724044452525679:=0
def tw6212298162073792732:=0
def tw11806175972474010116:=0
def tw4514259072141040073:=0
def tw14620131936173704827:=0
def tw4113617201689472456:=0
def tw5116118859900285550:=0
def tw6818283754234708444:=0
def tw2175654820845310295:=0
def tw7454577120320625781:=0
def tw11034187819571485404:=0
def tw9975776187315126155:=0
def tw10886513094587146560:=0
def tw422406316975803983:=0
def tw7944212097498935321:=0
def tw13510605399399721791:=0
def tw471027525295340387:=0
def tw13735067768309872812:=0
def tw9525692298026703809:=0
def tw13782790019730780285:=0
def tw17351398040237018233:=0
def tw13933358506428354004:=0
def tw782509019935557314:=0
def tw15866026327325731113:=0
def tw16119111877009780470:=0
def tw3661004327457113383:=0
def tw460506361440908358:=0
def tw9285552863720412448:=0
def tw4292313310693734563:=0
def tw4272198343557216857:=0
def tw2101010666720768642:=0
def tw1397101167296628344:=0
def tw10046206960764166353:=0
def tw10906825579333734499:=0
def tw14067117056157098388:=0
def tw2333749237856889735:=0
def tw9027211451885635047:=0
def tw15211647182645398619:=0
def tw5951837915249610081:=0
def tw10085809200363844462:=0
def tw6688441526661154868:=0
def tw5684496981083226109:=0
def tw1150388459937568044:=0
def tw10035391614279604876:=0
def tw8412424417065604334:=0
def tw12344007849555570556:=0
def tw2680905279041221781:=0
def tw3328444270210529430:=0
def tw8478707861464772492:=0
def tw17747550537858490070:=0
def tw16244396400837823577:=0
def tw11799308081318701198:=0
def tw11170457130171251078:=0
def tw4651087865751801473:=0
def tw1334620687176389655:=0
def tw7609486251180447555:=0
def tw3194812371517513755:=0
def tw5966258152590696326:=0
def tw10551677690363013065:=0
def tw3228080056954926430:=0
def tw2259599621395506454:=0
def tw8178265982145131872:=0
def tw1105292508241960161:=0
end PySem.Challenge.cw_pathask_k03_a_web_refuses_holds
set_option Elab.async true in
set_option maxRecDepth 100000 in
set_option maxHeartbeats 0 in
theorem PySem.Challenge.cw_pathask_k03_a_web_refuses_holds : PySem.Challenge.rw_pathask_k03_a_web_refuses.Holds := by
 w_on;o_law;k_head;(case hw=>w_witness2)
 k_fill
 refine K03.walk (l:=PySem.Challenge.rw_pathask_k03_a_web_refuses) rfl rfl (fun w h Y=>PySem.W.kIn_of Y) ?F
 case F =>
  intro w mg fa h KX G hmg
  refine' K03.all_mk KX G hmg ?_ ?_ ?_ ?_ ?_ ?_ ?_ ?_ ?_ ?_ ?_ ?_ ?_ ?_ ?_ ?_ ?_ ?_ ?_ ?_ ?_ ?_ ?_ ?_ ?_ ?_ ?_ ?_ ?_ ?_ ?_ ?_ ?_ ?_ ?_ ?_ ?_ ?_ ?_ ?_ ?_ ?_ ?_ ?_ ?_ ?_ ?_ ?_ ?_ ?_ ?_ ?_ ?_ ?_ ?_ ?_ ?_ ?_ ?_ ?_ ?_ ?_ ?_ ?_ ?_ ?_ ?_ ?_ ?_ ?_ ?_ ?_ ?_ ?_ ?_ ?_ ?_ ?_ ?_ ?_ ?_ ?kB
  (case kB=>kernel_rfl)
  all_goals try first | (refine' L2.rK.of ?a ?l ?c ?k;(case a=>k_is);(case l=>k_is);(case c=>k_is);(case k=>k_is)) | (refine' L2.k6.of ?a ?l ?c ?k ?i;(case a=>k_is);(case l=>k_is);(case c=>k_is);(case k=>k_is);(case i=>k_is)) | k_is
