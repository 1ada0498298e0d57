import PyProof.Rows.All
import Wide.All
import OpenK.AllK
import Wide.FinOn
import Lean
import PyProof.EqAt
import PyProof.EqKinds
import PyProof.TupleCall
import KE.KRevIter
import KE.KIntText
import PyProof.Rows.StrNews
import KE.KSortTup
import PyProof.Rows.SetFrom
import PyProof.WalksMore
import KE.KRevSl
import PyProof.ZipIter
import PyProof.TupleIter
import KE.KItemsList
import PyProof.ListRange
import PyProof.Rows.SortRuns
import PyProof.SetRoads
import PySem.Challenge.RW_pathask_k67_orders_and_rings
open List renaming eq_nil_of_length_eq_zero→zaa,getElem?_append_right→zab,getElem?_eq_some_iff→zac,getElem?_append_left→zad,drop_eq_getElem_cons→zae,exists_mem_of_ne_nil→zaf,getElem?_eq_getElem→zah,getElem?_cons_succ→zai,getElem?_cons_zero→zaj,take_of_length_le→zak,mem_append_right→zaq,length_singleton→zar,getElem?_eq_none→zas,length_filter_le→zat,set_append_right→zau,mem_cons_of_mem→zax,mem_append_left→zay,getElem?_set_ne→zaz,mem_of_getElem? → zaA,set_append_left→zaB,mem_of_mem_take→zaC,mem_of_mem_drop→zaD,filterMap_cons→zaF,replicate_succ→zaG,length_reverse→zaH,map_congr_left→zaI,mem_cons_self→zaL,length_append→zaM,contains_cons→zaN,getElem?_take→zaO,mem_singleton→zaP,zip_cons_cons→zaQ,set_cons_zero→zaR,set_cons_succ→zaS,pairwise_cons→zaT,size_toArray→zba,getElem?_map→zbb,flatten_cons→zbc,append_assoc→zbd,getElem?_set→zbe,reverse_cons→zbf,nodup_append→zbg,length_take→zbn,length_cons→zbo,length_drop→zbp,lookup_cons→zbq,all_eq_true→zbr,take_length→zbs,not_mem_nil→zbt,map_fst_zip→zbu,cons_append→zbv,mem_filter→zbz,mem_append→zbA,append_nil→zbB,nodup_cons→zbC,of_mem_zip→zbD,length_map→zbE,find?_cons→zbF,length_set→zbG,nil_append→zbH,map_append→zbI,length_zip→zbJ,take_left'→zbK,replicate→zbO,mem_cons→zbW,map_cons→zbX,any_cons→zbY,all_cons→zbZ,map_take→zca,map_drop→zcb,map_nil→zci,any_map→zcj,mem_map→zck,map_map→zcl,set_set→zcm,lookup→zcx,range→zcC,cons→zcD,set→zcE
open Array renaming getElem?_eq_getElem→zag,getElem?_eq_none→zal,getElem?_toList→zav,toArray_toList→zaE,length_toList→zaJ,toList_push→zbk
open Option renaming map_eq_some_iff→zam,getD_some→zbx,bind_some→zby,some→zcB
open PySem.Heap renaming get?_push_of_some→zan,get?_update_other→zao,get?_update_self→zaw,get?_push_size→zaK,size_push→zbV,lt_size→zcw
open PySem.Calls renaming callWith_builtin→zap,spliced_cons→zaZ,spliced_nil→zbm
open Nat renaming lt_of_lt_of_le→zaU,lt_succ_of_lt→zbh,lt_irrefl→zcc,ne_of_lt→zcn,le_trans→zco,le_of_lt→zcp,ne_of_gt→zcq,lt_or_ge→zcr,sub_self→zcs,le_refl→zcy,zero_le→zcz,le_succ→zcA
open Int renaming emod_lt_of_pos→zaV,toNat_natCast→zbi,emod_nonneg→zbL
open Bool renaming false_ne_true→zaW,false_eq_true→zaX,not_eq_true'→zbj,and_eq_true→zbw,or_eq_true→zbM,not_false→zbP,false_bne→zbQ,false_or→zcd,and_self→zce,not_true→zcf,or_true→zct
open PySem.W renaming mg_none_of→zaY,specialIn→zbl,kia_one→zbN,findIn→zbR,keepIn→zbS,kitOne→zbT,codeIn→zbU,subIn→zcg,mg_of→zch,fnOf→zcu,nsIn→zcv
open PySem renaming wpAny_bind→yaa,wpAny_pure→yab,wpAny_mono→yac,wpAny_holding→yad,wpAny_loadPart_at→yae,wpAny_newObj_type→yaf,sizeLine_eq→yag,sizeLine→yah,Shared→yai,Value→yaj,Program→yak,World→yal,Around→yam,PyData→yan,compareOp→yao,starEach→yap,FuncData→yaq,mainGlobals→yar,wpAny→yas,sysModules→yat,swapsWith→yau,backTo→yav,DictEntry→yaw,GenState→yax,codeAny_mono→yay,wpAny_standAt→yaz,bindArgs→yaA,BindsTo→yaB,keywordEach→yaC,wpAny_execs_nil→yaD,wpAny_execs_cons→yaE,OsState→yaF,wpAny_call→yaG
open PySem.W renaming Frag→yaH
theorem yDf {p:Prop} [Decidable p] (h : ¬p):decide p=false:=decide_eq_false h
theorem yDt {p:Prop} [Decidable p] (h:p):decide p=true:=decide_eq_true h
theorem yIn.{u}{c:Prop}{h:Decidable c} (n : ¬c) {α:Sort u}{t e:α}:(ite c t e)=e:=if_neg n
theorem yIp.{u}{c:Prop}{h:Decidable c} (n:c) {α:Sort u}{t e:α}:(ite c t e)=t:=if_pos n
theorem ySz (n:Nat) (h:n≤100:=by decide):n≤PySem.sizeLine:=by rw [PySem.sizeLine_eq];lia
set_option Elab.async false
set_option linter.all false
set_option maxRecDepth 100000
namespace L2
open PySem PySem.Spec PyProof.Rows
abbrev Key:=Sum Int Str
noncomputable def mF:Key→yaj→Bool
 | .inl k,v=>Value.isInt k v
 | .inr x,v=>Value.isStrOf x v
noncomputable def Kd (w:yal):Key→Int
 | .inl k=>hashInt k
 | .inr x=>hashStr w x
theorem bH:∀ {k:Key}{v:yaj},mF k v=true→(∃ i t,k=Sum.inl i∧v=Value.int i t)∨(∃ x t,k=Sum.inr x∧v=Value.str x t)
 | .inl i,v,h=>by
  obtain ⟨t,e⟩:=Value.isInt_shape (k:=i) (v:=v) h
  exact .inl ⟨i,t,rfl,e⟩
 | .inr x,v,h=>by
  obtain ⟨t,e⟩:=Value.isStrOf_shape (x:=x) (v:=v) h
  exact .inr ⟨x,t,rfl,e⟩
theorem xo (i:Int) (t:Tok):mF (.inl i) (.int i t)=true:=by simp [mF,Value.isInt]
theorem xm (x:Str) (t:Tok):mF (.inr x) (.str x t)=true:=by simp [mF,Value.isStrOf]
theorem FW (a b:Int):decide ((Sum.inl a:Key)=Sum.inl b)=(a==b):=by
 by_cases e:a=b
 ·subst e;simp
 ·have h : ¬ (Sum.inl a:Key)=Sum.inl b:=fun q=>e (Sum.inl.inj q)
  rw [yDf h]
  exact (beq_eq_false_iff_ne.mpr e).symm
theorem FQ (a b:Str):decide ((Sum.inr a:Key)=Sum.inr b)=decide (a=b):=by
 by_cases e:a=b
 ·subst e;simp
 ·have h : ¬ (Sum.inr a:Key)=Sum.inr b:=fun q=>e (Sum.inr.inj q)
  rw [yDf h,yDf e]
theorem FU (a:Int) (b:Str):decide ((Sum.inl a:Key)=Sum.inr b)=false:=yDf (fun q=>nomatch q)
theorem FT (a:Str) (b:Int):decide ((Sum.inr a:Key)=Sum.inl b)=false:=yDf (fun q=>nomatch q)
noncomputable def bz (prog:yak) (w:yal):PySem.KeyKind prog w Key where
 is:=mF
 hash:=Kd w
 inj:=fun v a b ha hb=>by
  rcases bH ha with ⟨i,t,rfl,rfl⟩ | ⟨x,t,rfl,rfl⟩
  ·rcases bH hb with ⟨j,u,rfl,e⟩ | ⟨y,u,rfl,e⟩
   ·injection e with e1 _;rw [e1]
   ·exact nomatch e
  ·rcases bH hb with ⟨j,u,rfl,e⟩ | ⟨y,u,rfl,e⟩
   ·exact nomatch e
   ·injection e with e1 _;rw [e1]
 byValue:=fun k v h=>by
  rcases bH h with ⟨i,t,rfl,rfl⟩ | ⟨x,t,rfl,rfl⟩ <;> rfl
 pyHash:=fun hv h=>by
  rcases bH hv with ⟨i,t,rfl,rfl⟩ | ⟨x,t,rfl,rfl⟩
  ·exact wpAny_pyHash_int h
  ·exact wpAny_pyHash_str h
 eqBool:=fun hu hv h=>by
  rcases bH hu with ⟨i,t,rfl,rfl⟩ | ⟨x,t,rfl,rfl⟩
  ·rcases bH hv with ⟨j,u,rfl,rfl⟩ | ⟨y,u,rfl,rfl⟩
   ·rw [FW] at h;exact wpAny_eqBool_int h
   ·rw [FU] at h;exact SeqAt.EqAt.int_str i t y u _ _ _ _ h
  ·rcases bH hv with ⟨j,u,rfl,rfl⟩ | ⟨y,u,rfl,rfl⟩
   ·rw [FT] at h;exact SeqAt.EqAt.str_int x t j u _ _ _ _ h
   ·rw [FQ] at h;exact wpAny_eqBool_str h
 «strs» := fun k x t v h=>by
  rcases bH h with ⟨i,u,rfl,e⟩ | ⟨y,u,rfl,e⟩
  ·exact nomatch e
  ·injection e with e1 _
   subst e1
   cases v <;> rfl
theorem qT (prog:yak) (w:yal) (i:Int) (t:Tok):(bz prog w).is (.inl i) (.int i t)=true:=xo i t
theorem qS (prog:yak) (w:yal) (x:Str) (t:Tok):(bz prog w).is (.inr x) (.str x t)=true:=xm x t
inductive V where
 | bh | bl (b:Bool) | int (i:Int) | str (x:Str) | sH (b:Array UInt8) | F5 (b:UInt64) | ref (a:Addr) | ty (n:String)
 deriving DecidableEq
def RelV:V→yaj→Prop
 | .bh,u=>u=Value.none
 | .bl b,u=>u=Value.bool b
 | .int i,u=>∃ t,u=Value.int i t
 | .str x,u=>∃ t,u=Value.str x t
 | .sH b,u=>∃ t,u=Value.bytes b t
 | .F5 b,u=>∃ t,u=Value.float b t
 | .ref a,u=>u=Value.ref a
 | .ty n,u=>u=Value.type n
abbrev Vals:List V→List yaj→Prop:=Paired RelV
theorem Vals.length {xs:List V}{us:List yaj} (r:Vals xs us):xs.length=us.length:=Paired.length r
theorem Vals.get:∀ {xs:List V}{us:List yaj}{i:Nat}{x:V},Vals xs us→xs[i]? = some x→∃ u,us[i]? = some u∧RelV x u
 | _,_,_,_,.nil,e=>by simp at e
 | _,_,0,_,.cons r _,e=>by simp at e;subst e;exact ⟨_,rfl,r⟩
 | _,_,i+1,x,.cons _ t,e=>by
  obtain ⟨u,h1,h2⟩:=Vals.get (i:=i) (x:=x) t (by simpa using e)
  exact ⟨u,by simpa using h1,h2⟩
theorem Vals.set {x:V}{u:yaj} (r:RelV x u):∀ {xs:List V}{us:List yaj} (i:Nat),Vals xs us→Vals (xs.set i x) (us.set i u)
 | _,_,_,.nil=>.nil
 | _,_,0,.cons _ t=>.cons r t
 | _,_,i+1,.cons q t=>.cons q (Vals.set r i t)
theorem Vals.append:∀ {xs ys:List V}{us ws:List yaj},Vals xs us→Vals ys ws→Vals (xs++ys) (us++ws)
 | _,_,_,_,.nil,s=>s
 | _,_,_,_,.cons r t,s=>.cons r (Vals.append t s)
theorem Vals.take:∀ {xs:List V}{us:List yaj} (n:Nat),Vals xs us→Vals (xs.take n) (us.take n)
 | _,_,0,_=>.nil
 | _,_,_+1,.nil=>.nil
 | _,_,n+1,.cons r t=>.cons r (Vals.take n t)
theorem Vals.drop:∀ {xs:List V}{us:List yaj} (n:Nat),Vals xs us→Vals (xs.drop n) (us.drop n)
 | _,_,0,r=>r
 | _,_,_+1,.nil=>.nil
 | _,_,n+1,.cons _ t=>Vals.drop n t
def eY:Option V→Option yaj→Prop
 | some v,some u=>RelV v u
 | none,none=>True
 | _,_=>False
def KV {κ:Type}:List (κ×V)→List (κ×yaj)→Prop:=Paired fun (p:κ×V) (q:κ×yaj)=>p.1=q.1∧RelV p.2 q.2
noncomputable def kV:Key→V
 | .inl i=>.int i
 | .inr x=>.str x
inductive HO where
 | lst (xs:List V)
 | tup (xs:List V)
 | dK (kvs:List (Key×V)) | dT (kvs:List (List Key×V))
 | set (S:Int→Bool) (n:Nat)
 | ins (C dx:Addr) (fs:List (Str×V))
 | own (x:Addr)
 | xd (fs:List (Str×V))
 | met (f x:Addr)
 | JU (lo hi:Int)
 | vD (o:Obj) (u:HO)
 | Ej (ps:Array yaj)
 | ext (φ:Heap→Prop)
abbrev Hp:=Addr→Option HO
noncomputable def upd (H:Hp) (a:Addr) (o:HO):Hp:=fun b=>if b=a then some o else H b
theorem aE {H:Hp}{a:Addr}{o:HO}:upd H a o a=some o:=by unfold upd;rw [yIp rfl]
theorem au {H:Hp}{a b:Addr}{o:HO} (h:b≠a):upd H a o b=H b:=by unfold upd;rw [yIn h]
theorem Ih {H:Hp}{a b:Addr}{o u:HO} (h:H a=some o) (h':H b=some u) (d:o≠u):a≠b:=by
 intro e;subst e;rw [h] at h';exact d (zcB.inj h')
theorem aH {H:Hp}{a b:Addr}{o:HO} (h:H a=some o) (h':H b=none):a≠b:=by
 intro e;subst e;rw [h] at h';cases h'
section
variable (P:yak) (w:yal)
def aQ (H:Hp) (h:Heap) (a:Addr):HO→Prop
 | .lst xs=>xs.length≤yah∧∃ (its:List yaj) (n:Nat),Vals xs its∧h.get? a=some { cls:=.type "list",data:=.seq its.toArray n }
 | .tup xs=>xs.length≤yah∧∃ its:List yaj,Vals xs its∧IsTup h a its.toArray
 | .dK kvs=>kvs.length≤yah∧(a==yat)=false∧∃ vs,KV kvs vs∧h.DictOf (bz P w) a vs
 | .dT kvs=>kvs.length≤yah∧(a==yat)=false∧∃ xs:List (List Key×Addr×yaj),
   Paired (fun (p:List Key×V) (q:List Key×Addr×yaj)=>p.1=q.1∧H q.2.1=some (.tup (p.1.map kV))∧RelV p.2 q.2.2) kvs xs ∧
   ∃ o es ep,h.get? a=some o∧o.ExactDict∧o.data = .dict es ep∧es.toList=xs.map (entryOfKey (tupleKind (bz P w)))∧(xs.map (·.1)).Nodup
 | .set S n=>h.SetOf (intKind P w) a S n
 | .ins C dx fs=>H dx=some (.own a)∧fs.length≤1000∧dx≠a∧h.get? a=some (PySem.W.instObj C dx) ∧
   ∃ mA,h.Ns1 dx mA∧(∀ f,eY (fs.lookup f) (mA f))∧PySem.Within mA (fs.map (·.1))
 | .own _=>∃ o,h.get? a=some o
 | .xd fs=>∃ mA,h.Ns1 a mA∧∀ f,eY (fs.lookup f) (mA f)
 | .JU lo hi=>∃ t u v,h.get? a=some { cls:=.type "range",data:=.fields #[.int lo t,.int hi u,.int 1 v] }
 | .vD o u=>h.get? a=some o∧aQ H h a u
 | .Ej ps=>h.get? a=some { cls:=.none,data:=.fields ps }
 | .met f x=>h.get? a=some (PySem.W.methodObj (.ref f) (.ref x))
 | .ext φ=>φ h∧(∃ o,h.get? a=some o)∧∀ h1 h2:Heap,φ h1→(∀ o,h1.get? a=some o→h2.get? a=some o)→φ h2
def e9 (H:Hp) (h:Heap):Prop:=∀ a o,H a=some o→aQ P w H h a o
end
section
variable {P:yak}{w:yal}{H H':Hp}{h h':Heap}{a:Addr}{o:HO}
theorem aQ.lt (x:aQ P w H h a o):a<h.objs.size:=by
 cases o with
 | lst xs=>obtain ⟨_,_,_,_,e⟩:=x;exact zcw e
 | tup xs=>obtain ⟨_,_,_,p⟩:=x;exact p.lt
 | dK kvs=>obtain ⟨_,_,_,_,o,_,_,e,_⟩:=x;exact zcw e
 | dT kvs=>obtain ⟨_,_,_,_,o,_,_,e,_⟩:=x;exact zcw e
 | set S n=>obtain ⟨o,_,_,_,e,_⟩:=x;exact zcw e
 | ins C dx fs=>obtain ⟨_,_,_,e,_⟩:=x;exact zcw e
 | own y=>obtain ⟨_,e⟩:=x;exact zcw e
 | xd fs=>obtain ⟨_,⟨_,_,_,e,_⟩,_⟩:=x;exact zcw e
 | JU lo hi=>obtain ⟨_,_,_,e⟩:=x;exact zcw e
 | vD ob u=>obtain ⟨e,_⟩:=x;exact zcw e
 | Ej ps=>exact zcw (show h.get? a=some _ from x)
 | met f y=>exact zcw (show h.get? a=some _ from x)
 | ext φ=>obtain ⟨_,⟨_,e⟩,_⟩:=x;exact zcw e
theorem Paired.FJ {α β:Type}{F G:α→β→Prop}:∀ {l₁:List α}{l₂:List β},Paired F l₁ l₂→(∀ a b,F a b→G a b)→Paired G l₁ l₂
 | _,_,.nil,_=>.nil
 | _,_,.cons r t,f=>.cons (f _ _ r) (Paired.FJ t f)
theorem aQ.stay (x:aQ P w H h a o) (k:∀ b u,(b=a∨H b=some (.own a))→h.get? b=some u→h'.get? b=some u)
  (ho:∀ b,H b=some (.own a)→H' b=some (.own a)) (ht:∀ b xs,H b=some (.tup xs)→H' b=some (.tup xs)):aQ P w H' h' a o:=by
 induction o with
 | lst xs=>obtain ⟨z,its,n,r,e⟩:=x;exact ⟨z,its,n,r,k _ _ (.inl rfl) e⟩
 | tup xs=>obtain ⟨z,its,r,ob,e,c⟩:=x;exact ⟨z,its,r,ob,k _ _ (.inl rfl) e,c⟩
 | dK kvs=>obtain ⟨z,y,vs,r,ob,es,ep,e,c⟩:=x;exact ⟨z,y,vs,r,ob,es,ep,k _ _ (.inl rfl) e,c⟩
 | dT kvs =>
  obtain ⟨z,y,xs,r,ob,es,ep,e,c⟩:=x
  exact ⟨z,y,xs,Paired.FJ r fun p q z=>⟨z.1,ht _ _ z.2.1,z.2.2⟩,ob,es,ep,k _ _ (.inl rfl) e,c⟩
 | set S n=>obtain ⟨ob,es,ep,t,e,c⟩:=x;exact ⟨ob,es,ep,t,k _ _ (.inl rfl) e,c⟩
 | ins C dx fs =>
  obtain ⟨d,z,ne,e,mA,⟨od,es,ep,e2,c⟩,r⟩:=x
  exact ⟨ho _ d,z,ne,k _ _ (.inl rfl) e,mA,⟨od,es,ep,k _ _ (.inr d) e2,c⟩,r⟩
 | own y=>obtain ⟨ob,e⟩:=x;exact ⟨ob,k _ _ (.inl rfl) e⟩
 | xd fs=>obtain ⟨mA,⟨od,es,ep,e,c⟩,r⟩:=x;exact ⟨mA,⟨od,es,ep,k _ _ (.inl rfl) e,c⟩,r⟩
 | JU lo hi=>obtain ⟨t,u,v,e⟩:=x;exact ⟨t,u,v,k _ _ (.inl rfl) e⟩
 | vD ob u ih=>obtain ⟨e,q⟩:=x;exact ⟨k _ _ (.inl rfl) e,ih q⟩
 | Ej ps =>
  have e:h.get? a=some { cls:=.none,data:=.fields ps }:=x
  show h'.get? a=some { cls:=.none,data:=.fields ps }
  exact k a _ (.inl rfl) e
 | met f y =>
  have e:h.get? a=some (PySem.W.methodObj (.ref f) (.ref y)):=x
  show h'.get? a=some (PySem.W.methodObj (.ref f) (.ref y))
  exact k a _ (.inl rfl) e
 | ext φ=>obtain ⟨p,⟨o,e⟩,st⟩:=x;exact ⟨st _ _ p fun o q=>k _ _ (.inl rfl) q,⟨o,k _ _ (.inl rfl) e⟩,st⟩
theorem e9.lt (x:e9 P w H h) (e:H a=some o):a<h.objs.size:=(x a o e).lt
theorem e9.fresh (x:e9 P w H h) (e:h.objs.size≤a):H a=none:=by
 cases q:H a with
 | none=>rfl
 | some u=>exact absurd (zaU (x.lt q) e) (zcc _)
theorem e9.kept (x:e9 P w H h) (k:∀ b u,h.get? b=some u→h'.get? b=some u):e9 P w H h':=fun a o e =>
 (x a o e).stay (fun b u _ q=>k b u q) (fun _ q=>q) fun _ _ q=>q
theorem e9.laid (x:e9 P w H h) (k:∀ b u,h.get? b=some u→h'.get? b=some u) (hp:h.objs.size≤a) (new:aQ P w (upd H a o) h' a o):e9 P w (upd H a o) h':=fun b u e=>by
 have hn:=x.fresh hp
 by_cases hb:b=a
 ·subst hb;rw [aE] at e;cases e;exact new
 ·rw [au hb] at e
  exact (x b u e).stay (fun c v _ q=>k c v q) (fun c q=>by rw [au (aH q hn)];exact q) fun c xs q=>by rw [au (aH q hn)];exact q
end
def Rd (H:Hp) (a:Addr) (u:HO):Prop:=H a=some u∨∃ o,H a=some (.vD o u)
theorem Rd.ok {P:yak}{w:yal}{H:Hp}{h:Heap}{a:Addr}{u:HO} (r:Rd H a u) (x:e9 P w H h):aQ P w H h a u:=by
 rcases r with r | ⟨o,r⟩
 ·exact x a u r
 ·obtain ⟨_,q⟩:=x a _ r
  exact q
def D5:Option HO→Prop
 | some (.lst _)=>True
 | some (.dK _)=>True
 | some (.dT _)=>True
 | some (.set _ _)=>True
 | some (.ins _ _ _)=>True
 | some (.ext _)=>True
 | _=>False
section
variable {P:yak}{w:yal}{H:Hp}{h h':Heap}{x e:Addr}{o':HO}
theorem e9.write (ok:e9 P w H h) (mu:D5 (H x)) (he:e=x∨H e=some (.own x)) (k:∀ b u,b≠e→h.get? b=some u→h'.get? b=some u) (heo:∃ u,h'.get? e=some u)
  (new:aQ P w (upd H x o') h' x o'):e9 P w (upd H x o') h':=fun b u q=>by
 have Ie:∀ c y,H c=some (.own y)→c≠x:=fun c y r z=>by subst z;rw [r] at mu;exact mu
 have J9:∀ c xs,H c=some (.tup xs)→c≠x:=fun c xs r z=>by subst z;rw [r] at mu;exact mu
 by_cases hb:b=x
 ·subst hb;rw [aE] at q;cases q;exact new
 ·rw [au hb] at q
  by_cases hbe:b=e
  ·have q':H b=some (.own x):=by
    rcases he with z | z
    ·exact absurd (hbe.trans z) hb
    ·rw [hbe];exact z
   rw [q] at q';cases q'
   obtain ⟨v,hv⟩:=heo
   exact ⟨v,by rw [hbe];exact hv⟩
  ·refine (ok b u q).stay (fun c v hc r=>k c v ?_ r) (fun c r=>by rw [au (Ie c b r)];exact r) fun c xs r=>by rw [au (J9 c xs r)];exact r
   rcases hc with rfl | hc
   ·exact hbe
   ·rintro rfl
    rcases he with z | z
    ·exact Ie c b hc z
    ·rw [hc] at z;cases z;exact hb rfl
end
structure Un (fs ex:List Addr) (H H':Hp) (h h':Heap):Prop where
 keep:∀ b o,h.get? b=some o→H b=none→b ∉ fs→b ∉ ex→h'.get? b=some o
 slot:∀ b o,h.get? b=some o→H b=none→b∈fs→b ∉ ex→∃ sl,h'.get? b=some { o with slots:=sl }
 free:∀ b o,h.get? b=some o→H b=none→b ∉ ex→H' b=none
 there:∀ b o,h.get? b=some o→b ∉ ex→∃ o',h'.get? b=some o'
 tups:∀ b xs,H b=some (.tup xs)→H' b=some (.tup xs)
 mQ:∀ b o u,H b=some (.vD o u)→H' b=some (.vD o u)
 nA:∀ b ps,H b=some (.Ej ps)→∃ more,H' b=some (.Ej (ps++more))
section
variable {fs fs' ex ex':List Addr}{H H1 H2:Hp}{h h1 h2 h':Heap}{a x e:Addr}{o:HO}
theorem Un.any (u:Un fs ex H H1 h h1) {b:Addr}{ob:Obj} (q:h.get? b=some ob) (n:H b=none) (hx:b ∉ ex):∃ sl,h1.get? b=some { ob with slots:=sl }:=by
 by_cases hb:b∈fs
 ·exact u.slot b ob q n hb hx
 ·exact ⟨ob.slots,u.keep b ob q n hb hx⟩
theorem Un.kept (k:∀ b u,h.get? b=some u→h'.get? b=some u):Un fs ex H H h h' :=
 ⟨fun b ob q _ _ _=>k b ob q,fun b ob q _ _ _=>⟨ob.slots,k b ob q⟩,fun _ _ _ n _=>n,fun b ob q _=>⟨ob,k b ob q⟩,fun _ _ q=>q,fun _ _ _ q=>q,fun _ ps q=>⟨#[],by rw [q];simp⟩⟩
theorem Un.refl:Un fs ex H H h h:=Un.kept fun _ _ q=>q
theorem Un.laid (k:∀ b u,h.get? b=some u→h'.get? b=some u) (hp:h.objs.size≤a) (hn:H a=none):Un fs ex H (upd H a o) h h' where
 keep:=fun b u q _ _ _=>k b u q
 slot:=fun b u q _ _ _=>⟨u.slots,k b u q⟩
 free:=fun b u q n _=>by rw [au (zcn (zaU (zcw q) hp))];exact n
 there:=fun b u q _=>⟨u,k b u q⟩
 tups:=fun b xs q=>by rw [au (aH q hn)];exact q
 mQ:=fun b u xs q=>by rw [au (aH q hn)];exact q
 nA:=fun b ps q=>⟨#[],by rw [au (aH q hn),q];simp⟩
theorem Un.write (mu:D5 (H x)) (he:e=x∨H e=some (.own x)) (k:∀ b u,b≠e→h.get? b=some u→h'.get? b=some u) (heo:∃ u,h'.get? e=some u):Un fs ex H (upd H x o) h h':=by
 have hx:∀ b,H b=none→b≠x:=fun b n z=>by subst z;rw [n] at mu;exact mu
 have hb:∀ b,H b=none→b≠e:=fun b n z=>by
  subst z
  rcases he with r | r
  ·exact hx b n r
  ·rw [n] at r;cases r
 have hm:∀ b u,H b=some u → ¬ D5 (some u)→b≠x:=fun b u q nm z=>by subst z;rw [q] at mu;exact nm mu
 refine ⟨fun b u q n _ _=>k b u (hb b n) q,fun b u q n _ _=>⟨u.slots,k b u (hb b n) q⟩,fun b u q n _=>by rw [au (hx b n)];exact n,fun b u q _ => ?_,
  fun b xs q=>by rw [au (hm b _ q fun z=>z)];exact q,fun b u xs q=>by rw [au (hm b _ q fun z=>z)];exact q,fun b ps q=>⟨#[],by rw [au (hm b _ q fun z=>z),q];simp⟩⟩
 by_cases hbe:b=e
 ·subst hbe;exact heo
 ·exact ⟨u,k b u hbe q⟩
end
noncomputable def Jr (h:Heap) (H:Hp):List Addr:=(zcC h.objs.size).filter fun a=>(H a).isSome
noncomputable def pS (h:Heap) (H:Hp):Heap:=PySem.W.hideAll h (Jr h H)
theorem xx (h:Heap) (H:Hp):(pS h H).objs.size=h.objs.size:=PySem.W.hideAll_size _ _
theorem zW {h:Heap}{H:Hp}{b:Addr}{o:Obj} (e:h.get? b=some o) (n:H b=none):(pS h H).get? b=some o :=
 PySem.W.hideAll_get _ e fun hm=>by
  have q:(H b).isSome=true:=(zbz.mp hm).2
  rw [n] at q;simp at q
theorem Ca {h:Heap}{H:Hp}{b:Addr}{o:Obj} (e:(pS h H).get? b=some o):h.get? b=some o∧H b=none:=by
 have e':h.get? b=some o:=PySem.W.of_hideAll (Jr h H) e
 refine ⟨e',?_⟩
 cases q:H b with
 | none=>rfl
 | some x =>
  have hm:b∈Jr h H:=zbz.mpr ⟨List.mem_range.mpr (zcw e'),by simp [q]⟩
  have z:(pS h H).get? b=none:=PySem.W.hideAll_none (Jr h H) hm
  rw [z] at e;cases e
noncomputable def CS (g h:Heap) (L:Addr):List (Addr×Obj):=(zcC h.objs.size).filterMap fun a=>if a=L∨(g.get? a).isSome=true then none else (h.get? a).map fun o=>(a,o)
noncomputable def rest (g h:Heap) (L d:Addr):List (Addr×Obj):=(CS g h L).filter fun p=>decide (p.1≠d)
structure Mod (K:yaH) (mg:Str→Option yaj) (base:Heap):Prop where
 Il:K.In base
 glob:base.Ns yar mg
 blt:∃ mb,base.Ns builtinsNs mb∧∀ x:Str,x ≠ "__name__" → mb x=bootBuiltins x
 nolimit:base.NoLimit
structure Cx where
 prog:yak
 w:yal
 K:yaH
 mg:Str→Option yaj
 base:Heap
 A:yam
 N:List Str
 s₀:yai
 H₀:Hp
 env:Env
 outer:List Env
 stack:List Env
 ex:List Addr
 fn:Str→Bool
 calm:Bool
 pn:List (Addr×Obj)
 xe:yaj→yai→Prop
noncomputable def frs (l:List Env):List Addr:=l.filterMap (·.frame)
noncomputable abbrev Cx.fs (X:Cx):List Addr:=frs X.outer
def JA (sc:Scope) (x:Str):Prop:=sc.names.lookup x=some .local∨sc.names.lookup x=some .cell∨sc.names.lookup x=some .free
def Loc (sc:Scope) (x:Str):Prop:=sc.names.lookup x=some .local∨sc.names.lookup x=some .cell
def Look (env:Env) (h:Heap) (m:Str→Option yaj) (x:Str) (u:yaj):Prop :=
 (env.kindOf x=some .local∧m x=some u)∨((env.kindOf x=some .cell∨env.kindOf x=some .free)∧∃ c,env.cells.lookup x=some c∧h.IsCell c (some u))
structure Cx.Ok (X:Cx):Prop where
 mod:Mod X.K X.mg X.base
 kind:X.env.scope.kind = .function
 glob:X.env.globals=yar
 blt:X.env.builtins=builtinsNs
 above:X.s₀.heap.objs.size≤X.env.locals
 inj:∀ x y c,X.env.cells.lookup x=some c→X.env.cells.lookup y=some c→x=y
 has:∀ x,(X.env.kindOf x=some .cell∨X.env.kindOf x=some .free)→∃ c,X.env.cells.lookup x=some c
 GV:∀ x c,X.fn x=true→X.env.cells.lookup x=some c→X.s₀.heap.objs.size≤c
 hd:X.calm=true→X.A.handled=none
 frames:X.A.frames=some X.stack
 stk:X.stack=X.outer∨(X.stack=X.env::X.outer∧X.env.frame=some X.env.locals)
 Jx:∀ b∈X.ex,b≠X.env.locals∧∀ x c,X.env.cells.lookup x=some c→c≠b
 bs:∀ b o,X.base.get? b=some o→X.s₀.heap.get? b=some o∧X.H₀ b=none
 Bl:X.base.objs.size≤X.s₀.heap.objs.size
 w6:∀ b o,X.base.get? b=some o→b ∉ X.ex
 Aa:∀ b∈X.ex,b ∉ X.fs
 jQ:X.s₀.heap.FunFrames X.base X.outer
 DP:∀ b∈X.fs,X.H₀ b=none
structure Inv (X:Cx) (pins:List (Addr×Obj)) (σ:List (Option V)) (H:Hp) (s:yai):Prop where
 ok:X.Ok
 os:s.os=X.s₀.os
 bare:AllBare s.gens
 base:Un X.fs X.ex X.H₀ H X.s₀.heap s.heap
 loc:∃ m,s.heap.Ns X.env.locals m∧∀ (i:Nat) (x:Str) (v:V),X.N[i]? = some x→σ[i]? = some (some v)→JA X.env.scope x→∃ u,RelV v u∧Look X.env s.heap m x u
 cell:∀ x c,X.env.cells.lookup x=some c→∃ v,s.heap.IsCell c v
 free:H X.env.locals=none
 dz:∀ x c,X.env.cells.lookup x=some c→H c=none
 pin:∀ p∈X.pn++pins,s.heap.get? p.1=some p.2∧H p.1=none∧p.1≠X.env.locals∧p.1 ∉ X.fs∧∀ v,p.2.data ≠ .cell v
 hok:e9 X.prog X.w H s.heap
 len:σ.length=X.N.length
section
variable {X:Cx}{pins:List (Addr×Obj)}{σ:List (Option V)}{H H':Hp}{s:yai}{h':Heap}
theorem Cx.Ok.Ka (ok:X.Ok) {b:Addr}{o:Obj} (e:X.base.get? b=some o):b ∉ X.fs:=fun hb=>by
 have:=(ok.jQ.mem hb).1
 rw [e] at this;cases this
theorem Inv.bs (I:Inv X pins σ H s):∀ b o,X.base.get? b=some o→s.heap.get? b=some o∧H b=none:=fun b o e =>
 ⟨I.base.keep b o (I.ok.bs b o e).1 (I.ok.bs b o e).2 (I.ok.Ka e) (I.ok.w6 b o e),I.base.free b o (I.ok.bs b o e).1 (I.ok.bs b o e).2 (I.ok.w6 b o e)⟩
theorem Inv.bk (I:Inv X pins σ H s):∀ b o,X.base.get? b=some o→s.heap.get? b=some o:=fun b o e=>(I.bs b o e).1
theorem Inv.mod (I:Inv X pins σ H s):Mod X.K X.mg X.base:=I.ok.mod
theorem Inv.gj (I:Inv X pins σ H s):X.K.In s.heap:=I.ok.mod.Il.keeps I.bk
theorem Inv.lt (I:Inv X pins σ H s):X.env.locals<s.heap.objs.size:=let ⟨_,hn,_⟩:=I.loc;hn.lt
theorem Inv.sz (I:Inv X pins σ H s):X.s₀.heap.objs.size≤s.heap.objs.size:=zco I.ok.above (zcp I.lt)
theorem Inv.Ig (I:Inv X pins σ H s) {a:Addr} (h:s.heap.objs.size≤a):a ∉ X.fs:=fun hb=>by
 obtain ⟨_,o,ho,_⟩:=I.ok.jQ.mem hb
 exact absurd (zaU (zcw ho) (zco I.sz h)) (zcc _)
theorem Inv.CK (I:Inv X pins σ H s):∀ x c,X.env.cells.lookup x=some c→c≠X.env.locals:=fun x c e z=>by
 obtain ⟨v,o,ho,hd⟩:=I.cell x c e
 obtain ⟨m,⟨o',es,ep,ho',hd',_⟩,_⟩:=I.loc
 rw [z,ho'] at ho;cases ho;rw [hd'] at hd;cases hd
theorem Inv.jQ (I:Inv X pins σ H s):s.heap.FunFrames X.base X.outer:=by
 have all:∀ (l:List Env),(∀ b∈frs l,b∈X.fs)→X.s₀.heap.FunFrames X.base l→s.heap.FunFrames X.base l:=by
  intro l
  induction l with
  | nil=>intro _ _;trivial
  | cons env r ih =>
   intro hs hl
   obtain ⟨hk,⟨L,o,hf,hn,ho,hd⟩,hr⟩:=hl
   have hL:L∈X.fs:=hs L (by unfold frs;rw [zaF,hf];exact zaL)
   obtain ⟨sl,e⟩:=I.base.slot L o ho (I.ok.DP L hL) hL fun z=>I.ok.Aa L z hL
   exact ⟨hk,⟨L,_,hf,hn,e,hd⟩,ih (fun b hb=>hs b (by unfold frs;rw [zaF,hf];exact zax _ hb)) hr⟩
 exact all X.outer (fun _ hb=>hb) I.ok.jQ
theorem Inv.stack (I:Inv X pins σ H s):s.heap.FunFrames X.base X.stack:=by
 rcases I.ok.stk with e | ⟨e,hf⟩
 ·rw [e];exact I.jQ
 ·rw [e]
  obtain ⟨m,hn,_⟩:=I.loc
  refine .cons (by rw [I.ok.kind];decide) hf hn ?_ I.jQ
  exact Heap.get?_none_of_le (zco I.ok.Bl I.ok.above)
theorem Inv.lG (I:Inv X pins σ H s):∀ b∈frs X.stack,b∈X.env.locals::X.fs:=fun b hb=>by
 rcases I.ok.stk with e | ⟨e,hf⟩
 ·rw [e] at hb;exact zax _ hb
 ·rw [e] at hb
  unfold frs at hb
  rw [zaF,hf] at hb
  exact hb
theorem Inv.oS (I:Inv X pins σ H s):∀ b∈frs X.stack,H b=none:=fun b hb=>by
 rcases zbW.mp (I.lG b hb) with e | hb
 ·rw [e];exact I.free
 ·obtain ⟨_,o,ho,_⟩:=I.ok.jQ.mem hb
  exact I.base.free b o ho (I.ok.DP b hb) fun z=>I.ok.Aa b z hb
theorem Inv.step {g':Array yax}{t':Nat}{d':Drawn}{ch:List Addr} (I:Inv X pins σ H s)
  (hch:∀ b∈ch,(b∈X.ex∨X.s₀.heap.objs.size≤b)∧b≠X.env.locals∧(∀ x c,X.env.cells.lookup x=some c→c≠b)∧∀ p∈X.pn++pins,p.1≠b)
  (keep:∀ b o,b≠X.env.locals→b ∉ X.fs→b ∉ ch→s.heap.get? b=some o→H b=none→h'.get? b=some o)
  (slot:∀ b o,b≠X.env.locals→b∈X.fs→b ∉ ch→s.heap.get? b=some o→H b=none→∃ sl,h'.get? b=some { o with slots:=sl }) (free:∀ b o,b ∉ ch→s.heap.get? b=some o→H b=none→H' b=none)
  (there:∀ b o,b ∉ ch→s.heap.get? b=some o→∃ o',h'.get? b=some o')
  (tups:∀ b xs,H b=some (.tup xs)→H' b=some (.tup xs)) (mQ:∀ b o u,H b=some (.vD o u)→H' b=some (.vD o u)) (nA:∀ b ps,H b=some (.Ej ps)→∃ more,H' b=some (.Ej (ps++more)))
  (ns:∀ m,s.heap.Ns X.env.locals m→h'.Ns X.env.locals m) (hok:e9 X.prog X.w H' h') (hg:AllBare g') :
  Inv X pins σ H' { s with heap:=h',gens:=g',drawn:=d',toks:=t' }:=by
 have neL:∀ b o,X.s₀.heap.get? b=some o→b≠X.env.locals:=fun b o e=>zcn (zaU (zcw e) I.ok.above)
 have neC:∀ b o,X.s₀.heap.get? b=some o→b ∉ X.ex→b ∉ ch:=fun b o e hx hb=>by
  rcases (hch b hb).1 with z | z
  ·exact hx z
  ·exact absurd (zaU (zcw e) z) (zcc _)
 have cellK:∀ x c,X.env.cells.lookup x=some c→∀ v,s.heap.IsCell c v→h'.IsCell c v:=fun x c e v ⟨o,ho,hd⟩=>by
  have nch:c ∉ ch:=fun z=>(hch c z).2.2.1 x c e rfl
  by_cases hc:c∈X.fs
  ·obtain ⟨sl,q⟩:=slot c o (I.CK x c e) hc nch ho (I.dz x c e)
   exact ⟨_,q,hd⟩
  ·exact ⟨o,keep c o (I.CK x c e) hc nch ho (I.dz x c e),hd⟩
 refine ⟨I.ok,I.os,hg,⟨fun b o e n hb hx => ?_,fun b o e n hb hx => ?_,fun b o e n hx => ?_,fun b o e hx => ?_,fun b xs e=>tups b xs (I.base.tups b xs e),fun b o xs e=>mQ b o xs (I.base.mQ b o xs e),fun b ps e => ?_⟩,?_,fun x c e => ?_,?_,fun x c e => ?_,fun p hp => ?_,hok,I.len⟩
 ·exact keep b o (neL b o e) hb (neC b o e hx) (I.base.keep b o e n hb hx) (I.base.free b o e n hx)
 ·obtain ⟨sl,e1⟩:=I.base.slot b o e n hb hx
  obtain ⟨sl',e2⟩:=slot b _ (neL b o e) hb (neC b o e hx) e1 (I.base.free b o e n hx)
  exact ⟨sl',e2⟩
 ·obtain ⟨o',e1⟩:=I.base.there b o e hx
  exact free b o' (neC b o e hx) e1 (I.base.free b o e n hx)
 ·obtain ⟨o',e1⟩:=I.base.there b o e hx
  exact there b o' (neC b o e hx) e1
 ·obtain ⟨m1,e1⟩:=I.base.nA b ps e
  obtain ⟨m2,e2⟩:=nA b _ e1
  exact ⟨m1++m2,by rw [e2,Array.append_assoc]⟩
 ·obtain ⟨m,hn,hl⟩:=I.loc
  refine ⟨m,ns m hn,fun i x v e1 e2 e3 => ?_⟩
  obtain ⟨u,r,l⟩:=hl i x v e1 e2 e3
  refine ⟨u,r,?_⟩
  rcases l with l | ⟨k,c,e,z⟩
  ·exact .inl l
  ·exact .inr ⟨k,c,e,cellK x c e _ z⟩
 ·obtain ⟨v,z⟩:=I.cell x c e
  exact ⟨v,cellK x c e v z⟩
 ·obtain ⟨m,⟨o,_,_,ho,_⟩,_⟩:=I.loc
  exact free _ o (fun z=>(hch _ z).2.1 rfl) ho I.free
 ·obtain ⟨v,o,ho,hd⟩:=I.cell x c e
  exact free c o (fun z=>(hch c z).2.2.1 x c e rfl) ho (I.dz x c e)
 ·obtain ⟨e,n,ne,nf,d⟩:=I.pin p hp
  have nch:p.1 ∉ ch:=fun z=>(hch p.1 z).2.2.2 p hp rfl
  exact ⟨keep p.1 p.2 ne nf nch e n,free p.1 p.2 nch e n,ne,nf,d⟩
theorem Inv.un {t':Nat} (I:Inv X pins σ H s) (u:Un X.fs [] H H' s.heap h') (hok:e9 X.prog X.w H' h'):Inv X pins σ H' { s with heap:=h',toks:=t' }:=by
 obtain ⟨m,⟨o,es,ep,ho,r⟩,_⟩:=id I.loc
 obtain ⟨sl,hL⟩:=u.any ho I.free (by simp)
 exact I.step (g':=s.gens) (d':=s.drawn) (ch:=[]) (fun _ z=>nomatch z) (fun b o _ hb _ e n=>u.keep b o e n hb (by simp)) (fun b o _ hb _ e n=>u.slot b o e n hb (by simp)) (fun b o _ e n=>u.free b o e n (by simp)) (fun b o _ e=>u.there b o e (by simp)) u.tups u.mQ u.nA (fun m' hm=>by
  obtain ⟨o',es',ep',ho',r'⟩:=hm
  rw [ho] at ho';cases ho'
  exact ⟨_,es',ep',hL,r'⟩) hok I.bare
theorem Inv.call {g':Array yax}{t':Nat}{d':Drawn}{ch:List Addr} (I:Inv X pins σ H s) (u:Un (frs X.stack) ch H H' s.heap h') (hok:e9 X.prog X.w H' h') (hg:AllBare g')
  (hch:∀ b∈ch,(b∈X.ex∨X.s₀.heap.objs.size≤b)∧b≠X.env.locals∧(∀ x c,X.env.cells.lookup x=some c→c≠b)∧∀ p∈X.pn++pins,p.1≠b) :
  Inv X pins σ H' { s with heap:=h',gens:=g',drawn:=d',toks:=t' }:=by
 obtain ⟨m,⟨o,es,ep,ho,r⟩,_⟩:=id I.loc
 obtain ⟨sl,hL⟩:=u.any ho I.free fun z=>(hch _ z).2.1 rfl
 exact I.step (ch:=ch) hch (fun b o hL hb hc e n=>u.keep b o e n (fun z=>(zbW.mp (I.lG b z)).elim hL hb) hc) (fun b o _ _ hc e n=>u.any e n hc) (fun b o hc e n=>u.free b o e n hc) (fun b o hc e=>u.there b o e hc) u.tups u.mQ u.nA (fun m' hm=>by
  obtain ⟨o',es',ep',ho',r'⟩:=hm
  rw [ho] at ho';cases ho'
  exact ⟨_,es',ep',hL,r'⟩) hok hg
theorem Inv.turned {t':Nat}{it:Addr} (I:Inv X pins σ H s) (k:∀ b o,b≠it→s.heap.get? b=some o→h'.get? b=some o) (hn:H it=none) (hL:it≠X.env.locals)
  (h1:it∈X.ex∨X.s₀.heap.objs.size≤it) (h2:∀ x c,X.env.cells.lookup x=some c→c≠it) (h3:∀ p∈X.pn++pins,p.1≠it):Inv X pins σ H { s with heap:=h',toks:=t' }:=by
 have nit:∀ b u,H b=some u→b≠it:=fun b u e z=>by rw [z,hn] at e;cases e
 refine I.step (g':=s.gens) (d':=s.drawn) (ch:=[it]) (fun b hb => ?_) (fun b o _ _ hc e _=>k b o (fun z=>hc (by simp [z])) e) (fun b o _ _ hc e _=>⟨o.slots,k b o (fun z=>hc (by simp [z])) e⟩) (fun _ _ _ _ n=>n)
  (fun b o hc e=>⟨o,k b o (fun z=>hc (by simp [z])) e⟩) (fun _ _ e=>e) (fun _ _ _ e=>e) (fun b ps e=>⟨#[],by rw [e];simp⟩) (fun m hm => ?_) (fun b u e => ?_) I.bare
 ·have e:b=it:=by simpa using hb
  subst e
  exact ⟨h1,hL,h2,h3⟩
 ·obtain ⟨o,es,ep,ho,r⟩:=hm
  exact ⟨o,es,ep,k _ o (Ne.symm hL) ho,r⟩
 ·refine (I.hok b u e).stay (fun c v hc q=>k c v ?_ q) (fun _ q=>q) fun _ _ q=>q
  rcases hc with z | z
  ·rw [z];exact nit b u e
  ·exact nit c _ z
theorem Inv.tok (I:Inv X pins σ H s) (t:Nat):Inv X pins σ H { s with toks:=t }:=I.un (h':=s.heap) (t':=t) Un.refl I.hok
theorem Inv.kept {t':Nat} (I:Inv X pins σ H s) (k:∀ b u,s.heap.get? b=some u→h'.get? b=some u):Inv X pins σ H { s with heap:=h',toks:=t' }:=I.un (Un.kept k) (I.hok.kept k)
theorem Inv.laid {a:Addr}{o:HO}{t':Nat} (I:Inv X pins σ H s) (k:∀ b u,s.heap.get? b=some u→h'.get? b=some u) (hp:s.heap.objs.size≤a) (new:aQ X.prog X.w (upd H a o) h' a o) :
  Inv X pins σ (upd H a o) { s with heap:=h',toks:=t' }:=I.un (Un.laid k hp (I.hok.fresh hp)) (I.hok.laid k hp new)
theorem Inv.write {x e:Addr}{o:HO}{t':Nat} (I:Inv X pins σ H s) (mu:D5 (H x)) (he:e=x∨H e=some (.own x)) (k:∀ b u,b≠e→s.heap.get? b=some u→h'.get? b=some u) (heo:∃ u,h'.get? e=some u)
  (new:aQ X.prog X.w (upd H x o) h' x o):Inv X pins σ (upd H x o) { s with heap:=h',toks:=t' }:=I.un (Un.write mu he k heo) (I.hok.write mu he k heo new)
theorem Inv.weak {σ':List (Option V)} (I:Inv X pins σ H s) (hl:σ'.length=σ.length) (w:∀ (i:Nat) v,σ'[i]? = some (some v)→σ[i]? = some (some v)):Inv X pins σ' H s :=
 ⟨I.ok,I.os,I.bare,I.base,let ⟨m,hn,hl'⟩:=I.loc;⟨m,hn,fun i x v e1 e2 e3=>hl' i x v e1 (w i v e2) e3⟩,I.cell,I.free,I.dz,I.pin,I.hok,hl.trans I.len⟩
theorem Inv.iY {pins':List (Addr×Obj)} (I:Inv X pins σ H s) (h:∀ p∈pins',s.heap.get? p.1=some p.2∧H p.1=none∧p.1≠X.env.locals∧p.1 ∉ X.fs∧∀ v,p.2.data ≠ .cell v):Inv X pins' σ H s :=
 ⟨I.ok,I.os,I.bare,I.base,I.loc,I.cell,I.free,I.dz,fun p hp=>(zbA.mp hp).elim (fun z=>I.pin p (zay _ z)) (h p),I.hok,I.len⟩
theorem mj {N:List Str} (hN:N.Nodup) {i j:Nat}{x:Str} (a:N[i]? = some x) (b:N[j]? = some x):i=j:=by
 obtain ⟨h1,e1⟩:=zac.mp a
 obtain ⟨h2,e2⟩:=zac.mp b
 exact (List.getElem_inj hN).mp (e1.trans e2.symm)
theorem wI {M:Model}{A:yam}{E:yaj→yai→Prop}{i:Nat}{x:Str}{v:V}{u:yaj}{Q:Unit→yai→Prop} (I:Inv X pins σ H s) (hN:X.N.Nodup) (hi:X.N[i]? = some x) (hx:Loc X.env.scope x) (r:RelV v u)
  (h:∀ s',Inv X pins (σ.set i (some v)) H s'→(∃ a,Heap.SameBut a s.heap s'.heap∧(a=X.env.locals∨X.env.cells.lookup x=some a))→Q () s') (hf:X.fn x=true∨X.env.scope.names.lookup x=some .local:=by first | exact .inl rfl | exact .inr rfl | assumption):yas M A (storeName X.env x u) Q E s:=by
 obtain ⟨m,hn,hl⟩:=id I.loc
 have hcls:(X.env.scope.kind == .class||(X.env.scope.kind == .module&&X.env.locals != X.env.globals))=false:=by rw [I.ok.kind];rfl
 have hiσ:i<σ.length:=by rw [I.len];exact (zac.mp hi).1
 have CK:=I.CK
 have tracked:∀ {a:Addr}{h':Heap},(∃ o,s.heap.get? a=some o∧H a=none)→Heap.SameBut a s.heap h'→e9 X.prog X.w H h':=fun {a h'} ha hs b ob e=>by
  obtain ⟨_,_,hfree⟩:=ha
  refine (I.hok b ob e).stay (fun c w' hc q=>(hs.2 c ?_).trans q) (fun _ q=>q) fun _ _ q=>q
  rintro rfl
  rcases hc with rfl | hc
  ·rw [hfree] at e;cases e
  ·rw [hfree] at hc;cases hc
 rcases hx with hk | hk
 ·refine wpAny_storeName_local hk hn (fun h' hn' hs => ?_) hcls
  obtain ⟨oL,_,_,hoL,_⟩:=id hn
  refine h _ ⟨I.ok,I.os,I.bare,⟨fun b o e n hb hx => ?_,fun b o e n hb hx => ?_,I.base.free,fun b o e hx => ?_,I.base.tups,I.base.mQ,I.base.nA⟩,⟨_,hn',fun j y v' e1 e2 e3 => ?_⟩,fun y c e => ?_,I.free,I.dz,fun p hp => ?_,tracked ⟨oL,hoL,I.free⟩ hs,by simpa using I.len⟩ ⟨_,hs,.inl rfl⟩
  ·exact (hs.2 b (zcn (zaU (zcw e) I.ok.above))).trans (I.base.keep b o e n hb hx)
  ·obtain ⟨sl,e1⟩:=I.base.slot b o e n hb hx
   exact ⟨sl,(hs.2 b (zcn (zaU (zcw e) I.ok.above))).trans e1⟩
  ·obtain ⟨o',e1⟩:=I.base.there b o e hx
   exact ⟨o',(hs.2 b (zcn (zaU (zcw e) I.ok.above))).trans e1⟩
  ·by_cases hj:j=i
   ·subst hj
    rw [hi] at e1;cases e1
    rw [List.getElem?_set_self hiσ] at e2
    cases e2
    exact ⟨u,r,.inl ⟨hk,by simp⟩⟩
   ·rw [zaz (Ne.symm hj)] at e2
    obtain ⟨u',r',q⟩:=hl j y v' e1 e2 e3
    refine ⟨u',r',?_⟩
    rcases q with ⟨k,e⟩ | ⟨k,c,e,z⟩
    ·refine .inl ⟨k,?_⟩
     have:y≠x:=fun e=>hj (mj hN e1 (e ▸ hi))
     simp [this,e]
    ·exact .inr ⟨k,c,e,z.sameBut hs (CK y c e)⟩
  ·obtain ⟨w',z⟩:=I.cell y c e
   exact ⟨w',z.sameBut hs (CK y c e)⟩
  ·obtain ⟨e,n,ne,nf,d⟩:=I.pin p hp
   exact ⟨(hs.2 p.1 ne).trans e,n,ne,nf,d⟩
 ·have hfn:X.fn x=true:=by
   rcases hf with z | z
   ·exact z
   ·rw [z] at hk;cases hk
  obtain ⟨c,hc⟩:=I.ok.has x (.inl hk)
  obtain ⟨w',z⟩:=I.cell x c hc
  refine wpAny_storeName_cell I.ok.kind hk hc z (fun h' hc' hs => ?_)
  obtain ⟨oc,hoc,hocd⟩:=id z
  refine h { s with heap:=h' } ⟨I.ok,I.os,I.bare,⟨fun b o e n hb hx => ?_,fun b o e n hb hx => ?_,I.base.free,fun b o e hx => ?_,I.base.tups,I.base.mQ,I.base.nA⟩,⟨m,hn.sameBut hs (Ne.symm (CK x c hc)),fun j y v' e1 e2 e3 => ?_⟩,fun y c' e => ?_,I.free,I.dz,fun p hp => ?_,tracked ⟨oc,hoc,I.dz x c hc⟩ hs,by simpa using I.len⟩ ⟨c,hs,.inr hc⟩
  ·exact (hs.2 b (zcn (zaU (zcw e) (I.ok.GV x c hfn hc)))).trans (I.base.keep b o e n hb hx)
  ·obtain ⟨sl,e1⟩:=I.base.slot b o e n hb hx
   exact ⟨sl,(hs.2 b (zcn (zaU (zcw e) (I.ok.GV x c hfn hc)))).trans e1⟩
  ·obtain ⟨o',e1⟩:=I.base.there b o e hx
   exact ⟨o',(hs.2 b (zcn (zaU (zcw e) (I.ok.GV x c hfn hc)))).trans e1⟩
  ·by_cases hj:j=i
   ·subst hj
    rw [hi] at e1;cases e1
    rw [List.getElem?_set_self hiσ] at e2
    cases e2
    exact ⟨u,r,.inr ⟨.inl hk,c,hc,hc'⟩⟩
   ·rw [zaz (Ne.symm hj)] at e2
    obtain ⟨u',r',q⟩:=hl j y v' e1 e2 e3
    refine ⟨u',r',?_⟩
    rcases q with q | ⟨k,c',e,z'⟩
    ·exact .inl q
    ·refine .inr ⟨k,c',e,z'.sameBut hs ?_⟩
     rintro rfl
     exact hj (mj hN e1 (I.ok.inj _ _ _ e hc ▸ hi))
  ·by_cases hcc:c'=c
   ·subst hcc;exact ⟨_,hc'⟩
   ·obtain ⟨w2,z2⟩:=I.cell y c' e
    exact ⟨w2,z2.sameBut hs hcc⟩
  ·obtain ⟨e,n,ne,nf,d⟩:=I.pin p hp
   refine ⟨(hs.2 p.1 ?_).trans e,n,ne,nf,d⟩
   intro q
   rw [q,hoc] at e
   have q':oc=p.2:=zcB.inj e
   exact d w' (by rw [← q'];exact hocd)
theorem eN {M:Model}{A:yam}{E:yaj→yai→Prop}{i:Nat}{x:Str}{v:V}{u:yaj}{Q:Unit→yai→Prop} (I:Inv X pins σ H s) (hN:X.N.Nodup) (hi:X.N[i]? = some x) (hx:Loc X.env.scope x) (r:RelV v u)
  (h:∀ s',Inv X pins (σ.set i (some v)) H s'→Q () s') (hf:X.fn x=true∨X.env.scope.names.lookup x=some .local:=by first | exact .inl rfl | exact .inr rfl | assumption):yas M A (storeName X.env x u) Q E s :=
 wI I hN hi hx r (fun s' I' _=>h s' I') hf
theorem Inv.Ay {s':yai}{ch:List Addr} (I:Inv X pins σ H s) (ho:s'.os=s.os) (u:Un (frs X.stack) ch H H' s.heap s'.heap) (hok:e9 X.prog X.w H' s'.heap) (hg:AllBare s'.gens)
  (hch:∀ b∈ch,(b∈X.ex∨X.s₀.heap.objs.size≤b)∧b≠X.env.locals∧(∀ x c,X.env.cells.lookup x=some c→c≠b)∧∀ p∈X.pn++pins,p.1≠b):Inv X pins σ H' s':=by
 obtain ⟨h',g',d',t',o'⟩:=s'
 have e:o'=s.os:=ho
 subst e
 exact I.call (g':=g') (t':=t') (d':=d') u hok hg hch
end
abbrev XK:=yaj→Option Addr→Hp→Prop
abbrev St:=List (Option V)
abbrev VK:=V→Hp→Prop
abbrev TE:=St→Hp→VK→Prop
abbrev TT:=St→Hp→(Bool→Hp→Prop)→Prop
abbrev TA:=St→Hp→(List V→Hp→Prop)→Prop
structure Ends where
 nx:St→Hp→Prop
 rt:VK
 bk:St→Hp→Prop:=fun _ _=>False
 ct:St→Hp→Prop:=fun _ _=>False
abbrev TS:=Ends→St→Hp→Prop
def EP (X:Cx) (pins:List (Addr×Obj)) (σ:St) (Q:VK) (u:yaj) (s':yai):Prop:=∃ v H',Inv X pins σ H' s'∧RelV v u∧Q v H'
def TP (X:Cx) (pins:List (Addr×Obj)) (σ:St) (Q:Bool→Hp→Prop) (b:Bool) (s':yai):Prop:=∃ H',Inv X pins σ H' s'∧Q b H'
def AP (X:Cx) (pins:List (Addr×Obj)) (σ:St) (Q:List V→Hp→Prop) (us:List yaj) (s':yai):Prop:=∃ vs H',Inv X pins σ H' s'∧Vals vs us∧Q vs H'
def SP (X:Cx) (pins:List (Addr×Obj)) (D:Ends) (f:Flow) (s':yai):Prop :=
 match f with
 | .next=>∃ σ' H',Inv X pins σ' H' s'∧D.nx σ' H'
 | .brk=>∃ σ' H',Inv X pins σ' H' s'∧D.bk σ' H'
 | .cont=>∃ σ' H',Inv X pins σ' H' s'∧D.ct σ' H'
 | .ret u=>∃ v σ' H',Inv X pins σ' H' s'∧RelV v u∧D.rt v H'
def PE (X:Cx) (e:Expr) (t:TE):Prop :=
 ∀ (pins:List (Addr×Obj)) (s:yai) (σ:St) (H:Hp) (Q:VK),Inv X pins σ H s→t σ H Q→yas (model X.prog X.w) X.A (eval e X.env) (EP X pins σ Q) X.xe s
def PT (X:Cx) (e:Expr) (t:TT):Prop :=
 ∀ (pins:List (Addr×Obj)) (s:yai) (σ:St) (H:Hp) (Q:Bool→Hp→Prop),Inv X pins σ H s→t σ H Q→yas (model X.prog X.w) X.A (isTrue e X.env (eval e X.env)) (TP X pins σ Q) X.xe s
def PW (X:Cx) (e:Expr) (t:TT):Prop :=
 ∀ (whole:Sem yaj) (pins:List (Addr×Obj)) (s:yai) (σ:St) (H:Hp) (Q:Bool→Hp→Prop),Inv X pins σ H s→t σ H Q→yas (model X.prog X.w) X.A (isTrue e X.env whole) (TP X pins σ Q) X.xe s
theorem PW.pt {X:Cx}{e:Expr}{t:TT} (h:PW X e t):PT X e t:=h _
def PA (X:Cx) (es:List Expr) (t:TA):Prop :=
 ∀ (pos:Pos) (pins:List (Addr×Obj)) (s:yai) (σ:St) (H:Hp) (Q:List V→Hp→Prop),Inv X pins σ H s→t σ H Q→yas (model X.prog X.w) X.A (spliced (yav pos (yap es X.env))) (AP X pins σ Q) X.xe s
def PS (X:Cx) (st:Stmt) (t:TS):Prop :=
 ∀ (pins:List (Addr×Obj)) (s:yai) (σ:St) (H:Hp) (D:Ends),Inv X pins σ H s→t D σ H→yas (model X.prog X.w) X.A (exec st X.env) (SP X pins D) X.xe s
def oH (X:Cx) (st:List Stmt) (t:TS):Prop :=
 ∀ (pins:List (Addr×Obj)) (s:yai) (σ:St) (H:Hp) (D:Ends),Inv X pins σ H s→t D σ H→yas (model X.prog X.w) X.A (execs st X.env) (SP X pins D) X.xe s
theorem bJ {α:Type}{t:Sem α}{Q Q':α→yai→Prop}{M:Model}{A:yam}{E:yaj→yai→Prop}{s:yai} (h:yas M A t Q E s) (hQ:∀ a s,Q a s→Q' a s):yas M A t Q' E s:=yac h hQ fun _ _ x=>x
section
variable {X:Cx}
def lF (i:Nat):TE:=fun σ H Q=>∃ v,σ[i]? = some (some v)∧Q v H
def tC (v:V):TE:=fun _ H Q=>Q v H
theorem zw {i:Nat}{x:Str}{pos:Pos} (hN:X.N[i]? = some x) (hv:JA X.env.scope x) (hd:(x==("__debug__" : Str))=false:=by decide) (hcd:(x==("__classdict__" : Str))=false:=by decide):PE X (.Name x pos) (lF i):=by
 intro pins s σ H Q I h
 obtain ⟨v,e,h⟩:=h
 obtain ⟨m,hn,hl⟩:=I.loc
 obtain ⟨u,r,l⟩:=hl i x v hN e hv
 have fin:EP X pins σ Q u s:=⟨v,H,I,r,h⟩
 rcases l with ⟨hk,hm⟩ | ⟨hk,c,hc,hcell⟩
 ·exact wpAny_Name (wpAny_loadName_local I.ok.kind hk hn hm fin) hd
 ·rcases hk with hk | hk
  ·exact wpAny_Name (wpAny_loadName_cell I.ok.kind hk hc hcell fin) hd
  ·exact wpAny_Name (wpAny_loadName_free I.ok.kind hk hc hcell fin hcd) hd
theorem ai {i j pos}:PE X (.Constant (.int i) j pos) (tC (.int i)):=fun _ _ _ H _ I h=>wpAny_Constant_int ⟨.int i,H,I.tok _,⟨_,rfl⟩,h⟩
theorem eW {b j pos}:PE X (.Constant (.bool b) j pos) (tC (.bl b)):=fun _ _ _ H _ I h=>Constant_bool ⟨.bl b,H,I,rfl,h⟩
theorem iD {j pos}:PE X (.Constant .none j pos) (tC .bh):=fun _ _ _ H _ I h=>Constant_none ⟨.bh,H,I,rfl,h⟩
theorem av {x j pos}:PE X (.Constant (.str x) j pos) (tC (.str x)):=fun _ _ _ H _ I h=>Calls.Constant_str ⟨.str x,H,I.tok _,⟨_,rfl⟩,h⟩
def Gl (X:Cx) (x:Str):Prop:=X.env.kindOf x=some .globalImplicit
theorem gU {E:yaj→yai→Prop}{pins:List (Addr×Obj)}{s:yai}{σ:St}{H:Hp}{x:Str}{u:yaj}{pos:Pos}{Q:yaj→yai→Prop} (I:Inv X pins σ H s) (hg:Gl X x) (hm:X.mg x=some u) (h:Q u s)
  (hd:(x==("__debug__" : Str))=false:=by decide):yas (model X.prog X.w) X.A (eval (.Name x pos) X.env) Q E s :=
 Calls.Name_function_global I.ok.kind hg (Calls.loadGlobal_global (by rw [I.ok.glob];exact I.mod.glob.keeps I.bk) hm h) hd
theorem eE {E:yaj→yai→Prop}{pins:List (Addr×Obj)}{s:yai}{σ:St}{H:Hp}{x:Str}{u:yaj}{pos:Pos}{Q:yaj→yai→Prop} (I:Inv X pins σ H s) (hg:Gl X x) (hm:X.mg x=none) (hv:bootBuiltins x=some u) (h:Q u s)
  (hn:x ≠ "__name__" := by decide) (hd:(x==("__debug__" : Str))=false:=by decide):yas (model X.prog X.w) X.A (eval (.Name x pos) X.env) Q E s:=by
 obtain ⟨mb,h1,h2⟩:=I.mod.blt
 exact Calls.Name_function_global I.ok.kind hg (Calls.loadGlobal_builtin (by rw [I.ok.glob];exact I.mod.glob.keeps I.bk) hm (by rw [I.ok.blt];exact h1.keeps I.bk) ((h2 x hn).trans hv) h) hd
theorem iZ {x:Str}{v:V}{u:yaj}{pos:Pos} (hg:Gl X x) (hm:X.mg x=some u) (r:RelV v u) (hd:(x==("__debug__" : Str))=false:=by decide):PE X (.Name x pos) (tC v) :=
 fun _ _ _ H _ I h=>gU I hg hm ⟨v,H,I,r,h⟩ hd
theorem B4 {x:Str}{v:V}{u:yaj}{pos:Pos} (hg:Gl X x) (hm:X.mg x=none) (hv:bootBuiltins x=some u) (r:RelV v u) (hn:x ≠ "__name__" := by decide) (hd:(x==("__debug__" : Str))=false:=by decide):PE X (.Name x pos) (tC v) :=
 fun _ _ _ H _ I h=>eE I hg hm hv ⟨v,H,I,r,h⟩ hn hd
variable {a b:Expr}{ta tb:TE}{pos:Pos}
def tB (t:TE):TT:=fun σ H Q=>t σ H fun x H1=>∃ c,x = .bl c∧Q c H1
theorem cu {e:Expr}{t:TE} (h:PE X e t) (he:∀ whole,isTrue e X.env whole=(do let v ← whole;standAt e.pos;holding [v] (truthy v)):=by intro _;rfl):PT X e (tB t):=by
 intro pins s σ H Q I hw
 refine isTrue_plain (bJ (h pins s σ H _ I hw) fun v s1 ⟨x,H1,I1,r1,q1⟩ => ?_) (he _)
 obtain ⟨d,rfl,q⟩:=q1
 cases r1
 exact wpAny_truthy_bool ⟨H1,I1,q⟩
variable {tA tB':TT}{rest:List Expr}
def Hi (t u:TT):TT:=fun σ H Q=>t σ H fun c H1=>if c=true then u σ H1 Q else Q false H1
def KN (t u:TT):TT:=fun σ H Q=>t σ H fun c H1=>if c=true then Q true H1 else u σ H1 Q
def Hf (t:TT):TT:=fun σ H Q=>t σ H fun c H1=>Q (!c) H1
theorem pw_and1 (ha:PT X a tA):PW X (.BoolOp .And [a] pos) tA:=by
 intro wh pins s σ H Q I h
 refine isTrue_and (bJ (ha pins s σ H Q I h) fun c s1 e => ?_)
 cases c with
 | true=>exact isTrue_and_nil e
 | false=>exact e
theorem pw_or1 (ha:PT X a tA):PW X (.BoolOp .Or [a] pos) tA:=by
 intro wh pins s σ H Q I h
 refine isTrue_or (bJ (ha pins s σ H Q I h) fun c s1 e => ?_)
 cases c with
 | false=>exact isTrue_or_nil e
 | true=>exact e
theorem pw_and (ha:PT X a tA) (hb:PW X (.BoolOp .And (b::rest) pos) tB'):PW X (.BoolOp .And (a::b::rest) pos) (Hi tA tB'):=by
 intro wh pins s σ H Q I h
 refine isTrue_and (bJ (ha pins s σ H _ I h) fun c s1 ⟨H1,I1,q1⟩ => ?_)
 cases c with
 | true=>exact hb wh pins s1 σ H1 Q I1 q1
 | false=>exact ⟨H1,I1,q1⟩
theorem pw_or (ha:PT X a tA) (hb:PW X (.BoolOp .Or (b::rest) pos) tB'):PW X (.BoolOp .Or (a::b::rest) pos) (KN tA tB'):=by
 intro wh pins s σ H Q I h
 refine isTrue_or (bJ (ha pins s σ H _ I h) fun c s1 ⟨H1,I1,q1⟩ => ?_)
 cases c with
 | true=>exact ⟨H1,I1,q1⟩
 | false=>exact hb wh pins s1 σ H1 Q I1 q1
theorem eB (ha:PT X a tA):PT X (.UnaryOp .Not a pos) (Hf tA):=by
 intro pins s σ H Q I h
 exact isTrue_not (ha pins s σ H (fun c H1=>Q (!c) H1) I h)
def uQ (ta tb:TE):TE:=fun σ H Q=>ta σ H fun x H1=>∃ c,x = .bl c∧if c=true then tb σ H1 Q else Q (.bl false) H1
def yp (ta:TE):TE:=fun σ H Q=>ta σ H fun x H1=>∃ c,x = .bl c∧Q (.bl (!c)) H1
theorem pI {op}{t:TE} (h:PE X a t):PE X (.BoolOp op [a] pos) t:=fun pins s σ H Q I hw=>BoolOp_one (h pins s σ H Q I hw)
theorem jJ (ha:PE X a ta) (hb:PE X (.BoolOp .And (b::rest) pos) tb):PE X (.BoolOp .And (a::b::rest) pos) (uQ ta tb):=by
 intro pins s σ H Q I h
 refine BoolOp_and (bJ (ha pins s σ H _ I h) fun v s1 ⟨x,H1,I1,r1,q1⟩ => ?_)
 obtain ⟨c,rfl,q1⟩:=q1
 cases r1
 refine wpAny_truthy_bool ?_
 cases c with
 | true=>exact hb pins s1 σ H1 Q I1 q1
 | false=>exact ⟨.bl false,H1,I1,rfl,q1⟩
theorem Fj (ha:PE X a ta):PE X (.UnaryOp .Not a pos) (yp ta):=by
 intro pins s σ H Q I h
 refine UnaryOp_ (bJ (ha pins s σ H _ I h) fun v s1 ⟨x,H1,I1,r1,q1⟩ => ?_)
 obtain ⟨c,rfl,q1⟩:=q1
 cases r1
 exact not_of (wpAny_truthy_bool ⟨.bl (!c),H1,I1,rfl,q1⟩)
def KO (t:TT) (ta tb:TE):TE:=fun σ H Q=>t σ H fun c H1=>if c=true then ta σ H1 Q else tb σ H1 Q
theorem f7 {c:Expr} (hc:PT X c tA) (ha:PE X a ta) (hb:PE X b tb):PE X (.IfExp c a b pos) (KO tA ta tb):=by
 intro pins s σ H Q I h
 refine wpAny_IfExp (bJ (hc pins s σ H _ I h) fun d s1 ⟨H1,I1,q1⟩ => ?_)
 cases d with
 | true=>exact ha pins s1 σ H1 Q I1 q1
 | false=>exact hb pins s1 σ H1 Q I1 q1
end
def cH (K:yaH) (H:Hp) (a:Addr) (xs:List V):Prop :=
 Rd H a (.lst xs) ∨
  ∃ (o:Obj) (its:Array yaj) (n:Nat),K.lookup a=some o∧o.cls = .type "list" ∧ o.dict=none∧o.data = .seq its n∧its.size≤yah∧Vals xs its.toList
def dQ (K:yaH) (H:Hp) (a:Addr) (xs:List V):Prop :=
 Rd H a (.tup xs) ∨
  ∃ (o:Obj) (its:Array yaj) (n:Nat),K.lookup a=some o∧o.cls = .type "tuple" ∧ o.data = .seq its n∧its.size≤yah∧Vals xs its.toList
noncomputable def Ks:yaj→Option V
 | .none=>some .bh
 | .bool b=>some (.bl b)
 | .int i _=>some (.int i)
 | .str x _=>some (.str x)
 | .bytes b _=>some (.sH b)
 | .float b _=>some (.F5 b)
 | .ref a=>some (.ref a)
 | .type n=>some (.ty n)
 | _=>none
theorem RelV.abs {x:V}{u:yaj} (r:RelV x u):Ks u=some x:=by
 cases x with
 | bh=>cases r;rfl
 | bl _=>cases r;rfl
 | int _=>obtain ⟨t,rfl⟩:=r;rfl
 | str _=>obtain ⟨t,rfl⟩:=r;rfl
 | sH _=>obtain ⟨t,rfl⟩:=r;rfl
 | F5 _=>obtain ⟨t,rfl⟩:=r;rfl
 | ref _=>cases r;rfl
 | ty _=>cases r;rfl
theorem RelV.inj {x y:V}{u:yaj} (r:RelV x u) (q:RelV y u):x=y:=zcB.inj (r.abs.symm.trans q.abs)
theorem Vals.inj:∀ {xs ys:List V}{us:List yaj},Vals xs us→Vals ys us→xs=ys
 | _,_,_,.nil,.nil=>rfl
 | _,_,_,.cons r t,.cons r' t'=>by rw [r.inj r',Vals.inj t t']
section
variable {X:Cx}{pins:List (Addr×Obj)}{σ:St}{H:Hp}{s:yai}{a:Addr}{xs ys:List V}
theorem cH.of {K:yaH} (h:H a=some (.lst xs)):cH K H a xs:=.inl (.inl h)
theorem dQ.of {K:yaH} (h:H a=some (.tup xs)):dQ K H a xs:=.inl (.inl h)
theorem Inv.list (I:Inv X pins σ H s) (h:cH X.K H a xs):∃ its:List yaj,Vals xs its∧PlainL s.heap a its.toArray∧xs.length≤yah:=by
 rcases h with h | ⟨o,its,n,hk,hc,hd,hs,hz,r⟩
 ·obtain ⟨z,its,n,r,e⟩:=h.ok I.hok
  exact ⟨its,r,⟨_,n,e,rfl,rfl,rfl⟩,z⟩
 ·refine ⟨its.toList,r,⟨o,n,I.gj a o hk,hc,hd,by simpa using hs⟩,?_⟩
  have e:=r.length
  simp only [zaJ] at e
  lia
theorem Inv.tuple (I:Inv X pins σ H s) (h:dQ X.K H a xs):∃ its:List yaj,Vals xs its∧IsTup s.heap a its.toArray∧xs.length≤yah:=by
 rcases h with h | ⟨o,its,n,hk,hc,hs,hz,r⟩
 ·obtain ⟨z,its,r,p⟩:=h.ok I.hok
  exact ⟨its,r,p,z⟩
 ·refine ⟨its.toList,r,⟨o,I.gj a o hk,hc,n,by simpa using hs⟩,?_⟩
  have e:=r.length
  simp only [zaJ] at e
  lia
theorem Inv.zL (I:Inv X pins σ H s) (h:cH X.K H a xs) (h':cH X.K H a ys):xs=ys:=by
 obtain ⟨its,r,⟨o,n,e,_,_,d⟩,_⟩:=I.list h
 obtain ⟨its',r',⟨o',n',e',_,_,d'⟩,_⟩:=I.list h'
 rw [e] at e';cases e'
 rw [d] at d'
 injection d' with d1 _
 have:its=its':=by simpa using congrArg Array.toList d1
 subst this
 exact r.inj r'
theorem Inv.wG (I:Inv X pins σ H s) (h:dQ X.K H a xs) (h':dQ X.K H a ys):xs=ys:=by
 obtain ⟨its,r,⟨o,e,_,n,d⟩,_⟩:=I.tuple h
 obtain ⟨its',r',⟨o',e',_,n',d'⟩,_⟩:=I.tuple h'
 rw [e] at e';cases e'
 rw [d] at d'
 injection d' with d1 _
 have:its=its':=by simpa using congrArg Array.toList d1
 subst this
 exact r.inj r'
end
noncomputable abbrev Cx.ny (X:Cx) (E:yaj→yai→Prop):Cx:={ X with xe:=E }
noncomputable abbrev Cx.FH (X:Cx):Cx:=X.ny fun _ _=>False
theorem Cx.Ok.ny {X:Cx} (ok:X.Ok) (E:yaj→yai→Prop):(X.ny E).Ok :=
 ⟨ok.mod,ok.kind,ok.glob,ok.blt,ok.above,ok.inj,ok.has,ok.GV,ok.hd,ok.frames,ok.stk,ok.Jx,ok.bs,ok.Bl,ok.w6,ok.Aa,ok.jQ,ok.DP⟩
theorem Cx.Ok.fR {X:Cx}{E:yaj→yai→Prop} (ok:(X.ny E).Ok):X.Ok :=
 ⟨ok.mod,ok.kind,ok.glob,ok.blt,ok.above,ok.inj,ok.has,ok.GV,ok.hd,ok.frames,ok.stk,ok.Jx,ok.bs,ok.Bl,ok.w6,ok.Aa,ok.jQ,ok.DP⟩
section
variable {X:Cx}{pins:List (Addr×Obj)}{σ:St}{H:Hp}{s:yai}{E:yaj→yai→Prop}
theorem Inv.ny (I:Inv X pins σ H s) (E:yaj→yai→Prop):Inv (X.ny E) pins σ H s:=⟨I.ok.ny E,I.os,I.bare,I.base,I.loc,I.cell,I.free,I.dz,I.pin,I.hok,I.len⟩
theorem Inv.fR (I:Inv (X.ny E) pins σ H s):Inv X pins σ H s:=⟨I.ok.fR,I.os,I.bare,I.base,I.loc,I.cell,I.free,I.dz,I.pin,I.hok,I.len⟩
theorem SP.fR {D:Ends}{f:Flow}{s':yai} (h:SP (X.ny E) pins D f s'):SP X pins D f s':=by
 cases f with
 | next=>obtain ⟨σ',H',I,q⟩:=h;exact ⟨σ',H',I.fR,q⟩
 | brk=>obtain ⟨σ',H',I,q⟩:=h;exact ⟨σ',H',I.fR,q⟩
 | cont=>obtain ⟨σ',H',I,q⟩:=h;exact ⟨σ',H',I.fR,q⟩
 | ret u=>obtain ⟨v,σ',H',I,r,q⟩:=h;exact ⟨v,σ',H',I.fR,r,q⟩
theorem oH.FH {st:List Stmt}{t:TS} (h:oH X.FH st t):oH X st t:=fun pins s σ H D I hw =>
 yac (h pins s σ H D (I.ny _) hw) (fun _ _ q=>q.fR) fun _ _ z=>False.elim z
end
section
variable {X:Cx}{st:Stmt}{rest:List Stmt}{t u:TS}{e:Expr}{te:TE}{pos:Pos}
def uO:TS:=fun D σ H=>D.nx σ H
def yo (t u:TS):TS:=fun D σ H=>t { D with nx:=u D } σ H
theorem aL:oH X [] uO:=fun _ _ σ H _ I h=>yaD ⟨σ,H,I,h⟩
theorem ah (h1:PS X st t) (h2:oH X rest u):oH X (st::rest) (yo t u):=by
 intro pins s σ H D I h
 refine yaE (bJ (h1 pins s σ H { D with nx:=u D } I h) fun f s1 q => ?_)
 cases f with
 | next =>
  obtain ⟨σ',H',I',q⟩:=q
  exact h2 pins s1 σ' H' D I' q
 | ret v=>exact q
 | brk=>exact q
 | cont=>exact q
theorem aj (h1:PS X st t):oH X [st] t:=by
 intro pins s σ H D I h
 refine yaE (bJ (h1 pins s σ H D I h) fun f s1 q => ?_)
 cases f with
 | next=>exact yaD q
 | ret v=>exact q
 | brk=>exact q
 | cont=>exact q
theorem Inv.quiet {pins:List (Addr×Obj)}{σ:St}{H:Hp}{s:yai} (I:Inv X pins σ H s):interactive X.env=false:=by simp [interactive,I.ok.kind]
def Dm (te:TE):TS:=fun D σ H=>te σ H fun _ H1=>D.nx σ H1
theorem cD (he:PE X e te) (hs:yau e none pos.line X.env=pure false:=by rfl):PS X (.Expr e pos) (Dm te):=by
 intro pins s σ H D I h
 exact wpAny_Expr_any (bJ (he pins s σ H _ I h) fun v s1 ⟨x,H1,I1,r1,q1⟩=>⟨σ,H1,I1,q1⟩) I.quiet hs
def G8 (te:TE):TS:=fun D σ H=>te σ H D.rt
theorem aF (he:PE X e te):PS X (.Return (some e) pos) (G8 te):=by
 intro pins s σ H D I h
 exact wpAny_Return_some (bJ (he pins s σ H _ I h) fun v s1 ⟨x,H1,I1,r1,q1⟩=>⟨x,σ,H1,I1,r1,q1⟩)
def Bu (c:TT) (t u:TS):TS:=fun D σ H=>c σ H fun b H1=>if b=true then t D σ H1 else u D σ H1
theorem bu {c:Expr}{a b:List Stmt}{tc:TT} (hc:PT X c tc) (ha:oH X a t) (hb:oH X b u):PS X (.If c a b pos) (Bu tc t u):=by
 intro pins s σ H D I h
 refine wpAny_If (bJ (hc pins s σ H _ I h) fun d s1 ⟨H1,I1,q1⟩ => ?_)
 cases d with
 | true=>exact ha pins s1 σ H1 D I1 q1
 | false=>exact hb pins s1 σ H1 D I1 q1
def Em:TS:=fun _ _ _=>False
theorem lW:PS X st Em:=fun _ _ _ _ _ _ h=>h.elim
end
abbrev TG:=V→St→Hp→(St→Hp→Prop)→Prop
abbrev CW:=List V→St→Hp→(St→Hp→Prop)→Prop
def PG (X:Cx) (target:Expr) (t:TG):Prop :=
 ∀ (pins:List (Addr×Obj)) (s:yai) (σ:St) (H:Hp) (v:V) (u:yaj) (Q:St→Hp→Prop),Inv X pins σ H s→RelV v u→t v σ H Q →
  yas (model X.prog X.w) X.A (assign target X.env u) (fun _ s'=>∃ σ' H',Inv X pins σ' H' s'∧Q σ' H') X.xe s
def GD (X:Cx) (ts:List Expr) (t:CW):Prop :=
 ∀ (pins:List (Addr×Obj)) (s:yai) (σ:St) (H:Hp) (vs:List V) (us:List yaj) (Q:St→Hp→Prop),Inv X pins σ H s→Vals vs us→t vs σ H Q →
  yas (model X.prog X.w) X.A (assignInOrder ((assignEach ts X.env).map (·.2)) us) (fun _ s'=>∃ σ' H',Inv X pins σ' H' s'∧Q σ' H') X.xe s
abbrev Gx:=V→V→V→Hp→(Hp→Prop)→Prop
def Jg (X:Cx) (t:Gx):Prop :=
 ∀ (pins:List (Addr×Obj)) (s:yai) (σ:St) (H:Hp) (o i v:V) (ov iv u:yaj) (Q:Hp→Prop),Inv X pins σ H s→RelV o ov→RelV i iv→RelV v u→t o i v H Q →
  yas (model X.prog X.w) X.A (setItem ov iv u) (fun _ s'=>∃ H',Inv X pins σ H' s'∧Q H') X.xe s
section
variable {X:Cx}{pos:Pos}
def j4 (i:Nat):TG:=fun v σ H Q=>Q (σ.set i (some v)) H
theorem aG {i:Nat}{x:Str} (hN:X.N.Nodup) (hi:X.N[i]? = some x) (hx:Loc X.env.scope x) (hf:X.fn x=true∨X.env.scope.names.lookup x=some .local:=by first | exact .inl rfl | exact .inr rfl | assumption):PG X (.Name x pos) (j4 i):=by
 intro pins s σ H v u Q I r h
 exact wpAny_assign_Name (eN I hN hi hx r (fun s' I'=>⟨_,H,I',h⟩) hf)
def IB:CW:=fun vs σ H Q=>vs=[]∧Q σ H
def DO (t:TG) (u:CW):CW:=fun vs σ H Q=>∃ v r,vs=v::r∧t v σ H fun σ' H'=>u r σ' H' Q
theorem fm:GD X [] IB:=by
 intro pins s σ H vs us Q I r h
 obtain ⟨e,h⟩:=h
 subst e
 cases r
 exact assignInOrder_nil ⟨σ,H,I,h⟩
theorem bP {e:Expr}{es:List Expr}{t:TG}{u:CW} (h1:PG X e t) (h2:GD X es u)
  (hs:(assignEach (e::es) X.env).map (·.2)=assign e X.env::(assignEach es X.env).map (·.2):=by rfl):GD X (e::es) (DO t u):=by
 intro pins s σ H vs us Q I r h
 obtain ⟨v,vr,e1,h⟩:=h
 subst e1
 cases r with
 | cons r rr =>
  rw [hs]
  refine assignInOrder_cons (bJ (h1 pins s σ H _ _ _ I r h) fun _ s1 ⟨σ1,H1,I1,q1⟩ => ?_)
  exact h2 pins s1 σ1 H1 _ _ Q I1 rr q1
def Iz (K:yaH) (n:Nat) (t:CW):TG:=fun v σ H Q=>∃ a xs,v = .ref a∧dQ K H a xs∧xs.length=n∧t xs σ H Q
theorem iC {es:List Expr}{k:Nat}{t:CW}{n:Nat} (hc:X.calm=true) (h:GD X es t)
  (hn:(assignEach es X.env).length=n:=by rfl) (hst:(assignEach es X.env).findIdx? (·.1)=none:=by rfl):PG X (.Tuple es k pos) (Iz X.K n t):=by
 intro pins s σ H v u Q I r hw
 obtain ⟨a,xs,e1,hq,hl,hw⟩:=hw
 subst e1
 cases r
 obtain ⟨its,rv,ht,hz⟩:=I.tuple hq
 refine assign_Tuple_tuple (I.ok.hd hc) ht (by simp [hn,← hl,rv.length]) hst fun h' hx => ?_
 have I1:Inv X pins σ H { s with heap:=h' }:=I.kept (t':=s.toks) fun b o e=>hx b o (zcn (zcw e)) e
 exact h pins _ σ H xs _ Q I1 (by simpa using rv) hw
def IA (to ti:TE) (t:Gx):TG:=fun v σ H Q=>to σ H fun o H1=>ti σ H1 fun i H2=>t o i v H2 fun H3=>Q σ H3
theorem Fi {o i:Expr}{to ti:TE}{t:Gx} (ho:PE X o to) (hi:PE X i ti) (hs:Jg X t)
  (ha:∀ v,assign (.Subscript o i pos) X.env v=(do
   let ov ← holding [v] (eval o X.env)
   let iv ← holding [v,ov] (eval i X.env)
   standAt pos
   holding [v,ov,iv] (setItem ov iv v)
   release [v,ov,iv] []):=by intro _;rfl):PG X (.Subscript o i pos) (IA to ti t):=by
 intro pins s σ H v u Q I r h
 rw [ha]
 refine yaa (yad (bJ (ho pins s σ H _ I h) fun ov s1 ⟨x,H1,I1,r1,q1⟩ => ?_))
 refine yaa (yad (bJ (hi pins s1 σ H1 _ I1 q1) fun iv s2 ⟨y,H2,I2,r2,q2⟩ => ?_))
 refine yaa (yaz (yaa (yad (bJ (hs pins s2 σ H2 x y v ov iv u _ I2 r1 r2 r q2) fun _ s3 ⟨H3,I3,q3⟩ => ?_))))
 exact wpAny_release ⟨σ,H3,I3,q3⟩
def oO (te:TE) (g:TG):TS:=fun D σ H=>te σ H fun x H1=>g x σ H1 D.nx
theorem pD {tg e:Expr}{te:TE}{g:TG} (he:PE X e te) (hg:PG X tg g) (hs:swapsWithSole [tg] e pos.line X.env=pure false:=by rfl) (hw:swappedStores [tg] e X.env=pure none:=by rfl)
  (h1:(assignEach [tg] X.env).map (·.2)=[assign tg X.env]:=by rfl):PS X (.Assign [tg] e pos) (oO te g):=by
 intro pins s σ H D I h
 refine wpAny_Assign_stores (bJ (he pins s σ H _ I h) fun v s1 ⟨x,H1,I1,r1,q1⟩ => ?_) hs hw
 rw [h1]
 exact bJ (hg pins s1 σ H1 x v _ I1 r1 q1) fun _ s2 q=>q
theorem az {i:Nat}{x:Str}{e:Expr}{te:TE}{pos':Pos} (hN:X.N.Nodup) (hi:X.N[i]? = some x) (hx:Loc X.env.scope x) (he:PE X e te) (hs:yau e (some (.Name x pos')) pos.line X.env=pure false:=by rfl) (hf:X.fn x=true∨X.env.scope.names.lookup x=some .local:=by first | exact .inl rfl | exact .inr rfl | assumption) :
  PS X (.Assign [.Name x pos'] e pos) (oO te (j4 i)):=by
 intro pins s σ H D I h
 refine wpAny_Assign_Name (bJ (he pins s σ H _ I h) fun v s1 ⟨y,H1,I1,r1,q1⟩ => ?_) hs
 exact eN I1 hN hi hx r1 (fun s2 I2=>⟨_,H1,I2,q1⟩) hf
def yl (c:TT) (tb:TS):TS:=fun D σ H=>∃ W:Nat→St→Hp→Prop,(∃ m,W m σ H)∧∀ m σ H,W m σ H →
 c σ H fun b H1=>if b=true then ∃ N:St→Hp→Prop,(∀ σ' H',N σ' H'→∃ m',m'<m∧W m' σ' H')∧tb { D with nx:=N,ct:=N,bk:=D.nx } σ H1 else D.nx σ H1
theorem dI {c:Expr}{body:List Stmt}{tc:TT}{tb:TS} (hp:PassesOwn (model X.prog X.w) X.A X.env X.xe) (hc:PT X c tc) (hb:oH X body tb):PS X (.While c body [] pos) (yl tc tb):=by
 intro pins s σ H D I h
 obtain ⟨W,⟨m0,w0⟩,turn⟩:=h
 refine wpAny_While (codeAny_whileLoop (fun n s'=>∃ σ' H',Inv X pins σ' H' s'∧W n σ' H') ?_ m0 ⟨σ,H,I,w0⟩)
 rintro n s1 ⟨σ1,H1,I1,w1⟩
 refine wpAny_passesOwn hp (bJ (hc pins s1 σ1 H1 _ I1 (turn n σ1 H1 w1)) fun b s2 ⟨H2,I2,q2⟩ => ?_)
 cases b with
 | true =>
  obtain ⟨N,hN,q2⟩:=q2
  rw [yIp rfl]
  refine wpAny_passesOwn hp (bJ (hb pins s2 σ1 H2 _ I2 q2) fun f s3 q3 => ?_)
  cases f with
  | next =>
   obtain ⟨σ3,H3,I3,n3⟩:=q3
   obtain ⟨m',hm,w3⟩:=hN σ3 H3 n3
   exact ⟨m',hm,σ3,H3,I3,w3⟩
  | cont =>
   obtain ⟨σ3,H3,I3,n3⟩:=q3
   obtain ⟨m',hm,w3⟩:=hN σ3 H3 n3
   exact ⟨m',hm,σ3,H3,I3,w3⟩
  | brk=>exact q3
  | ret v=>exact q3
 | false =>
  rw [yIn zaW]
  exact yaD ⟨σ1,H2,I2,q2⟩
end
structure It where
 go:Nat→Hp→Prop
 yd:Nat→Hp→V→Hp→Prop
 stop:Nat→Hp→Prop
def kI (X:Cx) (pins:List (Addr×Obj)) (H:Hp) (b:Addr):Prop :=
 H b=none∧b≠X.env.locals∧b ∉ X.fs∧(b∈X.ex∨X.s₀.heap.objs.size≤b)∧(∀ x c,X.env.cells.lookup x=some c→c≠b)∧∀ p∈X.pn++pins,p.1≠b
theorem Inv.ue {X:Cx}{pins:List (Addr×Obj)}{σ:St}{H H':Hp}{s:yai}{b:Addr} (I:Inv X pins σ H s) (hb:s.heap.objs.size≤b) (hn:H' b=none):kI X pins H' b:=by
 refine ⟨hn,zcq (zaU I.lt hb),I.Ig hb,.inr (zco I.sz hb),fun x c e z => ?_,fun p hp z => ?_⟩
 ·obtain ⟨v,q⟩:=I.cell x c e
  exact absurd (zaU q.lt (by rw [z];exact hb)) (zcc _)
 ·exact absurd (zaU (zcw (I.pin p hp).1) (by rw [z];exact hb)) (zcc _)
structure Turn (P:yak) (w:yal) (K:yaH) (tg:Expr) (J:It) (fp:List Addr) (it:Addr) (tn:Nat→Heap→Prop):Prop where
 mem:it∈fp
 obj:∀ i h,tn i h→∀ b∈fp,∃ o,h.get? b=some o∧∀ v,o.data ≠ .cell v
 keep:∀ i h h',tn i h→(∀ b∈fp,∀ o,h.get? b=some o→h'.get? b=some o)→tn i h'
 item:∀ (X:Cx),X.prog=P→X.w=w→X.K=K→X.calm=true→∀ (i:Nat) (pins:List (Addr×Obj)) (s:yai) (σ:St) (H:Hp) (E:yaj→yai→Prop),Inv X pins σ H s→(∀ b∈fp,kI X pins H b)→tn i s.heap→J.go i H →
  yas (model P w) X.A (pyNext (.ref it)) (fun r s1=>∃ u,r=some u ∧
   yas (model P w) X.A (letOwnedTupleGo tg (.ref it) u) (fun _ s2=>∃ x H',Inv X pins σ H' s2∧RelV x u∧J.yd i H x H'∧tn (i+1) s2.heap∧∀ b∈fp,H' b=none) E s1) E s
 done:∀ (X:Cx),X.prog=P→X.w=w→X.K=K→X.calm=true→∀ (i:Nat) (pins:List (Addr×Obj)) (s:yai) (σ:St) (H:Hp) (E:yaj→yai→Prop),Inv X pins σ H s→(∀ b∈fp,kI X pins H b)→tn i s.heap→J.stop i H →
  yas (model P w) X.A (pyNext (.ref it)) (fun r s1=>r=none∧Inv X pins σ H s1) E s
 self:∀ (A:yam) (i:Nat) (s:yai) (Q:yaj→yai→Prop) (E:yaj→yai→Prop),tn i s.heap→Q (.ref it) s→yas (model P w) A (pyIter (.ref it)) Q E s
abbrev TI:=St→Hp→(It→Hp→Prop)→Prop
def KA (X:Cx) (pins:List (Addr×Obj)) (σ:St) (tg:Expr) (R:It→Hp→Prop) (itv:yaj) (s2:yai):Prop :=
 ∃ (it:Addr) (fp:List Addr) (tn:Nat→Heap→Prop) (J:It) (H':Hp),itv = .ref it∧Inv X pins σ H' s2∧Turn X.prog X.w X.K tg J fp it tn∧tn 0 s2.heap∧(∀ b∈fp,kI X pins H' b)∧R J H'
def PI (X:Cx) (tg iter:Expr) (wi:TI):Prop :=
 ∀ (pins:List (Addr×Obj)) (s:yai) (σ:St) (H:Hp) (R:It→Hp→Prop),Inv X pins σ H s→wi σ H R →
  yas (model X.prog X.w) X.A (eval iter X.env) (fun v s1=>yas (model X.prog X.w) X.A (pyIter v) (KA X pins σ tg R) X.xe s1) X.xe s
theorem rg {M:Model}{A:yam}{E:yaj→yai→Prop}{s:yai}{tg:Expr}{it:Addr}{u:yaj}{o:Obj}{n:String}{vs:Array yaj}{Q:Unit→yai→Prop} (ho:s.heap.get? it=some o) (hc:o.cls = .type n) (hd:o.data = .fields vs)
  (hn:["enumerate","zip","dict_itemiterator","dict_reverseitemiterator","odict_iterator","itertools.zip_longest","itertools.pairwise"].contains n=false) (hQ:Q () s):yas M A (letOwnedTupleGo tg (.ref it) u) Q E s:=by
 unfold letOwnedTupleGo
 cases tg <;> first
  | exact yab hQ
  | (cases u <;> first
    | exact yab hQ
    | (refine yaa (wpAny_load ho ?_);rw [hc,hd];show yas M A (if (["enumerate","zip","dict_itemiterator","dict_reverseitemiterator","odict_iterator","itertools.zip_longest","itertools.pairwise"].contains n&&vs[0]? == some (rawInt _))=true then _ else _) Q E s;rw [yIn (by intro h;rw [hn,Bool.false_and] at h;cases h)];exact yab hQ))
noncomputable def Jl (K:yaH) (a:Addr):It :=
 ⟨fun i H=>∃ xs x,cH K H a xs∧xs[i]? = some x,fun i H x H'=>H'=H∧∀ xs,cH K H a xs→xs[i]? = some x,fun i H=>∃ xs,cH K H a xs∧xs.length≤i⟩
noncomputable def JD (K:yaH) (a:Addr):It :=
 ⟨fun i H=>∃ xs x,dQ K H a xs∧xs[i]? = some x,fun i H x H'=>H'=H∧∀ xs,dQ K H a xs→xs[i]? = some x,fun i H=>∃ xs,dQ K H a xs∧xs.length≤i⟩
noncomputable def KG (lo:Int) (n:Nat):It:=⟨fun i _=>i<n,fun i H x H'=>H'=H∧x = .int (lo+i),fun i _=>n≤i⟩
theorem wD {P:yak}{w:yal}{K:yaH}{tg:Expr} (a it:Addr):Turn P w K tg (Jl K a) [it] it (fun i h=>h.IsListIter it a i) where
 mem:=by simp
 obj:=fun i h st b hb=>by
  have e:b=it:=by simpa using hb
  subst e
  obtain ⟨o,e,c,d⟩:=st
  exact ⟨o,e,fun v z=>by rw [d] at z;cases z⟩
 keep:=fun i h h' st k=>st.at fun o e=>k it (by simp) o e
 item:=by
  intro X hP hw hK hc i pins s σ H E I hf st hg
  subst hP hw hK
  obtain ⟨xs,x,hq,hx⟩:=hg
  obtain ⟨its,rv,p,hz⟩:=I.list hq
  obtain ⟨u,hu,ru⟩:=rv.get hx
  obtain ⟨f0,f1,f2,f3,f4,f5⟩:=hf it (by simp)
  refine wpAny_pyNext_list_item st p.isList (x:=u) (by simpa using hu) fun h' st' sb => ?_
  have I1:Inv X pins σ H { s with heap:=h' }:=I.turned (t':=s.toks) (fun b o hb e=>(sb.2 b hb).trans e) f0 f1 f3 f4 f5
  obtain ⟨o,e,c,d⟩:=id st'
  exact ⟨u,rfl,rg (s:={ s with heap:=h' }) e c d (by decide) ⟨x,H,I1,ru,⟨rfl,fun ys hy=>by rw [I.zL hy hq];exact hx⟩,st',fun b hb=>(hf b hb).1⟩⟩
 done:=by
  intro X hP hw hK hc i pins s σ H E I hf st hg
  subst hP hw hK
  obtain ⟨xs,hq,hx⟩:=hg
  obtain ⟨its,rv,p,hz⟩:=I.list hq
  obtain ⟨f0,f1,f2,f3,f4,f5⟩:=hf it (by simp)
  have hl:=rv.length
  exact wpAny_pyNext_list_end (I.ok.hd hc) st p.isList (by simp;lia) fun h' eb=>⟨rfl,I.turned (t':=s.toks) (fun b o hb e=>eb b o hb e) f0 f1 f3 f4 f5⟩
 self:=fun _ _ _ _ _ st h=>wpAny_pyIter_listiter st h
theorem sN {P:yak}{w:yal}{K:yaH}{tg:Expr} (a it:Addr):Turn P w K tg (JD K a) [it] it (fun i h=>h.IsTupleIter it a i) where
 mem:=by simp
 obj:=fun i h st b hb=>by
  have e:b=it:=by simpa using hb
  subst e
  obtain ⟨o,e,c,d⟩:=st
  exact ⟨o,e,fun v z=>by rw [d] at z;cases z⟩
 keep:=fun i h h' st k=>st.at fun o e=>k it (by simp) o e
 item:=by
  intro X hP hw hK hc i pins s σ H E I hf st hg
  subst hP hw hK
  obtain ⟨xs,x,hq,hx⟩:=hg
  obtain ⟨its,rv,p,hz⟩:=I.tuple hq
  obtain ⟨u,hu,ru⟩:=rv.get hx
  obtain ⟨f0,f1,f2,f3,f4,f5⟩:=hf it (by simp)
  refine wpAny_pyNext_tuple_item st (show s.heap.IsTuple a its.toArray from p) (x:=u) (by simpa using hu) fun h' st' sb => ?_
  have I1:Inv X pins σ H { s with heap:=h' }:=I.turned (t':=s.toks) (fun b o hb e=>(sb.2 b hb).trans e) f0 f1 f3 f4 f5
  obtain ⟨o,e,c,d⟩:=id st'
  exact ⟨u,rfl,rg (s:={ s with heap:=h' }) e c d (by decide) ⟨x,H,I1,ru,⟨rfl,fun ys hy=>by rw [I.wG hy hq];exact hx⟩,st',fun b hb=>(hf b hb).1⟩⟩
 done:=by
  intro X hP hw hK hc i pins s σ H E I hf st hg
  subst hP hw hK
  obtain ⟨xs,hq,hx⟩:=hg
  obtain ⟨its,rv,p,hz⟩:=I.tuple hq
  obtain ⟨f0,f1,f2,f3,f4,f5⟩:=hf it (by simp)
  have hl:=rv.length
  exact wpAny_pyNext_tuple_end (I.ok.hd hc) st (show s.heap.IsTuple a its.toArray from p) (by simp;lia) fun h' eb=>⟨rfl,I.turned (t':=s.toks) (fun b o hb e=>eb b o hb e) f0 f1 f3 f4 f5⟩
 self:=fun _ _ _ _ _ st h=>wpAny_pyIter_tupleiter st h
theorem sO {P:yak}{w:yal}{K:yaH}{tg:Expr} (it:Addr) (lo:Int) (n:Nat):Turn P w K tg (KG lo n) [it] it (fun i h=>IsRangeIter h it (lo+(i:Nat)*1) ((n:Int) - (i:Nat)) 1) where
 mem:=by simp
 obj:=fun i h st b hb=>by
  have e:b=it:=by simpa using hb
  subst e
  exact ⟨_,st,fun v z=>by
   have z':Data.fields _=Data.cell v:=z
   cases z'⟩
 keep:=fun i h h' st k=>k it (by simp) _ st
 item:=by
  intro X hP hw hK hc i pins s σ H E I hf st hg
  subst hP hw hK
  obtain ⟨f0,f1,f2,f3,f4,f5⟩:=hf it (by simp)
  have W:=Walks.range (prog:=X.prog) (w:=X.w) (I.ok.hd hc) it lo 1 n
  refine W.item i s _ _ hg st fun v h' tk hv st' kk => ?_
  obtain ⟨t,rfl⟩:=hv
  have I1:Inv X pins σ H { s with heap:=h',toks:=tk }:=I.turned (fun b o hb e=>kk b o (by simpa using hb) e) f0 f1 f3 f4 f5
  refine ⟨_,rfl,rg (s:={ s with heap:=h',toks:=tk }) (n := "range_iterator") st' rfl rfl (by decide) ⟨.int (lo+i),H,I1,⟨t,?_⟩,⟨rfl,rfl⟩,st',fun b hb=>(hf b hb).1⟩⟩
  rw [Int.mul_one]
 done:=by
  intro X hP hw hK hc i pins s σ H E I hf st hg
  subst hP hw hK
  obtain ⟨f0,f1,f2,f3,f4,f5⟩:=hf it (by simp)
  exact wpAny_pyNext_range_end (I.ok.hd hc) st (by have:n≤i:=hg;lia) fun h' eb=>⟨rfl,I.turned (t':=s.toks) (fun b o hb e=>eb b o hb e) f0 f1 f3 f4 f5⟩
 self:=fun _ _ _ _ _ st h=>wpAny_pyIter_rangeiter st h
section
variable {X:Cx}{tg:Expr}
theorem zj {pins:List (Addr×Obj)}{σ:St}{H:Hp}{s:yai}{R:It→Hp→Prop}{E:yaj→yai→Prop}{lo hi:Int}{t u v:Tok}{tk:Nat} (I:Inv X pins σ H s) (h1 : -(2 ^ 62)≤lo) (h2:lo<2 ^ 62) (h3 : -(2 ^ 62)≤hi) (h4:hi<2 ^ 62)
  (q:R (KG lo (hi - lo).toNat) H):yas (model X.prog X.w) X.A (pyIter (.ref s.heap.objs.size)) (KA X pins σ tg R) E { s with heap:=s.heap.push { cls:=.type "range",data:=.fields #[.int lo t,.int hi u,.int 1 v] },toks:=tk }:=by
 refine wpAny_pyIter_range (IsRange.new ..) (small_one h1 h2 h3 h4) ?_
 have I1:Inv X pins σ H { s with heap:=s.heap.push { cls:=.type "range",data:=.fields #[.int lo t,.int hi u,.int 1 v] },toks:=tk }:=I.kept fun b o e=>zan _ e
 refine ⟨(s.heap.push { cls:=.type "range",data:=.fields #[.int lo t,.int hi u,.int 1 v] }).objs.size,[(s.heap.push { cls:=.type "range",data:=.fields #[.int lo t,.int hi u,.int 1 v] }).objs.size],_,_,H,rfl,
  I1.kept (t':=tk) fun b o e=>zan _ e,sO _ lo (hi - lo).toNat,?_,fun b hb => ?_,q⟩
 ·have e1:lo+((0:Nat):Int)*1=lo:=by simp
  have e2:(((hi - lo).toNat:Nat):Int) - ((0:Nat):Int)=Builtin.Range.rangeSize lo hi 1:=by rw [rangeSize_one];split <;> lia
  show IsRangeIter _ _ (lo+((0:Nat):Int)*1) ((((hi - lo).toNat:Nat):Int) - ((0:Nat):Int)) 1
  rw [e1,e2]
  exact zaK _ rfl
 ·have e:b=(s.heap.push { cls:=.type "range",data:=.fields #[.int lo t,.int hi u,.int 1 v] }).objs.size:=by simpa using hb
  subst e
  exact I1.ue (zcy _) (I1.hok.fresh (zcy _))
def DM (ta:TA):TI:=fun σ H R=>ta σ H fun vs H1=>∃ j:Int,vs=[.int j] ∧ -(2 ^ 62)≤j∧j<2 ^ 62∧R (KG 0 j.toNat) H1
theorem dG {a:Expr}{ta:TA}{p pos:Pos} (hg:Gl X "range") (hm:X.mg "range" = none) (ha:PA X [a] ta) (hs:yap [a] X.env=[(false,eval a X.env)]:=by rfl):PI X tg (.Call (.Name "range" p) [a] [] pos) (DM ta):=by
 intro pins s σ H R I h
 refine Call_ (eE I hg hm boot_range (PyProof.Rows.callWith_type1 (bJ (ha pos pins s σ H _ I h) fun us s1 ⟨vs,H1,I1,r1,q1⟩ => ?_) hs rfl))
 obtain ⟨j,e,q1,q2,q⟩:=q1
 subst e
 cases r1 with
 | cons r rr =>
  cases rr
  obtain ⟨t,rfl⟩:=r
  exact call_range_1 (zj I1 (by lia) (by lia) q1 q2 (by simpa using q))
def Hh (wi:TI) (g:TG) (tb:TS):TS:=fun D σ H=>wi σ H fun J H1=>∃ W:Nat→Nat→St→Hp→Prop,(∃ m,W 0 m σ H1)∧∀ i m σ H,W i m σ H →
 (J.stop i H∧D.nx σ H)∨(J.go i H∧∃ N:St→Hp→Prop,(∀ σ' H',N σ' H'→∃ m',m'<m∧W (i+1) m' σ' H')∧∀ x H',J.yd i H x H'→g x σ H' fun σ2 H2=>tb { D with nx:=N,ct:=N,bk:=D.nx } σ2 H2)
noncomputable def lX (fp:List Addr) (h:Heap):List (Addr×Obj):=fp.filterMap fun b=>(h.get? b).map fun o=>(b,o)
theorem fu {fp:List Addr}{h:Heap}{b:Addr}{o:Obj} (hb:b∈fp) (e:h.get? b=some o):(b,o)∈lX fp h:=List.mem_filterMap.mpr ⟨b,hb,by rw [e];rfl⟩
theorem wZ {fp:List Addr}{h:Heap}{p:Addr×Obj} (hp:p∈lX fp h):p.1∈fp∧h.get? p.1=some p.2:=by
 obtain ⟨b,hb,e⟩:=List.mem_filterMap.mp hp
 cases q:h.get? b with
 | none=>rw [q] at e;cases e
 | some o =>
  rw [q] at e
  have e':(b,o)=p:=zcB.inj e
  subst e'
  exact ⟨hb,q⟩
theorem Inv.pinned {pins:List (Addr×Obj)}{σ:St}{H:Hp}{s:yai}{fp:List Addr} (I:Inv X pins σ H s) (hf:∀ b∈fp,kI X pins H b) (ho:∀ b∈fp,∃ o,s.heap.get? b=some o∧∀ v,o.data ≠ .cell v):Inv X (pins++lX fp s.heap) σ H s :=
 I.iY fun p hp=>(zbA.mp hp).elim (fun z=>I.pin p (zaq _ z)) fun z=>by
  obtain ⟨hb,e⟩:=wZ z
  obtain ⟨f0,f1,f2,_⟩:=hf p.1 hb
  obtain ⟨o,e',d⟩:=ho p.1 hb
  rw [e] at e';cases e'
  exact ⟨e,f0,f1,f2,d⟩
theorem Inv.fS {pins pl:List (Addr×Obj)}{σ:St}{H:Hp}{s:yai} (I:Inv X (pins++pl) σ H s):Inv X pins σ H s:=I.iY fun p hp=>I.pin p (zaq _ (zay _ hp))
theorem cV {iter:Expr}{body:List Stmt}{wi:TI}{g:TG}{tb:TS}{pos:Pos} (hp:PassesOwn (model X.prog X.w) X.A X.env X.xe) (hc:X.calm=true) (hi:PI X tg iter wi) (hg:PG X tg g) (hb:oH X body tb)
  (hs:∀ x,foldedSetIterable iter X.env x=pure x:=by intro _;rfl):PS X (.For tg iter body [] pos) (Hh wi g tb):=by
 intro pins s σ H D I h
 refine wpAny_For (bJ (hi pins s σ H _ I h) fun v s1 h1=>bJ h1 fun itv s2 h2 => ?_) hs
 obtain ⟨it,fp,tn,J,H2,e,I2,T,st2,f2,W,⟨m0,w0⟩,turn⟩:=h2
 subst e
 have Es:∀ {H':Hp},(∀ b∈fp,H' b=none)→∀ b∈fp,kI X pins H' b:=fun hn b hb=>⟨hn b hb,(f2 b hb).2⟩
 refine codeAny_forLoop_any (fun n s'=>∃ i σ' H',Inv X pins σ' H' s'∧tn i s'.heap∧(∀ b∈fp,H' b=none)∧W i n σ' H') ?_ m0 ⟨0,σ,H2,I2,st2,fun b hb=>(f2 b hb).1,w0⟩
 rintro n s3 ⟨i,σ3,H3,I3,st3,fr3,w3⟩
 rcases turn i n σ3 H3 w3 with ⟨stop,qn⟩ | ⟨go,N,hN,step⟩
 ·refine wpAny_passesOwn hp (bJ (T.done X rfl rfl rfl hc i pins s3 σ3 H3 X.xe I3 (Es fr3) st3 stop) fun r s4 ⟨hr,I4⟩ => ?_)
  subst hr
  exact yaD ⟨σ3,H3,I4,qn⟩
 ·refine wpAny_passesOwn hp (bJ (T.item X rfl rfl rfl hc i pins s3 σ3 H3 X.xe I3 (Es fr3) st3 go) fun r s4 ⟨u,hr,h4⟩ => ?_)
  subst hr
  refine wpAny_passesOwn hp (bJ h4 fun _ s5 ⟨x,H5,I5,r5,y5,st5,fr5⟩ => ?_)
  have I5':=I5.pinned (Es fr5) (T.obj _ _ st5)
  refine wpAny_passesOwn hp (bJ (hg _ s5 σ3 H5 x u _ I5' r5 (step x H5 y5)) fun _ s6 ⟨σ6,H6,I6,q6⟩ => ?_)
  refine wpAny_passesOwn hp (bJ (hb _ s6 σ6 H6 _ I6 q6) fun f s7 q7 => ?_)
  have again:∀ {σ7:St}{H7:Hp},Inv X (pins++lX fp s5.heap) σ7 H7 s7→N σ7 H7→∃ m,m<n∧∃ i σ' H',Inv X pins σ' H' s7∧tn i s7.heap∧(∀ b∈fp,H' b=none)∧W i m σ' H':=fun {σ7 H7} I7 n7=>by
   obtain ⟨m',hm,w7⟩:=hN σ7 H7 n7
   refine ⟨m',hm,i+1,σ7,H7,I7.fS,T.keep _ _ _ st5 fun b hb o e=>(I7.pin (b,o) (zaq _ (zaq _ (fu hb e)))).1,fun b hb => ?_,w7⟩
   obtain ⟨o,e,d⟩:=T.obj _ _ st5 b hb
   exact (I7.pin (b,o) (zaq _ (zaq _ (fu hb e)))).2.1
  cases f with
  | next=>obtain ⟨σ7,H7,I7,n7⟩:=q7;exact again I7 n7
  | cont=>obtain ⟨σ7,H7,I7,n7⟩:=q7;exact again I7 n7
  | brk=>obtain ⟨σ7,H7,I7,q7⟩:=q7;exact ⟨σ7,H7,I7.fS,q7⟩
  | ret v=>obtain ⟨x7,σ7,H7,I7,r7,q7⟩:=q7;exact ⟨x7,σ7,H7,I7.fS,r7,q7⟩
end
abbrev R2:=V→V→Hp→VK→Prop
def gH (X:Cx) (f:yaj→yaj→Sem yaj) (r:R2):Prop :=
 ∀ (pins:List (Addr×Obj)) (s:yai) (σ:St) (H:Hp) (x y:V) (v u:yaj) (Q:VK),Inv X pins σ H s→RelV x v→RelV y u→r x y H Q →
  yas (model X.prog X.w) X.A (f v u) (EP X pins σ Q) X.xe s
def Kv (X:Cx) (f:yaj→Sem yaj) (r:V→Hp→VK→Prop):Prop :=
 ∀ (pins:List (Addr×Obj)) (s:yai) (σ:St) (H:Hp) (x:V) (v:yaj) (Q:VK),Inv X pins σ H s→RelV x v→r x H Q →
  yas (model X.prog X.w) X.A (f v) (EP X pins σ Q) X.xe s
def b6 (X:Cx) (f:yaj) (r:List V→Hp→VK→Prop):Prop :=
 ∀ (pins:List (Addr×Obj)) (s:yai) (σ:St) (H:Hp) (xs:List V) (us:List yaj) (Q:VK),Inv X pins σ H s→Vals xs us→r xs H Q →
  yas (model X.prog X.w) X.A (call f us) (EP X pins σ Q) X.xe s
def Kw (X:Cx) (r:V→Hp→(Bool→Hp→Prop)→Prop):Prop :=
 ∀ (pins:List (Addr×Obj)) (s:yai) (σ:St) (H:Hp) (x:V) (v:yaj) (Q:Bool→Hp→Prop),Inv X pins σ H s→RelV x v→r x H Q →
  yas (model X.prog X.w) X.A (truthy v) (TP X pins σ Q) X.xe s
def G9 (r:R2) (ta tb:TE):TE:=fun σ H Q=>ta σ H fun x H1=>tb σ H1 fun y H2=>r x y H2 Q
def KJ (r:V→Hp→VK→Prop) (ta:TE):TE:=fun σ H Q=>ta σ H fun x H1=>r x H1 Q
def rI (C:Int→Int→Prop) (g:Int→Int→V):R2:=fun x y H Q=>∃ i j,x = .int i∧y = .int j∧C i j∧Q (g i j) H
def Dz (g:Int→Int→V):R2:=fun x y H Q=>∃ i j,x = .int i∧y = .int j∧Q (g i j) H
def rU (g:Int→V):V→Hp→VK→Prop:=fun x H Q=>∃ i,x = .int i∧Q (g i) H
section
variable {X:Cx}{a b c:Expr}{ta tb tc:TE}{pos:Pos}
theorem Gm (ha:PE X a ta) (hb:PE X b tb) {pins:List (Addr×Obj)}{s:yai}{σ:St}{H:Hp}{R:V→V→Hp→Prop} (I:Inv X pins σ H s)
  (h:ta σ H fun x H1=>tb σ H1 fun y H2=>R x y H2) {Q:yaj→yai→Prop}{f:yaj→yaj→Sem yaj}
  (hf:∀ v u s2 x y H2,Inv X pins σ H2 s2→RelV x v→RelV y u→R x y H2→yas (model X.prog X.w) X.A (f v u) Q X.xe s2) :
  yas (model X.prog X.w) X.A (eval a X.env) (fun v s₁=>yas (model X.prog X.w) X.A (eval b X.env) (fun u s₂=>yas (model X.prog X.w) X.A (f v u) Q X.xe s₂) X.xe s₁) X.xe s:=by
 refine bJ (ha pins s σ H _ I h) fun v s1 ⟨x,H1,I1,r1,q1⟩ => ?_
 refine bJ (hb pins s1 σ H1 _ I1 q1) fun u s2 ⟨y,H2,I2,r2,q2⟩ => ?_
 exact hf v u s2 x y H2 I2 r1 r2 q2
theorem aW {op:Operator}{r:R2} (ho:gH X (binaryOp op) r) (ha:PE X a ta) (hb:PE X b tb):PE X (.BinOp a op b pos) (G9 r ta tb):=by
 intro pins s σ H Q I h
 exact wpAny_BinOp (Gm ha hb I h fun v u s2 x y H2 I2 rx ry q=>ho pins s2 σ H2 x y v u Q I2 rx ry q)
theorem HW {op:UnaryOp}{r:V→Hp→VK→Prop} (ho:Kv X (unaryOp op) r) (ha:PE X a ta):PE X (.UnaryOp op a pos) (KJ r ta):=by
 intro pins s σ H Q I h
 exact UnaryOp_ (bJ (ha pins s σ H _ I h) fun v s1 ⟨x,H1,I1,r1,q1⟩=>ho pins s1 σ H1 x v Q I1 r1 q1)
theorem Js {f:yaj→yaj→Sem yaj}{C:Int→Int→Prop}{g:Int→Int→Int}
  (rule:∀ (i j:Int) (t u:Tok) (s:yai) (Q:yaj→yai→Prop) (E:yaj→yai→Prop),C i j→Q (.int (g i j) s.toks) { s with toks:=s.toks+1 }→yas (model X.prog X.w) X.A (f (.int i t) (.int j u)) Q E s) :
  gH X f (rI C fun i j=>.int (g i j)):=by
 intro pins s σ H x y v u Q I rx ry h
 obtain ⟨i,j,rfl,rfl,hc,q⟩:=h
 obtain ⟨t,rfl⟩:=rx
 obtain ⟨t',rfl⟩:=ry
 exact rule i j t t' s _ _ hc ⟨.int (g i j),H,I.tok _,⟨_,rfl⟩,q⟩
theorem Ib {f:yaj→yaj→Sem yaj}{g:Int→Int→Int}
  (rule:∀ (i j:Int) (t u:Tok) (s:yai) (Q:yaj→yai→Prop) (E:yaj→yai→Prop),Q (.int (g i j) s.toks) { s with toks:=s.toks+1 }→yas (model X.prog X.w) X.A (f (.int i t) (.int j u)) Q E s) :
  gH X f (Dz fun i j=>.int (g i j)):=by
 intro pins s σ H x y v u Q I rx ry h
 obtain ⟨i,j,rfl,rfl,q⟩:=h
 obtain ⟨t,rfl⟩:=rx
 obtain ⟨t',rfl⟩:=ry
 exact rule i j t t' s _ _ ⟨.int (g i j),H,I.tok _,⟨_,rfl⟩,q⟩
theorem FE {f:yaj→yaj→Sem yaj}{g:Int→Int→Bool}
  (rule:∀ (i j:Int) (t u:Tok) (s:yai) (Q:yaj→yai→Prop) (E:yaj→yai→Prop),Q (.bool (g i j)) s→yas (model X.prog X.w) X.A (f (.int i t) (.int j u)) Q E s) :
  gH X f (Dz fun i j=>.bl (g i j)):=by
 intro pins s σ H x y v u Q I rx ry h
 obtain ⟨i,j,rfl,rfl,q⟩:=h
 obtain ⟨t,rfl⟩:=rx
 obtain ⟨t',rfl⟩:=ry
 exact rule i j t t' s _ _ ⟨.bl (g i j),H,I,rfl,q⟩
def Dd (i j:Int):Prop:=0<j∧j<1073741824
def GN (i j:Int):Prop:=0≤j∧j≤1000000∧i.natAbs<2 ^ 64
def Bh (i j:Int):Prop:=(-(2 ^ 64)<i∧i<2 ^ 64)∨(-(2 ^ 64)<j∧j<2 ^ 64)
theorem Bh.ok {i j:Int} (h:Bh i j):IntMulOk i j:=by
 rcases h with ⟨h1,h2⟩ | ⟨h1,h2⟩
 ·exact .of_left (intBits_le_64 h1 h2)
 ·exact .of_right (intBits_le_64 h1 h2)
theorem FD:gH X (binaryOp .Add) (Dz fun i j=>.int (i+j)):=Ib fun _ _ _ _ _ _ _ q=>add_int q
theorem Fo:gH X (binaryOp .Sub) (Dz fun i j=>.int (i - j)):=Ib fun _ _ _ _ _ _ _ q=>sub_int q
theorem Fv:gH X (binaryOp .Mult) (rI Bh fun i j=>.int (i*j)):=Js fun _ _ _ _ _ _ _ hc q=>mul_int q hc.ok
theorem B8:gH X (binaryOp .FloorDiv) (rI Dd fun i j=>.int (i / j)):=Js fun i j _ _ _ _ _ hc q=>by
 have h1:(0:Int)<j:=hc.1
 have h2:j<1073741824:=hc.2
 exact floordiv_int (by lia) (by rw [Int.fdiv_eq_ediv_of_nonneg i (by lia)];exact q) (.inl (PyProof.noPylong_small (by lia)))
theorem Fw:gH X (binaryOp .Mod) (rI (fun _ j=>0<j) fun i j=>.int (i % j)):=Js fun i j _ _ _ _ _ hc q=>by
 have h1:(0:Int)<j:=hc
 exact mod_int' (by lia) (by rw [Int.fmod_eq_emod_of_nonneg i (by lia)];exact q)
theorem Fq:gH X (binaryOp .Pow) (rI GN fun i j=>.int (i ^ j.toNat)):=Js fun _ _ _ _ _ _ _ hc q=>pow_int_small hc.1 hc.2.1 hc.2.2 q
theorem unI {f:yaj→Sem yaj}{g:Int→Int}
  (rule:∀ (i:Int) (t:Tok) (s:yai) (Q:yaj→yai→Prop) (E:yaj→yai→Prop),Q (.int (g i) s.toks) { s with toks:=s.toks+1 }→yas (model X.prog X.w) X.A (f (.int i t)) Q E s) :
  Kv X f (rU fun i=>.int (g i)):=by
 intro pins s σ H x v Q I rx h
 obtain ⟨i,rfl,q⟩:=h
 obtain ⟨t,rfl⟩:=rx
 exact rule i t s _ _ ⟨.int (g i),H,I.tok _,⟨_,rfl⟩,q⟩
theorem Eb:Kv X (unaryOp .USub) (rU fun i=>.int (-i)):=unI fun _ _ _ _ _ q=>neg_int q
end
noncomputable def Hr:V→V→Bool
 | .bh,.bh=>true | .bh,.int _=>true | .int _,.bh=>true | .bh,.bl _=>true | .bl _,.bh=>true | .bh,.str _=>true | .str _,.bh=>true
 | .int _,.int _=>true | .bl _,.bl _=>true | .str _,.str _=>true | .sH _,.sH _=>true
 | .int _,.str _=>true | .str _,.int _=>true | .bl _,.str _=>true | .str _,.bl _=>true
 | _,_=>false
def rEq:R2:=fun x y H Q=>Hr x y=true∧Q (.bl (decide (x=y))) H
def rNe:R2:=fun x y H Q=>Hr x y=true∧Q (.bl (!decide (x=y))) H
theorem vJ {i j:Int}:decide (V.int i=V.int j)=(i==j):=by
 rw [Bool.eq_iff_iff]
 simp
theorem Ae {i j:Bool}:decide (V.bl i=V.bl j)=(i==j):=by
 rw [Bool.eq_iff_iff]
 simp
theorem vI {i j:Str}:decide (V.str i=V.str j)=(i==j):=by
 rw [Bool.eq_iff_iff]
 simp
theorem vK {i j:Array UInt8}:decide (V.sH i=V.sH j)=(i.toList==j.toList):=by
 rw [Bool.eq_iff_iff]
 cases i
 cases j
 simp
section
variable {X:Cx}{a b c:Expr}{ta tb tc:TE}{pos:Pos}
theorem aZ {pins:List (Addr×Obj)}{σ:St}{H:Hp}{s:yai}{Q:VK}{k k':Bool} (I:Inv X pins σ H s) (q:Q (.bl k) H) (e:k=k'):EP X pins σ Q (.bool k') s:=by
 subst e
 exact ⟨.bl k,H,I,rfl,q⟩
theorem DE:gH X (yao .Eq) rEq:=by
 intro pins s σ H x y v u Q I rx ry h
 obtain ⟨hs,q⟩:=h
 cases x with
 | bh =>
  cases rx
  cases y with
  | bh=>cases ry;exact PySem.EqNone.eq_none_none (aZ I q (by simp))
  | bl j=>cases ry;exact PySem.EqNone.eq_none_bool (aZ I q (by simp))
  | int j=>obtain ⟨t',rfl⟩:=ry;exact PySem.EqNone.eq_none_int (aZ I q (by simp))
  | str j=>obtain ⟨t',rfl⟩:=ry;exact PySem.EqNone.eq_none_str (aZ I q (by simp))
  | _=>exact absurd (show false=true from hs) zaW
 | bl i =>
  cases rx
  cases y with
  | bh=>cases ry;exact PySem.EqNone.eq_bool_none (aZ I q (by simp))
  | bl j=>cases ry;exact eq_bool (aZ I q Ae)
  | str j=>obtain ⟨t',rfl⟩:=ry;exact PySem.EqMixed.eq_bool_str (aZ I q (by simp))
  | _=>exact absurd (show false=true from hs) zaW
 | int i =>
  obtain ⟨t,rfl⟩:=rx
  cases y with
  | bh=>cases ry;exact PySem.EqNone.eq_int_none (aZ I q (by simp))
  | int j=>obtain ⟨t',rfl⟩:=ry;exact eq_int (aZ I q vJ)
  | str j=>obtain ⟨t',rfl⟩:=ry;exact PySem.EqMixed.eq_int_str (aZ I q (by simp))
  | _=>exact absurd (show false=true from hs) zaW
 | str i =>
  obtain ⟨t,rfl⟩:=rx
  cases y with
  | bh=>cases ry;exact PySem.EqNone.eq_str_none (aZ I q (by simp))
  | bl j=>cases ry;exact PySem.EqMixed.eq_str_bool (aZ I q (by simp))
  | int j=>obtain ⟨t',rfl⟩:=ry;exact PySem.EqMixed.eq_str_int (aZ I q (by simp))
  | str j=>obtain ⟨t',rfl⟩:=ry;exact eq_str (aZ I q vI)
  | _=>exact absurd (show false=true from hs) zaW
 | sH i =>
  obtain ⟨t,rfl⟩:=rx
  cases y with
  | sH j=>obtain ⟨t',rfl⟩:=ry;exact PySem.W.eq_bytes (aZ I q vK)
  | _=>exact absurd (show false=true from hs) zaW
 | _=>cases y <;> exact absurd (show false=true from hs) zaW
theorem HY:gH X (yao .NotEq) rNe:=by
 intro pins s σ H x y v u Q I rx ry h
 obtain ⟨hs,q⟩:=h
 cases x with
 | bh =>
  cases rx
  cases y with
  | bh=>cases ry;exact PySem.EqNone.ne_none_none (aZ I q (by simp))
  | bl j=>cases ry;exact PySem.EqNone.ne_none_bool (aZ I q (by simp))
  | int j=>obtain ⟨t',rfl⟩:=ry;exact PySem.EqNone.ne_none_int (aZ I q (by simp))
  | str j=>obtain ⟨t',rfl⟩:=ry;exact PySem.EqNone.ne_none_str (aZ I q (by simp))
  | _=>exact absurd (show false=true from hs) zaW
 | bl i =>
  cases rx
  cases y with
  | bh=>cases ry;exact PySem.EqNone.ne_bool_none (aZ I q (by simp))
  | bl j=>cases ry;exact ne_bool (aZ I q (congrArg not Ae))
  | str j=>obtain ⟨t',rfl⟩:=ry;exact PySem.EqMixed.ne_bool_str (aZ I q (by simp))
  | _=>exact absurd (show false=true from hs) zaW
 | int i =>
  obtain ⟨t,rfl⟩:=rx
  cases y with
  | bh=>cases ry;exact PySem.EqNone.ne_int_none (aZ I q (by simp))
  | int j=>obtain ⟨t',rfl⟩:=ry;exact ne_int (aZ I q (congrArg not vJ))
  | str j=>obtain ⟨t',rfl⟩:=ry;exact PySem.EqMixed.ne_int_str (aZ I q (by simp))
  | _=>exact absurd (show false=true from hs) zaW
 | str i =>
  obtain ⟨t,rfl⟩:=rx
  cases y with
  | bh=>cases ry;exact PySem.EqNone.ne_str_none (aZ I q (by simp))
  | bl j=>cases ry;exact PySem.EqMixed.ne_str_bool (aZ I q (by simp))
  | int j=>obtain ⟨t',rfl⟩:=ry;exact PySem.EqMixed.ne_str_int (aZ I q (by simp))
  | str j=>obtain ⟨t',rfl⟩:=ry;exact ne_str (aZ I q (congrArg not vI))
  | _=>exact absurd (show false=true from hs) zaW
 | sH i =>
  obtain ⟨t,rfl⟩:=rx
  cases y with
  | sH j=>obtain ⟨t',rfl⟩:=ry;exact PySem.W.ne_bytes (aZ I q (congrArg not vK))
  | _=>exact absurd (show false=true from hs) zaW
 | _=>cases y <;> exact absurd (show false=true from hs) zaW
theorem HZ:gH X (yao .Lt) (Dz fun i j=>.bl (decide (i<j))):=FE fun _ _ _ _ _ _ _ q=>lt_int q
theorem H9:gH X (yao .Gt) (Dz fun i j=>.bl (decide (j<i))):=FE fun _ _ _ _ _ _ _ q=>gt_int q
theorem Ia:gH X (yao .GtE) (Dz fun i j=>.bl (decide (j≤i))):=FE fun _ _ _ _ _ _ _ q=>ge_int q
theorem wY:gH X (yao .Lt) (fun x y H Q=>∃ i j,x = .str i∧y = .str j∧Q (.bl (decide (i.cps.toList<j.cps.toList))) H):=by
 intro pins s σ H x y v u Q I rx ry h
 obtain ⟨i,j,rfl,rfl,q⟩:=h
 obtain ⟨t,rfl⟩:=rx
 obtain ⟨t',rfl⟩:=ry
 exact lt_str (aZ I q rfl)
theorem Fx:gH X (yao .Is) (fun x y H Q=>y = .bh∧Q (.bl (decide (x = .bh))) H):=by
 intro pins s σ H x y v u Q I rx ry h
 obtain ⟨rfl,q⟩:=h
 cases ry
 refine is_none_gen (aZ I q ?_)
 cases x <;> first
  | (cases rx;rfl)
  | (obtain ⟨t,rfl⟩:=rx;rfl)
theorem aN (b:Expr) {op:CmpOp} (h:op ≠ .In:=by decide) (h2:op ≠ .NotIn:=by decide):behindInMarks op b=false:=by
 have e1:(op==CmpOp.In)=false:=by cases op <;> first | rfl | exact absurd rfl h
 have e2:(op==CmpOp.NotIn)=false:=by cases op <;> first | rfl | exact absurd rfl h2
 cases b <;> simp [behindInMarks,e1,e2]
theorem dY {op:CmpOp}{r:R2} (ho:gH X (yao op) r) (ha:PE X a ta) (hb:PE X b tb) (hm:behindInMarks op b=false):PE X (.Compare a [op] [b] pos) (G9 r ta tb):=by
 intro pins s σ H Q I h
 exact wpAny_Compare1 (Gm ha hb I h fun v u s2 x y H2 I2 rx ry q=>ho pins s2 σ H2 x y v u Q I2 rx ry q) hm
def G7 (t:TE):TT:=fun σ H Q=>t σ H fun x H'=>∃ k,x = .bl k∧Q k H'
theorem aA {op:CmpOp}{r:R2} (ho:gH X (yao op) r) (ha:PE X a ta) (hb:PE X b tb) (hm:behindInMarks op b=false):PT X (.Compare a [op] [b] pos) (G7 (G9 r ta tb)):=by
 intro pins s σ H Q I h
 refine wpAny_isTrue_Compare1 (bJ (ha pins s σ H _ I h) fun v s1 ⟨x,H1,I1,r1,q1⟩=>bJ (hb pins s1 σ H1 _ I1 q1) fun u s2 ⟨y,H2,I2,r2,q2⟩ =>
  bJ (ho pins s2 σ H2 x y v u _ I2 r1 r2 q2) fun c s3 ⟨z,H3,I3,r3,k,e,q3⟩ => ?_) hm
 subst e
 cases r3
 exact wpAny_truthy_bool ⟨H3,I3,q3⟩
def AX (K:yaH) (x:V) (H:Hp) (k:Bool):Prop :=
 match x with
 | .bh=>k=false
 | .bl b=>k=b
 | .int i=>k=(i != 0)
 | .str y=>y.length≤yah∧k=((y.length:Int) != 0)
 | .sH y=>y.size≤yah∧k=((y.size:Int) != 0)
 | .ref p=>(∃ xs,cH K H p xs∧k = !xs.isEmpty)∨(∃ xs,dQ K H p xs∧k = !xs.isEmpty)∨∃ kvs,H p=some (.dK kvs)∧k = !kvs.isEmpty
 | _=>False
theorem ua {κ:Type}{kvs:List (κ×V)}{vs:List (κ×yaj)} (r:KV kvs vs):(!vs.isEmpty) = !kvs.isEmpty:=by
 cases r <;> rfl
theorem mK {xs:List V}{its:List yaj} (r:Vals xs its):(!its.toArray.isEmpty) = !xs.isEmpty:=by
 cases r <;> simp
theorem jN:(yah:Nat)<2 ^ 63:=by rw [yag];decide
theorem Eh:Kw X (fun x H Q=>∃ k,AX X.K x H k∧Q k H):=by
 intro pins s σ H x v Q I rx h
 obtain ⟨k,e,q⟩:=h
 have hl:=jN
 have hs:yah=16777216:=yag
 cases x with
 | bh =>
  cases rx
  have e':k=false:=e
  subst e'
  exact truthy_none ⟨H,I,q⟩
 | bl b =>
  cases rx
  have e':k=b:=e
  subst e'
  exact wpAny_truthy_bool ⟨H,I,q⟩
 | int i =>
  obtain ⟨t,rfl⟩:=rx
  have e':k=(i != 0):=e
  subst e'
  exact PySem.P.truthy_int ⟨H,I,q⟩
 | str y =>
  obtain ⟨t,rfl⟩:=rx
  obtain ⟨hy,e'⟩:y.length≤yah∧k=((y.length:Int) != 0):=e
  subst e'
  exact PySem.P.truthy_str (by lia) ⟨H,I.tok _,q⟩
 | sH y =>
  obtain ⟨t,rfl⟩:=rx
  obtain ⟨hy,e'⟩:y.size≤yah∧k=((y.size:Int) != 0):=e
  subst e'
  exact PySem.W.truthy_bytes (by lia) ⟨H,I.tok _,q⟩
 | ref p =>
  cases rx
  have e':(∃ xs,cH X.K H p xs∧k = !xs.isEmpty)∨(∃ xs,dQ X.K H p xs∧k = !xs.isEmpty)∨∃ kvs,H p=some (.dK kvs)∧k = !kvs.isEmpty:=e
  rcases e' with ⟨xs,hx,e'⟩ | ⟨xs,hx,e'⟩ | ⟨kvs,hx,e'⟩
  ·subst e'
   obtain ⟨its,r,pl,hz⟩:=I.list hx
   have hlen:=r.length
   exact wpAny_truthy_list pl.isList (by simp only [zba];lia) ⟨H,I.tok _,by rw [mK r];exact q⟩
  ·subst e'
   obtain ⟨its,r,pl,hz⟩:=I.tuple hx
   have hlen:=r.length
   exact truthy_tuple pl (by simp only [zba];lia) ⟨H,I.tok _,by rw [mK r];exact q⟩
  ·subst e'
   obtain ⟨hz,hS,vs,r,m⟩:kvs.length≤yah∧(p==yat)=false∧∃ vs,KV kvs vs∧s.heap.DictOf (bz X.prog X.w) p vs:=I.hok p _ hx
   have hlen:kvs.length=vs.length:=Paired.length r
   exact wpAny_truthy_dict hS m (by lia) ⟨H,I.tok _,by rw [ua r];exact q⟩
 | _=>exact (show False from e).elim
theorem zp (ha:PE X a ta) (he:∀ whole,isTrue a X.env whole=(do let v ← whole;standAt a.pos;holding [v] (truthy v))) :
  PT X a (fun σ H Q=>ta σ H fun x H'=>∃ k,AX X.K x H' k∧Q k H'):=by
 intro pins s σ H Q I h
 exact isTrue_plain (bJ (ha pins s σ H _ I h) fun v s1 ⟨x,H1,I1,r1,q1⟩=>Eh pins s1 σ H1 x v Q I1 r1 q1) (he _)
theorem tP:gH X (binaryOp .Add) (fun x y H Q=>∃ i j,x = .str i∧y = .str j∧i.length+j.length≤yah∧Q (.str (i++j)) H):=by
 intro pins s σ H x y v u Q I rx ry h
 obtain ⟨i,j,rfl,rfl,hz,q⟩:=h
 obtain ⟨t,rfl⟩:=rx
 obtain ⟨t',rfl⟩:=ry
 exact add_str (fun t' tk=>⟨.str (i++j),H,I.tok _,⟨_,rfl⟩,q⟩) hz
theorem vals1 {x:V}{us:List yaj} (r:Vals [x] us):∃ u,us=[u]∧RelV x u:=by
 cases r with
 | cons r1 r2=>cases r2;exact ⟨_,rfl,r1⟩
theorem vals2 {x y:V}{us:List yaj} (r:Vals [x,y] us):∃ u w',us=[u,w']∧RelV x u∧RelV y w':=by
 cases r with
 | cons r1 r2 =>
  cases r2 with
  | cons r3 r4=>cases r4;exact ⟨_,_,rfl,r1,r3⟩
def KD (K:yaH) (x:V) (H:Hp) (n:Nat):Prop :=
 match x with
 | .str y=>y.length≤yah∧n=y.length
 | .sH y=>y.size≤yah∧n=y.size
 | .ref p=>(∃ xs,cH K H p xs∧n=xs.length)∨∃ xs,dQ K H p xs∧n=xs.length
 | _=>False
theorem Aw:b6 X (.builtin "len") (fun xs H Q=>∃ x n,xs=[x]∧KD X.K x H n∧Q (.int n) H):=by
 intro pins s σ H xs us Q I r h
 obtain ⟨x,n,rfl,e,q⟩:=h
 obtain ⟨u,rfl,rx⟩:=vals1 r
 have hl:=jN
 have hs:yah=16777216:=yag
 cases x with
 | str y =>
  obtain ⟨t,rfl⟩:=rx
  obtain ⟨hy,e'⟩:y.length≤yah∧n=y.length:=e
  subst e'
  exact len_str (by lia) ⟨.int _,H,I.tok _,⟨_,rfl⟩,q⟩
 | sH y =>
  obtain ⟨t,rfl⟩:=rx
  obtain ⟨hy,e'⟩:y.size≤yah∧n=y.size:=e
  subst e'
  exact PySem.W.len_bytes (by lia) ⟨.int _,H,I.tok _,⟨_,rfl⟩,q⟩
 | ref p =>
  cases rx
  have e':(∃ xs,cH X.K H p xs∧n=xs.length)∨∃ xs,dQ X.K H p xs∧n=xs.length:=e
  rcases e' with ⟨xs,hx,e'⟩ | ⟨xs,hx,e'⟩
  ·subst e'
   obtain ⟨its,r',pl,hz⟩:=I.list hx
   have hlen:=r'.length
   exact Calls.call_len_list pl.isList (by simp only [zba];lia) ⟨.int xs.length,H,I.tok _,⟨_,by simp only [zba];rw [hlen]⟩,q⟩
  ·subst e'
   obtain ⟨its,r',pl,hz⟩:=I.tuple hx
   have hlen:=r'.length
   exact len_tuple pl (by simp only [zba];lia) ⟨.int xs.length,H,I.tok _,⟨_,by simp only [zba];rw [hlen]⟩,q⟩
 | _=>exact (show False from e).elim
end
structure GH (h:Heap) (x dx C:Addr) (mA:Str→Option yaj):Prop where
 obj:h.get? x=some (PySem.W.instObj C dx)
 ns:h.Ns1 dx mA
 ne:dx≠x
theorem gT {h:Heap}{dx:Addr}{mA:Str→Option yaj} (n:h.Ns1 dx mA):∃ od,h.get? dx=some od∧∀ name,PySem.W.lookIn name od=some (mA name):=by
 obtain ⟨o,es,ep,ho,hd,hk,_,hm⟩:=n
 refine ⟨o,ho,fun name => ?_⟩
 have e:=hm name
 unfold nsFind findBy at e
 rw [← Array.find?_toList] at e
 unfold PySem.W.lookIn
 rw [hd]
 dsimp only
 split
 ·rename_i y q
  rw [q] at e
  exact congrArg some e
 ·rename_i q
  rw [q] at e
  have a:es.toList.any (·.refKey)=false:=by
   rw [List.any_eq_false]
   intro y hy
   obtain ⟨z,t,hkey⟩:=hk y (Array.mem_toList_iff.mp hy)
   simp [DictEntry.refKey,hkey]
  have a' : ¬ es.toList.any (·.refKey)=true:=by rw [a];exact zaW
  rw [yIn a']
  exact congrArg some e
theorem GH.look {h:Heap}{x dx C:Addr}{mA:Str→Option yaj} (I:GH h x dx C mA):∃ od,PySem.W.InstAt h x (PySem.W.instObj C dx) C (some od)∧∀ name,PySem.W.lookIn name od=some (mA name) :=
 let ⟨od,ho,hl⟩:=gT I.ns
 ⟨od,⟨I.obj,rfl,rfl,ho⟩,hl⟩
noncomputable def lU (f:Str) (v:V):List (Str×V)→List (Str×V)
 | []=>[(f,v)]
 | (g,x)::r=>if g=f then (g,v)::r else (g,x)::lU f v r
theorem j3 (f g:Str) (v:V):∀ fs:List (Str×V),(lU f v fs).lookup g=if g=f then some v else fs.lookup g
 | []=>by
  show zcx g [(f,v)]=_
  by_cases h:g=f
  ·have hb:(g==f)=true:=beq_iff_eq.mpr h
   simp only [zcx,hb,yIp h]
  ·have hb:(g==f)=false:=beq_eq_false_iff_ne.mpr h
   simp only [zcx,hb,yIn h]
 | (k,x)::r=>by
  have ih:=j3 f g v r
  rw [show lU f v ((k,x)::r)=(if k=f then (k,v)::r else (k,x)::lU f v r) from rfl]
  by_cases hk:k=f
  ·rw [yIp hk]
   by_cases h:g=k
   ·have hb:(g==k)=true:=beq_iff_eq.mpr h
    simp only [zcx,hb,yIp (h.trans hk)]
   ·have hb:(g==k)=false:=beq_eq_false_iff_ne.mpr h
    simp only [zcx,hb,yIn (fun e:g=f=>h (e.trans hk.symm))]
  ·rw [yIn hk]
   by_cases h:g=k
   ·have hb:(g==k)=true:=beq_iff_eq.mpr h
    simp only [zcx,hb,yIn (fun e:g=f=>hk (h.symm.trans e))]
   ·have hb:(g==k)=false:=beq_eq_false_iff_ne.mpr h
    simp only [zcx,hb]
    exact ih
theorem jO (f:Str) (v:V):∀ fs:List (Str×V),f∈(lU f v fs).map (·.1)∧∀ g,g∈fs.map (·.1)→g∈(lU f v fs).map (·.1)
 | []=>⟨by simp [lU],fun g h=>by simp at h⟩
 | (k,x)::r=>by
  obtain ⟨i1,i2⟩:=jO f v r
  rw [show lU f v ((k,x)::r)=(if k=f then (k,v)::r else (k,x)::lU f v r) from rfl]
  by_cases hk:k=f
  ·rw [yIp hk]
   subst hk
   exact ⟨by simp,fun g h=>by simpa using h⟩
  ·rw [yIn hk]
   refine ⟨?_,fun g h => ?_⟩
   ·rw [zbX]
    exact zax _ i1
   ·rw [zbX] at h ⊢
    rcases zbW.mp h with e | e
    ·exact zbW.mpr (.inl e)
    ·exact zax _ (i2 g e)
theorem eY.some_of {v:V}{o:Option yaj} (r:eY (some v) o):∃ u,o=some u∧RelV v u:=by
 cases o with
 | none=>exact (show False from r).elim
 | some u=>exact ⟨u,rfl,r⟩
theorem xy {v:V}{u:yaj} (r:RelV v u):PySem.W.handedIn u=true:=by
 cases v with
 | bh=>cases (show u=Value.none from r);rfl
 | bl b=>cases (show u=Value.bool b from r);rfl
 | int i=>obtain ⟨t,e⟩:=(show ∃ t,u=Value.int i t from r);cases e;rfl
 | str x=>obtain ⟨t,e⟩:=(show ∃ t,u=Value.str x t from r);cases e;rfl
 | sH b=>obtain ⟨t,e⟩:=(show ∃ t,u=Value.bytes b t from r);cases e;rfl
 | F5 b=>obtain ⟨t,e⟩:=(show ∃ t,u=Value.float b t from r);cases e;rfl
 | ref a=>cases (show u=Value.ref a from r);rfl
 | ty n=>cases (show u=Value.type n from r);rfl
section
variable {P:yak}{w:yal}{H H':Hp}{h h':Heap}{a C dx:Addr}{fs fs':List (Str×V)}
theorem Ck (hok:e9 P w H h) (e:H a=some (.ins C dx fs)):∃ mA,GH h a dx C mA∧(∀ f,eY (fs.lookup f) (mA f))∧PySem.Within mA (fs.map (·.1))∧fs.length≤1000∧H dx=some (.own a):=by
 obtain ⟨d,z,ne,ob,mA,n,r,q⟩:=(show aQ P w H h a (.ins C dx fs) from hok a _ e)
 exact ⟨mA,⟨ob,n,ne⟩,r,q,z,d⟩
end
structure KH (K:yaH) (C:Addr):Prop where
 pg:PySem.W.plainGet K C Str.empty=true
 hd:PySem.W.hasDictIn K C=true
 po:PySem.W.plainOver K C=true
 sa:zbR K (.ref C) "__setattr__" = some (some (.builtin "object.__setattr__"))
theorem KH.get {K:yaH}{C:Addr} (c:KH K C) (f:Str):PySem.W.plainGet K C f=true:=c.pg
structure Meth (K:yaH) (C:Addr) (m:Str) (f:Addr):Prop where
 at_:zbR K (.ref C) m=some (some (.ref f))
 fn:PySem.W.isFn K (.ref f)=true
 kp:zbS K (.ref f)=true
section
variable {X:Cx}{pins:List (Addr×Obj)}{σ:St}{H:Hp}{s:yai}{a C dx:Addr}{fs:List (Str×V)}{f:Str}{v:V}{A:yam}{E:yaj→yai→Prop}
theorem CO {prog:yak}{w:yal}{env:Env}{e:Expr}{f:Str}{pos:Pos}{s:yai}{Q:yaj→yai→Prop} (hb:attributeBase e f env (eval e env)=eval e env)
  (h:yas (model prog w) A (eval e env) (fun o s₁=>yas (model prog w) A (getAttr o f true) Q E s₁) E s):yas (model prog w) A (eval (.Attribute e f pos) env) Q E s :=
 Attribute_any_ h (by rw [arm_eval_Attribute,hb])
end
section
variable {X:Cx}{pins:List (Addr×Obj)}{σ:St}{H:Hp}{s:yai}{A:yam}{E:yaj→yai→Prop}{Q:yaj→yai→Prop}{c:yaj}{b:Bool}
inductive jr (K:yaH) (H:Hp):V→yaj→Prop where
 | bh:jr K H .bh (.type "NoneType")
 | bl (x:Bool):jr K H (.bl x) (.type "bool")
 | int (i:Int):jr K H (.int i) (.type "int")
 | str (x:Str):jr K H (.str x) (.type "str")
 | F5 (x:UInt64):jr K H (.F5 x) (.type "float")
 | lst {a:Addr}{xs:List V} (e:H a=some (.lst xs)):jr K H (.ref a) (.type "list")
 | vD {a:Addr}{o:Obj}{xs:List V} (e:H a=some (.vD o (.lst xs))):jr K H (.ref a) (.type "list")
 | tup {a:Addr}{xs:List V} (e:H a=some (.tup xs)):jr K H (.ref a) (.type "tuple")
 | dK {a:Addr}{kvs:List (Key×V)} (e:H a=some (.dK kvs)):jr K H (.ref a) (.type "dict")
 | dT {a:Addr}{kvs:List (List Key×V)} (e:H a=some (.dT kvs)):jr K H (.ref a) (.type "dict")
 | ins {a C dx:Addr}{fs:List (Str×V)} (e:H a=some (.ins C dx fs)) (cl:KH K C) (ha:zbR K (.ref C) "__class__" = some (some (.builtin "object.__class__")))
   (hn:zbl K (.builtin "object.__class__") "__get__" = some (some (.builtin "getset_descriptor.__get__"))) (htk:PySem.W.takesIn K (.builtin "object.__class__")=some true)
   (hm:PySem.W.mroIn K C (.type "object")=some true):jr K H (.ref a) (.ref C)
theorem xq {x:V}{u t:yaj} (I:Inv X pins σ H s) (rx:RelV x u) (ty:jr X.K H x t) (e:zbT X.K t c=some b) (h:∀ tk,Q (.bool b) { s with toks:=tk }) :
  yas (model X.prog X.w) A (call (.builtin "isinstance") [u,c]) Q E s:=by
 cases ty with
 | bh=>cases (show u=Value.none from rx);exact zbN PySem.W.kitx_none I.gj True.intro e (fun z=>nomatch z) h
 | bl y=>cases (show u=Value.bool y from rx);exact zbN PySem.W.kitx_bool I.gj True.intro e (fun z=>nomatch z) h
 | int i=>obtain ⟨t,q⟩:=(show ∃ t,u=Value.int i t from rx);cases q;exact zbN PySem.W.kitx_int I.gj True.intro e (fun z=>nomatch z) h
 | str y=>obtain ⟨t,q⟩:=(show ∃ t,u=Value.str y t from rx);cases q;exact zbN PySem.W.kitx_str I.gj True.intro e (fun z=>nomatch z) h
 | F5 y=>obtain ⟨t,q⟩:=(show ∃ t,u=Value.float y t from rx);cases q;exact zbN PySem.W.kitx_float I.gj True.intro e (fun z=>nomatch z) h
 | @lst a xs ea =>
  cases (show u=Value.ref a from rx)
  obtain ⟨_,_,n,_,h1⟩:=(show aQ X.prog X.w H s.heap a (.lst xs) from I.hok a _ ea)
  exact zbN PySem.W.kitx_list I.gj ⟨_,h1,rfl⟩ e (fun z=>nomatch z) h
 | @vD a ob xs ea =>
  cases (show u=Value.ref a from rx)
  obtain ⟨_,_,_,n,_,h1⟩:=(show aQ X.prog X.w H s.heap a (.vD ob (.lst xs)) from I.hok a _ ea)
  exact zbN PySem.W.kitx_list I.gj ⟨_,h1,rfl⟩ e (fun z=>nomatch z) h
 | @tup a xs ea =>
  cases (show u=Value.ref a from rx)
  obtain ⟨_,_,_,p⟩:=(show aQ X.prog X.w H s.heap a (.tup xs) from I.hok a _ ea)
  obtain ⟨o,h1,h2,_⟩:=p
  exact zbN PySem.W.kitx_tuple I.gj ⟨o,h1,h2⟩ e (fun z=>nomatch z) h
 | @dK a kvs ea =>
  cases (show u=Value.ref a from rx)
  obtain ⟨_,_,vs,_,p⟩:=(show aQ X.prog X.w H s.heap a (.dK kvs) from I.hok a _ ea)
  obtain ⟨o,es,ep,h1,h2,_⟩:=p
  exact zbN PySem.W.kitx_dict I.gj ⟨o,h1,h2.1⟩ e (fun z=>nomatch z) h
 | @dT a kvs ea =>
  cases (show u=Value.ref a from rx)
  obtain ⟨_,_,xs,_,o,es,ep,h1,h2,_⟩:=(show aQ X.prog X.w H s.heap a (.dT kvs) from I.hok a _ ea)
  exact zbN PySem.W.kitx_dict I.gj ⟨o,h1,h2.1⟩ e (fun z=>nomatch z) h
 | @ins a C dx fs ea cl ha hn htk hm =>
  cases (show u=Value.ref a from rx)
  obtain ⟨mA,O,_⟩:=Ck I.hok ea
  obtain ⟨od,J,_⟩:=O.look
  exact zbN (PySem.W.kitx_own (cl.get _) cl.hd ha hn htk hm) I.gj J e (fun z=>nomatch z) h
end
structure bE (k:Nat) (A:yam):Prop where
 hd:A.handled=none
 dp:A.depth+3*k+5<recursionLimit
 un:A.units+16*k+200<cLine
 gd:A.guards=some []
theorem bE.mono {j k:Nat}{A:yam} (r:bE k A) (h:j≤k):bE j A:=⟨r.hd,by have:=r.dp;lia,by have:=r.un;lia,r.gd⟩
theorem bE.deeper {k:Nat}{A:yam} (r:bE (k+1) A) (env:Env):bE k (A.deeper env) :=
 ⟨r.hd,by have:=r.dp;show A.depth+1+3*k+5<_;lia,by have:=r.un;show A.units+3+16*k+200<_;lia,r.gd⟩
theorem t6 {A:yam}{C:Addr}{us:List yaj}{kw:List (Str×yaj)}:(A.under (.builtin "type.__call__" ⟨.ref C::us,kw⟩)).depth=A.depth+1:=by
 first | rfl | simp [Around.under,Code.weight,Code.isCreation,Code.isGuard,Code.isCaller,Code.frames,Code.isFrame,guardIds]
theorem tZ {A:yam}{C:Addr}{us:List yaj}{kw:List (Str×yaj)}:(A.under (.builtin "type.__call__" ⟨.ref C::us,kw⟩)).units=A.units+1:=by
 first | rfl | simp [Around.under,Code.cUnits,Code.frames,Code.isFrame]
theorem bE.make {k:Nat}{A:yam} (r:bE (k+1) A) (C:Addr) (us:List yaj) (kw:List (Str×yaj)):bE k (A.under (.builtin "type.__call__" ⟨.ref C::us,kw⟩)) :=
 ⟨r.hd,by have:=r.dp;rw [t6];lia,by have:=r.un;rw [tZ];lia,r.gd⟩
theorem bE.depth {k:Nat}{A:yam} (r:bE k A):A.depth<recursionLimit:=by have:=r.dp;lia
theorem bE.units {k:Nat}{A:yam} (r:bE k A):A.units+64<cLine:=by have:=r.un;lia
def nB:TA:=fun _ H Q=>Q [] H
def bN (ta:TE) (tr:TA):TA:=fun σ H Q=>ta σ H fun x H1=>tr σ H1 fun xs H2=>Q (x::xs) H2
section
variable {X:Cx}{e:Expr}{es:List Expr}{te:TE}{t:TA}{pos:Pos}
theorem aa:PA X [] nB:=fun _ _ _ _ H Q I h=>zbm ⟨[],H,I,.nil,h⟩
theorem B5 (ha:PE X e te) (hr:PA X es t) (hs:yap (e::es) X.env=(false,eval e X.env)::yap es X.env:=by rfl):PA X (e::es) (bN te t):=by
 intro pos pins s σ H Q I h
 rw [hs]
 show yas _ _ (spliced ((false,eval e X.env)::yav pos (yap es X.env))) _ _ s
 refine zaZ (bJ (ha pins s σ H _ I h) fun u s1 ⟨x,H1,I1,r1,q1⟩ => ?_)
 exact bJ (hr pos pins s1 σ H1 _ I1 q1) fun us s2 ⟨xs,H2,I2,r2,q2⟩=>⟨x::xs,H2,I2,.cons r1 r2,q2⟩
def Bt (t:TA):TE:=fun σ H Q=>t σ H fun xs H1=>xs.length≤yah∧∀ p,H1 p=none→Q (.ref p) (upd H1 p (.tup xs))
def Hg (t:TA):TE:=fun σ H Q=>t σ H fun xs H1=>xs.length≤yah∧∀ p,H1 p=none→Q (.ref p) (upd H1 p (.lst xs))
theorem br {x1} (h:PA X es t):PE X (.Tuple es x1 pos) (Bt t):=by
 intro pins s σ H Q I hq
 refine wpAny_Tuple_spliced (bJ (h pos pins s σ H _ I hq) fun us s1 ⟨xs,H1,I1,r,z,q⟩=>⟨by rw [← r.length];exact z,?_⟩)
 have hf:H1 s1.heap.objs.size=none:=I1.hok.fresh (zcy _)
 refine ⟨.ref s1.heap.objs.size,upd H1 s1.heap.objs.size (.tup xs),I1.laid (t':=s1.toks) (fun b u e=>zan _ e) (zcy _) ?_,rfl,q _ hf⟩
 exact ⟨z,us,r,⟨_,zaK _ rfl,rfl,_,rfl⟩⟩
theorem aS (h:PA X es t):PE X (.List es pos) (Hg t):=by
 intro pins s σ H Q I hq
 refine wpAny_List_spliced (bJ (h pos pins s σ H _ I hq) fun us s1 ⟨xs,H1,I1,r,z,q⟩=>⟨by rw [← r.length];exact z,?_⟩)
 have hf:H1 s1.heap.objs.size=none:=I1.hok.fresh (zcy _)
 refine ⟨.ref s1.heap.objs.size,upd H1 s1.heap.objs.size (.lst xs),I1.laid (t':=s1.toks) (fun b u e=>zan _ e) (zcy _) ?_,rfl,q _ hf⟩
 exact ⟨z,us,0,r,zaK _ rfl⟩
end
abbrev Sp:=List V→Hp→VK→XK→Prop
abbrev sJ:=List Env→Hp→yai→XK→yaj→yai→Prop
structure uG (P:yak) (w:yal) (K:yaH) (mg:Str→Option yaj) (base:Heap) (A:yam) (outer:List Env) (s:yai) (H:Hp):Prop where
 frames:A.frames=some outer
 mod:Mod K mg base
 bs:∀ b o,base.get? b=some o→s.heap.get? b=some o∧H b=none
 Bl:base.objs.size≤s.heap.objs.size
 jQ:s.heap.FunFrames base outer
 DP:∀ b∈frs outer,H b=none
 hok:e9 P w H s.heap
 bare:AllBare s.gens
def CE (outer:List Env) (P:yak) (w:yal) (H:Hp) (s:yai) (Q:VK) (u:yaj) (s':yai):Prop :=
 ∃ v H',s'.os=s.os∧AllBare s'.gens∧Un (frs outer) [] H H' s.heap s'.heap∧e9 P w H' s'.heap∧RelV v u∧Q v H'
def CR (CX:sJ) (outer:List Env) (P:yak) (w:yal) (H:Hp) (s:yai) (Q:VK) (E:XK) (r:Result) (s':yai):Prop :=
 match r with
 | .ok (.ret u)=>CE outer P w H s Q u s'
 | .ok _=>False
 | .error e=>CX outer H s E e s'
structure cJ (P:yak) (w:yal) (K:yaH) (mg:Str→Option yaj) (base:Heap) (CX:sJ) (k:Nat) (f:Addr) (fd:yaq) (ps:List Str) (sp:Sp):Prop where
 len:∀ vs H Q E,sp vs H Q E→vs.length=ps.length
 run:∀ (A:yam) (outer:List Env) (s:yai) (H:Hp) (args:Args) (us:List yaj) (vs:List V) (Q:VK) (E:XK),bE k A→uG P w K mg base A outer s H→yaB s fd args (ps.zip us)→Vals vs us→sp vs H Q E →
  codeAny (model P w) A (.call (.ref f) args) (CR CX outer P w H s Q E) s
theorem cJ.imp {P:yak}{w:yal}{K:yaH}{mg:Str→Option yaj}{base:Heap}{CX:sJ}{k:Nat}{f:Addr}{fd:yaq}{ps:List Str}{sp sp':Sp} (F:cJ P w K mg base CX k f fd ps sp)
  (h:∀ vs H Q E,sp' vs H Q E→sp vs H Q E):cJ P w K mg base CX k f fd ps sp' :=
 ⟨fun vs H Q E q=>F.len vs H Q E (h _ _ _ _ q),fun A outer s H args us vs Q E hr he hb hv hs=>F.run A outer s H args us vs Q E hr he hb hv (h _ _ _ _ hs)⟩
theorem uG.make {P:yak}{w:yal}{K:yaH}{mg:Str→Option yaj}{base:Heap}{A:yam}{outer:List Env}{s:yai}{H:Hp} (e:uG P w K mg base A outer s H) (C:Addr) (us:List yaj) (kw:List (Str×yaj)) :
  uG P w K mg base (A.under (.builtin "type.__call__" ⟨.ref C::us,kw⟩)) outer s H:=⟨by first | exact e.frames | (simpa [Around.under,Code.envs,Code.isFrame,pushEnvs] using e.frames),e.mod,e.bs,e.Bl,e.jQ,e.DP,e.hok,e.bare⟩
section
variable {X:Cx}{pins:List (Addr×Obj)}{σ:St}{H:Hp}{s s':yai}
theorem Inv.F7 (I:Inv X pins σ H s):uG X.prog X.w X.K X.mg X.base X.A X.stack s H :=
 ⟨I.ok.frames,I.ok.mod,I.bs,zco I.ok.Bl I.sz,I.stack,I.oS,I.hok,I.bare⟩
theorem Inv.after {Q:VK}{u:yaj} (I:Inv X pins σ H s) (h:CE X.stack X.prog X.w H s Q u s'):EP X pins σ Q u s':=by
 obtain ⟨v,H',os,bare,un,hok,r,q⟩:=h
 obtain ⟨hh,g,d,t,os'⟩:=s'
 obtain rfl:os'=s.os:=os
 exact ⟨v,H',I.call (h':=hh) (g':=g) (d':=d) (t':=t) (ch:=[]) un hok bare (fun b z=>absurd z (by simp)),r,q⟩
end
def yy (sp:Sp) (dvs:List V) (E:XK) (t:TA):TE:=fun σ H Q=>t σ H fun vs H1=>sp (vs++dvs) H1 Q E
def Binds (K:yaH) (fd:yaq) (ps:List Str) (ds:List yaj):Prop :=
 ∀ (s:yai) (us:List yaj),K.In s.heap→(us++ds).length=ps.length→yaB s fd ⟨us,[]⟩ (ps.zip (us++ds))
theorem Binds.all {K:yaH}{fd:yaq}{ps:List Str} (h:∀ us:List yaj,us.length=ps.length→yaA fd ⟨us,[]⟩=pure (ps.zip us)):Binds K fd ps []:=fun s us _ hl=>by
 rw [zbB] at hl ⊢
 exact .of_eq (h us hl)
def Passes (CX:sJ) (X:Cx) (E:XK):Prop:=∀ (pins:List (Addr×Obj)) (σ:St) (H:Hp) (s:yai) (e:yaj) (s':yai),Inv X pins σ H s→CX X.stack H s E e s'→X.xe e s'
section
variable {X:Cx}{CX:sJ}{k:Nat}{f C:Addr}{fd:yaq}{ps:List Str}{sp:Sp}{dvs:List V}{ds:List yaj}{E:XK}{x m:Str}{p pos apos:Pos}{e o:Expr}{es:List Expr}{ta:TE}{t:TA}
theorem E8 {pins:List (Addr×Obj)}{σ:St}{H:Hp}{s:yai}{Q:VK}{us:List yaj}{vs:List V} (F:cJ X.prog X.w X.K X.mg X.base CX k f fd ps sp) (hr:bE k X.A) (hb:Binds X.K fd ps ds) (hd:Vals dvs ds) (hx:Passes CX X E)
  (I:Inv X pins σ H s) (r:Vals vs us) (h:sp (vs++dvs) H Q E):yas (model X.prog X.w) X.A (call (.ref f) us) (EP X pins σ Q) X.xe s:=by
 have r2:Vals (vs++dvs) (us++ds):=r.append hd
 have hl:(us++ds).length=ps.length:=by rw [← r2.length];exact F.len _ _ _ _ h
 refine yaG (yay (F.run X.A X.stack s H ⟨us,[]⟩ (us++ds) (vs++dvs) Q E hr I.F7 (hb s us I.gj hl) r2 h) fun r s' hq => ?_)
 cases r with
 | error e=>exact hx pins σ H s e s' I hq
 | ok fl =>
  cases fl with
  | ret u=>exact I.after hq
  | next=>exact False.elim hq
  | brk=>exact False.elim hq
  | cont=>exact False.elim hq
theorem vm (F:cJ X.prog X.w X.K X.mg X.base CX k f fd ps sp) (hr:bE k X.A) (hg:Gl X x) (hm:X.mg x=some (.ref f)) (hk:zbS X.K (.ref f)=true) (hb:Binds X.K fd ps ds) (hd:Vals dvs ds) (hx:Passes CX X E)
  (ha:PA X (e::es) t) (hdb:(x==("__debug__" : Str))=false:=by decide) (he:yap (e::es) X.env=(false,eval e X.env)::yap es X.env:=by rfl) (hpl:(yav pos (yap es X.env)).any (·.1)=false:=by rfl) :
  PE X (.Call (.Name x p) (e::es) [] pos) (yy sp dvs E t):=by
 intro pins s σ H Q I h
 refine wpAny_Call_Name_kw (gU I hg hm ?_ hdb)
 refine PySem.W.callWith_K (h₀:=X.base) I.ok.mod.Il hk (bJ (ha pos pins s σ H _ I h) fun us s1 ⟨vs,H1,I1,r,q⟩=>⟨I1.gj,?_⟩) he hpl
 exact E8 F hr hb hd hx I1 r q
end
structure aJ (N P:List Str) (sc:Scope):Prop where
 kind:sc.kind = .function
 co:sc.isCoroutine=false
 gen:sc.isGenerator=false
 nd:N.Nodup
 pre:N.take P.length=P
 par:∀ x∈P,sc.names.lookup x=some .local∨sc.names.lookup x=some .cell
 FI:∀ y∈sc.names,y.2 ≠ .free
theorem oA {kindOf:Str→Option NameKind}{x:Str}:∀ {binds:List (Str×yaj)}{m:Str→Option yaj},(∀ v,(x,v) ∉ binds)→bindL kindOf binds m x=m x
 | [],_,_=>rfl
 | (n,v)::r,m,h=>by
  unfold bindL
  rw [oA fun w hw=>h w (zax _ hw)]
  split
  ·have:x≠n:=by rintro rfl;exact h v zaL
   simp [this]
  ·rfl
theorem oE {kindOf:Str→Option NameKind}{x:Str}:∀ {binds:List (Str×yaj)}{m:Str→Option yaj},(∀ v,(x,v) ∉ binds)→bindC kindOf binds m x=m x
 | [],_,_=>rfl
 | (n,v)::r,m,h=>by
  unfold bindC
  rw [oE fun w hw=>h w (zax _ hw)]
  split
  ·rfl
  ·have:x≠n:=by rintro rfl;exact h v zaL
   simp [this]
theorem oB {kindOf:Str→Option NameKind}{x:Str}{v:yaj}:∀ {P:List Str}{vs:List yaj}{i:Nat}{m:Str→Option yaj},P.Nodup→P[i]? = some x→vs[i]? = some v→kindOf x=some .local →
  bindL kindOf (P.zip vs) m x=some v
 | [],_,_,_,_,h,_,_=>by simp at h
 | _::_,[],_,_,_,_,h,_=>by simp at h
 | p::P,w::vs,0,m,nd,h1,h2,hk=>by
  simp at h1 h2;subst h1;subst h2
  show bindL kindOf ((p,w)::P.zip vs) m p=_
  unfold bindL
  rw [oA fun v hv=>(zbC.mp nd).1 (zbD hv).1,yIp hk]
  simp
 | p::P,w::vs,i+1,m,nd,h1,h2,hk=>by
  show bindL kindOf ((p,w)::P.zip vs) m x=_
  unfold bindL
  exact oB (i:=i) (zbC.mp nd).2 (by simpa using h1) (by simpa using h2) hk
theorem oF {kindOf:Str→Option NameKind}{x:Str}{v:yaj}:∀ {P:List Str}{vs:List yaj}{i:Nat}{m:Str→Option yaj},P.Nodup→P[i]? = some x→vs[i]? = some v→kindOf x≠some .local →
  bindC kindOf (P.zip vs) m x=some v
 | [],_,_,_,_,h,_,_=>by simp at h
 | _::_,[],_,_,_,_,h,_=>by simp at h
 | p::P,w::vs,0,m,nd,h1,h2,hk=>by
  simp at h1 h2;subst h1;subst h2
  show bindC kindOf ((p,w)::P.zip vs) m p=_
  unfold bindC
  rw [oE fun v hv=>(zbC.mp nd).1 (zbD hv).1,yIn hk]
  simp
 | p::P,w::vs,i+1,m,nd,h1,h2,hk=>by
  show bindC kindOf ((p,w)::P.zip vs) m x=_
  unfold bindC
  exact oF (i:=i) (zbC.mp nd).2 (by simpa using h1) (by simpa using h2) hk
noncomputable def start (N:List Str) (vs:List V):St:=vs.map some++zbO (N.length - vs.length) none
noncomputable def gp (CX:sJ) (P:yak) (w:yal) (K:yaH) (mg:Str→Option yaj) (base:Heap) (N:List Str) (qual:Str) (scope:Scope) (f:Addr) (cd:yaj) (A:yam) (outer:List Env) (s:yai) (H:Hp) (E:XK):Cx where
 prog:=P
 w:=w
 K:=K
 mg:=mg
 base:=base
 A:=A.deeper (envOfC qual scope s.heap.objs.size f cd)
 N:=N
 s₀:=s
 H₀:=H
 env:=envOfC qual scope s.heap.objs.size f cd
 outer:=outer
 stack:=envOfC qual scope s.heap.objs.size f cd::outer
 ex:=[]
 calm:=true
 fn:=fun _=>true
 pn:=[]
 xe:=fun e s'=>yas (model P w) (A.deeper (envOfC qual scope s.heap.objs.size f cd)) (leaving (envOfC qual scope s.heap.objs.size f cd) e) (fun _ s''=>CX outer H s E e s'') (fun e' s''=>CX outer H s E e' s'') s'
theorem rM {sc:Scope}{n:Nat}{x:Str} (h:sc.names.lookup x=some .cell):∃ c,(cellsFrom n sc.names []).lookup x=some c:=by
 have q:=PySem.W.cellsFrom_some sc.names n [] (.inl h)
 exact Option.isSome_iff_exists.mp q
theorem xr {CX:sJ}{P:yak}{w:yal}{K:yaH}{mg:Str→Option yaj}{base:Heap}{N ps:List Str}{qual:Str}{scope:Scope}{f:Addr}{cd:yaj}{A:yam}{outer:List Env}{s s1:yai}{H:Hp}{E:XK}{us:List yaj}{vs:List V}
  (S:aJ N ps scope) (hd:A.handled=none) (e0:uG P w K mg base A outer s H) (hl:vs.length=ps.length) (r:Vals vs us)
  (x:InCallC s s.heap.objs.size (bindL (envOfC qual scope s.heap.objs.size f cd).kindOf (ps.zip us) fun _=>none) (cellsFrom (s.heap.objs.size+1) scope.names []) (bindC (envOfC qual scope s.heap.objs.size f cd).kindOf (ps.zip us) fun _=>none) s1) :
  Inv (gp CX P w K mg base N qual scope f cd A outer s H E) [] (start N vs) H s1:=by
 have hpl:ps.length≤N.length:=by have:=congrArg List.length S.pre;rw [zbn] at this;lia
 obtain ⟨h1,tk,rfl,hk⟩:=x.done
 have noA:∀ b:Addr,b ∉ (gp CX P w K mg base N qual scope f cd A outer s H E).ex:=fun b z=>absurd (show b∈([]:List Addr) from z) (by simp)
 refine ⟨⟨e0.mod,S.kind,rfl,rfl,zcy _,fun y z c h1 h2 => ?_,fun y hy => ?_,fun y c _ h => ?_,fun _=>hd,Around.frames_deeper e0.frames,.inr ⟨rfl,rfl⟩,fun b z=>absurd z (noA b),e0.bs,e0.Bl,fun b _ _=>noA b,fun b z=>absurd z (noA b),e0.jQ,e0.DP⟩,
  rfl,e0.bare,Un.kept hk,⟨_,x.toInCall.ns,fun i y v h1 h2 h3 => ?_⟩,fun y c h=>⟨_,x.cell y c h⟩,e0.hok.fresh (zcy _),fun y c h => ?_,fun p hp=>absurd (show p∈([]:List (Addr×Obj)) from hp) (by simp),e0.hok.kept hk,?_⟩
 ·exact name_of_addr x.apart (PySem.mem_of_lookup h1) (PySem.mem_of_lookup h2)
 ·have hy:scope.names.lookup y=some .cell∨scope.names.lookup y=some .free:=hy
  rcases hy with hy | hy
  ·exact rM hy
  ·exact absurd rfl (S.FI _ (PySem.mem_of_lookup hy))
 ·exact zcp (x.above y c (PySem.mem_of_lookup h))
 ·have hi:i<vs.length:=by
   unfold start at h2
   by_cases hi:i<vs.length
   ·exact hi
   ·rw [zab (by simpa using hi)] at h2
    rw [List.getElem?_replicate] at h2
    split at h2 <;> cases h2
  have ha:vs[i]? = some v:=by
   unfold start at h2
   rw [zad (by simpa using hi),zbb] at h2
   cases e:vs[i]? with
   | none=>rw [e] at h2;cases h2
   | some a=>rw [e] at h2;cases h2;rfl
  obtain ⟨u,hu,rv⟩:=r.get ha
  have hp:ps[i]? = some y:=by
   rw [← S.pre,List.getElem?_take_of_lt (by lia)];exact h1
  have ndP:ps.Nodup:=by rw [← S.pre];exact S.nd.sublist (List.take_sublist _ _)
  refine ⟨u,rv,?_⟩
  rcases S.par y (zaA hp) with k | k
  ·exact .inl ⟨k,oB ndP hp hu k⟩
  ·obtain ⟨c,e⟩:=rM (n:=s.heap.objs.size+1) k
   refine .inr ⟨.inl k,c,e,?_⟩
   have q:=x.cell y c e
   rw [oF ndP hp hu (by show scope.names.lookup y≠_;rw [k];decide)] at q
   exact q
 ·exact e0.hok.fresh (zcp (x.above y c (PySem.mem_of_lookup h)))
 ·unfold start
  show _=N.length
  rw [zaM,zbE,List.length_replicate]
  lia
theorem DQ {CX:sJ}{P:yak}{w:yal}{K:yaH}{mg:Str→Option yaj}{base:Heap}{k:Nat}{f:Addr}{name qual:Str}{params:Arguments}{body:List Stmt}{scope:Scope}{dV kV doc pm cdv ct oc:yaj}{an od:Option Addr}
  {osl:Array (Option yaj)}{N ps:List Str}{sp:Sp} (lk:K.lookup f=some ⟨oc,od,.func (zcu name qual params body scope dV kV doc pm an cdv ct),osl⟩) (hcd:zbU K cdv qual=true) (S:aJ N ps scope)
  (len:∀ vs H Q E,sp vs H Q E→vs.length=ps.length)
  (hbody:∀ (A:yam) (outer:List Env) (s:yai) (H:Hp) (vs:List V) (Q:VK) (E:XK),bE k (A.deeper (envOfC qual scope s.heap.objs.size f cdv))→sp vs H Q E →
   ∃ t,oH (gp CX P w K mg base N qual scope f cdv A outer s H E) body t∧t { nx:=fun _ H'=>Q .bh H',rt:=Q } (start N vs) H) :
  cJ P w K mg base CX (k+1) f (zcu name qual params body scope dV kV doc pm an cdv ct) ps sp:=by
 refine ⟨len,fun A outer s H args us vs Q E hr e0 hb r hsp => ?_⟩
 have hl:=len _ _ _ _ hsp
 have KX:K.In s.heap:=e0.mod.Il.keeps fun b o e=>(e0.bs b o e).1
 have lim:s.heap.NoLimit:=e0.mod.nolimit.keeps fun b o e=>(e0.bs b o e).1
 have hkind:∀ y∈ps.zip us,scope.names.lookup y.1=some .local∨(scope.names.lookup y.1=some .cell∧((cellsFrom (s.heap.objs.size+1) scope.names []).lookup y.1).isSome=true):=fun ⟨n,v⟩ hy=>by
  rcases S.par n (zbD hy).1 with q | q
  ·exact .inl q
  ·exact .inr ⟨q,PySem.W.cellsFrom_some _ _ _ (.inl q)⟩
 refine codeAny_call_function hr.depth (KX _ _ lk) rfl S.co S.gen rfl (PySem.W.codeRec_of KX hcd) (hb _ _ _ _ ?_)
 refine wpAny_newFunctionEnv_cells S.kind hkind fun env he s1 x => ?_
 subst he
 refine ⟨lim.keeps x.toInCall.keep,codeAny_func ?_⟩
 obtain ⟨t,ht,hq⟩:=hbody A outer s H vs Q E (hr.deeper _) hsp
 have I:Inv (gp CX P w K mg base N qual scope f cdv A outer s H E) [] (start N vs) H s1:=xr S hr.hd e0 hl r x
 refine yac (ht [] s1 (start N vs) H _ I hq) (fun fl s' hs => ?_) fun e s' hs=>hs
 have fin:∀ {σ':St}{H':Hp}{v:V}{u:yaj},Inv (gp CX P w K mg base N qual scope f cdv A outer s H E) [] σ' H' s'→RelV v u→Q v H'→CE outer P w H s Q u s' :=
  fun {σ' H' v u} J rv q=>⟨v,H',J.os,J.bare,J.base,J.hok,rv,q⟩
 cases fl with
 | ret u =>
  obtain ⟨v,σ',H',J,rv,q⟩:=hs
  exact fin J rv q
 | next =>
  obtain ⟨σ',H',J,q⟩:=hs
  exact fin (v:=V.bh) (u:=Value.none) J rfl q
 | brk =>
  obtain ⟨_,_,_,q⟩:=hs
  exact False.elim q
 | cont =>
  obtain ⟨_,_,_,q⟩:=hs
  exact False.elim q
section
variable {X:Cx}{x:Str}{p pos:Pos}{e:Expr}{es:List Expr}{t:TA}{id T:String}{r:List V→Hp→VK→Prop}
def yz (r:List V→Hp→VK→Prop) (t:TA):TE:=fun σ H Q=>t σ H fun vs H1=>r vs H1 Q
theorem zA (hc:b6 X (.builtin id) r) (hg:Gl X x) (hm:X.mg x=none) (hv:bootBuiltins x=some (.builtin id)) (ha:PA X (e::es) t) (hn:x ≠ "__name__" := by decide) (hdb:(x==("__debug__" : Str))=false:=by decide)
  (he:yap (e::es) X.env=(false,eval e X.env)::yap es X.env:=by rfl) (hpl:(yav pos (yap es X.env)).any (·.1)=false:=by rfl):PE X (.Call (.Name x p) (e::es) [] pos) (yz r t):=by
 intro pins s σ H Q I h
 refine wpAny_Call_Name_kw (eE I hg hm hv ?_ hn hdb)
 exact PyProof.Rows.callWith_builtin1 (bJ (ha pos pins s σ H _ I h) fun us s1 ⟨vs,H1,I1,r1,q1⟩=>hc pins s1 σ H1 vs us Q I1 r1 q1) he hpl
theorem wU (hc:b6 X (.type T) r) (hg:Gl X x) (hm:X.mg x=none) (hv:bootBuiltins x=some (.type T)) (ha:PA X (e::es) t) (hn:x ≠ "__name__" := by decide) (hdb:(x==("__debug__" : Str))=false:=by decide)
  (he:yap (e::es) X.env=(false,eval e X.env)::yap es X.env:=by rfl) (hpl:(yav pos (yap es X.env)).any (·.1)=false:=by rfl):PE X (.Call (.Name x p) (e::es) [] pos) (yz r t):=by
 intro pins s σ H Q I h
 refine wpAny_Call_Name_kw (eE I hg hm hv ?_ hn hdb)
 exact PyProof.Rows.callWith_type1 (bJ (ha pos pins s σ H _ I h) fun us s1 ⟨vs,H1,I1,r1,q1⟩=>hc pins s1 σ H1 vs us Q I1 r1 q1) he hpl
end
section
variable {κ:Type} [DecidableEq κ]
noncomputable def eL (kvs:List (κ×V)) (k:κ):Option V:=(kvs.find? fun kv=>decide (kv.1=k)).map (·.2)
noncomputable def putK (kvs:List (κ×V)) (k:κ) (v:V):List (κ×V) :=
 if (kvs.any fun kv=>decide (kv.1=k))=true then kvs.map (fun kv=>if kv.1=k then (kv.1,v) else kv) else kvs++[(k,v)]
theorem ly {p:κ×V}{r:List (κ×V)}{k:κ} (e:p.1=k):eL (p::r) k=some p.2:=by simp [eL,zbF,e]
theorem lz {p:κ×V}{r:List (κ×V)}{k:κ} (e : ¬ p.1=k):eL (p::r) k=eL r k:=by simp [eL,zbF,e]
theorem lA (k:κ):∀ kvs:List (κ×V),(kvs.any fun kv=>decide (kv.1=k))=(eL kvs k).isSome
 | []=>rfl
 | p::r=>by
  rw [zbY]
  by_cases e:p.1=k
  ·simp only [ly e,yDt e,Bool.true_or,Option.isSome_some]
  ·rw [lz e,yDf e,zcd];exact lA k r
theorem gi (kvs:List (κ×V)) (k:κ) (v:V):(putK kvs k v).length≤kvs.length+1:=by
 unfold putK
 split
 ·rw [zbE];lia
 ·rw [zaM,zbo,List.length_nil];lia
theorem eY.jP {o:Option V}{u:Option yaj} (r:eY o u):o.isSome=u.isSome:=by
 cases o with
 | none=>cases u with
  | none=>rfl
  | some _=>exact (show False from r).elim
 | some _=>cases u with
  | none=>exact (show False from r).elim
  | some _=>rfl
theorem eY.getD {o:Option V}{u:Option yaj}{d:V}{d':yaj} (r:eY o u) (rd:RelV d d'):RelV (o.getD d) (u.getD d'):=by
 cases o with
 | none=>cases u with
  | none=>exact rd
  | some _=>exact (show False from r).elim
 | some _=>cases u with
  | none=>exact (show False from r).elim
  | some _=>exact r
theorem KV.val {kvs:List (κ×V)}{vs:List (κ×yaj)} (r:KV kvs vs) (k:κ):eY (eL kvs k) (valueAt vs k):=by
 unfold KV at r
 induction r with
 | nil=>exact True.intro
 | @cons p q ps qs h t ih =>
  obtain ⟨h1,h2⟩:=h
  by_cases e:p.1=k
  ·have e':q.1=k:=h1.symm.trans e
   have b:valueAt (q::qs) k=some q.2:=by simp [valueAt,zbF,e']
   rw [ly e,b];exact h2
  ·have e' : ¬ q.1=k:=fun z=>e (h1.trans z)
   have b:valueAt (q::qs) k=valueAt qs k:=by simp [valueAt,zbF,e']
   rw [lz e,b];exact ih
theorem KV.any {kvs:List (κ×V)}{vs:List (κ×yaj)} (r:KV kvs vs) (k:κ):(kvs.any fun kv=>decide (kv.1=k))=vs.any fun kv=>decide (kv.1=k):=by
 unfold KV at r
 induction r with
 | nil=>rfl
 | cons h t ih=>rw [zbY,zbY,ih,h.1]
theorem KV.repl {kvs:List (κ×V)}{vs:List (κ×yaj)} (r:KV kvs vs) (k:κ) {y:V}{u:yaj} (ry:RelV y u) :
  KV (kvs.map fun kv=>if kv.1=k then (kv.1,y) else kv) (vs.map fun kv=>if kv.1=k then (kv.1,u) else kv):=by
 unfold KV at r ⊢
 induction r with
 | nil=>exact .nil
 | @cons p q ps qs h t ih =>
  rw [zbX,zbX]
  refine .cons ?_ ih
  obtain ⟨h1,h2⟩:=h
  by_cases e:p.1=k
  ·rw [yIp e,yIp (h1.symm.trans e)];exact ⟨h1,ry⟩
  ·rw [yIn e,yIn (fun z=>e (h1.trans z))];exact ⟨h1,h2⟩
theorem KV.put {kvs:List (κ×V)}{vs:List (κ×yaj)} (r:KV kvs vs) (k:κ) {y:V}{u:yaj} (ry:RelV y u):KV (putK kvs k y) (stored vs k u):=by
 unfold putK stored
 rw [r.any k]
 by_cases e:(vs.any fun kv=>decide (kv.1=k))=true
 ·rw [yIp e,yIp e];exact r.repl k ry
 ·rw [yIn e,yIn e];exact Paired.snoc r ⟨rfl,ry⟩
theorem KV.length {kvs:List (κ×V)}{vs:List (κ×yaj)} (r:KV kvs vs):kvs.length=vs.length:=Paired.length r
end
theorem mH {P:yak}{w:yal}{k:Key}{u:yaj} (r:RelV (kV k) u):(bz P w).is k u=true:=by
 cases k with
 | inl i=>obtain ⟨t,e⟩:=(show ∃ t,u=Value.int i t from r);subst e;exact qT P w i t
 | inr x=>obtain ⟨t,e⟩:=(show ∃ t,u=Value.str x t from r);subst e;exact qS P w x t
theorem oj {P:yak}{w:yal}:∀ {ks:List Key}{us:List yaj},Vals (ks.map kV) us→ItemsAre (bz P w) ks us
 | [],_,r=>by rw [zci] at r;cases r;exact .nil
 | k::ks,_,r=>by
  rw [zbX] at r
  cases r with
  | cons h t=>exact .cons (mH h) (oj t)
abbrev KT (H:Hp):List (List Key×V)→List (List Key×Addr×yaj)→Prop:=Paired fun p q=>p.1=q.1∧H q.2.1=some (.tup (p.1.map kV))∧RelV p.2 q.2.2
theorem KT.val {H:Hp}{kvs:List (List Key×V)}{xs:List (List Key×Addr×yaj)} (r:KT H kvs xs) (k:List Key):eY (eL kvs k) ((atKey xs k).map (·.2)):=by
 induction r with
 | nil=>exact True.intro
 | @cons p q ps qs h t ih =>
  obtain ⟨h1,_,h2⟩:=h
  by_cases e:p.1=k
  ·have e':q.1=k:=h1.symm.trans e
   have b:atKey (q::qs) k=some q.2:=by simp [atKey,zbF,e']
   rw [ly e,b];exact h2
  ·have e' : ¬ q.1=k:=fun z=>e (h1.trans z)
   have b:atKey (q::qs) k=atKey qs k:=by simp [atKey,zbF,e']
   rw [lz e,b];exact ih
theorem KT.repl {H:Hp}{kvs:List (List Key×V)}{xs:List (List Key×Addr×yaj)} (r:KT H kvs xs) (k:List Key) {y:V}{u:yaj} (ry:RelV y u) :
  KT H (kvs.map fun kv=>if kv.1=k then (kv.1,y) else kv) (xs.map (putAt k u)):=by
 induction r with
 | nil=>exact .nil
 | @cons p q ps qs h t ih =>
  rw [zbX,zbX]
  refine .cons ?_ ih
  obtain ⟨h1,h2,h3⟩:=h
  unfold putAt
  by_cases e:p.1=k
  ·rw [yIp e,yIp (h1.symm.trans e)];exact ⟨h1,h2,ry⟩
  ·rw [yIn e,yIn (fun z=>e (h1.trans z))];exact ⟨h1,h2,h3⟩
theorem KT.put {H:Hp}{kvs:List (List Key×V)}{xs:List (List Key×Addr×yaj)} (r:KT H kvs xs) (k:List Key) {b:Addr}{y:V}{u:yaj} (hb:H b=some (.tup (k.map kV))) (ry:RelV y u) :
  KT H (putK kvs k y) (storedH xs k b u):=by
 have e:(kvs.any fun kv=>decide (kv.1=k))=(atKey xs k).isSome:=by
  rw [lA,(r.val k).jP,Option.isSome_map]
 unfold putK storedH
 rw [e]
 by_cases q:(atKey xs k).isSome=true
 ·rw [yIp q,yIp q];exact r.repl k ry
 ·rw [yIn q,yIn q];exact Paired.snoc r ⟨rfl,hb,ry⟩
theorem KT.keeps {H H':Hp}{kvs:List (List Key×V)}{xs:List (List Key×Addr×yaj)} (r:KT H kvs xs) (ht:∀ b ys,H b=some (.tup ys)→H' b=some (.tup ys)):KT H' kvs xs :=
 Paired.FJ r fun _ _ z=>⟨z.1,ht _ _ z.2.1,z.2.2⟩
section
variable {P:yak}{w:yal}{H:Hp}{h:Heap}{a:Addr}
theorem Dw {u:HO} (ok:e9 P w H h) (e:Rd H a u):aQ P w H h a u:=e.ok ok
theorem mU {kvs:List (Key×V)} (ok:e9 P w H h) (e:Rd H a (.dK kvs)):kvs.length≤yah∧(a==yat)=false∧∃ vs,KV kvs vs∧h.DictOf (bz P w) a vs :=
 show aQ P w H h a (.dK kvs) from Dw ok e
theorem vG {kvs:List (Key×V)} (ok:e9 P w H h) (e:H a=some (.dK kvs)):kvs.length≤yah∧(a==yat)=false∧∃ vs,KV kvs vs∧h.DictOf (bz P w) a vs:=mU ok (.inl e)
theorem mD {ks:List Key} (ok:e9 P w H h) (e:H a=some (.tup (ks.map kV))):(tupleKind (bz P w)).is h ks a:=by
 obtain ⟨_,its,r,o,h1,h2,n,h3⟩:=(show aQ P w H h a (.tup (ks.map kV)) from ok a _ e)
 exact ⟨o,its.toArray,n,h1,h2,h3,by simpa using oj r⟩
theorem oq {kvs:List (List Key×V)} (ok:e9 P w H h) (e:Rd H a (.dT kvs)):kvs.length≤yah∧(a==yat)=false ∧
  ∃ xs,KT H kvs xs∧h.DictOfH (tupleKind (bz P w)) a xs:=by
 obtain ⟨z,y,xs,r,o,es,ep,h1,h2,h3,h4,h5⟩:=(show aQ P w H h a (.dT kvs) from Dw ok e)
 refine ⟨z,y,xs,r,o,es,ep,h1,h2,h3,h4,fun x hx => ?_,h5⟩
 have all:∀ {l:List (List Key×V)}{m:List (List Key×Addr×yaj)},KT H l m→∀ x∈m,(tupleKind (bz P w)).is h x.1 x.2.1:=by
  intro l m q
  induction q with
  | nil=>intro x hx;exact nomatch hx
  | @cons p q ps qs hq t ih =>
   intro x hx
   rcases zbW.mp hx with e | hx
   ·subst e
    exact mD ok (by rw [← hq.1];exact hq.2.1)
   ·exact ih x hx
 exact all r x hx
theorem IE {kvs:List (List Key×V)} (ok:e9 P w H h) (e:H a=some (.dT kvs)):kvs.length≤yah∧(a==yat)=false ∧
  ∃ xs,KT H kvs xs∧h.DictOfH (tupleKind (bz P w)) a xs:=oq ok (.inl e)
end
def nk (H:Hp) (a:Addr) (y:V) (r:Option V):Prop :=
 (∃ kvs k,Rd H a (.dK kvs)∧y=kV k∧r=eL kvs k)∨∃ kvs k b,Rd H a (.dT kvs)∧y = .ref b∧H b=some (.tup (k.map kV))∧r=eL kvs k
def x6 (H:Hp) (a:Addr) (y v:V) (H':Hp):Prop :=
 (∃ kvs k,H a=some (.dK kvs)∧y=kV k∧kvs.length<yah∧H'=upd H a (.dK (putK kvs k v))) ∨
 ∃ kvs k b,H a=some (.dT kvs)∧y = .ref b∧H b=some (.tup (k.map kV))∧kvs.length<yah∧H'=upd H a (.dT (putK kvs k v))
theorem nk.k {H:Hp}{a:Addr}{kvs:List (Key×V)}{k:Key} (e:H a=some (.dK kvs)):nk H a (kV k) (eL kvs k):=.inl ⟨kvs,k,.inl e,rfl,rfl⟩
theorem x6.k {H:Hp}{a:Addr}{kvs:List (Key×V)}{k:Key}{v:V} (e:H a=some (.dK kvs)) (hl:kvs.length<yah):x6 H a (kV k) v (upd H a (.dK (putK kvs k v))):=.inl ⟨kvs,k,e,rfl,hl,rfl⟩
section
variable {X:Cx}{pins:List (Addr×Obj)}{σ:St}{H:Hp}{s:yai}{a:Addr}{y v:V}{u r:yaj}{o:Option V}{A:yam}{E:yaj→yai→Prop}
theorem Inv.big (I:Inv X pins σ H s):yat<s.heap.objs.size:=by
 have h:yar<s.heap.objs.size:=(I.mod.glob.keeps I.bk).lt
 exact Nat.lt_trans (by decide) h
theorem xC {Q:yaj→yai→Prop} (hu:A.units+1<cLine) (I:Inv X pins σ H s) (g:nk H a y (some v)) (ry:RelV y u) (h:∀ w' s',Inv X pins σ H s'→RelV v w'→Q w' s') :
  yas (model X.prog X.w) A (getItem (.ref a) u) Q E s:=by
 rcases g with ⟨kvs,k,e,ey,l⟩ | ⟨kvs,k,b,e,ey,eb,l⟩
 ·subst ey
  obtain ⟨z,hd,vs,rel,dd⟩:=mU I.hok e
  obtain ⟨w',hw,rw'⟩:=eY.some_of (v:=v) (o:=valueAt vs k) (by rw [l];exact rel.val k)
  exact wpAny_getItem_of (mH ry) dd.mapOf hw (h w' _ (I.tok _) rw')
 ·subst ey
  cases (show u=Value.ref b from ry)
  obtain ⟨z,hd,xs,rel,dd⟩:=oq I.hok e
  obtain ⟨w',hw,rw'⟩:=eY.some_of (v:=v) (o:=(atKey xs k).map (·.2)) (by rw [l];exact rel.val k)
  obtain ⟨p,hp,hp2⟩:=zam.mp hw
  refine wpAny_getItem_heap (tupleKind_room_in1 hu) (mD I.hok eb) dd hp ?_
  rw [hp2]
  exact h w' _ (I.tok _) rw'
theorem Cw {Q:yaj→yai→Prop} (hu:A.units+1<cLine) (I:Inv X pins σ H s) (g:nk H a y o) (ry:RelV y u) (h:∀ s',Inv X pins σ H s'→Q (.bool (!o.isSome)) s') :
  yas (model X.prog X.w) A (yao .NotIn u (.ref a)) Q E s:=by
 rcases g with ⟨kvs,k,e,ey,l⟩ | ⟨kvs,k,b,e,ey,eb,l⟩
 ·subst ey
  obtain ⟨z,hd,vs,rel,dd⟩:=mU I.hok e
  refine wpAny_notIn_of (mH ry) hd dd.mapOf ?_
  rw [← (rel.val k).jP,← l]
  exact h _ (I.tok _)
 ·subst ey
  cases (show u=Value.ref b from ry)
  obtain ⟨z,hd,xs,rel,dd⟩:=oq I.hok e
  refine wpAny_notIn_heap (tupleKind_room_in1 hu) (mD I.hok eb) hd dd ?_
  have q:=(rel.val k).jP
  rw [Option.isSome_map] at q
  rw [← q,← l]
  exact h _ (I.tok _)
theorem k7 {h':Heap}{t':Nat}{ob:HO} (I:Inv X pins σ H s) (mu:D5 (H a)) (hs:Heap.SameBut a s.heap h') (he:∃ q,h'.get? a=some q) (new:aQ X.prog X.w (upd H a ob) h' a ob) :
  Inv X pins σ (upd H a ob) { s with heap:=h',toks:=t' } :=
 I.write (x:=a) (e:=a) mu (.inl rfl) (fun b q hb z=>(hs.2 b hb).trans z) he new
theorem Ad {P:yak}{w:yal}{H':Hp}{h':Heap}{kvs:List (Key×V)}{vs:List (Key×yaj)} (z:kvs.length≤yah) (hd:(a==yat)=false) (rel:KV kvs vs) (dd:h'.DictOf (bz P w) a vs) :
  aQ P w H' h' a (.dK kvs):=⟨z,hd,vs,rel,dd⟩
theorem xB {H':Hp}{Q:Unit→yai→Prop} (hu:A.units+1<cLine) (I:Inv X pins σ H s) (g:x6 H a y v H') (ry:RelV y u) (rv:RelV v r) (h:∀ s',Inv X pins σ H' s'→Q () s') :
  yas (model X.prog X.w) A (setItem (.ref a) u r) Q E s:=by
 rcases g with ⟨kvs,k,e,ey,l,eH⟩ | ⟨kvs,k,b,e,ey,eb,l,eH⟩
 ·subst ey eH
  obtain ⟨z,hd,vs,rel,dd⟩:=vG I.hok e
  have hz:vs.length≤yah:=by rw [← rel.length];exact z
  have hl:(putK kvs k v).length≤yah:=by have:=gi kvs k v;lia
  refine wpAny_setItem_pairs (hsz:=hz) (mH ry) dd fun h' dd' hs=>h _ ?_
  have he:∃ q,h'.get? a=some q:=let ⟨q,_,_,hq,_⟩:=dd';⟨q,hq⟩
  exact k7 I (by rw [e];exact True.intro) hs he (Ad hl hd (rel.put k rv) dd')
 ·subst ey eH
  cases (show u=Value.ref b from ry)
  obtain ⟨z,hd,xs,rel,dd⟩:=IE I.hok e
  have hz:xs.length≤yah:=by rw [← Paired.length rel];exact z
  have hl:(putK kvs k v).length≤yah:=by have:=gi kvs k v;lia
  refine wpAny_setItem_heap (hsz:=hz) (tupleKind_room_in1 hu) (mD I.hok eb) dd fun h' dd' hs=>h _ ?_
  obtain ⟨q,es,ep,hq,h2,h3,h4,_,h5⟩:=dd'
  refine k7 I (by rw [e];exact True.intro) hs ⟨q,hq⟩ ⟨hl,hd,_,(rel.put k eb rv).keeps fun c ys ec => ?_,q,es,ep,hq,h2,h3,h4,h5⟩
  rw [au (Ih ec e (fun z=>nomatch z))]
  exact ec
end
section
variable {X:Cx}{pins:List (Addr×Obj)}{σ:St}{H:Hp}{s:yai}{a:Addr}{kvs:List (Key×V)}{k:Key}{u:yaj}{A:yam}{E:yaj→yai→Prop}
theorem IG {Q:yaj→yai→Prop} (I:Inv X pins σ H s) (e:Rd H a (.dK kvs)) (h:∀ t s',Inv X pins σ H s'→Q (.int kvs.length t) s'):yas (model X.prog X.w) A (call (.builtin "len") [.ref a]) Q E s:=by
 obtain ⟨z,hd,vs,rel,dd⟩:=mU I.hok e
 refine call_len_dict hd dd (by rw [← rel.length];rw [yag] at z;lia) ?_
 rw [← rel.length]
 exact h _ _ (I.tok _)
end
def sC (i:Expr):Prop:=∀ ov iv,subscripted i false ov iv=operate [ov,iv] (getItem ov iv)
theorem oR {prog:yak}{w:yal}{A:yam}{E:yaj→yai→Prop}{s:yai}{env:Env}{value slice:Expr}{pos:Pos}{T id:String}{Q:yaj→yai→Prop}
  (hl:typeLookup (.type T) "__getitem__" = pure (some (.builtin id))) (hs:sC slice)
  (h:yas (model prog w) A (eval value env) (fun o s₁=>yas (model prog w) A (eval slice env) (fun i s₂=>s₂.TypeIs o T∧yas (model prog w) A (getItem o i) Q E s₂) E s₁) E s) :
  yas (model prog w) A (eval (.Subscript value slice pos) env) Q E s:=by
 refine Subscript_ (yac h (fun o s₁ h₁=>yac h₁ (fun i s₂ h₂ => ?_) fun _ _ x=>x) fun _ _ x=>x)
 obtain ⟨hT,h₂⟩:=h₂
 unfold subscriptTail
 refine yaa ?_
 rw [getitemInPython_of_ne hT.not_modules]
 refine yaa (wpAny_specialOf hT hl ?_)
 have fin:yas (model prog w) A (subscripted slice false o i) (fun r s₃=>yas (model prog w) A (letTemporaryGo value o r >>= fun _=>pure r) Q E s₃) E s₂:=by
  rw [hs o i]
  exact wpAny_operating (yac h₂ (fun r s₃ h₃=>yaa (wpAny_letTemporaryGo (yab h₃))) fun _ _ x=>x)
 first
  | exact yab (yaa fin)
  | exact yaa (yab (yaa fin))
  | exact yaa fin
theorem rB {X:Cx}{pins:List (Addr×Obj)}{σ:St}{H:Hp}{s:yai}{a:Addr}{y:V}{o:Option V} (I:Inv X pins σ H s) (g:nk H a y o):s.TypeIs (.ref a) "dict" := by
 rcases g with ⟨kvs,k,e,_,_⟩ | ⟨kvs,k,b,e,_,_,_⟩
 ·obtain ⟨_,_,vs,_,dd⟩:=mU I.hok e
  exact dd.typeIs
 ·obtain ⟨_,_,xs,_,dd⟩:=oq I.hok e
  exact dd.typeIs
def yw (td ty:TE):TE:=fun σ H Q=>td σ H fun x H1=>ty σ H1 fun y H2=>∃ a v,x = .ref a∧nk H2 a y (some v)∧Q v H2
def za (td ty tv:TE):TS:=fun D σ H=>tv σ H fun v H1=>td σ H1 fun x H2=>ty σ H2 fun y H3=>∃ a H4,x = .ref a∧x6 H3 a y v H4∧D.nx σ H4
section
variable {X:Cx}{o i e value:Expr}{pos pos' tpos:Pos}{td ty tv:TE}
theorem cZ (hu:X.A.units+1<cLine) (ho:PE X o td) (hi:PE X i ty) (hs:sC i):PE X (.Subscript o i pos) (yw td ty):=by
 intro pins s σ H Q I h
 refine oR PySem.F.slot_dict_getitem.lookup hs (bJ (ho pins s σ H _ I h) fun u s1 ⟨x,H1,I1,rx,q1⟩=>bJ (hi pins s1 σ H1 _ I1 q1) fun iv s2 ⟨y,H2,I2,ry,a,v,ex,g,q2⟩ => ?_)
 subst ex
 obtain rfl:u=Value.ref a:=rx
 exact ⟨rB I2 g,xC hu I2 g ry fun w' s3 I3 rw'=>⟨v,H2,I3,rw',q2⟩⟩
theorem gR (hu:X.A.units+1<cLine) (ho:PE X o td) (hi:PE X i ty) (hv:PE X value tv) (hs:yau value (some (.Subscript o i pos')) pos.line X.env=pure false) :
  PS X (.Assign [.Subscript o i pos'] value pos) (za td ty tv):=by
 intro pins s σ H D I h
 refine wpAny_Assign_Subscript (bJ (hv pins s σ H _ I h) fun r s1 ⟨v,H1,I1,rv,q1⟩=>bJ (ho pins s1 σ H1 _ I1 q1) fun u s2 ⟨x,H2,I2,rx,q2⟩=>bJ (hi pins s2 σ H2 _ I2 q2) fun iv s3 ⟨y,H3,I3,ry,a,H4,ex,g,q3⟩ => ?_) hs
 subst ex
 obtain rfl:u=Value.ref a:=rx
 exact xB hu I3 g ry rv fun s4 I4=>⟨σ,H4,I4,q3⟩
end
theorem rA {P:yak}{w:yal}{H:Hp} (h:Heap) (hb:yat<h.objs.size):aQ P w H (h.push { cls:=.type "dict",data:=.dict #[] }) h.objs.size (.dK []) :=
 ⟨zcz _,beq_eq_false_iff_ne.mpr (Ne.symm (zcn hb)),[],.nil,Heap.DictOf.new h⟩
def yt:TE:=fun _ H Q=>∀ p,H p=none→Q (.ref p) (upd H p (.dK []))
section
variable {X:Cx}{pos:Pos}
theorem i0:PE X (.Dict [] [] pos) yt:=fun pins s σ H Q I h =>
 wpAny_Dict_empty ⟨.ref s.heap.objs.size,_,I.laid (a:=s.heap.objs.size) (o:=.dK []) (t':=s.toks) (fun _ _ q=>zan _ q) (zcy _) (rA s.heap I.big),rfl,h _ (I.hok.fresh (zcy _))⟩
end
def oN:List (TE×TE)→St→Hp→(List (V×V)→Hp→Prop)→Prop
 | [],_,H,Q=>Q [] H
 | (tk,tv)::r,σ,H,Q=>tk σ H fun x H1=>tv σ H1 fun y H2=>oN r σ H2 fun ps H3=>Q ((x,y)::ps) H3
abbrev VV:List (V×V)→List (yaj×yaj)→Prop:=Paired fun p q=>RelV p.1 q.1∧RelV p.2 q.2
def Jh (X:Cx) (pos:Pos) (keys:List (Option Expr)) (values:List Expr) (uK:List (TE×TE)):Prop :=
 ∀ (pins:List (Addr×Obj)) (s:yai) (σ:St) (H:Hp) (Q:List (V×V)→Hp→Prop),Inv X pins σ H s→oN uK σ H Q →
  yas (model X.prog X.w) X.A (evalPairs (pairTrees keys values X.env pos)) (fun vs s'=>∃ ps H',Inv X pins σ H' s'∧VV ps vs∧Q ps H') X.xe s
theorem pF {X:Cx}{pos:Pos}:Jh X pos [] [] []:=fun pins s σ H Q I h=>pairTrees_nil_walk ⟨[],H,I,.nil,h⟩
theorem f6 {X:Cx}{pos:Pos}{k v:Expr}{ks:List (Option Expr)}{vs:List Expr}{tk tv:TE}{uK:List (TE×TE)} (hk:PE X k tk) (hv:PE X v tv) (hr:Jh X pos ks vs uK) :
  Jh X pos (some k::ks) (v::vs) ((tk,tv)::uK):=fun pins s σ H Q I h =>
 pairTrees_cons_walk (bJ (hk pins s σ H _ I h) fun u s1 ⟨x,H1,I1,rx,q1⟩=>bJ (hv pins s1 σ H1 _ I1 q1) fun w2 s2 ⟨y,H2,I2,ry,q2⟩ =>
  bJ (hr pins s2 σ H2 _ I2 q2) fun ws s3 ⟨ps,H3,I3,rel,q3⟩=>⟨(x,y)::ps,H3,I3,.cons ⟨rx,ry⟩ rel,q3⟩)
noncomputable def gc (kvs more:List (Key×V)):List (Key×V):=more.foldl (fun acc kv=>putK acc kv.1 kv.2) kvs
theorem KV.merge:∀ {more:List (Key×V)}{rs:List (Key×yaj)}{kvs:List (Key×V)}{vs:List (Key×yaj)},KV more rs→KV kvs vs→KV (gc kvs more) (merged vs rs):=by
 intro more rs kvs vs r
 unfold KV at r
 induction r generalizing kvs vs with
 | nil=>intro q;exact q
 | @cons p q ps qs h t ih =>
  intro r0
  have e:KV (putK kvs p.1 p.2) (stored vs q.1 q.2):=by
   have:=r0.put p.1 h.2
   rw [← h.1];exact this
  exact ih e
theorem g9:∀ (more kvs:List (Key×V)),(gc kvs more).length≤kvs.length+more.length
 | [],kvs=>by show kvs.length≤kvs.length+0;lia
 | p::r,kvs=>by
  have h1:=g9 r (putK kvs p.1 p.2)
  have h2:=gi kvs p.1 p.2
  show (gc (putK kvs p.1 p.2) r).length≤_
  rw [zbo];lia
theorem mY {P:yak}{w:yal}:∀ {kvs:List (Key×V)}{ws:List (yaj×yaj)},VV (kvs.map fun kv=>(kV kv.1,kv.2)) ws→∃ rs,Carries (bz P w) ws rs∧KV kvs rs
 | [],_,r=>by rw [zci] at r;cases r;exact ⟨[],True.intro,.nil⟩
 | p::kvs,_,r=>by
  rw [zbX] at r
  cases r with
  | @cons a b as bs h t =>
   obtain ⟨rs,c,q⟩:=mY (P:=P) (w:=w) t
   obtain ⟨b1,b2⟩:=b
   exact ⟨(p.1,b2)::rs,⟨mH h.1,rfl,c⟩,.cons ⟨rfl,h.2⟩ q⟩
def Dn (uK:List (TE×TE)):TE:=fun σ H Q=>∀ p,H p=none→oN uK σ (upd H p (.dK [])) fun ps H2=>H2 p=some (.dK [])∧∃ kvs:List (Key×V),ps=kvs.map (fun kv=>(kV kv.1,kv.2))∧kvs.length≤15∧Q (.ref p) (upd H2 p (.dK (gc [] kvs)))
theorem pJ {X:Cx}{pos:Pos}{keys:List (Option Expr)}{values:List Expr}{uK:List (TE×TE)} (h:Jh X pos keys values uK) (hall:keys.all (·.isSome)=true) (hl:keys.length=values.length) (h0:keys≠[])
  (h15:keys.length≤15):PE X (.Dict keys values pos) (Dn uK):=by
 intro pins s σ H Q I q
 have hn:=I.hok.fresh (zcy s.heap.objs.size)
 have I1:=I.laid (a:=s.heap.objs.size) (o:=.dK []) (h':=s.heap.push { cls:=.type "dict",data:=.dict #[] }) (t':=s.toks) (fun _ _ q=>zan _ q) (zcy _) (rA s.heap I.big)
 refine wpAny_Dict_walk (knd:=bz X.prog X.w) hall hl h0 h15 (bJ (h pins _ σ _ _ I1 (q _ hn)) fun ws s2 ⟨ps,H2,I2,rel,e,kvs,ep,lk,q2⟩ => ?_)
 subst ep
 obtain ⟨rs,c,rk⟩:=mY (P:=X.prog) (w:=X.w) rel
 obtain ⟨z,hd,vs0,r0,dd⟩:=vG I2.hok e
 cases r0
 refine ⟨rs,c,dd,fun h' dd' hs=>⟨.ref s.heap.objs.size,_,?_,rfl,q2⟩⟩
 have hz:(gc [] kvs).length≤yah:=by
  have h1:=g9 kvs []
  rw [List.length_nil] at h1
  rw [yag];lia
 have he:∃ q,h'.get? s.heap.objs.size=some q:=let ⟨q,_,_,hq,_⟩:=dd';⟨q,hq⟩
 exact k7 I2 (by rw [e];exact True.intro) hs he (Ad hz hd (rk.merge .nil) dd')
structure M2 (X:Cx) (o:Expr) (m:Str) (apos:Pos) (e f:Expr) (cpos:Pos):Prop where
 base:attributeBase o m X.env (eval o X.env)=eval o X.env
 few:((yav cpos (yap [e,f] X.env)).all (fun x => !x.1)&&(backToKw cpos (yaC [] X.env)).all (fun x=>x.1.isSome)
  && decide (([e,f]:List Expr).length+([]:List Keyword).length+(if ([]:List Keyword).isEmpty then 0 else 1)<30))=true
 line:(apos.endLine==cpos.line)=true
 trees:yav cpos (yap [e,f] X.env)=[(false,eval e X.env),(false,eval f X.env)]
def K5 (H:Hp) (a:Addr):Prop:=(∃ kvs,Rd H a (.dK kvs))∨∃ kvs,Rd H a (.dT kvs)
theorem F2 {X:Cx}{pins:List (Addr×Obj)}{σ:St}{H:Hp}{s:yai}{a:Addr} (I:Inv X pins σ H s) (d:K5 H a) :
  s.TypeIs (.ref a) "dict" ∧ (∀ b,Value.ref a = .ref b→∃ ob,s.heap.get? b=some ob∧ob.dict=none)∧(a==yat)=false:=by
 rcases d with ⟨kvs,e⟩ | ⟨kvs,e⟩
 ·obtain ⟨_,hd,vs,_,dd⟩:=mU I.hok e
  refine ⟨dd.typeIs,fun b q => ?_,hd⟩
  cases q
  obtain ⟨ob,_,_,h1,h2,_⟩:=dd
  exact ⟨ob,h1,h2.2.1⟩
 ·obtain ⟨_,hd,xs,_,dd⟩:=oq I.hok e
  refine ⟨dd.typeIs,fun b q => ?_,hd⟩
  cases q
  obtain ⟨ob,_,_,h1,h2,_⟩:=dd
  exact ⟨ob,h1,h2.2.1⟩
section
variable {X:Cx}{pins:List (Addr×Obj)}{σ:St}{H:Hp}{s:yai}{a:Addr}{y d:V}{u r:yaj}{o:Option V}{A:yam}{E:yaj→yai→Prop}
theorem F9 {Q:yaj→yai→Prop} (hu:A.units+1<cLine) (I:Inv X pins σ H s) (g:nk H a y o) (ry:RelV y u) (rd:RelV d r) (h:∀ w' s',Inv X pins σ H s'→RelV (o.getD d) w'→Q w' s') :
  yas (model X.prog X.w) A (call (.builtin "dict.get") [.ref a,u,r]) Q E s:=by
 rcases g with ⟨kvs,k,e,ey,l⟩ | ⟨kvs,k,b,e,ey,eb,l⟩
 ·subst ey
  obtain ⟨z,hd,vs,rel,dd⟩:=mU I.hok e
  refine call_meetsIn PySem.F.slot_dict_get dd.typeIs PySem.F.entry_dict_get (PySem.F.args_dict_get_3 _ _ _) (meets_dict_get_default (bz X.prog X.w) a (mH ry) hd r) ⟨_,dd.mapOf,h _ _ (I.tok _) ?_⟩
  rw [l]
  exact (rel.val k).getD rd
 ·subst ey
  cases (show u=Value.ref b from ry)
  obtain ⟨z,hd,xs,rel,dd⟩:=oq I.hok e
  refine call_meetsIn PySem.F.slot_dict_get dd.typeIs PySem.F.entry_dict_get (PySem.F.args_dict_get_3 _ _ _) (meetsH_dict_get_default (tupleKind (bz X.prog X.w)) a b hd r) ⟨tupleKind_room_in1 hu,k,xs,mD I.hok eb,dd,h _ _ (I.tok _) ?_⟩
  rw [l]
  exact (rel.val k).getD rd
end
def yv (td ty tx:TE):TE:=fun σ H Q=>td σ H fun x H1=>∃ a,x = .ref a∧K5 H1 a∧ty σ H1 fun y H2=>tx σ H2 fun z H3=>∃ o,nk H3 a y o∧Q (o.getD z) H3
section
variable {X:Cx}{o e f:Expr}{apos cpos:Pos}{td ty tx:TE}
theorem l6 (hu:X.A.units+1<cLine) (ho:PE X o td) (he:PE X e ty) (hf:PE X f tx) (m:M2 X o "get" apos e f cpos):PE X (.Call (.Attribute o "get" apos) [e,f] [] cpos) (yv td ty tx):=by
 intro pins s σ H Q I h
 refine wpAny_Call_method m.base m.few m.line PySem.F.plainAttrs_dict PySem.F.slot_dict_get PySem.F.type_dict_get (bJ (ho pins s σ H _ I h) fun u s1 ⟨x,H1,I1,rx,a,ex,d,q1⟩ => ?_)
 subst ex
 obtain rfl:u=Value.ref a:=rx
 obtain ⟨t1,t2,_⟩:=F2 I1 d
 refine ⟨t1,t2,?_⟩
 rw [m.trees]
 refine zap rfl (Calls.evalArgs_plain (zaZ (bJ (he pins s1 σ H1 _ I1 q1) fun iv s2 ⟨y,H2,I2,ry,q2⟩ =>
  zaZ (bJ (hf pins s2 σ H2 _ I2 q2) fun fv s3 ⟨z,H3,I3,rz,ov,g,q3⟩=>zbm ?_))))
 exact F9 hu I3 g ry rz fun w' s4 I4 rw'=>⟨_,H3,I4,rw',q3⟩
end
end L2
namespace HT
open PySem PyProof.Rows
section
variable {prog:yak}{w:yal}{A:yam}{E:yaj→yai→Prop}{s:yai}
theorem CM {t b:Addr}{vs ws:List yaj}{Q:yaj→yai→Prop} (ht:IsTup s.heap t vs.toArray) (hb:IsTup s.heap b ws.toArray) (hv:vs≠[])
  (h1:ws=[]→Q (.ref t) s) (h2:ws≠[]→Q (.ref s.heap.objs.size) { s with heap:=s.heap.push { cls:=.type "tuple",data:=.seq (vs++ws).toArray } })
  (hsz:vs.length+ws.length≤yah):yas (model prog w) A (binaryOp .Add (.ref t) (.ref b)) Q E s:=by
 obtain ⟨⟨cls,dd,data,sl⟩,ho,hc,n,hd⟩:=id ht
 obtain ⟨⟨cls2,dd2,data2,sl2⟩,ho2,hc2,n2,hd2⟩:=id hb
 simp only at hc hd hc2 hd2
 subst hc hd hc2 hd2
 have e:vs.toArray++ws.toArray=(vs++ws).toArray:=by simp
 by_cases hw:ws=[]
 ·exact concat_meets ⟨_,ho,rfl⟩ ⟨_,ho2,rfl⟩ noFill_tuple_add seq_tuple_add PySem.F.slot_tuple_add PySem.F.entry_tuple_add (PySem.F.args_tuple_add_2 _ _)
   (tuple_addW1 t b vs.toArray ws.toArray n n2 dd dd2 sl sl2 (by simpa using hv) (by simp [hw])) ⟨ho,ho2,h1 hw⟩
 ·refine concat_meets ⟨_,ho,rfl⟩ ⟨_,ho2,rfl⟩ noFill_tuple_add seq_tuple_add PySem.F.slot_tuple_add PySem.F.entry_tuple_add (PySem.F.args_tuple_add_2 _ _)
   (tuple_addW2 t b vs.toArray ws.toArray n n2 dd dd2 sl sl2 (by simpa using hv) (by simpa using hw) (by rw [zba,zba];exact hsz)) ⟨ho,ho2,?_⟩
  rw [e]
  exact h2 hw
noncomputable def b7 (n d:Nat):Option Int→Nat
 | none=>d
 | some v=>if v<0 then (v+(n:Int)).toNat else min v.toNat n
theorem kO (n d k:Nat):b7 n d (some (k:Int))=min k n:=by
 show (if (k:Int)<0 then ((k:Int)+(n:Int)).toNat else min (k:Int).toNat n)=min k n
 rw [yIn (by lia),zbi]
theorem E5 (n d:Nat) (hd:d≤n) (o:Option Int):b7 n d o≤n:=by
 cases o with
 | none=>exact hd
 | some v =>
  show (if v<0 then (v+(n:Int)).toNat else min v.toNat n)≤n
  by_cases hv:v<0
  ·rw [yIp hv];lia
  ·rw [yIn hv];exact Nat.min_le_right _ _
theorem vM (v:Int) (n d:Nat):(if v<0 then max (v+(n:Int)) 0 else min v (n:Int))=((b7 n d (some v):Nat):Int):=by
 show (if v<0 then max (v+(n:Int)) 0 else min v (n:Int))=(((if v<0 then (v+(n:Int)).toNat else min v.toNat n):Nat):Int)
 by_cases hv:v<0
 ·simp only [yIp hv];lia
 ·simp only [yIn hv];lia
theorem uz (lo hi:Option Int) (n:Nat):Builtin.Slice.sliceAdjust lo hi 1 (n:Int)=(((b7 n 0 lo:Nat):Int),((b7 n n hi:Nat):Int)):=by
 have h1 : ¬ ((1:Int)<0):=by lia
 unfold Builtin.Slice.sliceAdjust
 simp only [h1,if_false]
 refine Prod.ext ?_ ?_
 ·cases lo with
  | none=>rfl
  | some v=>exact vM v n 0
 ·cases hi with
  | none=>rfl
  | some v=>exact vM v n n
theorem tM (i j:Nat):Builtin.Slice.slicePlaces (i:Int) (j:Int) 1=j - i:=by
 unfold Builtin.Slice.slicePlaces
 have h1:(1:Int) > 0:=by lia
 simp only [h1,if_true,Int.ediv_one]
 split <;> lia
theorem lM {v:yaj}{o:Option Int}{Q:Option Int→yai→Prop} (p:IsPart v o) (h:Q o s):yas (model prog w) A (Builtin.Slice.slicePartIndex v) Q E s:=by
 cases p with
 | none=>exact slicePart_none h
 | int i t=>exact slicePart_int h
theorem eO {sl:Addr}{vl vu:yaj}{lo hi:Option Int}{n:Nat}{Q:Int×Int×Nat→yai→Prop} (hs:s.heap.IsSliceOf sl vl vu .none) (pl:IsPart vl lo) (pu:IsPart vu hi)
  (h:Q (((b7 n 0 lo:Nat):Int),1,b7 n n hi - b7 n 0 lo) s):yas (model prog w) A (Builtin.Slice.sliceApplied (.ref sl) (pure (n:Int))) Q E s:=by
 obtain ⟨os,hos,hcs,hds⟩:=id hs
 unfold Builtin.Slice.sliceApplied Builtin.Slice.sliceFields
 refine yaa (yaa (wpAny_field hos hds (x:=vl) rfl (yaa (wpAny_field hos hds (x:=vu) rfl (yaa (wpAny_field hos hds (x:=.none) rfl (yab ?_)))))))
 refine yaa (slicePart_none ?_)
 show yas _ _ (if ((1:Int)==0)=true then _ else _) _ _ s
 rw [yIn (by decide)]
 refine yaa (lM pl (yaa (lM pu (yaa (yab ?_)))))
 show yas _ _ (match Builtin.Slice.sliceAdjust lo hi 1 (n:Int) with | (lo,hi)=>pure (lo,(1:Int),Builtin.Slice.slicePlaces lo hi 1)) _ _ s
 rw [uz lo hi n]
 show yas _ _ (pure (((b7 n 0 lo:Nat):Int),(1:Int),Builtin.Slice.slicePlaces ((b7 n 0 lo:Nat):Int) ((b7 n n hi:Nat):Int) 1)) _ _ s
 rw [tM]
 exact yab h
theorem zv (xs:Array yaj) (i k:Nat):((zcC k).filterMap fun (m:Nat)=>xs[((i:Int)+(m:Int)*1).toNat]?).toArray=((xs.toList.drop i).take k).toArray:=by
 have e:(fun (m:Nat)=>xs[((i:Int)+(m:Int)*1).toNat]?)=fun m=>xs[i+m]? := by
  funext m
  have:((i:Int)+(m:Int)*1).toNat=i+m:=by lia
  rw [this]
 rw [e]
 have:=pick_run xs i k
 rw [List.filterMap_map] at this
 have e2:((fun x=>xs[x]?) ∘ fun x=>i+x)=fun m=>xs[i+m]? := rfl
 rw [e2] at this
 rw [this]
theorem jc {t sl:Addr}{items:Array yaj}{vl vu:yaj}{lo hi:Option Int}{Q:yaj→yai→Prop} (ht:IsTup s.heap t items) (hs:s.heap.IsSliceOf sl vl vu .none) (pl:IsPart vl lo) (pu:IsPart vu hi)
  (hw : ¬ (b7 items.size 0 lo=0∧b7 items.size items.size hi=items.size))
  (h:Q (.ref s.heap.objs.size) { s with heap:=s.heap.push { cls:=.type "tuple",data:=.seq ((items.toList.drop (b7 items.size 0 lo)).take (b7 items.size items.size hi - b7 items.size 0 lo)).toArray } })
  (hsz:items.size≤yah):yas (model prog w) A (getItem (.ref t) (.ref sl)) Q E s:=by
 have vB:sizeOk (.seq ((items.toList.drop (b7 items.size 0 lo)).take (b7 items.size items.size hi - b7 items.size 0 lo)).toArray):=by
  show ((items.toList.drop (b7 items.size 0 lo)).take (b7 items.size items.size hi - b7 items.size 0 lo)).toArray.size≤yah
  rw [zba,zbn,zbp,zaJ]
  lia
 have hj:b7 items.size items.size hi≤items.size:=E5 _ _ (zcy _) hi
 obtain ⟨os,hos,hcs,hds⟩:=id hs
 have hTs:s.TypeIs (.ref sl) "slice" := ⟨os,hos,hcs⟩
 unfold getItem
 try with_reducible refine yad ?_
 first | refine yaa (yab ?_) | skip
 refine yaa (wpAny_sequenceKey ht.typeIs (by decide) ?_)
 refine yaa (wpAny_callSpecial?_slot (name:=Str.ofString "__getitem__") ht.typeIs PyProof.Rows.slot_tuple_getitem
  (wpAny_call_entry PyProof.Rows.slot_tuple_getitem ht.typeIs entry_tuple_getitem ?_ (args_tuple_getitem _ _)))
 show yas _ _ (Builtin.Tuple.tupleItemsOf (.ref t) >>= _) _ _ s
 refine yaa (tupleItemsOf_ ht ?_)
 refine yaa (wpAny_typeOf hTs ?_)
 rw [yIp (by decide)]
 refine yaa (eO hs pl pu ?_)
 have hno : ¬ ((((b7 items.size 0 lo:Nat):Int)==0&&(1:Int)==1&&(b7 items.size items.size hi - b7 items.size 0 lo)==items.size)=true):=by
  intro q
  rw [zbw,zbw] at q
  have q1:((b7 items.size 0 lo:Nat):Int)=0:=eq_of_beq q.1.1
  have q2:b7 items.size items.size hi - b7 items.size 0 lo=items.size:=eq_of_beq q.2
  exact hw ⟨by lia,by lia⟩
 show yas _ _ (if (((b7 items.size 0 lo:Nat):Int)==0&&(1:Int)==1&&(b7 items.size items.size hi - b7 items.size 0 lo)==items.size)=true then _ else _) _ _ s
 rw [yIn hno,zv]
 first
  | exact yaa (m:=Builtin.Tuple.tupleExact _) (yaf (yab ⟨_,rfl,yab h⟩) vB)
  | exact yaa (m:=Builtin.Tuple.tupleExact _) (yaf (yaa (yab (yab ⟨_,rfl,yab h⟩))) vB)
  | exact yaa (yaa (m:=Builtin.Tuple.tupleExact _) (yaf (yab (yab ⟨_,rfl,yab h⟩)) vB))
  | exact yaa (yaa (m:=Builtin.Tuple.tupleExact _) (yaf (yab ⟨_,rfl,yab h⟩) vB))
end
end HT
namespace L2
open PySem PySem.Spec PyProof.Rows
abbrev TO:=St→Hp→(Option Int→Hp→Prop)→Prop
def PO (X:Cx) (e:Option Expr) (t:TO):Prop :=
 ∀ (pins:List (Addr×Obj)) (s:yai) (σ:St) (H:Hp) (Q:Option Int→Hp→Prop),Inv X pins σ H s→t σ H Q →
  yas (model X.prog X.w) X.A (evalPart e X.env) (fun u s'=>∃ o H',Inv X pins σ H' s'∧IsPart u o∧Q o H') X.xe s
def uN:TO:=fun _ H Q=>Q none H
def Dj (t:TE):TO:=fun σ H Q=>t σ H fun x H1=>∃ i,x = .int i∧Q (some i) H1
theorem intsAre_of {ns:List Int}:∀ {us:List yaj},Vals (ns.map V.int) us→IntsAre us ns:=by
 induction ns with
 | nil=>intro us r;rw [zci] at r;cases r;exact .nil
 | cons n ns ih =>
  intro us r
  rw [zbX] at r
  cases r with
  | cons r1 r2 =>
   obtain ⟨t,e⟩:=r1
   subst e
   exact .cons n t (ih r2)
section
variable {X:Cx}{e:Expr}{te:TE}{lo hi:Option Expr}{tl th:TO}{pos p2:Pos}
theorem cO:PO X none uN:=by
 intro pins s σ H Q I h
 rw [evalPart_none]
 exact yab ⟨none,H,I,.none,h⟩
theorem cN (h:PE X e te):PO X (some e) (Dj te):=by
 intro pins s σ H Q I hw
 rw [evalPart_some]
 refine bJ (h pins s σ H _ I hw) fun u s1 ⟨x,H1,I1,r1,q1⟩ => ?_
 obtain ⟨i,rfl,q⟩:=q1
 obtain ⟨t,rfl⟩:=r1
 exact ⟨some i,H1,I1,.int i t,q⟩
def Bm (X:Cx) (r:V→Option Int→Option Int→Hp→VK→Prop):Prop :=
 ∀ (pins:List (Addr×Obj)) (s:yai) (σ:St) (H:Hp) (x:V) (v vl vu:yaj) (lo hi:Option Int) (sl:Addr) (Q:VK),Inv X pins σ H s→RelV x v→s.heap.IsSliceOf sl vl vu .none→IsPart vl lo→IsPart vu hi→r x lo hi H Q →
  ∃ T id,typeLookup (.type T) "__getitem__" = pure (some (.builtin id))∧s.TypeIs v T∧yas (model X.prog X.w) X.A (getItem v (.ref sl)) (EP X pins σ Q) X.xe s
theorem Bm.or {r r':V→Option Int→Option Int→Hp→VK→Prop} (h:Bm X r) (h':Bm X r'):Bm X (fun x lo hi H Q=>r x lo hi H Q∨r' x lo hi H Q):=by
 intro pins s σ H x v vl vu lo hi sl Q I rx hs pl pu q
 rcases q with q | q
 ·exact h pins s σ H x v vl vu lo hi sl Q I rx hs pl pu q
 ·exact h' pins s σ H x v vl vu lo hi sl Q I rx hs pl pu q
def KL (r:V→Option Int→Option Int→Hp→VK→Prop) (te:TE) (tl th:TO):TE:=fun σ H Q=>te σ H fun x H1=>tl σ H1 fun l H2=>th σ H2 fun u H3=>r x l u H3 Q
theorem bW {r:V→Option Int→Option Int→Hp→VK→Prop} (hr:Bm X r) (he:PE X e te) (hl:PO X lo tl) (hu:PO X hi th):PE X (.Subscript e (.Slice lo hi none p2) pos) (KL r te tl th):=by
 intro pins s σ H Q I h
 refine Subscript_ (bJ (he pins s σ H _ I h) fun v s1 ⟨x,H1,I1,r1,q1⟩ => ?_)
 refine wpAny_Slice (bJ (hl pins s1 σ H1 _ I1 q1) fun vl s2 ⟨l,H2,I2,pl,q2⟩=>bJ (hu pins s2 σ H2 _ I2 q2) fun vu s3 ⟨u,H3,I3,pu,q3⟩ => ?_)
 rw [evalPart_none]
 refine yab ?_
 have I4:Inv X pins σ H3 { s3 with heap:=s3.heap.push { cls:=.type "slice",data:=.fields #[vl,vu,.none] } }:=I3.kept (t':=s3.toks) fun b ob q=>zan _ q
 obtain ⟨T,id,hT,ht,hg⟩:=hr pins { s3 with heap:=s3.heap.push { cls:=.type "slice",data:=.fields #[vl,vu,.none] } } σ H3 x v vl vu l u s3.heap.objs.size Q I4 r1 (Heap.IsSliceOf.new ..) pl pu q3
 show yas (model X.prog X.w) X.A (subscriptTail e (.Slice lo hi none p2) v (.ref s3.heap.objs.size)) (EP X pins σ Q) X.xe { s3 with heap:=s3.heap.push { cls:=.type "slice",data:=.fields #[vl,vu,.none] } }
 exact tail_any (ops:=[.ref s3.heap.objs.size,v]) ht hT hg (by with_unfolding_all rfl)
noncomputable def rE (xs:List V) (lo hi:Option Int):List V:=(xs.drop (HT.b7 xs.length 0 lo)).take (HT.b7 xs.length xs.length hi - HT.b7 xs.length 0 lo)
theorem j8 (xs:List V) (lo hi:Option Int):(rE xs lo hi).length≤xs.length:=by
 unfold rE
 rw [zbn,zbp]
 lia
def JX (K:yaH):V→Option Int→Option Int→Hp→VK→Prop:=fun x lo hi H Q=>∃ a xs,x = .ref a∧dQ K H a xs ∧
 ¬ (HT.b7 xs.length 0 lo=0∧HT.b7 xs.length xs.length hi=xs.length)∧∀ p,H p=none→Q (.ref p) (upd H p (.tup (rE xs lo hi)))
theorem Ex:Bm X (JX X.K):=by
 intro pins s σ H x v vl vu lo hi sl Q I rx hs pl pu h
 obtain ⟨a,xs,rfl,hx,hw,q⟩:=h
 cases rx
 obtain ⟨its,r,ht,hz⟩:=I.tuple hx
 have hlen:its.toArray.size=xs.length:=by rw [zba];exact r.length.symm
 refine ⟨"tuple",_,PyProof.Rows.slot_tuple_getitem.lookup,ht.typeIs,?_⟩
 refine HT.jc ht hs pl pu (by rw [hlen];exact hw) ?_ (by rw [hlen];exact hz)
 rw [hlen]
 refine ⟨.ref s.heap.objs.size,_,I.laid (t':=s.toks) (o:=.tup (rE xs lo hi)) (fun b ob q=>zan _ q) (zcy _) ?_,rfl,q _ (I.hok.fresh (zcy _))⟩
 exact ⟨zco (j8 xs lo hi) hz,_,(r.drop (HT.b7 xs.length 0 lo)).take (HT.b7 xs.length xs.length hi - HT.b7 xs.length 0 lo),IsTup.new _ _⟩
def HS (K:yaH):R2:=fun x y H Q=>∃ a b xs ys,x = .ref a∧y = .ref b∧dQ K H a xs∧dQ K H b ys∧xs≠[]∧xs.length+ys.length≤yah ∧
 (ys=[]→Q (.ref a) H)∧(ys≠[]→∀ p,H p=none→Q (.ref p) (upd H p (.tup (xs++ys))))
theorem Vals.pP {xs:List V}{us:List yaj} (r:Vals xs us):us=[]↔xs=[]:=by
 cases r with
 | nil=>simp
 | cons _ _=>simp
theorem B9:gH X (binaryOp .Add) (HS X.K):=by
 intro pins s σ H x y v u Q I rx ry h
 obtain ⟨a,b,xs,ys,rfl,rfl,ha,hb,hx,hz,q1,q2⟩:=h
 cases rx
 cases ry
 obtain ⟨its,r1,p1,_⟩:=I.tuple ha
 obtain ⟨its2,r2,p2,_⟩:=I.tuple hb
 refine HT.CM p1 p2 (fun z=>hx (r1.pP.mp z)) (fun z=>⟨.ref a,H,I,rfl,q1 (r2.pP.mp z)⟩) (fun z => ?_) (by rw [← r1.length,← r2.length];exact hz)
 refine ⟨.ref s.heap.objs.size,_,I.laid (t':=s.toks) (o:=.tup (xs++ys)) (fun b ob q=>zan _ q) (zcy _) ?_,rfl,q2 (fun w=>z (r2.pP.mpr w)) _ (I.hok.fresh (zcy _))⟩
 exact ⟨by rw [zaM];exact hz,_,r1.append r2,IsTup.new _ _⟩
end
noncomputable def Bj (n:Nat) (i:Int):Option Nat:=if 0≤i then (if i<n then some i.toNat else none) else if -(n:Int)≤i then some (i+n).toNat else none
noncomputable def kg {α:Type} (xs:List α) (i:Int):Option α:=(Bj xs.length i).bind fun j=>xs[j]?
theorem vt {n:Nat}{i:Int}{j:Nat} (h:Bj n i=some j):seqIndex? i n=some j∧j<n ∧ -(n:Int)≤i∧i<n:=by
 unfold Bj at h
 by_cases h0:0≤i
 ·rw [yIp h0] at h
  by_cases h1:i<n
  ·rw [yIp h1] at h
   have e:i.toNat=j:=zcB.inj h
   exact ⟨by rw [seqIndex_of h0 h1,e],by lia,by lia,h1⟩
  ·rw [yIn h1] at h;cases h
 ·rw [yIn h0] at h
  by_cases h1 : -(n:Int)≤i
  ·rw [yIp h1] at h
   have e:(i+n).toNat=j:=zcB.inj h
   exact ⟨by rw [seqIndex_neg (by lia) h1,e],by lia,h1,by lia⟩
  ·rw [yIn h1] at h;cases h
theorem p6 {α:Type}{xs:List α}{i:Int}{v:α} (h:kg xs i=some v):∃ j,seqIndex? i xs.length=some j∧xs[j]? = some v∧j<xs.length ∧ -(xs.length:Int)≤i∧i<xs.length:=by
 unfold kg at h
 cases e:Bj xs.length i with
 | none=>rw [e] at h;cases h
 | some j =>
  rw [e] at h
  obtain ⟨h1,h2,h3,h4⟩:=vt e
  exact ⟨j,h1,h,h2,h3,h4⟩
theorem c6 {α:Type}{xs:List α}{j:Nat}{v:α} (h:xs[j]? = some v):kg xs (j:Int)=some v:=by
 have hj:j<xs.length:=(zac.mp h).1
 have e:Bj xs.length (j:Int)=some j:=by
  unfold Bj
  rw [yIp (by lia),yIp (by lia)];simp
 unfold kg;rw [e];exact h
def wc (b:Expr):Prop:=∀ o i,subscripted b false o i=operate [o,i] (getItem o i)
def Bo (X:Cx) (r:R2):Prop :=
 ∀ (value slice:Expr) (pins:List (Addr×Obj)) (s:yai) (σ:St) (H:Hp) (x y:V) (v u:yaj) (Q:VK),Inv X pins σ H s→RelV x v→RelV y u→r x y H Q →
  subscripted slice false v u=operate [v,u] (getItem v u)→yas (model X.prog X.w) X.A (subscriptTail value slice v u) (EP X pins σ Q) X.xe s
def ya (X:Cx) (id:String) (r:V→List V→Hp→VK→Prop):Prop :=
 ∀ (pins:List (Addr×Obj)) (s:yai) (σ:St) (H:Hp) (x:V) (xs:List V) (v:yaj) (us:List yaj) (Q:VK),Inv X pins σ H s→RelV x v→Vals xs us→r x xs H Q →
  yas (model X.prog X.w) X.A (call (.builtin id) (v::us)) (EP X pins σ Q) X.xe s
section
variable {X:Cx}{a b:Expr}{ta tb:TE}{pos:Pos}
theorem Bo.or {r r':R2} (h:Bo X r) (h':Bo X r'):Bo X (fun x y H Q=>r x y H Q∨r' x y H Q):=by
 intro value slice pins s σ H x y v u Q I rx ry q hs
 rcases q with q | q
 ·exact h value slice pins s σ H x y v u Q I rx ry q hs
 ·exact h' value slice pins s σ H x y v u Q I rx ry q hs
theorem ya.or {id:String}{r r':V→List V→Hp→VK→Prop} (h:ya X id r) (h':ya X id r'):ya X id (fun x xs H Q=>r x xs H Q∨r' x xs H Q):=by
 intro pins s σ H x xs v us Q I rx rs q
 rcases q with q | q
 ·exact h pins s σ H x xs v us Q I rx rs q
 ·exact h' pins s σ H x xs v us Q I rx rs q
theorem aM {r:R2} (hr:Bo X r) (ha:PE X a ta) (hb:PE X b tb) (hs:wc b):PE X (.Subscript a b pos) (G9 r ta tb):=by
 intro pins s σ H Q I h
 exact Subscript_ (Gm ha hb I h fun v u s2 x y H2 I2 rx ry q=>hr a b pins s2 σ H2 x y v u Q I2 rx ry q (hs _ _))
def HQ (K:yaH):R2:=fun x y H Q=>∃ p xs i v,x = .ref p∧y = .int i∧cH K H p xs∧kg xs i=some v∧Q v H
def HN (K:yaH):R2:=fun x y H Q=>∃ p xs i v,x = .ref p∧y = .int i∧dQ K H p xs∧kg xs i=some v∧Q v H
def HP:R2:=fun x y H Q=>∃ z i c,x = .str z∧y = .int i∧z.length≤yah∧kg z.cps.toList i=some c∧Q (.str ⟨#[c]⟩) H
theorem Ce:Bo X (HQ X.K):=by
 intro value slice pins s σ H x y v u Q I rx ry h hs
 obtain ⟨p,xs,i,z,rfl,rfl,hq,he,q⟩:=h
 cases rx
 obtain ⟨t,rfl⟩:=ry
 obtain ⟨its,r,pl,hz⟩:=I.list hq
 obtain ⟨j,h1,h2,h3,h4,h5⟩:=p6 he
 obtain ⟨w,ew,rw'⟩:=r.get h2
 have hl:=r.length
 have hn:=jN
 have fin:EP X pins σ Q w s:=⟨z,H,I,rw',q⟩
 by_cases h0:0≤i
 ·have hj:i.toNat=j:=by
   rw [seqIndex_of h0 h5] at h1
   exact zcB.inj h1
  exact item_listR pl.isList h0 (by lia) (by rw [hj];simpa using ew) fin hs
 ·have hj:(i+(its.toArray.size:Int)).toNat=j:=by
   rw [seqIndex_neg (by lia) h4] at h1
   rw [zba,← hl]
   exact zcB.inj h1
  exact subscriptTail_builtinR (x:=w) pl.isList.typeIs slot_list_getitem.lookup
   (wpAny_getItem_list_neg (Q:=fun r s'=>r=w∧EP X pins σ Q r s') pl.isList (by lia) (by rw [zba] <;> lia) (by lia) (by rw [hj];simpa using ew) ⟨rfl,fin⟩) hs
theorem aV:Bo X (HN X.K):=by
 intro value slice pins s σ H x y v u Q I rx ry h hs
 obtain ⟨p,xs,i,z,rfl,rfl,hq,he,q⟩:=h
 cases rx
 obtain ⟨t,rfl⟩:=ry
 obtain ⟨its,r,pl,hz⟩:=I.tuple hq
 obtain ⟨j,h1,h2,h3,h4,h5⟩:=p6 he
 obtain ⟨w,ew,rw'⟩:=r.get h2
 have hl:=r.length
 have hn:=jN
 have fin:EP X pins σ Q w s:=⟨z,H,I,rw',q⟩
 exact subscriptTail_builtinR (x:=w) pl.typeIs slot_tuple_getitem.lookup
  (getItem_tuple (j:=j) (Q:=fun r s'=>r=w∧EP X pins σ Q r s') pl (by lia) (by lia) (by rw [zba,← hl];exact h1) (by simpa using ew) ⟨rfl,fin⟩) hs
theorem FZ:Bo X HP:=by
 intro value slice pins s σ H x y v u Q I rx ry h hs
 obtain ⟨z,i,c,rfl,rfl,hz,he,q⟩:=h
 obtain ⟨t,rfl⟩:=rx
 obtain ⟨t',rfl⟩:=ry
 obtain ⟨j,h1,h2,h3,h4,h5⟩:=p6 he
 have hl:z.cps.toList.length=z.length:=by simp [Str.length]
 rw [hl] at h1 h4 h5
 have hn:=jN
 exact tail_any (typeIs_str s z t) slot_str_getitem.lookup (getItem_str (c:=c) (by
  have e1:decide (i < -(2 ^ 63:Int))=false:=yDf (by lia)
  have e2:decide (i≥2 ^ 63)=false:=yDf (by lia)
  rw [e1,e2,Bool.or_false]) (by rw [h1];simpa using h2) ⟨.str ⟨#[c]⟩,H,I.tok _,⟨_,rfl⟩,q⟩) hs
def rIx (K:yaH):R2:=fun x y H Q=>HQ K x y H Q∨HN K x y H Q∨HP x y H Q
theorem F1:Bo X (rIx X.K):=Ce.or (aV.or FZ)
theorem tY (its:List yaj) (n j:Nat) (u:yaj):Obj.mapSeq (·.setIfInBounds j u) { cls:=.type "list",data:=.seq its.toArray n }={ cls:=.type "list",data:=.seq (its.set j u).toArray n }:=by
 simp [Obj.mapSeq]
theorem Inv.lst {pins:List (Addr×Obj)}{σ:St}{H:Hp}{s:yai}{p:Addr}{xs:List V} (I:Inv X pins σ H s) (h:H p=some (.lst xs)) :
  ∃ (its:List yaj) (n:Nat),Vals xs its∧s.heap.get? p=some { cls:=.type "list",data:=.seq its.toArray n }∧xs.length≤yah:=by
 obtain ⟨z,its,n,r,e⟩:=I.hok p _ h
 exact ⟨its,n,r,e,z⟩
theorem Inv.FL {pins:List (Addr×Obj)}{σ:St}{H:Hp}{s:yai}{p:Addr}{xs ys:List V}{its its':List yaj}{n n':Nat}{f:Obj→Obj} (I:Inv X pins σ H s) (h:H p=some (.lst xs))
  (ho:s.heap.get? p=some { cls:=.type "list",data:=.seq its.toArray n }) (hf:f { cls:=.type "list",data:=.seq its.toArray n }={ cls:=.type "list",data:=.seq its'.toArray n' }) (r:Vals ys its') (hz:ys.length≤yah) (t:Nat) :
  Inv X pins σ (upd H p (.lst ys)) { s with heap:=s.heap.update p f,toks:=t }:=by
 have e:(s.heap.update p f).get? p=some { cls:=.type "list",data:=.seq its'.toArray n' }:=by
  rw [zaw f ho (by rw [hf] <;> rfl),hf]
 refine I.write (x:=p) (e:=p) (by rw [h];trivial) (.inl rfl) (fun b u hb q=>(zao _ _ (Ne.symm hb)).trans q) ⟨_,e⟩ ?_
 exact ⟨hz,its',n',r,e⟩
def Dy:V→V→V→Hp→(Hp→Prop)→Prop:=fun o i v H Q=>∃ p xs k j,o = .ref p∧i = .int k∧H p=some (.lst xs)∧Bj xs.length k=some j∧Q (upd H p (.lst (xs.set j v)))
theorem set_list:Jg X Dy:=by
 intro pins s σ H o i v ov iv u Q I ro ri rv h
 obtain ⟨p,xs,k,j,rfl,rfl,hp,hj,q⟩:=h
 cases ro
 obtain ⟨t,rfl⟩:=ri
 obtain ⟨its,n,r,ho,hz⟩:=I.lst hp
 obtain ⟨h1,h2,h3,h4⟩:=vt hj
 have hl:=r.length
 have hn:=jN
 have I':Inv X pins σ (upd H p (.lst (xs.set j v))) { s with heap:=s.heap.update p (Obj.mapSeq (·.setIfInBounds j u)) } :=
  I.FL hp ho (tY its n j u) (r.set rv j) (by rw [zbG];exact hz) s.toks
 by_cases h0:0≤k
 ·have hk:k.toNat=j:=by
   rw [seqIndex_of h0 h4] at h1
   exact zcB.inj h1
  exact PySem.W.ki_setAt ho h0 (by lia) (by rw [zba,← hl];exact h4) (by rw [hk];exact ⟨_,I',q⟩)
 ·have hk:(k+(its.toArray.size:Int)).toNat=j:=by
   rw [seqIndex_neg (by lia) h3] at h1
   rw [zba,← hl]
   exact zcB.inj h1
  exact PySem.W.ki_setBack ho (by lia) (by rw [zba,← hl];exact h3) (by lia) (by rw [hk];exact ⟨_,I',q⟩)
theorem oW (lo hi:Option Int) (n:Nat):(sliceBounds lo hi none n).1=((HT.b7 n 0 lo:Nat):Int)∧(sliceBounds lo hi none n).2.1=((HT.b7 n n hi:Nat):Int)∧(sliceBounds lo hi none n).2.2=1:=by
 refine ⟨?_,?_,rfl⟩
 ·cases lo with
  | none=>simp [sliceBounds,HT.b7]
  | some i =>
   simp only [sliceBounds,HT.b7,Option.getD_none,show (1:Int) > 0 by decide,if_true]
   by_cases h:i<0
   ·simp only [h,if_true] <;> lia
   ·simp only [h,if_false] <;> lia
 ·cases hi with
  | none=>simp [sliceBounds,HT.b7]
  | some i =>
   simp only [sliceBounds,HT.b7,Option.getD_none,show (1:Int) > 0 by decide,if_true]
   by_cases h:i<0
   ·simp only [h,if_true] <;> lia
   ·simp only [h,if_false] <;> lia
theorem nD (its:List yaj) (lo hi:Option Int):slicePick its.toArray lo hi none=((its.drop (HT.b7 its.length 0 lo)).take (HT.b7 its.length its.length hi - HT.b7 its.length 0 lo)).toArray:=by
 obtain ⟨h1,h2,h3⟩:=oW lo hi its.toArray.size
 unfold slicePick
 rw [h1,h2,h3]
 simp only [sliceRange_one,pick_run,zba] <;> rfl
def JY (K:yaH):V→Option Int→Option Int→Hp→VK→Prop:=fun x lo hi H Q=>∃ a xs,x = .ref a∧cH K H a xs∧∀ p,H p=none→Q (.ref p) (upd H p (.lst (rE xs lo hi)))
theorem Bv:Bm X (JY X.K):=by
 intro pins s σ H x v vl vu lo hi sl Q I rx hs pl pu h
 obtain ⟨a,xs,rfl,hx,q⟩:=h
 cases rx
 obtain ⟨its,r,ht,hz⟩:=I.list hx
 have hlen:=r.length
 refine ⟨"list",_,slot_list_getitem.lookup,ht.isList.typeIs,?_⟩
 refine wpAny_getItem_list_slice ht.isList hs pl pu .none (by simp) ?_ (by rw [zba] <;> lia)
 rw [nD,← hlen]
 refine ⟨.ref s.heap.objs.size,_,I.laid (t':=s.toks) (o:=.lst (rE xs lo hi)) (fun b ob q=>zan _ q) (zcy _) ?_,rfl,q _ (I.hok.fresh (zcy _))⟩
 exact ⟨zco (j8 xs lo hi) hz,_,0,(r.drop (HT.b7 xs.length 0 lo)).take (HT.b7 xs.length xs.length hi - HT.b7 xs.length 0 lo),zaK _ rfl⟩
theorem jm:b6 X (.type "list") (fun xs H Q=>∃ p ys,xs=[.ref p]∧(cH X.K H p ys∨dQ X.K H p ys)∧∀ l,H l=none→Q (.ref l) (upd H l (.lst ys))):=by
 intro pins s σ H xs us Q I r h
 obtain ⟨p,ys,rfl,hq,q⟩:=h
 obtain ⟨u,rfl,rx⟩:=vals1 r
 cases rx
 have fin:∀ (its:List yaj),Vals ys its→ys.length≤yah→∀ (h':Heap) (c':Nat),(∀ b o',s.heap.get? b=some o'→h'.get? b=some o') →
   h'.get? s.heap.objs.size=some { cls:=.type "list",dict:=none,data:=.seq its.toArray c',slots := #[] }→EP X pins σ Q (.ref s.heap.objs.size) { s with heap:=h' }:=fun its r' hz h' c' kp e =>
  ⟨.ref s.heap.objs.size,_,I.laid (t':=s.toks) kp (zcy _) (show aQ X.prog X.w _ h' _ (.lst ys) from ⟨hz,its,c',r',e⟩),rfl,q _ (I.hok.fresh (zcy _))⟩
 rcases hq with hq | hq
 ·obtain ⟨its,r',pl,hz⟩:=I.list hq
  have hlen:=r'.length
  obtain ⟨o,ho,hc,n,hd⟩:=pl.isList
  exact call_list_seq p (.inl rfl) ho hc hd (fun h' c' kp e=>fin its r' hz h' c' kp e) (by simp only [zba] <;> lia)
 ·obtain ⟨its,r',pl,hz⟩:=I.tuple hq
  have hlen:=r'.length
  obtain ⟨o,ho,hc,n,hd⟩:=pl
  exact call_list_seq p (.inr rfl) ho hc hd (fun h' c' kp e=>fin its r' hz h' c' kp e) (by simp only [zba] <;> lia)
theorem nJ:b6 X (.type "tuple") (fun xs H Q=>∃ p ys,xs=[.ref p]∧((cH X.K H p ys∧∀ l,H l=none→Q (.ref l) (upd H l (.tup ys)))∨(dQ X.K H p ys∧Q (.ref p) H))):=by
 intro pins s σ H xs us Q I r h
 obtain ⟨p,ys,rfl,h⟩:=h
 obtain ⟨u,rfl,rx⟩:=vals1 r
 cases rx
 rcases h with ⟨hq,q⟩ | ⟨hq,q⟩
 ·obtain ⟨its,r',pl,hz⟩:=I.list hq
  have hlen:=r'.length
  refine call_tuple_list pl.isList (fun h' kp => ?_) (by simp only [zba] <;> lia)
  have I1:Inv X pins σ H { s with heap:=h' }:=I.kept (t':=s.toks) kp
  have I2:Inv X pins σ (upd H h'.objs.size (.tup ys)) { s with heap:=h'.push { cls:=.type "tuple",data:=.seq its.toArray } } :=
   I1.laid (t':=s.toks) (fun b o e=>zan _ e) (zcy _) (show aQ X.prog X.w _ _ _ (.tup ys) from ⟨hz,its,r',IsTup.new _ _⟩)
  exact ⟨.ref h'.objs.size,_,I2,rfl,q _ (I1.hok.fresh (zcy _))⟩
 ·obtain ⟨its,r',pl,hz⟩:=I.tuple hq
  exact call_tuple_same pl ⟨.ref p,H,I,rfl,q⟩
def JL (K:yaH) (T:String) (x:V) (H:Hp):Prop:=match x with
 | .str _=>T = "str"
 | .int _=>T = "int"
 | .ref p=>(T = "list" ∧ ∃ xs,cH K H p xs)∨(T = "tuple" ∧ ∃ o,K.lookup p=some o∧o.cls = .type "tuple" ∧ o.dict=none) ∨
   (T = "dict" ∧ ((∃ kvs,H p=some (.dK kvs))∨∃ kvs,H p=some (.dT kvs)))∨(T = "set" ∧ ∃ S n,H p=some (.set S n))
 | _=>False
theorem Ed {pins:List (Addr×Obj)}{σ:St}{H:Hp}{s:yai}{T:String}{x:V}{v:yaj} (I:Inv X pins σ H s) (r:RelV x v) (ty:JL X.K T x H) :
  s.TypeIs v T∧∀ a,v = .ref a→∃ ob,s.heap.get? a=some ob∧ob.dict=none:=by
 cases x with
 | str z =>
  obtain ⟨t,rfl⟩:=r
  cases (show T = "str" from ty)
  exact ⟨typeIs_str s z t,fun _ e=>nomatch e⟩
 | int i =>
  obtain ⟨t,rfl⟩:=r
  cases (show T = "int" from ty)
  exact ⟨typeIs_int s i t,fun _ e=>nomatch e⟩
 | ref p =>
  cases r
  rcases ty with ⟨rfl,xs,hq⟩ | ⟨rfl,o,hk,hc,hd⟩ | ⟨rfl,hk⟩ | ⟨rfl,S,n,hk⟩
  ·obtain ⟨its,_,pl,_⟩:=I.list hq
   refine ⟨pl.isList.typeIs,fun a e => ?_⟩
   cases e
   obtain ⟨o,n,e,c,hd,_⟩:=pl
   exact ⟨o,e,hd⟩
  ·refine ⟨⟨o,I.gj p o hk,hc⟩,fun a e => ?_⟩
   cases e
   exact ⟨o,I.gj _ o hk,hd⟩
  ·have z:∃ o,s.heap.get? p=some o∧o.ExactDict:=by
    rcases hk with ⟨kvs,hk⟩ | ⟨kvs,hk⟩
    ·obtain ⟨_,_,_,_,o,_,_,e,ex,_⟩:=I.hok p _ hk
     exact ⟨o,e,ex⟩
    ·obtain ⟨_,_,_,_,o,_,_,e,ex,_⟩:=I.hok p _ hk
     exact ⟨o,e,ex⟩
   obtain ⟨o,e,ex⟩:=z
   refine ⟨⟨o,e,ex.1⟩,fun a e2 => ?_⟩
   cases e2
   exact ⟨o,e,ex.2.1⟩
  ·obtain ⟨o,_,_,_,e,ex,_⟩:=I.hok p _ hk
   refine ⟨⟨o,e,ex.1⟩,fun a e2 => ?_⟩
   cases e2
   exact ⟨o,e,ex.2.1⟩
 | _=>exact False.elim ty
def JN (K:yaH) (T:String) (r:V→List V→Hp→VK→Prop) (to:TE) (t:TA):TE:=fun σ H Q=>to σ H fun x H1=>JL K T x H1∧t σ H1 fun xs H2=>r x xs H2 Q
variable {o e:Expr}{es:List Expr}{to:TE}{t:TA}{name:Str}{apos cpos:Pos}{T id:String}{r:V→List V→Hp→VK→Prop}
theorem dZ (pa:PlainAttrs T) (slot:Slot T name id) (hty:typeOf (.builtin id)=pure (.type "method_descriptor")) (hm:ya X id r) (ho:PE X o to) (ha:PA X (e::es) t)
  (hbase:attributeBase o name X.env (eval o X.env)=eval o X.env:=by rfl)
  (hfew:((yav cpos (yap (e::es) X.env)).all (fun x => !x.1)&&(backToKw cpos (yaC [] X.env)).all (fun x=>x.1.isSome)
   && decide ((e::es).length+([]:List Keyword).length+(if ([]:List Keyword).isEmpty then 0 else 1)<30))=true:=by rfl)
  (hline:(apos.endLine==cpos.line)=true:=by rfl) (hs:yap (e::es) X.env=(false,eval e X.env)::yap es X.env:=by rfl) (hplain:(yav cpos (yap es X.env)).any (·.1)=false:=by rfl) :
  PE X (.Call (.Attribute o name apos) (e::es) [] cpos) (JN X.K T r to t):=by
 intro pins s σ H Q I h
 refine wpAny_Call_method_late hbase hfew hline rfl (bJ (ho pins s σ H _ I h) fun v s1 ⟨x,H1,I1,r1,ty,q1⟩ => ?_)
 obtain ⟨h1,h2⟩:=Ed I1 r1 ty
 refine ⟨T,id,pa,slot,hty,h1,h2,?_⟩
 have hA:=ha cpos pins s1 σ H1 _ I1 q1
 rw [hs] at hA ⊢
 refine zap (by show (false||(yav cpos (yap es X.env)).any (·.1))=false;rw [hplain] <;> rfl) (Calls.evalArgs_plain ?_)
 exact bJ hA fun us s2 ⟨vs,H2,I2,r2,q2⟩=>hm pins s2 σ H2 x vs v us Q I2 r1 r2 q2
end
def K4 (X:Cx) (id:String) (r:V→List V→Hp→VK→Prop):Prop :=
 ∀ (pins:List (Addr×Obj)) (s:yai) (σ:St) (H:Hp) (x:V) (xs:List V) (v:yaj) (us:List yaj) (Q:VK),Inv X pins σ H s→RelV x v→Vals xs us→r x xs H Q →
  yas (model X.prog X.w) X.A (call (.builtin id) (v::us)) (EP X pins σ Q) X.xe s
theorem Vals.one:∀ {x:V}{us:List yaj},Vals [x] us→∃ u,us=[u]∧RelV x u
 | _,_,.cons r .nil=>⟨_,rfl,r⟩
theorem Vals.rep {xs:List V}{us:List yaj} (h:Vals xs us):∀ k:Nat,Vals (zbO k xs).flatten (zbO k us).flatten
 | 0=>.nil
 | k+1=>by
  rw [zaG,zaG,zbc,zbc]
  exact Vals.append h (Vals.rep h k)
theorem foldl_rep (its:List yaj):∀ (k:Nat) (acc:List yaj),
  List.foldl (fun x1 x2=>x1++x2) acc.toArray (zbO k its.toArray)=(acc++(zbO k its).flatten).toArray
 | 0,acc=>by simp
 | k+1,acc=>by
  have e:acc.toArray++its.toArray=(acc++its).toArray:=by simp
  have e2:(acc++its)++(zbO k its).flatten=acc++(zbO (k+1) its).flatten:=by
   rw [zaG,zbc,zbd]
  rw [← e2,← foldl_rep its k (acc++its),← e,zaG,List.foldl_cons]
section
variable {X:Cx}{pins:List (Addr×Obj)}{σ:St}{H:Hp}{s:yai}{l b:Addr}{xs ys zs:List V}
theorem Inv.FN {its its':List yaj}{n:Nat}{f:Array yaj→Array yaj}{t':Nat} (I:Inv X pins σ H s) (hH:H l=some (.lst xs))
  (e:s.heap.get? l=some { cls:=.type "list",data:=.seq its.toArray n }) (hf:f its.toArray=its'.toArray) (hv:Vals ys its') (hz:ys.length≤yah) :
  Inv X pins σ (upd H l (.lst ys)) { s with heap:=s.heap.update l (Obj.mapSeq f),toks:=t' }:=by
 have q:=PySem.IsL.update e f
 rw [hf] at q
 refine I.write (x:=l) (e:=l) (by rw [hH];exact trivial) (.inl rfl) (fun b' u hb hu=>(zao s.heap (Obj.mapSeq f) (Ne.symm hb)).trans hu) ⟨_,q⟩ ?_
 exact ⟨hz,its',_,hv,q⟩
theorem Inv.Ik {its:List yaj}{t':Nat} (I:Inv X pins σ H s) (hv:Vals ys its) (hz:ys.length≤yah) :
  Inv X pins σ (upd H s.heap.objs.size (.lst ys)) { s with heap:=s.heap.push { cls:=.type "list",data:=.seq its.toArray },toks:=t' } :=
 I.laid (fun _ _ q=>zan _ q) (zcy _) ⟨hz,its,0,hv,zaK _ rfl⟩
theorem Inv.fresh (I:Inv X pins σ H s):H s.heap.objs.size=none:=I.hok.fresh (zcy _)
theorem Inv.t7 (I:Inv X pins σ H s) (hH:H l=some (.lst xs)):xs.length≤yah∧∃ (its:List yaj) (n:Nat),Vals xs its∧xs.length=its.length∧s.heap.get? l=some { cls:=.type "list",data:=.seq its.toArray n }:=by
 obtain ⟨z,its,n,r,e⟩:=I.hok l _ hH
 exact ⟨z,its,n,r,r.length,e⟩
theorem mh {n:Nat} (h:n≤yah):Builtin.List.listTooLong n=false:=by
 unfold Builtin.List.listTooLong
 exact yDf (by lia)
end
section
variable {X:Cx}
def ve:V→List V→Hp→VK→Prop:=fun x vs H Q=>∃ l xs y,x = .ref l∧vs=[y]∧H l=some (.lst xs)∧xs.length<yah∧Q .bh (upd H l (.lst (xs++[y])))
theorem xj:K4 X "list.append" ve:=by
 intro pins s σ H x vs v us Q I rx rv h
 obtain ⟨l,xs,y,rfl,rfl,hH,hz,q⟩:=h
 cases rx
 obtain ⟨u,rfl,ru⟩:=rv.one
 obtain ⟨z,its,n,r,hl,e⟩:=I.t7 hH
 refine call_meets F.slot_list_append ⟨_,e,rfl⟩ F.entry_list_append (F.args_list_append_2 _ _) (PySem.list_append l its.toArray n u (by rw [zba];lia)) ⟨e,?_⟩
 refine ⟨.bh,_,I.FN (its':=its++[u]) hH e (by simp) (r.append (.cons ru .nil)) ?_,rfl,q⟩
 rw [zaM,zar]
 lia
def vd:V→List V→Hp→VK→Prop:=fun x vs H Q=>∃ l b xs zs,x = .ref l∧vs=[.ref b]∧H l=some (.lst xs)∧H b=some (.lst zs)∧xs.length+zs.length≤yah∧Q .bh (upd H l (.lst (xs++zs)))
theorem xh:K4 X "list.extend" vd:=by
 intro pins s σ H x vs v us Q I rx rv h
 obtain ⟨l,b,xs,zs,rfl,rfl,hH,hB,hz,q⟩:=h
 cases rx
 obtain ⟨u,rfl,ru⟩:=rv.one
 cases ru
 obtain ⟨z,its,n,r,hl,e⟩:=I.t7 hH
 obtain ⟨z2,its2,n2,r2,hl2,e2⟩:=I.t7 hB
 have hsz:its.toArray.size+its2.toArray.size≤yah:=by rw [zba,zba];lia
 have q9 : ¬ (!its.toArray.isEmpty&&Builtin.List.listTooLong (its.toArray.size+its2.toArray.size))=true:=by
  rw [mh hsz,Bool.and_false]
  exact zaW
 refine call_meets F.slot_list_extend ⟨_,e,rfl⟩ F.entry_list_extend (F.args_list_extend_2 _ _)
  (AutoSeq1.list_extend_list_list_0 l its.toArray n b its2.toArray n2 q9 (by rw [zba];lia) (by lia)) ⟨e,e2,?_⟩
 refine ⟨.bh,_,I.FN (its':=its++its2) hH e (by simp) (r.append r2) ?_,rfl,q⟩
 rw [zaM]
 lia
def J3:R2:=fun x y H Q=>∃ l b xs zs,x = .ref l∧y = .ref b∧H l=some (.lst xs)∧H b=some (.lst zs)∧xs.length+zs.length≤yah∧∀ p,H p=none→Q (.ref p) (upd H p (.lst (xs++zs)))
theorem FA:gH X (binaryOp .Add) J3:=by
 intro pins s σ H x y v u Q I rx ry h
 obtain ⟨l,b,xs,zs,rfl,rfl,hH,hB,hz,q⟩:=h
 cases rx
 cases ry
 obtain ⟨z,its,n,r,hl,e⟩:=I.t7 hH
 obtain ⟨z2,its2,n2,r2,hl2,e2⟩:=I.t7 hB
 refine PySem.P.add_list e e2 ?_ (by rw [zba,zba];lia)
 have ea:its.toArray++its2.toArray=(its++its2).toArray:=by simp
 rw [ea]
 exact ⟨.ref _,_,I.Ik (t':=s.toks) (r.append r2) (by rw [zaM];lia),rfl,q _ I.fresh⟩
def JZ:R2:=fun x y H Q=>∃ l k xs,x = .ref l∧y = .int k∧H l=some (.lst xs) ∧ -(2 ^ 63)≤k∧k<2 ^ 63∧xs.length*k.toNat≤yah ∧
 ∀ p,H p=none→Q (.ref p) (upd H p (.lst (zbO k.toNat xs).flatten))
theorem len_rep {α:Type} (xs:List α) (k:Nat):(zbO k xs).flatten.length=k*xs.length:=by
 induction k with
 | zero=>simp
 | succ k ih=>rw [zaG,zbc,zaM,ih,Nat.succ_mul,Nat.add_comm]
theorem Fp:gH X (binaryOp .Mult) JZ:=by
 intro pins s σ H x y v u Q I rx ry h
 obtain ⟨l,k,xs,rfl,rfl,hH,h1,h2,hz,q⟩:=h
 cases rx
 obtain ⟨t,rfl⟩:=ry
 obtain ⟨z,its,n,r,hl,e⟩:=I.t7 hH
 have hlen:its.toArray.size*k.toNat≤yah:=by rw [zba,← hl];exact hz
 have hcap : ¬ its.toArray.size*k.toNat > (2 ^ 63 - 1) / 8:=by
  have:(yah:Nat)≤(2 ^ 63 - 1) / 8:=by decide
  lia
 have hfit : ¬ (!Builtin.List.listFitsIndex k)=true:=by
  rw [fitsIndex_both h1 h2]
  exact zaW
 have q9 : ¬ Builtin.List.listTooLong (its.toArray.size*k.toNat)=true:=by
  rw [mh hlen]
  exact zaW
 have hnew:List.foldl (fun x1 x2=>x1++x2) #[] (zbO (if its.toArray.isEmpty=true then 0 else k.toNat) its.toArray)=(zbO k.toNat its).flatten.toArray:=by
  have f0:∀ m:Nat,List.foldl (fun x1 x2=>x1++x2) #[] (zbO m its.toArray)=(zbO m its).flatten.toArray:=fun m=>by
   have:=foldl_rep its m []
   rw [zbH] at this
   exact this
  rw [f0]
  cases its with
  | nil=>simp
  | cons a r'=>rw [yIn (by simp)]
 refine wpAny_binaryOp_repeat_ref (T := "list") (U := "int") (by decide) ⟨_,e,rfl⟩ (fun s'=>typeIs_int s' k t) noFill_list_mul F.fills_int_mul F.slot_int_rmul repeat_list F.slot_int_index.lookup
  (call_meets F.slot_int_rmul (typeIs_int s k t) F.entry_int_rmul (F.args_int_rmul_2 _ _) (int___rmul___int_list k t l its.toArray n)
   ⟨e,rfl,⟨_,e,rfl⟩,call_meets F.slot_list_mul ⟨_,e,rfl⟩ F.entry_list_mul (F.args_list_mul_2 _ _) (AutoListH.list___mul___list_int_3 l its.toArray n k t hfit hcap q9) ⟨e,?_⟩⟩)
 rw [hnew]
 exact ⟨.ref _,_,I.Ik (t':=s.toks) (r.rep k.toNat) (by rw [len_rep,Nat.mul_comm];exact hz),rfl,q _ I.fresh⟩
end
end L2
namespace Att
open PySem PySem.W PySem.Calls PyProof.Rows
theorem kC {P:Params}{h:Heap}:∀ (ns:List Int) (vs:List yaj),WellAll P h vs (ns.map WData.int)→IntsAre vs ns:=by
 intro ns
 induction ns with
 | nil =>
  intro vs w
  rw [zci] at w
  cases w
  exact .nil
 | cons n ns ih =>
  intro vs w
  rw [zbX] at w
  cases w with
  | cons a b =>
   cases a
   exact .cons _ _ (ih _ b)
theorem wK {l:OpenLaw}{n:Nat} (hn:l.most=some n) {P:Params}{h:Heap}{args:List WData}{vals:List yaj}
  (hpre:l.row.toRowW.claim.pre args=true) (hwl:WellAll P h vals args) :
  ∃ a vs ns,vals=[Value.ref a]∧args=[WData.list (ns.map WData.int)]∧h.get? a=some { cls:=.type "list",data:=.seq vs.toArray }∧IntsAre vs ns∧ns.length≤n:=by
 have hsh:WShape.hasAll [] args [.list .int]=true:=(pre_splitW hpre).1
 have hc:l.pre.holds [] { args:=args }=true:=(pre_splitW hpre).2
 obtain ⟨d,r,rfl,h1,h2⟩:=hasAllW_cons hsh
 obtain rfl:=hasAllW_nil h2
 obtain ⟨xs,rfl,h3⟩:=hasW_list h1
 obtain ⟨ns,rfl⟩:=items_int h3
 have hlen:ns.length≤n:=by
  unfold OpenLaw.pre at hc
  have h4:(WTm.not (.lt (.lit (.int (n:Int))) (.len (.arg 0)))).holds [] { args:=[.list (ns.map .int)] }=true:=by
   have h4:=(holds_andW hc).1
   rw [hn] at h4
   exact h4
  have h5:=condW_of h4 (w_not (w_lt w_lit (w_len_list (w_arg rfl))))
  rw [zbE] at h5
  refine Nat.le_of_not_lt fun q => ?_
  have q':(n:Int)<((ns.length:Nat):Int):=by lia
  first
   | (rw [yDt q'] at h5;exact absurd h5 (by decide))
   | (simp at h5;lia)
 cases hwl with
 | cons w1 w2 =>
  cases w2
  cases w1 with
  | list ho hall=>exact ⟨_,_,ns,rfl,rfl,ho,kC ns _ hall,hlen⟩
theorem wQ (l:OpenLaw) (args:List WData):l.row.toRowW.claim.post args (.bool true) args=true :=
 postW_of (r:=l.row.toRowW) (X:=(true==true))
  (show WShape.has [] (.bool true) .bool=true by first | rfl | decide | simp [WShape.has,WShape.arms,WShape.armsAll])
  (show (WTm.eq .res (.lit (.bool true))).value [] { args:=args,res:=some (.bool true),after:=args }=some (.bool (true==true)) from w_eq_bool (w_res rfl) w_lit) rfl
theorem rR {l:OpenLaw}{n:Nat}{q:yak}{loose:List Str}{XP:(Str→Option yaj)→Heap→Prop}{YP:yal→Heap→Prop}{d:DefRec}
  (hn:l.most=some n) (hdf:d.params.defaults=[])
  (call:∀ (w:yal) (s₀ s₁:yai) (mg mb:Str→Option yaj) (fa:Addr) (o:Obj) (pm cd doc:yaj) (a:Addr) (vs:List yaj) (ns:List Int),
   Ground q loose [] XP w s₀ mg mb s₁.heap→YP w s₁.heap →
   s₁.heap.get? fa=some o→o.data = .func (docDef d.name d.params d.body d.scope pm cd doc)→s₁.heap.CodeRec cd d.name→mg d.name=some (.ref fa) →
   s₁.heap.get? a=some { cls:=.type "list",data:=.seq vs.toArray }→IntsAre vs ns→ns.length≤n→s₁.gens = #[] →
   codeAny (model l.prog w) callerA (.call (.ref fa) ⟨[.ref a],[]⟩) (fun r s'=>r = .ok (.ret (.bool true))∧OldK s₁.heap s'.heap∧s'.os=s₁.os∧AllBare s'.gens) s₁) :
  WalkO q loose XP YP l.row.toRowW d [] (fun f vs=>PySem.call f vs):=by
 intro w s₀ s₁ mg mb G Y fa o pm cd doc dV kV ho hd hcd hD hmg hg args vals as hpre hlay hrd hwl hlo
 obtain rfl:dV = .none:=Dflts.none hD hdf
 obtain rfl:kV = .none:=Dflts.noKw hD
 obtain ⟨a,vs,ns,rfl,rfl,hobj,hints,hlen⟩:=wK hn hpre hwl
 refine enter_call (yay (call w s₀ s₁ mg mb fa o pm cd doc a vs ns G Y ho (fd_plain hd) hcd hmg hobj hints hlen hg) fun r s' hq => ?_)
 obtain ⟨rfl,h2,h3,h4⟩:=hq
 exact ⟨.inl ⟨.bool true,.bool true,[],rfl,fun _=>rfl,.bool true,wQ l _,fun _=>⟨List.Pairwise.nil,fun _ hm=>(nomatch hm)⟩⟩,h2,h3,h4⟩
end Att
namespace L2
open PySem PySem.Spec PyProof.Rows
theorem jB:∀ {vs:List yaj}{ns:List Int},IntsAre vs ns→Vals (ns.map V.int) vs
 | _,_,.nil=>.nil
 | _,_,.cons n t h=>.cons ⟨t,rfl⟩ (jB h)
def GF (H:Hp):Prop:=∀ b,H b=none∨∃ o xs,H b=some (.vD o (.lst xs))
theorem zM {P:yak}{w:yal}{K:yaH}{mg mb:Str→Option yaj}{CX:sJ}{k:Nat}{fa a:Addr}{fd:yaq}{x:Str}{sp:Sp}{s₁:yai}{vs:List yaj}{ns:List Int}
  (KX:K.In s₁.heap) (hns:s₁.heap.Ns yar mg) (hb:s₁.heap.Ns builtinsNs mb) (hbb:∀ x:Str,x ≠ "__name__" → mb x=bootBuiltins x) (hlim:s₁.heap.NoLimit) (hg:s₁.gens = #[])
  (ha:s₁.heap.get? a=some { cls:=.type "list",data:=.seq vs.toArray }) (hi:IntsAre vs ns) (hl:ns.length≤yah) (hr:bE k callerA)
  (F:∀ base:Heap,K.In base→base.Ns yar mg→cJ P w K mg base CX k fa fd [x] sp) (hbind:∀ (s:yai) (u:yaj),yaB s fd ⟨[u],[]⟩ [(x,u)])
  (hsp:∀ H:Hp,GF H→cH K H a (ns.map V.int)→sp [.ref a] H (fun v _=>v = .bl true) fun _ _ _=>False)
  (hCX:∀ H e s',CX [] H s₁ (fun _ _ _=>False) e s'→False) :
  codeAny (model P w) callerA (.call (.ref fa) ⟨[.ref a],[]⟩) (fun r s'=>r = .ok (.ret (.bool true))∧OldK s₁.heap s'.heap∧s'.os=s₁.os∧AllBare s'.gens) s₁:=by
 have rv:=jB hi
 have Kc:=hi.length
 have core:∀ H:Hp,GF H→cH K H a (ns.map V.int)→e9 P w H s₁.heap→(∀ b,H b≠none→b=a)→(H a≠none→K.lookup a=none) →
   codeAny (model P w) callerA (.call (.ref fa) ⟨[.ref a],[]⟩) (fun r s'=>r = .ok (.ret (.bool true))∧OldK s₁.heap s'.heap∧s'.os=s₁.os∧AllBare s'.gens) s₁:=by
  intro H hO hS hok hA hK
  have vQ:∀ {b:Addr}{o:Obj},s₁.heap.get? b=some o→H b=none→(pS s₁.heap H).get? b=some o:=fun e n=>zW e n
  have noA:∀ {b:Addr}{o:Obj}{es:Array yaw}{ep:Nat},s₁.heap.get? b=some o→o.data = .dict es ep→H b=none:=fun {b o es ep} e d=>by
   cases q:H b with
   | none=>rfl
   | some u =>
    have e':b=a:=hA b (by rw [q];simp)
    subst e'
    rw [ha] at e;cases e
    have d':Data.seq vs.toArray _=Data.dict es ep:=d
    cases d'
  have nsK:∀ {b:Addr}{m:Str→Option yaj},s₁.heap.Ns b m→(pS s₁.heap H).Ns b m:=fun {b m} ⟨o,es,ep,e,d,r⟩=>⟨o,es,ep,vQ e (noA e d),d,r⟩
  have hKb:K.In (pS s₁.heap H):=fun b o e=>vQ (KX b o e) (by
   cases q:H b with
   | none=>rfl
   | some u =>
    have e':b=a:=hA b (by rw [q];simp)
    subst e'
    rw [hK (by rw [q];simp)] at e;cases e)
  have hM:Mod K mg (pS s₁.heap H):=⟨hKb,nsK hns,⟨mb,nsK hb,hbb⟩,let ⟨mc,h1,h2⟩:=hlim;⟨mc,nsK h1,h2⟩⟩
  have e0:uG P w K mg (pS s₁.heap H) callerA [] s₁ H:=⟨rfl,hM,fun b o e=>Ca e,Nat.le_of_eq (xx _ _),trivial,fun b hb=>absurd (show b∈([]:List Addr) from hb) (by simp),hok,.of_eq hg⟩
  refine yay ((F _ hKb (nsK hns)).run callerA [] s₁ H ⟨[.ref a],[]⟩ [.ref a] [.ref a] _ _ hr e0 (hbind s₁ (.ref a)) (.cons rfl .nil) (hsp H hO hS)) fun r s' h => ?_
  cases r with
  | error e=>exact (hCX H e s' h).elim
  | ok fl =>
   cases fl with
   | next=>exact False.elim h
   | brk=>exact False.elim h
   | cont=>exact False.elim h
   | ret u =>
    obtain ⟨v,H',os,bare,un,hok',r',q⟩:=h
    have q':v = .bl true:=q
    subst q'
    obtain rfl:u=Value.bool true:=r'
    refine ⟨rfl,OldK.of_keep fun b o e => ?_,os,bare⟩
    cases q:H b with
    | none=>exact un.keep b o e q (by intro z;exact absurd (show b∈([]:List Addr) from z) (by simp)) (by simp)
    | some u =>
     rcases hO b with z | ⟨ob,xs,z⟩
     ·rw [q] at z;cases z
     ·have z2:=un.mQ b ob _ z
      obtain ⟨e1,_⟩:=hok b _ z
      obtain ⟨e2,_⟩:=hok' b _ z2
      rw [e] at e1;cases e1
      exact e2
 cases hk:K.lookup a with
 | some o =>
  have e:=KX a o hk
  rw [ha] at e
  cases e
  refine core (fun _=>none) (fun _=>.inl rfl) (.inr ⟨_,vs.toArray,_,hk,rfl,rfl,rfl,by rw [zba,Kc];exact hl,by simpa using rv⟩) (fun b u z=>by have z':(none:Option HO)=some u:=z;cases z') (fun b z=>absurd rfl z) fun z=>absurd rfl z
 | none =>
  refine core (fun b=>if b=a then some (.vD { cls:=.type "list",data:=.seq vs.toArray } (.lst (ns.map V.int))) else none) (fun b => ?_) (.inl (.inr ⟨{ cls:=.type "list",data:=.seq vs.toArray },yIp rfl⟩)) (fun b u z => ?_) (fun b z => ?_) fun _=>hk
  ·by_cases hb:b=a
   ·exact .inr ⟨_,_,yIp hb⟩
   ·exact .inl (yIn hb)
  ·by_cases hb:b=a
   ·have z':=(yIp hb).symm.trans z
    cases z'
    subst hb
    exact ⟨ha,by rw [zbE];exact hl,vs,_,rv,ha⟩
   ·have z':=(yIn hb).symm.trans z
    cases z'
  ·by_cases hb:b=a
   ·exact hb
   ·exact absurd (yIn hb) z
theorem Bq {l:PySem.W.OpenLaw}{n k:Nat}{q:yak}{loose:List Str}{XP:(Str→Option yaj)→Heap→Prop}{YP:yal→Heap→Prop}{d:DefRec}{K:Params→yaH}{CX:yal→sJ}{sp:yal→Sp}{x:Str}
  (hn:l.most=some n) (hn2:n≤yah) (hdf:d.params.defaults=[]) (hr:bE k callerA)
  (hY:∀ (w:yal) (h:Heap),YP w h→(K w.params).In h)
  (F:∀ (w:yal) (mg:Str→Option yaj) (fa:Addr) (h:Heap),(K w.params).In h→h.Ns yar mg→mg d.name=some (.ref fa) →
   ∃ fd:yaq,(∀ (s:yai) (u:yaj),yaB s fd ⟨[u],[]⟩ [(x,u)]) ∧
    ∀ base:Heap,(K w.params).In base→base.Ns yar mg→cJ l.prog w (K w.params) mg base (CX w) k fa fd [x] (sp w))
  (hsp:∀ (w:yal) (H:Hp) (a:Addr) (ns:List Int),ns.length≤n→GF H→cH (K w.params) H a (ns.map V.int)→sp w [.ref a] H (fun v _=>v = .bl true) fun _ _ _=>False)
  (hCX:∀ (w:yal) (H:Hp) (s:yai) (e:yaj) (s':yai),CX w [] H s (fun _ _ _=>False) e s'→False) :
  PySem.W.WalkO q loose XP YP l.row.toRowW d [] (fun f vs=>PySem.call f vs):=by
 refine Att.rR hn hdf fun w s₀ s₁ mg mb fa o pm cd doc a vs ns G Y ho hd hcd hmg hobj hints hlen hg => ?_
 have KX:=hY w _ Y
 obtain ⟨fd,hb,hF⟩:=F w mg fa _ KX G.T.g hmg
 exact zM KX G.T.g G.T.b G.T.builtins G.T.nolimit hg hobj hints (zco hlen hn2) hr hF hb (fun H hO hS=>hsp w H a ns hlen hO hS) fun H e s'=>hCX w H s₁ e s'
noncomputable def inClass (s:Stmt) (j:Nat):Stmt:=match s with
 | .ClassDef _ _ _ body _ _ _ _ _ _ _=>body.getD j (.Pass ⟨0,0,0,0⟩)
 | _=>.Pass ⟨0,0,0,0⟩
noncomputable def cj (s:Stmt):Arguments:=match s with
 | .FunctionDef _ a _ _ _ _ _ _ _ _=>a
 | _=>{ posonlyargs:=[],args:=[],vararg:=none,kwonlyargs:=[],kw_defaults:=[],kwarg:=none,defaults:=[] }
noncomputable def bA (s:Stmt):List Stmt:=match s with
 | .FunctionDef _ _ b _ _ _ _ _ _ _=>b
 | _=>[]
noncomputable def ao (s:Stmt):Scope:=match s with
 | .FunctionDef _ _ _ _ _ _ sc _ _ _=>sc
 | _=>{ kind:=.function,names:=[],isGenerator:=false,isCoroutine:=false }
abbrev oK:sJ:=fun _ _ _ _ _ _=>False
abbrev E0:XK:=fun _ _ _=>False
theorem DB {X:Cx}:Passes oK X E0:=fun _ _ _ _ _ _ _ h=>h.elim
structure wA (K:yaH) (x qual:Str) (st:Stmt) (f:Addr) (fd:yaq):Prop where
 ex:∃ (oc:yaj) (od:Option Addr) (kV doc pm:yaj) (an:Option Addr) (cdv ct:yaj) (osl:Array (Option yaj)),
  fd=zcu x qual (cj st) (bA st) (ao st) .none kV doc pm an cdv ct∧K.lookup f=some ⟨oc,od,.func fd,osl⟩∧zbU K cdv qual=true
 kp:zbS K (.ref f)=true
section
variable {P:yak}{w:yal}{K:yaH}{mg:Str→Option yaj}{base:Heap}
theorem wA.ok {x qual:Str}{st:Stmt}{f:Addr}{fd:yaq}{N ps:List Str}{k:Nat}{sp:Sp} (F:wA K x qual st f fd) (S:aJ N ps (ao st)) (len:∀ vs H Q E,sp vs H Q E→vs.length=ps.length)
  (hbody:∀ (cdv:yaj) (A:yam) (outer:List Env) (s:yai) (H:Hp) (vs:List V) (Q:VK) (E:XK),bE k (A.deeper (envOfC qual (ao st) s.heap.objs.size f cdv))→sp vs H Q E →
   ∃ t,oH (gp oK P w K mg base N qual (ao st) f cdv A outer s H E).FH (bA st) t∧t { nx:=fun _ H'=>Q .bh H',rt:=Q } (start N vs) H):cJ P w K mg base oK (k+1) f fd ps sp:=by
 obtain ⟨oc,od,kV,doc,pm,an,cdv,ct,osl,rfl,lk,hcd⟩:=F.ex
 refine DQ lk hcd S len fun A outer s H vs Q E hr hsp => ?_
 obtain ⟨t,h,q⟩:=hbody cdv A outer s H vs Q E hr hsp
 exact ⟨t,h.FH,q⟩
theorem wA.binds {x qual:Str}{st:Stmt}{f:Addr}{fd:yaq}{ps:List Str} (F:wA K x qual st f fd)
  (h:∀ (kV doc pm:yaj) (an:Option Addr) (cdv ct:yaj) (us:List yaj),us.length=ps.length→yaA (zcu x qual (cj st) (bA st) (ao st) .none kV doc pm an cdv ct) ⟨us,[]⟩=pure (ps.zip us)):Binds K fd ps []:=by
 obtain ⟨oc,od,kV,doc,pm,an,cdv,ct,osl,rfl,lk,hcd⟩:=F.ex
 exact .all (h kV doc pm an cdv ct)
theorem mP {x qual:Str}{st:Stmt}{f:Addr}{oc:yaj}{od an:Option Addr}{osl:Array (Option yaj)}{kV doc pm cdv ct:yaj} (l:K.lookup f=some ⟨oc,od,.func (zcu x qual (cj st) (bA st) (ao st) .none kV doc pm an cdv ct),osl⟩)
  (c:zbU K cdv qual=true) (k:zbS K (.ref f)=true):wA K x qual st f (zcu x qual (cj st) (bA st) (ao st) .none kV doc pm an cdv ct):=⟨⟨oc,od,kV,doc,pm,an,cdv,ct,osl,rfl,l,c⟩,k⟩
end
theorem c9 {A:yam}{k:Nat} (hr:bE k A):A.units+1<cLine:=Nat.lt_of_le_of_lt (Nat.add_le_add_left (by decide:1≤64) _) hr.units
section
variable {X:Cx}
theorem pv (i:Nat) {x:Str}{pos:Pos} (hN:X.N[i]? = some x:=by rfl) (hv:JA X.env.scope x:=by first | exact Or.inl rfl | exact Or.inr (Or.inl rfl) | exact Or.inr (Or.inr rfl)) (hd:(x==("__debug__" : Str))=false:=by decide)
  (hcd:(x==("__classdict__" : Str))=false:=by decide):PE X (.Name x pos) (lF i):=zw hN hv hd hcd
theorem xG:b6 X (.builtin "len") (fun xs H Q=>∃ a kvs,xs=[V.ref a]∧H a=some (.dK kvs)∧Q (.int kvs.length) H):=by
 intro pins s σ H xs us Q I r h
 obtain ⟨a,kvs,rfl,ha,q⟩:=h
 obtain ⟨u,rfl,ru⟩:=vals1 r
 cases ru
 exact IG I (.inl ha) fun t s' I'=>⟨.int kvs.length,H,I',⟨t,rfl⟩,q⟩
end
theorem nF {A B:Prop} (h:B):if false=true then A else B:=by
 rw [yIn zaW]
 exact h
theorem kr {A B:Prop} (h:A):if true=true then A else B:=by
 rw [yIp rfl]
 exact h
theorem eF {c A B:Prop} [Decidable c] (h1:c→A) (h2 : ¬ c→B):if c then A else B:=by
 by_cases h:c
 ·rw [yIp h]
  exact h1 h
 ·rw [yIn h]
  exact h2 h
def dF (H H':Hp):Prop:=∀ b o,H b=some o→H' b=some o
theorem dF.refl (H:Hp):dF H H:=fun _ _ h=>h
theorem dF.trans {H H1 H2:Hp} (a:dF H H1) (b:dF H1 H2):dF H H2:=fun c o h=>b c o (a c o h)
theorem dF.free {H H':Hp} (e:dF H H') {l:Addr} (h:H' l=Option.none):H l=Option.none:=by
 cases q:H l with
 | none=>rfl
 | some o =>
  rw [e l o q] at h
  cases h
theorem dF.seq {K:yaH}{H H':Hp}{a:Addr}{xs:List V} (e:dF H H') (h:cH K H a xs):cH K H' a xs:=by
 rcases h with (h | ⟨o,h⟩) | h
 ·exact .inl (.inl (e _ _ h))
 ·exact .inl (.inr ⟨o,e _ _ h⟩)
 ·exact .inr h
end L2
set_option maxHeartbeats 4000000
namespace L2
open PySem PySem.Spec PyProof.Rows
section
variable {X:Cx}{pins:List (Addr×Obj)}{σ:List (Option V)}{H:Hp}{s:yai}
theorem e9.uL {P:yak}{w:yal}{h:Heap}{D:Addr}{o:HO} (ok:e9 P w H h) (hn:H D=none) (new:aQ P w (upd H D o) h D o):e9 P w (upd H D o) h:=fun b u e=>by
 by_cases hb:b=D
 ·subst hb;rw [aE] at e;cases e;exact new
 ·rw [au hb] at e
  refine (ok b u e).stay (fun _ _ _ q=>q) (fun c q => ?_) (fun c xs q => ?_)
  ·rw [au (aH q hn)];exact q
  ·rw [au (aH q hn)];exact q
theorem Inv.uL {D:Addr}{o:HO} (I:Inv X pins σ H s) (hn:H D=none) (hD:X.s₀.heap.objs.size≤D) (hL:D≠X.env.locals) (hc:∀ x c,X.env.cells.lookup x=some c→c≠D) (hp:∀ p∈X.pn++pins,p.1≠D)
  (new:aQ X.prog X.w (upd H D o) s.heap D o):Inv X pins σ (upd H D o) s:=by
 refine ⟨I.ok,I.os,I.bare,⟨I.base.keep,I.base.slot,fun b ob e n hx => ?_,I.base.there,fun b xs e => ?_,fun b ob u e => ?_,fun b ps e => ?_⟩,I.loc,I.cell,?_,fun x c e => ?_,fun p hp' => ?_,I.hok.uL hn new,I.len⟩
 ·rw [au (zcn (zaU (zcw e) hD))];exact I.base.free b ob e n hx
 ·have q:=I.base.tups b xs e;rw [au (aH q hn)];exact q
 ·have q:=I.base.mQ b ob u e;rw [au (aH q hn)];exact q
 ·obtain ⟨m,q⟩:=I.base.nA b ps e;exact ⟨m,by rw [au (aH q hn)];exact q⟩
 ·rw [au (Ne.symm hL)];exact I.free
 ·rw [au (hc x c e)];exact I.dz x c e
 ·obtain ⟨e,n,a,b,d⟩:=I.pin p hp'
  exact ⟨e,by rw [au (hp p hp')];exact n,a,b,d⟩
end
noncomputable def jl (env:Env):List (Str×NameKind)→List (Str×Addr)→List (Str×Addr)
 | [],acc=>acc
 | (n,k)::r,acc=>jl env r (if k==NameKind.free then (n,(env.cells.lookup n).getD 0)::acc else acc)
theorem iI (env:Env):∀ (l:List (Str×NameKind)) (acc:List (Str×Addr)),(∀ n,(n,NameKind.free)∈l→∃ c,env.cells.lookup n=some c) →
  (forIn l acc (fun (x:Str×NameKind) (r:List (Str×Addr))=>if (x.2==NameKind.free)=true then (do let a ← cellOf env x.1;pure (ForInStep.yield ((x.1,a)::r))) else pure (ForInStep.yield r)):Sem (List (Str×Addr)))=pure (jl env l acc)
 | [],acc,_=>rfl
 | (n,k)::r,acc,h=>by
  rw [List.forIn_cons]
  by_cases hk:(k==NameKind.free)=true
  ·have e:k = .free:=by simpa using hk
   subst e
   obtain ⟨c,hc⟩:=h n zaL
   have e1:cellOf env n=pure c:=by unfold cellOf;rw [hc]
   have e2:((NameKind.free==NameKind.free)=true)=True:=by simp
   simp only [e2,if_true,e1,pure_bind]
   rw [iI env r _ fun m hm=>h m (zax _ hm)]
   show _=pure (jl env r (if (NameKind.free==NameKind.free)=true then (n,(env.cells.lookup n).getD 0)::acc else acc))
   simp only [e2,if_true,hc,zbx]
  ·simp only [yIn hk,pure_bind]
   rw [iI env r _ fun m hm=>h m (zax _ hm)]
   show _=pure (jl env r (if (k==NameKind.free)=true then (n,(env.cells.lookup n).getD 0)::acc else acc))
   rw [yIn hk]
theorem ie {scope:Scope}{env:Env} (h:∀ n,(n,NameKind.free)∈scope.names→∃ c,env.cells.lookup n=some c):closureFor scope env=pure (jl env scope.names []):=by
 unfold closureFor
 have e:=iI env scope.names [] h
 first
  | exact e
  | (simp only [bind_pure];exact e)
  | (rw [show (forIn scope.names ([]:List (Str×Addr)) _:Sem (List (Str×Addr)))=_ from e];rfl)
theorem rJ (env:Env):∀ (l:List (Str×NameKind)) (acc:List (Str×Addr)) (x:Str) (c:Addr),(jl env l acc).lookup x=some c→acc.lookup x=some c∨(x,NameKind.free)∈l∧c=(env.cells.lookup x).getD 0
 | [],acc,x,c,h=>.inl h
 | (n,k)::r,acc,x,c,h=>by
  rcases rJ env r _ x c h with e | ⟨e1,e2⟩
  ·by_cases hk:(k==NameKind.free)=true
   ·rw [yIp hk] at e
    have ek:k = .free:=by simpa using hk
    subst ek
    rw [zbq] at e
    by_cases hx:(x==n)=true
    ·have ex:x=n:=by simpa using hx
     subst ex
     rw [hx] at e
     exact .inr ⟨zaL,(zcB.inj e).symm⟩
    ·have hx':(x==n)=false:=by simpa using hx
     rw [hx'] at e
     exact .inl e
   ·rw [yIn hk] at e
    exact .inl e
  ·exact .inr ⟨zax _ e1,e2⟩
theorem mV (env:Env):∀ (l:List (Str×NameKind)) (acc:List (Str×Addr)) (x:Str),((x,NameKind.free)∈l∨∃ c,acc.lookup x=some c)→∃ c,(jl env l acc).lookup x=some c
 | [],acc,x,h=>by
  rcases h with h | h
  ·simp at h
  ·exact h
 | (n,k)::r,acc,x,h=>by
  refine mV env r _ x ?_
  rcases h with h | ⟨c,h⟩
  ·rcases zbW.mp h with e | e
   ·injection e with e1 e2
    subst e1 e2
    right
    exact ⟨(env.cells.lookup x).getD 0,by rw [yIp (by rfl),zbq];simp⟩
   ·exact .inl e
  ·right
   by_cases hk:(k==NameKind.free)=true
   ·rw [yIp hk,zbq]
    by_cases hx:(x==n)=true
    ·rw [hx];exact ⟨_,rfl⟩
    ·have hx':(x==n)=false:=by simpa using hx
     rw [hx'];exact ⟨c,h⟩
   ·rw [yIn hk];exact ⟨c,h⟩
theorem gh {scope:Scope}{env:Env}{x:Str}{k:NameKind}:∀ {names:List (Str×NameKind)},(names.map fun (n,k)=>if (k==NameKind.free&&env.scope.kind == .function&&env.kindOf n==some .cell) then (n,NameKind.cell) else (n,k)).lookup x=some k →
  names.lookup x=some k∨(k = .cell∧names.lookup x=some .free)
 | [],h=>by simp at h
 | (n,j)::r,h=>by
  have ih:=@gh scope env x k r
  rw [zbX,zbq] at h
  rw [zbq]
  by_cases hc:(j==NameKind.free&&env.scope.kind == .function&&env.kindOf n==some .cell)=true
  ·simp only [hc,if_true] at h
   cases hx:x==n with
   | true =>
    rw [hx] at h
    have ej:j = .free:=by
     simp only [zbw] at hc
     simpa using hc.1.1
    exact .inr ⟨(zcB.inj h).symm,by rw [ej]⟩
   | false=>rw [hx] at h;exact ih h
  ·simp only [yIn hc] at h
   cases hx:x==n with
   | true=>rw [hx] at h;exact .inl h
   | false=>rw [hx] at h;exact ih h
theorem iX {scope:Scope}{env:Env}{x:Str}:∀ {names:List (Str×NameKind)},names.lookup x=some .free→∃ k,(k=NameKind.cell∨k = .free) ∧
  (names.map fun (n,k)=>if (k==NameKind.free&&env.scope.kind == .function&&env.kindOf n==some .cell) then (n,NameKind.cell) else (n,k)).lookup x=some k
 | [],h=>by simp at h
 | (n,j)::r,h=>by
  have ih:=@iX scope env x r
  rw [zbq] at h
  rw [zbX,zbq]
  by_cases hc:(j==NameKind.free&&env.scope.kind == .function&&env.kindOf n==some .cell)=true
  ·simp only [hc,if_true]
   cases hx:x==n with
   | true=>exact ⟨.cell,.inl rfl,rfl⟩
   | false=>rw [hx] at h;exact ih h
  ·simp only [yIn hc]
   cases hx:x==n with
   | true=>rw [hx] at h;exact ⟨.free,.inr rfl,h⟩
   | false=>rw [hx] at h;exact ih h
noncomputable def nI (caps:List (Option Nat)) (σ:St):St:=caps.map fun o=>o.bind fun i=>(σ[i]?).getD none
noncomputable def kc (XN:List Str) (env:Env) (scope:Scope) (N:List Str) (caps:List (Option Nat)):Bool :=
 caps.length==N.length&&(caps.zip N).all fun p=>match p.1 with
  | none=>scope.names.lookup p.2==some .local
  | some i=>XN[i]? == some p.2&&scope.names.lookup p.2==some .free&&(env.scope.names.lookup p.2==some .cell||env.scope.names.lookup p.2==some .free)
noncomputable def kE (X:Cx) (scope:Scope) (N:List Str) (s₀:yai) (H₀:Hp) (C:Addr) (fp:List Addr):Cx where
 prog:=X.prog
 w:=X.w
 K:=X.K
 mg:=X.mg
 base:=X.base
 A:=X.A
 N:=N
 s₀:=s₀
 H₀:=H₀
 env:=compEnvC scope (jl X.env scope.names []) C X.env
 outer:=X.stack
 stack:=X.stack
 ex:=fp
 fn:=fun _=>false
 calm:=X.calm
 pn:=[]
 xe:=fun _ _=>False
structure dO (scope:Scope) (N:List Str):Prop where
 kind:scope.kind = .function
 nd:N.Nodup
 zG:∀ y∈scope.names,y.2 ≠ .cell
 names:∀ y∈scope.names,scope.names.lookup y.1=some y.2
section
variable {X:Cx}{pins:List (Addr×Obj)}{σ:List (Option V)}{H:Hp}{s:yai}
theorem Av {XN:List Str}{env:Env}{scope:Scope}{N:List Str}{caps:List (Option Nat)} (h:kc XN env scope N caps=true) :
  caps.length=N.length∧∀ (j i:Nat) (x:Str),caps[j]? = some (some i)→N[j]? = some x→XN[i]? = some x∧scope.names.lookup x=some .free∧(env.kindOf x=some .cell∨env.kindOf x=some .free):=by
 unfold kc at h
 rw [zbw] at h
 obtain ⟨h1,h2⟩:=h
 refine ⟨by simpa using h1,fun j i x e1 e2 => ?_⟩
 have hm:(some i,x)∈caps.zip N:=by
  refine zaA (i:=j) ?_
  rw [List.getElem?_zip_eq_some]
  exact ⟨e1,e2⟩
 have q:=zbr.mp h2 _ hm
 simp only [zbw,zbM,beq_iff_eq] at q
 exact ⟨q.1.1,q.1.2,q.2⟩
theorem Inv.block {scope:Scope}{N:List Str}{caps:List (Option Nat)}{C:Addr}{fp:List Addr}{s1:yai}{h1:Heap}{tk:Nat}{m:Str→Option yaj} (S:dO scope N) (hcap:kc X.N X.env scope N caps=true)
  (hfree:∀ n,(n,NameKind.free)∈scope.names→∃ c,X.env.cells.lookup n=some c)
  (I:Inv X pins σ H s) (hf:∀ b∈fp,kI X pins H b) (hfl:∀ b∈fp,b<s.heap.objs.size) (hC:s.heap.objs.size≤C) (hk:∀ b o,s.heap.get? b=some o→h1.get? b=some o) (hn:h1.Ns C m) :
  Inv (kE X scope N s H C fp) [] (nI caps σ) H { s with heap:=h1,toks:=tk }:=by
 obtain ⟨hlen,hat⟩:=Av hcap
 have oz:∀ x c,(jl X.env scope.names []).lookup x=some c→X.env.cells.lookup x=some c:=fun x c e=>by
  rcases rJ X.env scope.names [] x c e with z | ⟨z1,z2⟩
  ·simp at z
  ·obtain ⟨c',hc'⟩:=hfree x z1
   rw [hc',z2,hc'];rfl
 have clt:∀ x c,X.env.cells.lookup x=some c→c<s.heap.objs.size:=fun x c e=>by
  obtain ⟨v,o,ho,_⟩:=I.cell x c e
  exact zcw ho
 have JV:∀ x,((compEnvC scope (jl X.env scope.names []) C X.env).kindOf x=some .cell∨(compEnvC scope (jl X.env scope.names []) C X.env).kindOf x=some .free)→(x,NameKind.free)∈scope.names:=fun x hx=>by
  have sub:∀ k,(compEnvC scope (jl X.env scope.names []) C X.env).kindOf x=some k→scope.names.lookup x=some k∨(k = .cell∧scope.names.lookup x=some .free):=fun k e=>gh (scope:=scope) (env:=X.env) e
  rcases hx with e | e
  ·rcases sub _ e with z | ⟨_,z⟩
   ·exact absurd rfl (S.zG _ (PySem.mem_of_lookup z))
   ·exact PySem.mem_of_lookup z
  ·rcases sub _ e with z | ⟨z,_⟩
   ·exact PySem.mem_of_lookup z
   ·cases z
 refine ⟨⟨I.ok.mod,S.kind,I.ok.glob,I.ok.blt,hC,fun x y c e1 e2=>I.ok.inj x y c (oz x c e1) (oz y c e2),fun x hx => ?_,fun x c z _=>absurd (show false=true from z) zaW,I.ok.hd,I.ok.frames,.inl rfl,fun b hb => ?_,I.bs,zco I.ok.Bl I.sz,fun b o e hb => ?_,fun b hb hb2 => ?_,I.stack,I.oS⟩,
  rfl,I.bare,Un.kept hk,⟨m,hn,fun j x v e1 e2 e3 => ?_⟩,fun x c e => ?_,I.hok.fresh hC,fun x c e=>I.dz x c (oz x c e),fun p hp=>absurd (show p∈([]:List (Addr×Obj)) from hp) (by simp),I.hok.kept hk,?_⟩
 ·exact mV X.env scope.names [] x (.inl (JV x hx))
 ·exact ⟨zcn (zaU (hfl b hb) hC),fun x c e=>(hf b hb).2.2.2.2.1 x c (oz x c e)⟩
 ·rcases (hf b hb).2.2.2.1 with z | z
  ·exact I.ok.w6 b o e z
  ·exact absurd (zaU (zcw e) (zco I.ok.Bl z)) (zcc _)
 ·rcases zbW.mp (I.lG b hb2) with z | z
  ·exact (hf b hb).2.1 z
  ·exact (hf b hb).2.2.1 z
 ·have e2':(nI caps σ)[j]? = some (some v):=e2
  unfold nI at e2'
  rw [zbb] at e2'
  cases hc:caps[j]? with
  | none=>rw [hc] at e2';cases e2'
  | some o =>
   rw [hc] at e2'
   cases o with
   | none=>cases e2'
   | some i =>
    have e4:(σ[i]?).getD none=some v:=zcB.inj e2'
    have e5:σ[i]? = some (some v):=by
     cases q:σ[i]? with
     | none=>rw [q] at e4;cases e4
     | some y=>rw [q] at e4;exact congrArg some e4
    obtain ⟨a1,a2,a3⟩:=hat j i x hc e1
    obtain ⟨mX,hnX,hl⟩:=I.loc
    obtain ⟨u,r,l⟩:=hl i x v a1 e5 (a3.elim (fun z=>.inr (.inl z)) fun z=>.inr (.inr z))
    refine ⟨u,r,.inr ?_⟩
    obtain ⟨c,hcx,cell⟩:∃ c,X.env.cells.lookup x=some c∧s.heap.IsCell c (some u):=by
     rcases l with ⟨k,_⟩ | ⟨_,z⟩
     ·rw [k] at a3;rcases a3 with z | z <;> cases z
     ·exact z
    obtain ⟨k,hk2,hk3⟩:=iX (scope:=scope) (env:=X.env) a2
    obtain ⟨c',hc'⟩:=mV X.env scope.names [] x (.inl (PySem.mem_of_lookup a2))
    have hcc:c'=c:=zcB.inj ((oz x c' hc').symm.trans hcx)
    subst hcc
    refine ⟨?_,c',hc',?_⟩
    ·rcases hk2 with z | z
     ·subst z;exact .inl hk3
     ·subst z;exact .inr hk3
    ·obtain ⟨o,ho,hd⟩:=cell
     exact ⟨o,hk _ _ ho,hd⟩
 ·obtain ⟨v,o,ho,hd⟩:=I.cell x c (oz x c e)
  exact ⟨v,o,hk _ _ ho,hd⟩
 ·show (nI caps σ).length=N.length
  unfold nI;rw [zbE];exact hlen
end
theorem gq {prog:yak}{w:yal}{A:yam}{R:Result→yai→Prop}{s:yai}{elt target iter:Expr}{ifs:List Expr}{scope:Scope}{pos:Pos}{it acc:yaj}{env:Env} (I:Nat→yai→Prop)
  (turn:∀ n s,I n s→yas (model prog w) A (pyNext it) (fun r s₁=>match r with
   | none=>R (.ok .next) s₁
   | some v=>yas (model prog w) A (letOwnedTupleGo target it v) (fun _ s₁'=>yas (model prog w) A (assign target env v) (fun _ s₂ =>
     yas (model prog w) A (forIn ifs true fun c r=>if r=true then do let ok ← isTrue c env (eval c env);pure (ForInStep.yield ok) else pure (ForInStep.yield r)) (fun ok s₃ =>
      if ok=true then yas (model prog w) A (eval elt env) (fun x s₄ =>
       yas (model prog w) A (call (.builtin "list.append") [acc,x]) (fun _ s₅=>∃ m,m<n∧I m s₅) (fun _ _=>False) s₄) (fun _ _=>False) s₃
      else ∃ m,m<n∧I m s₃) (fun _ _=>False) s₂) (fun _ _=>False) s₁') (fun _ _=>False) s₁) (fun _ _=>False) s)
  (n:Nat) (h:I n s) :
  codeAny (model prog w) A (.compLoop (.ListComp elt [⟨target,iter,ifs,0⟩] scope pos) 0 it acc env) R s:=by
 refine codeAny_loop rfl I (fun n s hI => ?_) n h
 show yas _ A ((compTurn (.ListComp elt [⟨target,iter,ifs,0⟩] scope pos) 0 it acc env).onRaise (fun x=>do noteFrame x env;theTreesLotGoes x)) _ _ s
 refine wpAny_noted ?_
 rw [compTurn_list]
 refine wpAny_noRaise ?_
 refine yaa (yaz (yaa (yac (turn n s hI) (fun r s₁ h₁ => ?_) fun _ _ h'=>h')))
 cases r with
 | none=>exact yab h₁
 | some v =>
  refine yaa (yac h₁ (fun _ s₁' h₁' => ?_) fun _ _ h'=>h')
  refine yaa (yac h₁' (fun _ s₂ h₂=>yaa (yac h₂ (fun ok s₃ h₃ => ?_) fun _ _ h'=>h')) fun _ _ h'=>h')
  cases ok with
  | false=>exact yab ⟨rfl,h₃⟩
  | true =>
   exact yaa (yaa (yac h₃ (fun x s₄ h₄=>yaa (yac h₄ (fun _ s₅ h₅=>yab (yab ⟨rfl,h₅⟩)) fun _ _ h'=>h')) fun _ _ h'=>h'))
def DZ (X:Cx) (ifs:List Expr) (t:TT):Prop :=
 ∀ (pins:List (Addr×Obj)) (s:yai) (σ:St) (H:Hp) (Q:Bool→Hp→Prop),Inv X pins σ H s→t σ H Q →
  yas (model X.prog X.w) X.A (forIn ifs true fun c r=>if r=true then do let ok ← isTrue c X.env (eval c X.env);pure (ForInStep.yield ok) else pure (ForInStep.yield r)) (TP X pins σ Q) X.xe s
def G4:TT:=fun _ H Q=>Q true H
theorem dX {X:Cx}:DZ X [] G4:=fun _ _ _ H _ I h=>wpAny_tests_nil ⟨H,I,h⟩
theorem bM {X:Cx}{c:Expr}{t:TT} (h:PT X c t):DZ X [c] t:=fun pins s σ H Q I hw=>wpAny_tests_one (h pins s σ H Q I hw)
def Dk (J:It) (g:TG) (tt:TT) (te:TE) (τ0:St) (H:Hp) (Qd:List V→Hp→Prop):Prop :=
 ∃ W:Nat→Nat→List V→St→Hp→Prop,(∃ m,W 0 m [] τ0 H)∧∀ i m xs τ H,W i m xs τ H →
  (J.stop i H∧Qd xs H)∨(J.go i H∧∃ M:List V→St→Hp→Prop,(∀ ys τ' H',M ys τ' H'→∃ m',m'<m∧W (i+1) m' ys τ' H')∧∀ x H',J.yd i H x H'→g x τ H' fun τ2 H2=>tt τ2 H2 fun b H3 =>
   if b=true then te τ2 H3 fun v H4=>xs.length<yah∧M (xs++[v]) τ2 H4 else M xs τ2 H3)
section
variable {X:Cx}{pins:List (Addr×Obj)}{σ:List (Option V)}{s:yai}
noncomputable abbrev lobj (its:List yaj) (k:Nat):Obj:={ cls:=.type "list",data:=.seq its.toArray k }
theorem rG {elt tg iter:Expr}{ifs:List Expr}{scope:Scope}{N:List Str}{caps:List (Option Nat)}{pos:Pos}{g:TG}{tt:TT}{te:TE}{J:It}{fp:List Addr}{it:Addr}{tn:Nat→Heap→Prop}{H2:Hp}{s2:yai}{Qd:List V→Hp→Prop}
  {E:yaj→yai→Prop}{RR:yaj→Addr→Result→yai→Prop}
  (S:dO scope N) (hcap:kc X.N X.env scope N caps=true) (hfree:∀ n,(n,NameKind.free)∈scope.names→∃ c,X.env.cells.lookup n=some c) (hc:X.calm=true)
  (hg:∀ s₀ H₀ C fp,PG (kE X scope N s₀ H₀ C fp) tg g) (ht:∀ s₀ H₀ C fp,DZ (kE X scope N s₀ H₀ C fp) ifs tt) (he:∀ s₀ H₀ C fp,PE (kE X scope N s₀ H₀ C fp) elt te)
  (I2:Inv X pins σ H2 s2) (T:Turn X.prog X.w X.K tg J fp it tn) (st2:tn 0 s2.heap) (f2:∀ b∈fp,kI X pins H2 b) (h:Dk J g tt te (nI caps σ) H2 Qd)
  (hRR:∀ (D C:Addr) m xs H3 (s4:yai),Inv X pins σ (upd H3 D (.lst xs)) s4→H3 D=none→s4.heap.Ns C m→kI X pins (upd H3 D (.lst xs)) C→Qd xs H3→RR (.ref D) C (.ok .next) s4) :
  yas (model X.prog X.w) X.A (newList []) (fun acc s₃=>yas (model X.prog X.w) X.A (newFunctionEnv scope X.env.globals (jl X.env scope.names []) [] X.env.qual none .none (some X.env)) (fun cenv s₄ =>
   codeAny (model X.prog X.w) X.A (.compStart (.ListComp elt [⟨tg,iter,ifs,0⟩] scope pos) 0 (.ref it) acc { cenv with scope:=relabel scope X.env }) (RR acc cenv.locals) s₄) E s₃) E s2:=by
 have hfl:∀ b∈fp,b<s2.heap.objs.size:=fun b hb=>by
  obtain ⟨o,e,_⟩:=T.obj 0 s2.heap st2 b hb
  exact zcw e
 refine yaf (wpAny_newFunctionEnv S.zG (by intro y hy;simp at hy) (fun h₁ hns hsb => ?_) S.kind)
 dsimp only at hns hsb ⊢
 generalize hHD:s2.heap.push { cls:=.type "list",dict:=none,data:=.seq ([]:List yaj).toArray }=HD at hns hsb ⊢
 have hC:HD.objs.size=s2.heap.objs.size+1:=by rw [← hHD,zbV]
 have hDC:s2.heap.objs.size≠HD.objs.size:=by rw [hC];exact zcn (Nat.lt_succ_self _)
 have F4:s2.heap.objs.size≤HD.objs.size:=by rw [hC];exact zcA _
 have old:∀ b o,s2.heap.get? b=some o→h₁.get? b=some o:=fun b o e =>
  hsb.extBut b o (by rw [hC];exact zcn (zbh (zcw e))) (zan _ (hHD ▸ zan _ e))
 have hacc:h₁.get? s2.heap.objs.size=some (lobj [] 0):=hsb.extBut _ _ hDC (zan _ (hHD ▸ zaK _ rfl))
 obtain ⟨W,⟨m0,w0⟩,turn⟩:=h
 have IY0:=Inv.block (caps:=caps) (C:=HD.objs.size) (fp:=fp) (s1:=s2) (h1:=h₁) (tk:=s2.toks+([]:List (Str×yaj)).length) S hcap hfree I2 f2 hfl F4 old hns
 have freshD:H2 s2.heap.objs.size=none:=I2.hok.fresh (zcy _)
 have DA:∀ {τ:St}{H':Hp}{s':yai}{its:List yaj}{k:Nat},Inv (kE X scope N s2 H2 HD.objs.size fp) [] τ H' s'→H' s2.heap.objs.size=none→s'.heap.get? s2.heap.objs.size=some (lobj its k) →
   Inv (kE X scope N s2 H2 HD.objs.size fp) [(s2.heap.objs.size,lobj its k)] τ H' s':=fun {τ H' s' its k} I hn e=>I.iY fun p hp=>by
  have ep:p=(s2.heap.objs.size,lobj its k):=by simpa using hp
  subst ep
  exact ⟨e,hn,hDC,fun z=>by
   rcases zbW.mp (I2.lG _ z) with q | q
   ·exact absurd (q ▸ I2.lt) (zcc _)
   ·exact I2.Ig (zcy _) q,fun v z=>by cases z⟩
 have fY:∀ {H':Hp}{its:List yaj}{k:Nat},(∀ b∈fp,H' b=none)→∀ b∈fp,kI (kE X scope N s2 H2 HD.objs.size fp) [(s2.heap.objs.size,lobj its k)] H' b:=fun {H' its k} hn b hb=>by
  have z:=f2 b hb
  refine ⟨hn b hb,zcn (zaU (hfl b hb) F4),fun q => ?_,.inl hb,fun x c e=>IY0.ok.Jx b hb |>.2 x c e,fun p hp => ?_⟩
  ·rcases zbW.mp (I2.lG b q) with q | q
   ·exact z.2.1 q
   ·exact z.2.2.1 q
  ·have ep:p=(s2.heap.objs.size,lobj its k):=by
    have:p∈[]++[(s2.heap.objs.size,lobj its k)]:=hp
    simpa using this
   subst ep
   exact zcq (hfl b hb)
 have fin:∀ {τ:St}{H3:Hp}{s4:yai}{xs:List V}{its:List yaj}{k:Nat},Inv (kE X scope N s2 H2 HD.objs.size fp) [(s2.heap.objs.size,lobj its k)] τ H3 s4→Vals xs its→xs.length≤yah→Qd xs H3 →
   RR (.ref s2.heap.objs.size) HD.objs.size (.ok .next) s4:=fun {τ H3 s4 xs its k} I r hz q=>by
  have hD:=I.pin (s2.heap.objs.size,lobj its k) (by show _∈[]++[_];simp)
  have IX:Inv X pins σ H3 s4:=I2.Ay (s':=s4) (ch:=fp) I.os I.base I.hok I.bare fun b hb=>⟨(f2 b hb).2.2.2.1,(f2 b hb).2.1,(f2 b hb).2.2.2.2.1,(f2 b hb).2.2.2.2.2⟩
  have fD:kI X pins H3 s2.heap.objs.size:=I2.ue (zcy _) hD.2.1
  have fC:kI X pins H3 HD.objs.size:=I2.ue F4 I.free
  have IT:Inv X pins σ (upd H3 s2.heap.objs.size (.lst xs)) s4:=IX.uL hD.2.1 I2.sz fD.2.1 (fun x c e=>fD.2.2.2.2.1 x c e) (fun p hp=>fD.2.2.2.2.2 p hp) ⟨hz,its,k,r,hD.1⟩
  obtain ⟨m,hn,_⟩:=I.loc
  exact hRR _ _ m xs H3 s4 IT hD.2.1 hn ⟨by rw [au (Ne.symm hDC)];exact fC.1,fC.2⟩ q
 have loop:∀ s₃:yai,s₃={ s2 with heap:=h₁,toks:=s2.toks+([]:List (Str×yaj)).length } →
   codeAny (model X.prog X.w) X.A (.compLoop (.ListComp elt [⟨tg,iter,ifs,0⟩] scope pos) 0 (.ref it) (.ref s2.heap.objs.size) (compEnvC scope (jl X.env scope.names []) HD.objs.size X.env)) (RR (.ref s2.heap.objs.size) HD.objs.size) s₃:=by
  rintro s₃ rfl
  refine gq (fun n s'=>∃ i xs its k τ H',Inv (kE X scope N s2 H2 HD.objs.size fp) [(s2.heap.objs.size,lobj its k)] τ H' s'∧tn i s'.heap∧(∀ b∈fp,H' b=none)∧Vals xs its∧xs.length≤yah∧W i n xs τ H') ?_ m0
   ⟨0,[],[],0,_,_,DA IY0 freshD hacc,T.keep 0 _ _ st2 fun b _ o e=>old b o e,fun b hb=>(f2 b hb).1,.nil,zcz _,w0⟩
  rintro n s3 ⟨i,xs,its,k,τ,H3,I3,st3,fr3,r3,z3,w3⟩
  rcases turn i n xs τ H3 w3 with ⟨stop,qn⟩ | ⟨go,M,hM,step⟩
  ·refine yac (T.done (kE X scope N s2 H2 HD.objs.size fp) rfl rfl rfl hc i _ s3 τ H3 (fun _ _=>False) I3 (fY fr3) st3 stop) (fun r s4 ⟨hr,I4⟩ => ?_) fun _ _ z=>z
   subst hr
   exact fin I4 r3 z3 qn
  ·refine yac (T.item (kE X scope N s2 H2 HD.objs.size fp) rfl rfl rfl hc i _ s3 τ H3 (fun _ _=>False) I3 (fY fr3) st3 go) (fun r s4 ⟨u,hr,h4⟩ => ?_) fun _ _ z=>z
   subst hr
   refine yac h4 (fun _ s5 ⟨x,H5,I5,r5,y5,st5,fr5⟩ => ?_) fun _ _ z=>z
   have I5':=I5.pinned (fY fr5) (T.obj _ _ st5)
   have DI:∀ {τ7:St}{H7:Hp}{s7:yai},Inv (kE X scope N s2 H2 HD.objs.size fp) ([(s2.heap.objs.size,lobj its k)]++lX fp s5.heap) τ7 H7 s7→tn (i+1) s7.heap∧∀ b∈fp,H7 b=none:=fun {τ7 H7 s7} I7=>by
    refine ⟨T.keep _ _ _ st5 fun b hb o e=>(I7.pin (b,o) (zaq _ (zaq _ (fu hb e)))).1,fun b hb => ?_⟩
    obtain ⟨o,e,d⟩:=T.obj _ _ st5 b hb
    exact (I7.pin (b,o) (zaq _ (zaq _ (fu hb e)))).2.1
   refine yac (hg _ _ _ _ _ s5 τ H5 x u _ I5' r5 (step x H5 y5)) (fun _ s6 ⟨τ6,H6,I6,q6⟩ => ?_) fun _ _ z=>z
   refine yac (ht _ _ _ _ _ s6 τ6 H6 _ I6 q6) (fun ok s7 ⟨H7,I7,q7⟩ => ?_) fun _ _ z=>z
   cases ok with
   | false =>
    rw [yIn zaW] at q7 ⊢
    obtain ⟨m',hm,w7⟩:=hM _ _ _ q7
    obtain ⟨a1,a2⟩:=DI I7
    exact ⟨m',hm,i+1,xs,its,k,τ6,H7,I7.fS,a1,a2,r3,z3,w7⟩
   | true =>
    rw [yIp rfl] at q7 ⊢
    refine yac (he _ _ _ _ _ s7 τ6 H7 _ I7 q7) (fun v s8 ⟨y,H8,I8,r8,q8⟩ => ?_) fun _ _ z=>z
    obtain ⟨hz,q8⟩:=q8
    obtain ⟨m',hm,w8⟩:=hM _ _ _ q8
    obtain ⟨a1,a2⟩:=DI I8
    have hD:=I8.pin (s2.heap.objs.size,lobj its k) (zaq _ (zay _ (by simp)))
    have hlen:=r3.length
    refine wpAny_list_append_plain (items:=its.toArray) ⟨k,hD.1⟩ (fun h' hp hs => ?_) (by rw [zba];lia)
    obtain ⟨k',hp⟩:=hp
    have I9:Inv (kE X scope N s2 H2 HD.objs.size fp) [] τ6 H8 { s8 with heap:=h' } :=
     (I8.iY (pins':=[]) (by simp)).turned (t':=s8.toks) (it:=s2.heap.objs.size) (fun b o hb e=>(hs.2 b hb).trans e) hD.2.1 hD.2.2.1 (.inr (zcy _))
      (fun x c e z=>by
       have q:=IY0.cell x c e
       obtain ⟨v,o,ho,hd⟩:=I8.cell x c e
       have e1:s8.heap.get? s2.heap.objs.size=some (lobj its k):=hD.1
       rw [z,e1] at ho
       cases ho
       cases hd) (by intro p hp;exact absurd (show p∈([]:List (Addr×Obj))++[] from hp) (by simp))
    have hp':({ s8 with heap:=h' }:yai).heap.get? s2.heap.objs.size=some (lobj (its++[v]) k'):=by
     show h'.get? _=_
     rw [hp];simp
    have hkt:tn (i+1) h':=T.keep _ _ _ a1 fun b hb o e=>(hs.2 b (zcn (hfl b hb))).trans e
    refine ⟨m',hm,i+1,xs++[y],its++[v],k',τ6,H8,DA I9 hD.2.1 hp',hkt,a2,r3.append (.cons r8 .nil),?_,w8⟩
    rw [zaM]
    exact hz
 exact codeAny_compStart_list (loop _ rfl) (T.self X.A 0 _ _ _ (T.keep 0 _ _ st2 fun b _ o e=>old b o e) (loop _ rfl))
noncomputable def freeOk (env:Env) (scope:Scope):Bool:=scope.names.all fun p=>p.2 != .free||env.scope.names.lookup p.1==some .cell||env.scope.names.lookup p.1==some .free
theorem Inv.freeOk {H:Hp}{scope:Scope} (I:Inv X pins σ H s) (h:freeOk X.env scope=true):∀ n,(n,NameKind.free)∈scope.names→∃ c,X.env.cells.lookup n=some c:=fun n hn=>by
 have q:=zbr.mp h _ hn
 simp only [zbM,beq_iff_eq,bne_iff_ne] at q
 refine I.ok.has n ?_
 rcases q with (q | q) | q
 ·exact absurd rfl q
 ·exact .inl q
 ·exact .inr q
def yx (caps:List (Option Nat)) (wi:TI) (g:TG) (tt:TT) (te:TE):TE:=fun σ H Q=>wi σ H fun J H1=>Dk J g tt te (nI caps σ) H1 fun xs H3=>∀ p,H3 p=none→Q (.ref p) (upd H3 p (.lst xs))
theorem bF {elt tg iter:Expr}{ifs:List Expr}{scope:Scope}{N:List Str}{caps:List (Option Nat)}{pos:Pos}{wi:TI}{g:TG}{tt:TT}{te:TE}
  (S:dO scope N) (hcap:kc X.N X.env scope N caps=true) (hfr:L2.freeOk X.env scope=true) (hc:X.calm=true) (hi:PI X tg iter wi)
  (hg:∀ s₀ H₀ C fp,PG (kE X scope N s₀ H₀ C fp) tg g) (ht:∀ s₀ H₀ C fp,DZ (kE X scope N s₀ H₀ C fp) ifs tt) (he:∀ s₀ H₀ C fp,PE (kE X scope N s₀ H₀ C fp) elt te)
  (hs:∀ x,foldedSetIterable iter X.env x=pure x:=by intro _;rfl):PE X (.ListComp elt [⟨tg,iter,ifs,0⟩] scope pos) (yx caps wi g tt te):=by
 intro pins s σ H Q I h
 rw [eval_ListComp]
 refine wpAny_comprehension_free (use:=none) rfl hs (ie (I.freeOk hfr)) S.kind (fun x hx hl=>hl ▸ S.names x hx) ?_
 refine bJ (hi pins s σ H _ I h) fun v s1 h1=>bJ h1 fun itv s2 h2 => ?_
 obtain ⟨it,fp,tn,J,H2,rfl,I2,T,st2,f2,hl⟩:=h2
 refine rG (RR:=fun acc C=>compPost (model X.prog X.w) X.A X.xe none (EP X pins σ Q) acc C) S hcap (I.freeOk hfr) hc hg ht he I2 T st2 f2 hl ?_
 intro D C m xs H3 s4 IT hD hn fC q
 refine ⟨m,hn,fun h' sb=>⟨.ref D,_,?_,rfl,q D hD⟩⟩
 exact IT.turned (t':=s4.toks) (it:=C) (fun b o hb e=>(sb.2 b hb).trans e) fC.1 fC.2.1 fC.2.2.2.1 fC.2.2.2.2.1 fC.2.2.2.2.2
theorem dJ {elt tg iter:Expr}{ifs:List Expr}{scope:Scope}{N:List Str}{caps:List (Option Nat)}{pos pos' spos:Pos}{wi:TI}{g:TG}{tt:TT}{te:TE}{i:Nat}{x:Str}
  (hN:X.N.Nodup) (hix:X.N[i]? = some x) (hx:X.env.scope.names.lookup x=some .local)
  (S:dO scope N) (hcap:kc X.N X.env scope N caps=true) (hfr:L2.freeOk X.env scope=true) (hc:X.calm=true) (hi:PI X tg iter wi)
  (hg:∀ s₀ H₀ C fp,PG (kE X scope N s₀ H₀ C fp) tg g) (ht:∀ s₀ H₀ C fp,DZ (kE X scope N s₀ H₀ C fp) ifs tt) (he:∀ s₀ H₀ C fp,PE (kE X scope N s₀ H₀ C fp) elt te)
  (hsw:yau (.ListComp elt [⟨tg,iter,ifs,0⟩] scope pos) (some (.Name x pos')) spos.line X.env=pure true:=by rfl)
  (hs:∀ x,foldedSetIterable iter X.env x=pure x:=by intro _;rfl):PS X (.Assign [.Name x pos'] (.ListComp elt [⟨tg,iter,ifs,0⟩] scope pos) spos) (oO (yx caps wi g tt te) (j4 i)):=by
 intro pins s σ H D I h
 rw [exec_Assign_Name_used _ _ _ _ hsw]
 refine yaa (yaz (yaa ?_))
 show yas _ X.A (do let _ ← comprehension (.ListComp elt [⟨tg,iter,ifs,0⟩] scope pos) scope X.env _ (newList []) false (eval iter X.env) (some (assign (.Name x pos') X.env))) _ _ s
 refine yaa (yac (wpAny_comprehension_free (use:=some (assign (.Name x pos') X.env)) (Q:=fun _ s'=>SP X pins D .next s') rfl hs (ie (I.freeOk hfr)) S.kind (fun x hx hl=>hl ▸ S.names x hx)
  (bJ (hi pins s σ H _ I h) fun v s1 h1=>bJ h1 fun itv s2 h2 => ?_)) (fun _ s' hq=>yab (yab hq)) fun _ _ e=>e)
 obtain ⟨it,fp,tn,J,H2,rfl,I2,T,st2,f2,hl⟩:=h2
 refine rG (RR:=fun acc C=>compPost (model X.prog X.w) X.A X.xe (some (assign (.Name x pos') X.env)) (fun _ s'=>SP X pins D .next s') acc C) S hcap (I.freeOk hfr) hc hg ht he I2 T st2 f2 hl ?_
 intro Dl C m xs H3 s4 IT hD hn fC q
 show yas _ X.A (assign (.Name x pos') X.env (.ref Dl)) _ _ _
 obtain ⟨oC,es,ep,hoC,hdC,rC⟩:=id hn
 have IP:Inv X (pins++[(C,oC)]) σ (upd H3 Dl (.lst xs)) s4:=IT.iY fun p hp=>(zbA.mp hp).elim (fun z=>IT.pin p (zaq _ z)) fun z=>by
  have e:p=(C,oC):=by simpa using z
  subst e
  exact ⟨hoC,fC.1,fC.2.1,fC.2.2.1,fun v z=>by rw [hdC] at z;cases z⟩
 refine wpAny_assign_Name (eN (v:=.ref Dl) IP hN hix (.inl hx) rfl (fun s5 I5 => ?_) (.inr hx))
 have hC5:=I5.pin (C,oC) (zaq _ (zaq _ (by simp)))
 refine ⟨m,⟨oC,es,ep,hC5.1,hdC,rC⟩,fun h' sb=>⟨_,_,?_,q Dl hD⟩⟩
 exact I5.fS.turned (t':=s5.toks) (it:=C) (fun b o hb e=>(sb.2 b hb).trans e) fC.1 fC.2.1 fC.2.2.2.1 fC.2.2.2.2.1 fC.2.2.2.2.2
end
noncomputable def JE (x:Str):It:=⟨fun i _=>i<x.cps.size,fun i H v H'=>H'=H∧∃ c,x.cps[i]? = some c∧v = .str ⟨#[c]⟩,fun i _=>i=x.cps.size⟩
theorem nO {prog:yak}{w:yal}{A:yam} (hh:A.handled=none) (I:Addr) (x:Str) (t:Tok):Walks prog w A I [I] [I] x.cps.size (SignAt x) (fun i h=>h.IsStrIter I (strIterType x) x t i):=by
 unfold strIterType
 split
 ·exact Walks.strAscii hh I x t
 ·exact Walks.strWide hh I x t
theorem yg {P:yak}{w:yal}{K:yaH}{tg:Expr} (it:Addr) (x:Str) (t:Tok):Turn P w K tg (JE x) [it] it (fun i h=>h.IsStrIter it (strIterType x) x t i) where
 mem:=by simp
 obj:=fun i h st b hb=>by
  have e:b=it:=by simpa using hb
  subst e
  obtain ⟨o,e,c,d⟩:=st
  exact ⟨o,e,fun v z=>by rw [d] at z;cases z⟩
 keep:=fun i h h' st k=>let ⟨o,ho,r⟩:=st;⟨o,k it (by simp) o ho,r⟩
 item:=by
  intro X hP hw hK hc i pins s σ H E I hf st hg
  subst hP hw hK
  obtain ⟨f0,f1,f2,f3,f4,f5⟩:=hf it (by simp)
  have W:=nO (prog:=X.prog) (w:=X.w) (I.ok.hd hc) it x t
  refine W.item i s _ _ hg st fun v h' tk hv st' kk => ?_
  obtain ⟨c,u,hcx,rfl⟩:=hv
  have I1:Inv X pins σ H { s with heap:=h',toks:=tk }:=I.turned (fun b o hb e=>kk b o (by simpa using hb) e) f0 f1 f3 f4 f5
  obtain ⟨o,ho,hcl,hda⟩:=id st'
  refine ⟨_,rfl,rg (s:={ s with heap:=h',toks:=tk }) ho hcl hda (by unfold strIterType;split <;> decide) ⟨.str ⟨#[c]⟩,H,I1,⟨u,rfl⟩,⟨rfl,c,hcx,rfl⟩,st',fun b hb=>(hf b hb).1⟩⟩
 done:=by
  intro X hP hw hK hc i pins s σ H E I hf st hg
  subst hP hw hK
  obtain ⟨f0,f1,f2,f3,f4,f5⟩:=hf it (by simp)
  have W:=nO (prog:=X.prog) (w:=X.w) (I.ok.hd hc) it x t
  have e:i=x.cps.size:=hg
  subst e
  exact W.done s _ _ st fun h' tk kk=>⟨rfl,I.turned (t':=tk) (fun b o hb e=>kk b o (by simpa using hb) e) f0 f1 f3 f4 f5⟩
 self:=fun A i s Q E st h=>by
  have st:s.heap.IsStrIter it (strIterType x) x t i:=st
  unfold strIterType at st
  split at st
  ·exact wpAny_pyIter_striter_ascii st h
  ·exact wpAny_pyIter_striter_wide st h
mutual
def cz (K:yaH) (H:Hp):yan→V→Prop
 | .none,v=>v = .bh
 | .bool b,v=>v = .bl b
 | .int i,v=>v = .int i
 | .str x,v=>v = .str x
 | .list ds,v=>∃ a xs,v = .ref a∧cH K H a xs∧jz K H ds xs
 | .tuple ds,v=>∃ a xs,v = .ref a∧dQ K H a xs∧jz K H ds xs
 | .dict _,_=>False
def jz (K:yaH) (H:Hp):List yan→List V→Prop
 | [],xs=>xs=[]
 | d::ds,xs=>∃ x r,xs=x::r∧cz K H d x∧jz K H ds r
end
theorem dQ.same {K:yaH}{H H':Hp}{a:Addr}{xs:List V} (e:∀ b o,H b=some o→H' b=some o) (h:dQ K H a xs):dQ K H' a xs:=by
 rcases h with (h | ⟨o,h⟩) | h
 ·exact .inl (.inl (e _ _ h))
 ·exact .inl (.inr ⟨o,e _ _ h⟩)
 ·exact .inr h
section
variable {X:Cx}{pins:List (Addr×Obj)}{σ:St}{H:Hp}{s:yai}
mutual
theorem Inv.reads (I:Inv X pins σ H s):∀ (d:yan) (v:V) (u:yaj),cz X.K H d v→RelV v u→∃ as,Reads s.heap u d as
 | .none,v,u,h,r=>by
  simp only [cz] at h
  subst h
  cases r
  exact ⟨_,.none⟩
 | .bool b,v,u,h,r=>by
  simp only [cz] at h
  subst h
  cases r
  exact ⟨_,.bool b⟩
 | .int i,v,u,h,r=>by
  simp only [cz] at h
  subst h
  obtain ⟨t,rfl⟩:=r
  exact ⟨_,.int i t⟩
 | .str x,v,u,h,r=>by
  simp only [cz] at h
  subst h
  obtain ⟨t,rfl⟩:=r
  exact ⟨_,.str x t⟩
 | .list ds,v,u,h,r=>by
  simp only [cz] at h
  obtain ⟨a,xs,rfl,h2,h3⟩:=h
  cases r
  obtain ⟨its,rv,⟨o,n,e,hc,_,hd⟩,_⟩:=I.list h2
  obtain ⟨as,q⟩:=Inv.readsAll I ds xs its h3 rv
  exact ⟨_,.list e hc hd (by simpa using q)⟩
 | .tuple ds,v,u,h,r=>by
  simp only [cz] at h
  obtain ⟨a,xs,rfl,h2,h3⟩:=h
  cases r
  obtain ⟨its,rv,⟨o,e,hc,n,hd⟩,_⟩:=I.tuple h2
  obtain ⟨as,q⟩:=Inv.readsAll I ds xs its h3 rv
  exact ⟨_,.tuple e hc hd (by simpa using q)⟩
 | .dict _,_,_,h,_=>by simp only [cz] at h
theorem Inv.readsAll (I:Inv X pins σ H s):∀ (ds:List yan) (xs:List V) (us:List yaj),jz X.K H ds xs→Vals xs us→∃ as,ReadsAll s.heap us ds as
 | [],xs,us,h,r=>by
  simp only [jz] at h
  subst h
  cases r
  exact ⟨_,.nil⟩
 | d::ds,xs,us,h,r=>by
  simp only [jz] at h
  obtain ⟨x,rr,rfl,h2,h3⟩:=h
  cases r with
  | cons r1 r2 =>
   obtain ⟨as,q1⟩:=Inv.reads I d x _ h2 r1
   obtain ⟨bs,q2⟩:=Inv.readsAll I ds rr _ h3 r2
   exact ⟨_,.cons q1 q2⟩
end
def J1 (K:yaH):List V→Hp→VK→Prop:=fun xs H Q=>∃ x c t u b,xs=[x,c]∧RelV c u∧(∀ u',RelV c u'→u'=u)∧jr K H x t∧zbT K t u=some b∧Q (.bl b) H
theorem Ax:b6 X (.builtin "isinstance") (J1 X.K):=by
 intro pins s σ H xs us Q I r h
 obtain ⟨x,c,t,u,b,rfl,rc,uc,ty,e,q⟩:=h
 obtain ⟨v,w',rfl,rx,rw'⟩:=vals2 r
 cases uc w' rw'
 exact xq I rx ty e fun tk=>⟨.bl b,H,I.tok tk,rfl,q⟩
theorem qG {n:String}:RelV (.ty n) (.type n)∧∀ u',RelV (.ty n) u'→u' = .type n:=⟨rfl,fun u' h=>h⟩
theorem zf {a:Addr}:RelV (.ref a) (.ref a)∧∀ u',RelV (.ref a) u'→u' = .ref a:=⟨rfl,fun u' h=>h⟩
theorem tO:gH X (binaryOp .Mult) (fun x y H Q=>∃ i n,x = .str i∧y = .int n∧MulOk i n∧Q (.str (Txt.mul i n)) H):=by
 intro pins s σ H x y v u Q I rx ry h
 obtain ⟨i,n,rfl,rfl,hk,q⟩:=h
 obtain ⟨t,rfl⟩:=rx
 obtain ⟨t',rfl⟩:=ry
 exact SB.mul hk fun t' k=>⟨.str _,H,I.tok _,⟨_,rfl⟩,q⟩
theorem Ey:Bm X (fun x lo hi H Q=>∃ y,x = .str y∧y.length≤yah∧Q (.str (Txt.slice y lo hi)) H):=by
 intro pins s σ H x v vl vu lo hi sl Q I rx hs pl pu h
 obtain ⟨y,rfl,hz,q⟩:=h
 obtain ⟨t,rfl⟩:=rx
 have fin:∀ (l u:Option (Int×Tok)),vl=partValue l→vu=partValue u→lo=l.map (·.1)→hi=u.map (·.1)→yas (model X.prog X.w) X.A (getItem (.str y t) (.ref sl)) (EP X pins σ Q) X.xe s:=fun l u e1 e2 e3 e4=>by
  obtain ⟨o,ho,hc,hd⟩:=hs
  refine wpAny_getItem_str_slice (l:=l) (u:=u) (st:=none) ⟨o,ho,hc,by rw [hd,e1,e2];rfl⟩ rfl ?_
  subst e3 e4
  exact post_val_or_str ⟨zco (Txt.slice_le y _ _) hz,fun t' k=>⟨.str _,H,I.tok _,⟨_,rfl⟩,q⟩⟩
 refine ⟨"str",_,PySem.F.slot_str_getitem.lookup,typeIs_str _ _ _,?_⟩
 cases pl with
 | none =>
  cases pu with
  | none=>exact fin none none rfl rfl rfl rfl
  | int j tj=>exact fin none (some (j,tj)) rfl rfl rfl rfl
 | int i ti =>
  cases pu with
  | none=>exact fin (some (i,ti)) none rfl rfl rfl rfl
  | int j tj=>exact fin (some (i,ti)) (some (j,tj)) rfl rfl rfl rfl
theorem fh:∀ {ys:List Str}{its:List yaj},Vals (ys.map V.str) its→StrsAre its ys
 | [],_,.nil=>.nil
 | y::ys,_,.cons r t=>by
  obtain ⟨tk,e⟩:=(show ∃ t,_=Value.str y t from r)
  subst e
  exact .cons y tk (fh t)
end
noncomputable def notStar:Expr→Bool
 | .Starred _ _=>false
 | _=>true
theorem aO {e:Expr} (es:List Expr) (env:Env) (h:notStar e=true):yap (e::es) env=(false,eval e env)::yap es env:=by
 cases e <;> first | rfl | cases h
theorem b8 {pos:Pos}{env:Env}:∀ (es:List Expr),es.all notStar=true→(yav pos (yap es env)).any (·.1)=false
 | [],_=>rfl
 | e::es,h=>by
  rw [zbZ,zbw] at h
  rw [aO es env h.1]
  show (false||(yav pos (yap es env)).any (·.1))=false
  rw [b8 es h.2];rfl
theorem qw {pos:Pos}{env:Env}:∀ (es:List Expr),es.all notStar=true→(yav pos (yap es env)).all (fun x => !x.1)=true
 | [],_=>rfl
 | e::es,h=>by
  rw [zbZ,zbw] at h
  rw [aO es env h.1]
  show (true&&(yav pos (yap es env)).all (fun x => !x.1))=true
  rw [qw es h.2];rfl
section
variable {X:Cx}{e:Expr}{es:List Expr}{te:TE}{t:TA}{x:Str}{p pos:Pos}{id T:String}{r:List V→Hp→VK→Prop}
theorem ay (ha:PE X e te) (hr:PA X es t) (hs:notStar e=true:=by rfl):PA X (e::es) (bN te t):=B5 ha hr (aO es X.env hs)
theorem n5 (hc:b6 X (.builtin id) r) (hg:Gl X x) (hm:X.mg x=none) (hv:bootBuiltins x=some (.builtin id)) (ha:PA X (e::es) t) (hn:x ≠ "__name__" := by decide +kernel) (hdb:(x==("__debug__" : Str))=false:=by decide +kernel)
  (hs:(e::es).all notStar=true:=by rfl):PE X (.Call (.Name x p) (e::es) [] pos) (yz r t):=by
 have h2:=hs
 rw [zbZ,zbw] at h2
 exact zA hc hg hm hv ha hn hdb (aO es X.env h2.1) (b8 es h2.2)
theorem x9 (hc:b6 X (.type T) r) (hg:Gl X x) (hm:X.mg x=none) (hv:bootBuiltins x=some (.type T)) (ha:PA X (e::es) t) (hn:x ≠ "__name__" := by decide +kernel) (hdb:(x==("__debug__" : Str))=false:=by decide +kernel)
  (hs:(e::es).all notStar=true:=by rfl):PE X (.Call (.Name x p) (e::es) [] pos) (yz r t):=by
 have h2:=hs
 rw [zbZ,zbw] at h2
 exact wU hc hg hm hv ha hn hdb (aO es X.env h2.1) (b8 es h2.2)
end
structure Src (K:yaH) (mg:Str→Option yaj) (x:Str) (ps:List Str) (st:Stmt):Prop where
 ex:∃ f fd,wA K x x st f fd∧mg x=some (.ref f)∧Binds K fd ps []
structure Def (P:yak) (w:yal) (K:yaH) (mg:Str→Option yaj) (base:Heap) (k:Nat) (x:Str) (ps:List Str) (sp:Sp):Prop where
 ex:∃ f fd,cJ P w K mg base oK k f fd ps sp∧mg x=some (.ref f)∧zbS K (.ref f)=true∧Binds K fd ps []
section
variable {P:yak}{w:yal}{K:yaH}{mg:Str→Option yaj}{base:Heap}
theorem Src.def {x:Str}{st:Stmt}{N ps:List Str}{k:Nat}{sp:Sp} (F:Src K mg x ps st) (S:aJ N ps (ao st)) (len:∀ vs H Q E,sp vs H Q E→vs.length=ps.length)
  (hbody:∀ (f:Addr) (cdv:yaj) (A:yam) (outer:List Env) (s:yai) (H:Hp) (vs:List V) (Q:VK) (E:XK),bE k (A.deeper (envOfC x (ao st) s.heap.objs.size f cdv))→sp vs H Q E →
   ∃ t,oH (gp oK P w K mg base N x (ao st) f cdv A outer s H E).FH (bA st) t∧t { nx:=fun _ H'=>Q .bh H',rt:=Q } (start N vs) H):Def P w K mg base (k+1) x ps sp:=by
 obtain ⟨f,fd,F,hm,hb⟩:=F.ex
 exact ⟨f,fd,F.ok S len (hbody f),hm,F.kp,hb⟩
end
theorem Def.imp {P:yak}{w:yal}{K:yaH}{mg:Str→Option yaj}{base:Heap}{k:Nat}{x:Str}{ps:List Str}{sp sp':Sp} (D:Def P w K mg base k x ps sp) (h:∀ vs H Q E,sp' vs H Q E→sp vs H Q E):Def P w K mg base k x ps sp':=by
 obtain ⟨f,fd,F,hm,hk,hb⟩:=D.ex
 exact ⟨f,fd,F.imp h,hm,hk,hb⟩
section
variable {X:Cx}{e:Expr}{es:List Expr}{t:TA}{x:Str}{p pos:Pos}{k:Nat}{ps:List Str}{sp:Sp}
theorem cy (D:Def X.prog X.w X.K X.mg X.base k x ps sp) (hr:bE k X.A) (hg:Gl X x) (hx:Passes oK X E0) (ha:PA X (e::es) t) (hdb:(x==("__debug__" : Str))=false:=by decide +kernel) (hs:(e::es).all notStar=true:=by rfl) :
  PE X (.Call (.Name x p) (e::es) [] pos) (yy sp [] E0 t):=by
 obtain ⟨f,fd,F,hm,hk,hb⟩:=D.ex
 have h2:=hs
 rw [zbZ,zbw] at h2
 exact vm F hr hg hm hk hb .nil hx ha hdb (aO es X.env h2.1) (b8 es h2.2)
theorem qO (T:String) (hg:Gl X x) (hm:X.mg x=none) (hv:bootBuiltins x=some (.type T)) (hn:x ≠ "__name__" := by decide +kernel) (hd:(x==("__debug__" : Str))=false:=by decide +kernel):PE X (.Name x pos) (tC (.ty T)) :=
 B4 hg hm hv rfl hn hd
end
noncomputable def IZ (scope:Scope) (N:List Str):Bool :=
 (match scope.kind with | .function=>true | _=>false)&&decide N.Nodup&&scope.names.all fun y=>y.2 != .cell&&scope.names.lookup y.1==some y.2
theorem cG {scope:Scope}{N:List Str} (h:IZ scope N=true):dO scope N:=by
 unfold IZ at h
 rw [zbw,zbw] at h
 obtain ⟨⟨h1,h2⟩,h3⟩:=h
 have h3:=zbr.mp h3
 refine ⟨?_,of_decide_eq_true h2,fun y hy => ?_,fun y hy => ?_⟩
 ·cases e:scope.kind <;> rw [e] at h1 <;> first | rfl | cases h1
 ·have:=h3 y hy
  rw [zbw] at this
  simpa using this.1
 ·have:=h3 y hy
  rw [zbw] at this
  simpa using this.2
section
variable {X:Cx}{K:yaH}
def BR (K:yaH):List V→Hp→VK→Prop:=fun xs H Q=>∃ p ys,xs=[.ref p]∧(cH K H p ys∨dQ K H p ys)∧∀ l,H l=none→Q (.ref l) (upd H l (.lst ys))
theorem rQ (hK:X.K=K:=by rfl):b6 X (.type "list") (BR K):=by subst hK;exact jm
variable {o e:Expr}{es:List Expr}{to:TE}{t:TA}{name:Str}{apos cpos:Pos}{T id:String}{r:V→List V→Hp→VK→Prop}
theorem Fl (pa:PlainAttrs T) (slot:Slot T name id) (hty:typeOf (.builtin id)=pure (.type "method_descriptor")) (hm:ya X id r) (ho:PE X o to) (ha:PA X (e::es) t)
  (hbase:attributeBase o name X.env (eval o X.env)=eval o X.env:=by rfl) (hs:(e::es).all notStar=true:=by rfl) (hfew:decide ((e::es).length+0+0<30)=true:=by rfl)
  (hline:(apos.endLine==cpos.line)=true:=by rfl) (hK:X.K=K:=by rfl):PE X (.Call (.Attribute o name apos) (e::es) [] cpos) (JN K T r to t):=by
 subst hK
 have h2:=hs
 rw [zbZ,zbw] at h2
 refine dZ pa slot hty hm ho ha hbase ?_ hline (aO es X.env h2.1) (b8 es h2.2)
 rw [qw _ hs]
 show (true&&true&&decide ((e::es).length+0+0<30))=true
 rw [hfew];rfl
end
end L2
set_option maxHeartbeats 400000
namespace PySem.W
open PySem PySem.Calls PyProof.Rows Builtin Builtin.ObjectAttr
noncomputable abbrev bI (C:Addr) (od:Option Addr) (vs:Array yaj):Obj:={ cls:=.ref C,dict:=od,data:=.fields vs }
section
variable {prog:yak}{w:yal}{A:yam}{E:yaj→yai→Prop}{s:yai}{K:Frag}{x C:Addr}{ox:Obj}{od:Option Obj}{name:Str}{expr:Bool}{Q:yaj→yai→Prop}
theorem mw {M:Model}{h:Heap}{T:String} (X:K.In h) (I:InstAt h x ox C od) (hs:subIn K (.ref C) (.type T)=some true):Looks M h (isInstance (.ref x) (.type T)) true:=by
 have L0:=I.type (M:=M)
 have L1:=looks_subIn (M:=M) X hs
 unfold isInstance
 exact L0.andThen L1
theorem Cr:builtinKind "BaseException.__getattribute__" = some .slot:=by decide +kernel
theorem zY:splitId "BaseException.__getattribute__" = some ("BaseException","__getattribute__"):=by decide +kernel
theorem As {M:Model}{nameV:yaj}{Q:Unit→yai→Prop} (LI:Looks M s.heap (isInstance (.ref x) (.type "BaseException")) true) (q:Q () s) :
  yas M A (checkBuiltinCall "BaseException.__getattribute__" ⟨[.ref x,nameV],[]⟩) Q E s:=by
 have ha:=F.args_bexc_ga (.ref x) nameV
 have h:=@check_slot M A E s "BaseException.__getattribute__" "BaseException" "__getattribute__" (.ref x) [nameV] [] Q Cr zY LI
 generalize argsOk "BaseException.__getattribute__" { pos:=[Value.ref x,nameV] }=p at ha h
 exact h ha q
theorem Cq {v:yaj} (X:K.In s.heap) (I:InstAt s.heap x ox C od) (hga:findIn K (.ref C) "__getattribute__" = some (some (.builtin "BaseException.__getattribute__"))) (hgn:findIn K (.ref C) "__getattr__" = some none)
  (hs:subIn K (.ref C) (.type "BaseException")=some true)
  (hf:findObj K C od name=some (.value v)) (hh:handedIn v=true) (h:Q v { s with toks:=s.toks+1 }):yas (model prog w) A (getAttr (.ref x) name expr) Q E s:=by
 obtain ⟨hp,g,d,t,os⟩:=s
 have L0:=I.type (M:=model prog w)
 have L1:=looks_findIn (M:=model prog w) X hga
 have L2:=looks_findIn (M:=model prog w) X hgn
 have L3:=looks_find (M:=model prog w) X I hf
 have LI:=mw (M:=model prog w) X I hs
 have hx0:(expr&&onTheHeap (Value.builtin "BaseException.__getattribute__"))=false:=by cases expr <;> rfl
 have hx2:(Value.builtin "BaseException.__getattribute__" == Value.builtin "object.__getattribute__")=false:=by decide +kernel
 have hb:=F.excAttr_ValueError.ga.bind (.ref x)
 unfold getAttr getAttrBy
 refine yaa (wpAny_mkText (yad (yaa (L0.at (yaa (L1.at ?_))))))
 show yas _ _ (if (onTheHeap (Value.ref C)&&Value.builtin "BaseException.__getattribute__" == Value.builtin "object.__getattribute__")=true then _ else _) _ _ _
 rw [hx2,Bool.and_false,yIn (by decide)]
 unfold getAttrByItsOwn hookBefore
 show yas _ _ (typeLookup (.ref C) "__getattr__" >>= _) _ _ _
 refine yaa (L2.at (yaa (wpAny_attempt (yad ?_))))
 unfold callGetattribute
 rw [hx0,yIn (by decide)]
 unfold boundAndCalled
 rw [hb]
 refine yaa (yab ?_)
 refine yaG (codeAny_call_builtin F.excAttr_ValueError.ga.plain F.entry_bexc_ga ?_)
 show yas _ _ (checkBuiltinCall "BaseException.__getattribute__" ⟨[.ref x,.str name t],[]⟩) _ _ _
 refine As ?_ ?_
 ·exact LI
 unfold Builtin.«object.__getattribute__»
 refine yaa (yab (yaa (yab (yaa (L0.at (yaa (L3.at ?_)))))))
 refine yab ?_
 show yas _ _ (handedOut v) _ _ _
 rw [handedOut_of hh];exact yab h
noncomputable def jX:List yaj→Bool
 | .ref _::r=>jX r
 | l=>l==[.type "ValueError",.type "Exception",.type "BaseException",.type "object"]
theorem pB (self:yaj):refuseLoop self "__setattr__" [.type "ValueError",.type "Exception",.type "BaseException",.type "object"]=pure ():=by kernel_rfl
theorem jD:jX []=false:=by decide +kernel
theorem sQ {n:String}{r:List yaj} (e:jX (.type n::r)=true):(.type n::r)=[.type "ValueError",.type "Exception",.type "BaseException",.type "object"]:=by
 have e':((.type n::r:List yaj)==[.type "ValueError",.type "Exception",.type "BaseException",.type "object"])=true:=e
 exact beq_iff_eq.mp e'
theorem lE:∀ {l:List yaj},jX l=true→l=[.type "ValueError",.type "Exception",.type "BaseException",.type "object"]∨∃ c r,l = .ref c::r∧jX r=true
 | [],e=>by rw [jD] at e;cases e
 | .ref c::r,e=>.inr ⟨c,r,rfl,e⟩
 | .type n::r,e=>.inl (sQ e)
 | .none::r,e=>.inl (beq_iff_eq.mp (show ((.none::r:List yaj)==_)=true from e))
 | .bool b::r,e=>.inl (beq_iff_eq.mp (show ((.bool b::r:List yaj)==_)=true from e))
 | .int b t::r,e=>.inl (beq_iff_eq.mp (show ((.int b t::r:List yaj)==_)=true from e))
 | .float b t::r,e=>.inl (beq_iff_eq.mp (show ((.float b t::r:List yaj)==_)=true from e))
 | .str b t::r,e=>.inl (beq_iff_eq.mp (show ((.str b t::r:List yaj)==_)=true from e))
 | .bytes b t::r,e=>.inl (beq_iff_eq.mp (show ((.bytes b t::r:List yaj)==_)=true from e))
 | .builtin b::r,e=>.inl (beq_iff_eq.mp (show ((.builtin b::r:List yaj)==_)=true from e))
 | v::r,e=>by
  first
   | (cases v <;> first | exact .inl (beq_iff_eq.mp e) | exact .inr ⟨_,_,rfl,e⟩)
theorem qH (self:yaj):∀ {l:List yaj},jX l=true→refuseLoop self "__setattr__" l=pure ():=by
 intro l
 induction l with
 | nil=>intro e;rw [jD] at e;cases e
 | cons v r ih =>
  intro e
  rcases lE e with e | ⟨c,r',e1,e2⟩
  ·rw [e];exact pB self
  ·cases e1
   rw [refuseLoop_ref];exact ih e2
theorem yk:∀ {l:List yaj},jX l=true→l.contains (.type "object")=true∧l.isEmpty=false:=by
 intro l
 induction l with
 | nil=>intro e;rw [jD] at e;cases e
 | cons v r ih =>
  intro e
  refine ⟨?_,rfl⟩
  rcases lE e with e | ⟨c,r',e1,e2⟩
  ·rw [e];decide +kernel
  ·cases e1
   rw [zaN,(ih e2).1,zct]
noncomputable def jf (K:Frag) (C:Addr):Bool:=(clsIn K C).any fun cd=>jX cd.mro&&cd.hasDict
theorem B7 {name:Str}{tk:Tok}{v:yaj}{R:Result→yai→Prop} (X:K.In s.heap) (I:InstAt s.heap x ox C od) (hp:jf K C=true) (ha:findIn K (.ref C) name=some none)
  (h:yas (model prog w) A.in1 (storeInOwnDict (.ref x) (.ref C) (.str name tk) name v false)
   (fun fin s'=>match fin with | .done f=>R (.ok f) s' | .again c'=>c'.quiet=true∧codeAny (model prog w) A c' R s') (fun e s'=>R (.error e) s') s) :
  codeAny (model prog w) A (.call (.builtin "object.__setattr__") ⟨[.ref x,.str name tk,v],[]⟩) R s:=by
 have SF:=PySem.F.store_object
 obtain ⟨cd,hc,ho⟩:=any_some hp
 rw [zbw] at ho
 obtain ⟨t1,t2⟩:=yk ho.1
 have sub:Looks (model prog w) s.heap (isInstance (.ref x) (.type "object")) true:=I.type.andThen (looks_mroIn X (by unfold mroIn;rw [hc,zby,yIn (by rw [t2];decide),t1]))
 refine codeAny_call_builtin SF.slot.plain SF.entry (@check_slot (model prog w) _ _ s "object.__setattr__" "object" "__setattr__" (.ref x) [.str name tk,v] [] _ SF.kind SF.split sub (SF.args (.ref x) (.str name tk) v) ?_)
 have hm:Looks (model prog w) s.heap (mroOf (.ref C)) cd.mro:=(looks_clsIn X hc).andThen .now
 rw [osa_eq,refuse_eq]
 refine yaa (yaa (I.type.here (yaa (hm.here ?_))))
 rw [qH _ ho.1]
 refine yab (yaa (I.type.here (yaa ((looks_findIn X ha).here (yaa (yab ?_))))))
 exact h
theorem Cb {h:Heap}{a:Addr} (e:h.get? a=some emptyDict):h.Ns1 a fun _=>none :=
 ⟨emptyDict,#[],_,e,rfl,fun y hy=>absurd hy (by simp),by first | exact fun _ _ hi=>absurd hi (by simp) | simp [UniqKeys] | (unfold UniqKeys;simp) ,fun name=>rfl⟩
theorem yK {name:Str}{v:yaj}{vs:Array yaj}{Q:Unit→yai→Prop} (X:K.In s.heap) (hx:s.heap.get? x=some (bI C none vs))
  (hs:findIn K (.ref C) "__setattr__" = some (some (.builtin "object.__setattr__"))) (hp:jf K C=true) (ha:findIn K (.ref C) name=some none)
  (h:∀ h',h'.Ns1 s.heap.objs.size (fun y=>if y=name then some v else none)→h'.get? x=some (bI C (some s.heap.objs.size) vs)→(∀ b o,b≠x→s.heap.get? b=some o→h'.get? b=some o)→Q () { s with heap:=h',toks:=s.toks+2 }) :
  yas (model prog w) A (setAttr (.ref x) name v) Q E s:=by
 have I:InstAt s.heap x (bI C none vs) C none:=⟨hx,rfl,rfl,trivial⟩
 refine set_plain X I hs (B7 (s:={ s with toks:=s.toks+1 }) X I hp ha ?_)
 obtain ⟨cd,hc,hd'⟩:=any_some hp
 rw [zbw] at hd'
 have hlt:x<s.heap.objs.size:=zcw hx
 refine yaa (yab (yaa (yaa (wpAny_loadPart hx (yaa (PySem.W.Looks.here (s:={ s with toks:=s.toks+1 }) (PySem.W.looks_clsIn X hc) ?_))))))
 rw [hd'.2]
 have hx2:(s.heap.push emptyDict).get? x=some (bI C none vs):=zan _ hx
 refine yaa (wpAny_alloc (yaa (wpAny_update hx2 ?_)))
 have hx3:((s.heap.push emptyDict).update x fun o=>{ o with dict:=some s.heap.objs.size }).get? x=some (bI C (some s.heap.objs.size) vs):=by rw [zaw _ hx2 rfl]
 have hd3:((s.heap.push emptyDict).update x fun o=>{ o with dict:=some s.heap.objs.size }).get? s.heap.objs.size=some emptyDict:=by
  rw [zao _ _ (zcn hlt)]
  exact zaK _ rfl
 have hk3:∀ b o,b≠x→s.heap.get? b=some o→((s.heap.push emptyDict).update x fun o=>{ o with dict:=some s.heap.objs.size }).get? b=some o:=fun b o hb e=>by
  rw [zao _ _ (Ne.symm hb)]
  exact zan _ e
 refine yab (yaa (yab (yaa ?_)))
 refine wpAny_nsSet1 (s:={ s with heap:=(s.heap.push emptyDict).update x fun o=>{ o with dict:=some s.heap.objs.size },toks:=s.toks+1 }) (Cb hd3) fun h' hn2 hs2 => ?_
 obtain ⟨oD,esD,epD,hoD,KW,hcD⟩:=hn2.count (PySem.Within.cons (ns:=[]) name v (fun y hy=>absurd rfl hy))
 refine yaa (wpAny_lookBehind hoD (by rw [KW];exact pastItsLine_dict (zco hcD (by rw [zbo,yag];simp))) ?_)
 exact yab (h _ hn2 ((hs2.2 _ (zcn hlt)).trans hx3) fun b o hb e=>(hs2.2 b (zcn (zcw e))).trans (hk3 b o hb e))
end
section
variable {prog:yak}{w:yal}{A:yam}{E:yaj→yai→Prop}{s:yai}{K:Frag}{x C:Addr}{ox:Obj}{od:Option Obj}
variable {nm q:Str}{N:Addr}{bs bm:List yaj}{hdct:Bool}{sn:List Str}{sub:List yaj}{ab:Bool}{col:Option Bool}{dd:Option Addr}{k0 k1 k2 k3 k5:Option yaj}{newId:String}
theorem Ar {M:Model}{hp:Heap}{g:Array yax}{d:Drawn}{t:Nat}{os:yaF}{ws:List yaj}{Q:Unit→yai→Prop} (hC:hp.get? C=some (excClassObj nm q C N bs bm hdct sn sub ab col dd k0 k1 k2 k3 k5 newId))
  (he:hp.get? x=some ox) (hcls:ox.cls = .ref C) (hB:bm.contains (.type "ValueError")=true) (hq:Q () ⟨hp,g,d,t,os⟩) :
  yas M A (checkBuiltinCall "ValueError.__init__" ⟨.ref x::ws,[]⟩) Q E ⟨hp,g,d,t,os⟩:=by
 have F:=PySem.F.excCall_ValueError
 have hcB:(Value.ref C::bm).contains (.type "ValueError")=true:=by rw [zaN,hB,zct]
 have Kg:=F.noStar
 simp only [checkBuiltinCall,F.initKind,F.initSplit,F.initRow]
 repeat (first | (with_reducible refine yae he ?_;rw [hcls]) | with_reducible refine yae hC ?_ | (with_reducible refine wpAny_isSubtype_exc hC ?_;rw [hcB]) | wp_step)
 refine wpAny_onRaise ?_
 rw [show ∀ (a b:String) (n:Nat),Bind.check ⟨.positional,"*","ValueError",.self,[⟨"args",.varPos,false⟩]⟩ a b n (List.map (fun x=>x.fst) ({ pos:=Value.ref x::ws }:Args).kw)=pure () from
  fun a b n=>check_star_args _ _ _ _ _ _]
 exact yab hq
theorem zS {ws:List yaj}{d0:Option Addr}{t0:Addr}{a1 a2 a3 a4 a5:yaj}{Q:yaj→yai→Prop} (hC:s.heap.get? C=some (excClassObj nm q C N bs bm hdct sn sub ab col dd k0 k1 k2 k3 k5 newId)) (hB:bm.contains (.type "ValueError")=true)
  (hx:s.heap.get? x=some (bI C d0 #[.ref t0,a1,a2,a3,a4,a5])) (hz:ws.length≤yah)
  (h:∀ h',h'.get? x=some (bI C d0 #[.ref s.heap.objs.size,a1,a2,a3,a4,a5])→(∀ b o,b≠x→s.heap.get? b=some o→h'.get? b=some o)→Q .none { s with heap:=h' }) :
  yas (model prog w) A (call (.builtin "ValueError.__init__") (.ref x::ws)) Q E s:=by
 have F:=PySem.F.excCall_ValueError
 obtain ⟨hp,g,d,t,os⟩:=s
 refine yaG (codeAny_call_builtin F.init.plain F.initEntry (Ar hC hx rfl hB ?_))
 have hx:hp.get? x=some (bI C d0 #[.ref t0,a1,a2,a3,a4,a5]):=hx
 wp_walk
 refine h _ ?_ (fun b o hb e => ?_)
 ·rw [zaw _ (zan _ hx) rfl];rfl
 ·rw [zao _ _ (Ne.symm hb)];exact zan _ e
theorem CL {hp:Heap}{g:Array yax}{d:Drawn}{t:Nat}{os:yaF}{M:Model}{rest:List yaj}{Q:Unit→yai→Prop} (hC:hp.get? C=some (excClassObj nm q C N bs bm hdct sn sub ab col dd k0 k1 k2 k3 k5 "ValueError.__new__"))
  (hB:bm.contains (.type "ValueError")=true) (hq:Q () ⟨hp,g,d,t,os⟩):yas M A (checkBuiltinCall "ValueError.__new__" ⟨.ref C::rest,[]⟩) Q E ⟨hp,g,d,t,os⟩:=by
 have Fn:=PySem.F.excBase_ValueError
 have Ir:(Value.ref C::bm).contains (.type "ValueError")=true:=by rw [zaN,hB,zct]
 have hstar:=Fn.noStar
 simp only [checkBuiltinCall,Fn.newKind,Fn.newSplit,Fn.newRow]
 repeat (first | refine yae hC ?_ | (refine wpAny_isSubtype_exc hC ?_;rw [Ir]) | refine wpAny_staticBase_exc hC ?_ | refine wpAny_madeBy_exc hC ?_ | simp only [bne_self_eq_false,zaX,if_false] | wp_step)
 exact hq
theorem Cd {hp:Heap}{g:Array yax}{d:Drawn}{t:Nat}{os:yaF}{R:Result→yai→Prop}{rest:List yaj} (hC:hp.get? C=some (excClassObj nm q C N bs bm hdct sn sub ab col dd k0 k1 k2 k3 k5 "ValueError.__new__"))
  (hB:bm.contains (.type "ValueError")=true) (hA:bm.contains (.type "AttributeError")=false) (hN:bm.contains (.type "NameError")=false) (hz:rest.length≤yah)
  (hq:R (.ok (.ret (.ref (hp.objs.size+1)))) ⟨(hp.push { cls:=.type "tuple",data:=.seq rest.toArray }).push (bI C none #[.ref hp.objs.size,.none,.none,.none,.bool false,.none]),g,d,t,os⟩) :
  codeAny (model prog w) A (.builtin "ValueError.__new__" ⟨.ref C::rest,[]⟩) R ⟨hp,g,d,t,os⟩:=by
 have Fn:=PySem.F.excBase_ValueError
 have KU:=Fn.ends
 have hcB:(Value.ref C::bm).contains (.type "ValueError")=true:=by rw [zaN,hB,zct]
 have hcA:(Value.ref C::bm).contains (.type "AttributeError")=false:=by rw [zaN,hA];rfl
 have hcN:(Value.ref C::bm).contains (.type "NameError")=false:=by rw [zaN,hN];rfl
 refine codeAny_builtinAt Fn.entry ?_
 unfold Builtin.«BaseException.__new__»
 refine wpAt_bind ?_
 show wpAt _ _ _ (stack >>= _) _ _ _
 refine wpAt_bind (wpAt_stack fun p below=>wpAt_of_wpAny ?_)
 wp_walk
 refine wpAt_of_wpAny ?_
 rw [Fn.owner]
 repeat (first | with_reducible refine wpAny_madeHere_exc Fn.canon hC ?_ | with_reducible refine yae hC ?_ | (with_reducible refine wpAny_isSubtype_exc hC ?_;first | rw [hcB] | rw [hcA] | rw [hcN]) | wp_step)
 show R _ _
 rw [zbV]
 exact hq
theorem zJ {hp:Heap}{g:Array yax}{d:Drawn}{t:Nat}{os:yaF}{R:Result→yai→Prop}{rest:List yaj}{f:Addr} (hC:hp.get? C=some (excClassObj nm q C N bs bm hdct sn sub ab col dd k0 k1 k2 k3 k5 "ValueError.__new__"))
  (hB:bm.contains (.type "ValueError")=true) (hA:bm.contains (.type "AttributeError")=false) (hN:bm.contains (.type "NameError")=false) (hz:rest.length≤yah)
  (hi:Looks (model prog w) hp (typeLookup (.ref C) "__init__") (some (.ref f))) (hb:∀ self,Looks (model prog w) hp (bindSpecial (.ref f) self) (.ref f,[self]))
  (hq:codeAny (model prog w) (A.under (.builtin "type.__call__" ⟨.ref C::rest,[]⟩)) (.call (.ref f) ⟨.ref (hp.objs.size+1)::rest,[]⟩) (InitBack (hp.objs.size+1) R)
   ⟨(hp.push { cls:=.type "tuple",data:=.seq rest.toArray }).push (bI C none #[.ref hp.objs.size,.none,.none,.none,.bool false,.none]),g,d,t,os⟩) :
  codeAny (model prog w) A (.call (.ref C) ⟨rest,[]⟩) R ⟨hp,g,d,t,os⟩:=by
 have Fn:=PySem.F.excBase_ValueError
 have f1:=tc_lookup
 have f2:=tc_bind (.ref C)
 have hT:(⟨hp,g,d,t,os⟩:yai).TypeIs (.ref C) "type" := ⟨_,hC,rfl⟩
 refine codeAny_of_tree ?_
 show yas _ _ (callAny (.ref C) _) _ _ _
 repeat (any_goals (first | assumption | with_reducible refine yae hC ?_ | wp_step))
 refine ⟨rfl,?_⟩
 refine codeAny_call_builtin_at (Code.quiet_builtin _ (by decide +kernel)) entry_typeCall (wpAny_check_type_call_sub hC ?_)
 repeat (first | with_reducible refine yae hC ?_ | with_reducible refine wpAny_madeBy_exc hC ?_ | wp_step)
 refine codeAny_call_builtin_code (Code.quiet_builtin _ Fn.quiet) (CL hC hB ?_)
 refine Cd hC hB hA hN hz ?_
 show yas _ _ _ _ _ _
 have k:∀ b o,hp.get? b=some o→((hp.push { cls:=.type "tuple",data:=.seq rest.toArray }).push (bI C none #[.ref hp.objs.size,.none,.none,.none,.bool false,.none])).get? b=some o:=fun b o e=>zan _ (zan _ e)
 have hx:((hp.push { cls:=.type "tuple",data:=.seq rest.toArray }).push (bI C none #[.ref hp.objs.size,.none,.none,.none,.bool false,.none])).get? (hp.objs.size+1)=some (bI C none #[.ref hp.objs.size,.none,.none,.none,.bool false,.none]):=by heap_get
 have self:Looks (model prog w) hp (isSubtype (.ref C) (.ref C)) true:=by
  intro A' Q' E' s' k' q'
  obtain ⟨hh,g',d',t',os'⟩:=s'
  refine wpAny_isSubtype_exc (k' _ _ hC) ?_
  rw [show (Value.ref C::bm).contains (.ref C)=true by simp]
  exact q'
 have t1:Looks (model prog w) ((hp.push { cls:=.type "tuple",data:=.seq rest.toArray }).push (bI C none #[.ref hp.objs.size,.none,.none,.none,.bool false,.none])) (typeOf (.ref (hp.objs.size+1))) (.ref C):=(Looks.ld hx).andThen .now
 have s1:=self.keeps k
 have i1:=hi.keeps k
 have b1:=(hb (.ref (hp.objs.size+1))).keeps k
 unfold isInstance callSpecial? specialOf
 show yas (model prog w) (A.under (Code.builtin "type.__call__" ⟨.ref C::rest,[]⟩)) _ _ _ ⟨(hp.push { cls:=.type "tuple",data:=.seq rest.toArray }).push (bI C none #[.ref hp.objs.size,.none,.none,.none,.bool false,.none]),g,d,t,os⟩
 repeat (first | with_reducible refine yaG ?_ | lk)
 refine yay hq fun r s' z => ?_
 rcases r with e | (v | _ | _ | _) <;> first | exact z | exact z.elim | skip
 obtain ⟨rfl,z⟩:=z
 exact yab (yab z)
end
end PySem.W
set_option maxHeartbeats 1000000
namespace L2
open PySem PySem.Spec PyProof.Rows
noncomputable def XO (C:Addr) (d0:Option Addr) (x:Addr):HO:=.ext fun h=>∃ (t0:Addr) (a1 a2 a3 a4 a5:yaj),h.get? x=some (PySem.W.bI C d0 #[.ref t0,a1,a2,a3,a4,a5])
noncomputable def rZ (fs:List (Str×V)) (dx:Addr):HO:=.ext fun h=>fs.length≤900∧∃ mA,h.Ns1 dx mA∧(∀ f,eY (fs.lookup f) (mA f))∧PySem.Within mA (fs.map (·.1))
section
variable {P:yak}{w:yal}{H:Hp}{h:Heap}
theorem XO.ok {C x:Addr}{d0:Option Addr}{t0:Addr}{a1 a2 a3 a4 a5:yaj} (e:h.get? x=some (PySem.W.bI C d0 #[.ref t0,a1,a2,a3,a4,a5])):aQ P w H h x (XO C d0 x) :=
 ⟨⟨t0,a1,a2,a3,a4,a5,e⟩,⟨_,e⟩,fun h1 h2 ⟨t,b1,b2,b3,b4,b5,q⟩ k=>⟨t,b1,b2,b3,b4,b5,k _ q⟩⟩
theorem XO.get {C x:Addr}{d0:Option Addr} (ok:e9 P w H h) (e:H x=some (XO C d0 x)):∃ (t0:Addr) (a1 a2 a3 a4 a5:yaj),h.get? x=some (PySem.W.bI C d0 #[.ref t0,a1,a2,a3,a4,a5]):=(ok x _ e).1
theorem rZ.ok {dx:Addr}{fs:List (Str×V)}{mA:Str→Option yaj} (l:fs.length≤900) (n:h.Ns1 dx mA) (r:∀ f,eY (fs.lookup f) (mA f)) (wi:PySem.Within mA (fs.map (·.1))):aQ P w H h dx (rZ fs dx) :=
 ⟨⟨l,mA,n,r,wi⟩,let ⟨o,_,_,e,_⟩:=n;⟨o,e⟩,fun h1 h2 ⟨l,m,n,r,wi⟩ k=>⟨l,m,n.at k,r,wi⟩⟩
theorem rZ.get {dx:Addr}{fs:List (Str×V)} (ok:e9 P w H h) (e:H dx=some (rZ fs dx)):fs.length≤900∧∃ mA,h.Ns1 dx mA∧(∀ f,eY (fs.lookup f) (mA f))∧PySem.Within mA (fs.map (·.1)):=(ok dx _ e).1
end
noncomputable def excIn (K:yaH) (C:Addr):Bool:=match K.lookup C with
 | some ⟨.type T,_,.cls cd,sl⟩=>T == "type" && (match cd.mro with | .ref D::bm=>D==C&&bm.contains (.type "ValueError") && !bm.contains (.type "AttributeError") && !bm.contains (.type "NameError") | _=>false) && !cd.hasDel &&
   (match sl.toList with | [_,_,_,_,some (.builtin n),_]=>n == "ValueError.__new__" | _=>false)
 | _=>false
structure XCls (K:yaH) (C:Addr):Prop where
 ex:excIn K C=true
 ga:zbR K (.ref C) "__getattribute__" = some (some (.builtin "BaseException.__getattribute__"))
 gn:zbR K (.ref C) "__getattr__" = some none
 sa:zbR K (.ref C) "__setattr__" = some (some (.builtin "object.__setattr__"))
 ov:PySem.W.jf K C=true
 sb:zcg K (.ref C) (.type "BaseException")=some true
structure Ku (K:yaH) (C f:Addr):Prop extends XCls K C where
 init:zbR K (.ref C) "__init__" = some (some (.ref f))
 fn:PySem.W.isFn K (.ref f)=true
 kp:zbS K (.ref C)=true
theorem pT {K:yaH}{C:Addr} (e:excIn K C=true):∃ nm q N bs bm hdct sn sub ab col dd k0 k1 k2 k3 k5,K.lookup C=some (excClassObj nm q C N bs bm hdct sn sub ab col dd k0 k1 k2 k3 k5 "ValueError.__new__") ∧
  bm.contains (.type "ValueError")=true∧bm.contains (.type "AttributeError")=false∧bm.contains (.type "NameError")=false:=by
 unfold excIn at e
 split at e
 ·rename_i T dd cd sl ho
  rw [zbw,zbw,zbw] at e
  obtain ⟨⟨⟨e1,e2⟩,e3⟩,e4⟩:=e
  obtain ⟨nm,bs,mro,ns,q,hdct,sn,sub,ab,col,hd⟩:=cd
  dsimp only at e2 e3
  split at e2
  ·rename_i _ D bm
   rw [zbw,zbw,zbw] at e2
   obtain ⟨⟨⟨f1,f2⟩,f3⟩,f4⟩:=e2
   split at e4
   ·rename_i k0 k1 k2 k3 n k5 hs
    have hsl:sl = #[k0,k1,k2,k3,some (.builtin n),k5]:=by
     rw [← zaE (xs:=sl),hs]
    have e1:T = "type" := beq_iff_eq.mp e1
    have f1:D=C:=beq_iff_eq.mp f1
    have e4:n = "ValueError.__new__" := beq_iff_eq.mp e4
    have e3:hd=false:=by simpa using e3
    subst e1 f1 e4 e3 hsl
    exact ⟨nm,q,ns,bs,bm,hdct,sn,sub,ab,col,dd,k0,k1,k2,k3,k5,ho,f2,by simpa using f3,by simpa using f4⟩
   ·cases e4
  ·cases e2
 ·cases e
section
variable {X:Cx}{pins:List (Addr×Obj)}{σ:St}{H:Hp}{s:yai}
theorem Cp {b:Bool}{A:yam}{E:yaj→yai→Prop}{x C dx:Addr}{fs:List (Str×V)}{f:Str}{v:V}{Q:yaj→yai→Prop} (I:Inv X pins σ H s) (e:H x=some (XO C (some dx) x)) (e2:H dx=some (rZ fs dx)) (c:XCls X.K C)
  (n:zbR X.K (.ref C) f=some none) (l:fs.lookup f=some v) (h:∀ u s',Inv X pins σ H s'→RelV v u→Q u s'):yas (model X.prog X.w) A (getAttr (.ref x) f b) Q E s:=by
 obtain ⟨t0,a1,a2,a3,a4,a5,hx⟩:=XO.get I.hok e
 obtain ⟨_,mA,hn,r,_⟩:=rZ.get I.hok e2
 obtain ⟨od,ho,hl⟩:=gT hn
 obtain ⟨u,hu,ru⟩:=eY.some_of (v:=v) (o:=mA f) (by rw [← l];exact r f)
 obtain ⟨cd,hc,hd'⟩:=PySem.W.any_some c.ov
 rw [zbw] at hd'
 have J:PySem.W.InstAt s.heap x (PySem.W.bI C (some dx) #[.ref t0,a1,a2,a3,a4,a5]) C (some od):=⟨hx,rfl,rfl,ho⟩
 have hh:PySem.W.hasDictIn X.K C=true:=by unfold PySem.W.hasDictIn;rw [hc];exact hd'.2
 exact PySem.W.Cq I.gj J c.ga c.gn c.sb (PySem.W.findObj_own hh n rfl (by rw [hl,hu])) (xy ru) (h u _ (I.tok _) ru)
theorem zo {f g:Str}{y:V}{u:yaj}{fs:List (Str×V)}{mA:Str→Option yaj} (ry:RelV y u) (r:∀ g,eY (fs.lookup g) (mA g)):eY ((lU f y fs).lookup g) (if g=f then some u else mA g):=by
 rw [j3]
 by_cases q:g=f
 ·rw [yIp q,yIp q];exact ry
 ·rw [yIn q,yIn q];exact r g
theorem BU {f:Str}{y:V}{u:yaj}{fs:List (Str×V)}{mA:Str→Option yaj} (wi:PySem.Within mA (fs.map (·.1))):PySem.Within (fun g=>if g=f then some u else mA g) ((lU f y fs).map (·.1)):=fun g hg=>by
 by_cases q:g=f
 ·rw [q];exact (jO f y fs).1
 ·refine (jO f y fs).2 g (wi g fun z=>hg ?_)
  show (if g=f then some u else mA g)=none
  rw [yIn q];exact z
end
def yq (K:yaH) (ta:TE) (f:Str):TE:=fun σ H Q=>ta σ H fun x H1=>∃ a C dx fs v,x = .ref a∧H1 a=some (XO C (some dx) a)∧H1 dx=some (rZ fs dx)∧XCls K C∧zbR K (.ref C) f=some none∧fs.lookup f=some v∧Q v H1
section
variable {X:Cx}{o e value:Expr}{es:List Expr}{f d:Str}{pos pos' apos p:Pos}{ta tv:TE}{t:TA}{K:yaH}
theorem B0 (he:PE X e ta) (hb:attributeBase e f X.env (eval e X.env)=eval e X.env:=by rfl) (hK:X.K=K:=by rfl):PE X (.Attribute e f pos) (yq K ta f):=by
 subst hK
 intro pins s σ H Q I h
 refine CO hb (bJ (he pins s σ H _ I h) fun u s1 hh => ?_)
 obtain ⟨x,H1,I1,rx,a,C,dx,fs,v,ex,ea,ed,c,n,l,q⟩:=hh
 subst ex
 obtain rfl:u=Value.ref a:=rx
 exact Cp I1 ea ed c n l fun u' s2 I2 ru=>⟨v,H1,I2,ru,q⟩
structure DY (K:yaH) (B:Addr):Prop where
 rd:PySem.W.readsIn K B (.type "type")=true
 fc:PySem.W.findCls K (.ref B) (.type "type") "__init__" = some (.val (.builtin "ValueError.__init__"))
 ga:zbl K (.ref B) "__getattribute__" = some (some (.builtin "type.__getattribute__"))
end
end L2
namespace PySem.W
open PySem PySem.Calls PyProof.Rows Builtin Builtin.ObjectAttr
section
variable {prog:yak}{w:yal}{A:yam}{E:yaj→yai→Prop}{s:yai}{K:Frag}{x C:Addr}{ox:Obj}{od:Option Obj}
theorem xF {Q:Option yaj→yai→Prop} (X:K.In s.heap) (I:InstAt s.heap x ox C od) (hga:findIn K (.ref C) "__getattribute__" = some (some (.builtin "BaseException.__getattribute__"))) (hgn:findIn K (.ref C) "__getattr__" = some none)
  (hs:subIn K (.ref C) (.type "BaseException")=some true) (hf:findObj K C od "__class__" = some (.bind (.builtin "getset_descriptor.__get__") (.builtin "object.__class__"))) (hm:mroIn K C (.type "object")=some true)
  (h:Q (some (.ref C)) { s with toks:=s.toks+1 }):yas (model prog w) A (getAttr? (.ref x) "__class__") Q E s:=by
 obtain ⟨hp,g,d,t,os⟩:=s
 have L0:=I.type (M:=model prog w)
 have L1:=looks_findIn (M:=model prog w) X hga
 have L2:=looks_findIn (M:=model prog w) X hgn
 have L3:=looks_find (M:=model prog w) X I hf
 have LI:=mw (M:=model prog w) X I hs
 have hx2:(Value.builtin "BaseException.__getattribute__" == Value.builtin "object.__getattribute__")=false:=by decide +kernel
 have hb:=F.excAttr_ValueError.ga.bind (.ref x)
 unfold getAttr? getAttrBy? getAttrBy
 refine yaa (wpAny_mkText (yaa (wpAny_attempt (yad (yaa (L0.at (yaa (L1.at ?_))))))))
 show yas _ _ (if (onTheHeap (Value.ref C)&&Value.builtin "BaseException.__getattribute__" == Value.builtin "object.__getattribute__")=true then _ else _) _ _ _
 rw [hx2,Bool.and_false,yIn (by decide)]
 unfold getAttrByItsOwn hookBefore
 show yas _ _ (typeLookup (.ref C) "__getattr__" >>= _) _ _ _
 refine yaa (L2.at (yaa (wpAny_attempt (yad ?_))))
 unfold callGetattribute
 rw [show (false&&onTheHeap (Value.builtin "BaseException.__getattribute__"))=false from rfl,yIn (by decide)]
 unfold boundAndCalled
 rw [hb]
 refine yaa (yab ?_)
 refine yaG (codeAny_call_builtin F.excAttr_ValueError.ga.plain F.entry_bexc_ga ?_)
 show yas _ _ (checkBuiltinCall "BaseException.__getattribute__" ⟨[.ref x,.str "__class__" t],[]⟩) _ _ _
 refine As ?_ ?_
 ·exact LI
 unfold Builtin.«object.__getattribute__»
 refine yaa (yab (yaa (yab (yaa (L0.at (yaa (L3.at ?_)))))))
 show yas _ _ (holding [.builtin "object.__class__"] (call (.builtin "getset_descriptor.__get__") [.builtin "object.__class__",.ref x,.ref C]) >>= ret) _ _ _
 refine yaa (yad (yaG (class_get (s:=⟨hp,g,d,t+1,os⟩) (ox:=ox) (od:=od) X I hm ?_)))
 refine yab ?_
 show yas _ _ (handedOut (.ref C)) _ _ _
 exact handed_on rfl (yab h)
theorem rm {a g:yaj}{name:Str} (hc:(clsIn K C).isSome=true) (ha:findIn K (.ref C) name=some (some a)) (hg:specialIn K a "__get__" = some (some g)) (ht:takesIn K a=some true):findObj K C od name=some (.bind g a):=by
 obtain ⟨cd,hc⟩:=Option.isSome_iff_exists.mp hc
 unfold findObj
 rw [hc,zby,ha,zby]
 dsimp only
 rw [hg,zby]
 dsimp only
 rw [ht,zby]
theorem qX (hov:jf K C=true) (hga:findIn K (.ref C) "__getattribute__" = some (some (.builtin "BaseException.__getattribute__"))) (hgn:findIn K (.ref C) "__getattr__" = some none)
  (hs:subIn K (.ref C) (.type "BaseException")=some true) (ha:findIn K (.ref C) "__class__" = some (some (.builtin "object.__class__")))
  (hn:specialIn K (.builtin "object.__class__") "__get__" = some (some (.builtin "getset_descriptor.__get__"))) (htk:takesIn K (.builtin "object.__class__")=some true) (hm:mroIn K C (.type "object")=some true) :
  KitX K (.ref x) (.ref C) (fun h=>InstAt h x ox C od) where
 ty:=fun _ _ _ I=>I.type
 it:=fun _ _ X _=>by
  obtain ⟨cdD,hcD,_⟩:=any_some hov
  unfold clsIn at hcD
  split at hcD
  ·rename_i c' d' cd' sl' ho
   intro A' Q' E' s' k q
   unfold isType loadHead
   exact yaa (wpAny_loadPart (k _ _ (X _ _ ho)) (yab q))
  ·cases hcD
 ne:=fun h tp dd its n sl X htp=>by
  obtain ⟨cdD,hcD,_⟩:=any_some hov
  refine Bool.eq_false_iff.mpr fun q => ?_
  have e:C=tp:=Value.ref.inj (beq_iff_eq.mp q)
  subst e
  unfold clsIn at hcD
  split at hcD
  ·rename_i c' d' cd' sl' ho
   have z:=(X _ _ ho).symm.trans htp
   cases z
  ·cases hcD
 ca:=fun X I k=>xF X I hga hgn hs (rm (by obtain ⟨cd,hc,_⟩:=any_some hov;rw [hc];rfl) ha hn htk) hm k
end
end PySem.W
namespace L2
open PySem PySem.Spec PyProof.Rows
structure Jz (K:yaH) (C:Addr):Prop extends XCls K C where
 ca:zbR K (.ref C) "__class__" = some (some (.builtin "object.__class__"))
 cg:zbl K (.builtin "object.__class__") "__get__" = some (some (.builtin "getset_descriptor.__get__"))
 ct:PySem.W.takesIn K (.builtin "object.__class__")=some true
 mo:PySem.W.mroIn K C (.type "object")=some true
def qI (K:yaH):List V→Hp→VK→Prop:=fun xs H Q=>∃ x C d0 c u b,xs=[.ref x,c]∧H x=some (XO C d0 x)∧(d0=none∨∃ dx fs,d0=some dx∧H dx=some (rZ fs dx))∧Jz K C∧RelV c u∧(∀ u',RelV c u'→u'=u)∧zbT K (.ref C) u=some b∧Q (.bl b) H
section
variable {X:Cx}{K:yaH}
theorem Az (hK:X.K=K:=by rfl):b6 X (.builtin "isinstance") (qI K):=by
 subst hK
 intro pins s σ H xs us Q I r h
 obtain ⟨x,C,d0,c,u,b,rfl,ex,hd,xi,rc,uc,e,q⟩:=h
 obtain ⟨v,w',rfl,rx,rw'⟩:=vals2 r
 obtain rfl:v=Value.ref x:=rx
 cases uc w' rw'
 obtain ⟨t0,a1,a2,a3,a4,a5,hx⟩:=XO.get I.hok ex
 have fin:∀ od,PySem.W.InstAt s.heap x (PySem.W.bI C d0 #[.ref t0,a1,a2,a3,a4,a5]) C od→yas (model X.prog X.w) X.A (call (.builtin "isinstance") [.ref x,u]) (EP X pins σ Q) X.xe s:=fun od J =>
  zbN (PySem.W.qX xi.ov xi.ga xi.gn xi.sb xi.ca xi.cg xi.ct xi.mo) I.gj J e (fun z=>nomatch z) fun tk=>⟨.bl b,H,I.tok tk,rfl,q⟩
 rcases hd with rfl | ⟨dx,fs,rfl,ed⟩
 ·exact fin none ⟨hx,rfl,rfl,trivial⟩
 ·obtain ⟨_,mA,hn,_⟩:=rZ.get I.hok ed
  obtain ⟨od,ho,_⟩:=gT hn
  exact fin (some od) ⟨hx,rfl,rfl,ho⟩
variable {C f:Addr}{fd:yaq}{ps:List Str}{k:Nat}{sp:Sp}{ds:List yaj}{dvs:List V}{CX:sJ}{E:XK}
structure CV (P:yak) (w:yal) (K:yaH) (mg:Str→Option yaj) (base:Heap) (k:Nat) (x:Str) (C:Addr) (ps:List Str) (sp:Sp):Prop where
 ex:∃ f fd,Ku K C f∧cJ P w K mg base oK k f fd ps sp∧Binds K fd ps []
 at_:mg x=some (.ref C)
end
end L2
set_option maxHeartbeats 4000000
namespace J
open PySem PySem.Spec PyProof.Rows L2
section
variable {P:yak}{w:yal}{K:yaH}{mg:Str→Option yaj}{base:Heap}
theorem vN {p:List yaj→Prop} (h:∀ a,p [a]) (us:List yaj) (e:us.length=1):p us:=by
 cases us with
 | nil=>cases e
 | cons a r =>
  have e:r=[]:=zaa (Nat.succ.inj e)
  subst e;exact h a
theorem Bk {p:List yaj→Prop} (h:∀ a b,p [a,b]) (us:List yaj) (e:us.length=2):p us:=by
 cases us with
 | nil=>cases e
 | cons a r=>exact vN (p:=fun r=>p (a::r)) (h a) r (Nat.succ.inj e)
theorem Jy {p:List yaj→Prop} (h:∀ a b c,p [a,b,c]) (us:List yaj) (e:us.length=3):p us:=by
 cases us with
 | nil=>cases e
 | cons a r=>exact Bk (p:=fun r=>p (a::r)) (h a) r (Nat.succ.inj e)
theorem by4 {p:List yaj→Prop} (h:∀ a b c d,p [a,b,c,d]) (us:List yaj) (e:us.length=4):p us:=by
 cases us with
 | nil=>cases e
 | cons a r=>exact Jy (p:=fun r=>p (a::r)) (h a) r (Nat.succ.inj e)
theorem Et {x:Str}{st:Stmt}{f:Addr}{oc:yaj}{od an:Option Addr}{osl:Array (Option yaj)}{kV doc pm cdv ct:yaj}{h:Heap}{ps:List Str} (X:K.In h) (G:h.Ns yar mg)
  (a:zcv K yar x=some (some (.ref f))) (l:K.lookup f=some ⟨oc,od,.func (zcu x x (cj st) (bA st) (ao st) .none kV doc pm an cdv ct),osl⟩)
  (c:zbU K cdv x=true) (k:zbS K (.ref f)=true)
  (b:∀ (kV doc pm:yaj) (an:Option Addr) (cdv ct:yaj) (us:List yaj),us.length=ps.length→yaA (zcu x x (cj st) (bA st) (ao st) .none kV doc pm an cdv ct) ⟨us,[]⟩=pure (ps.zip us)):Src K mg x ps st :=
 ⟨f,_,mP (st:=st) l c k,zch X G a,(mP (st:=st) l c k).binds b⟩
end
end J
namespace M
open PySem L2
inductive D where
 | bh | bl (b:Bool) | int (i:Int) | str (x:Str) | tup (ds:List D) | lst (ds:List D) | dct (ks:List Key) (ds:List D) | loc (n:Nat) | ty (n:String) | fG (ns:List Int) | fd | fn (a:Addr)
inductive MO where
 | lst (ds:List D) | dct (ks:List Key) (ds:List D) | feed (n:Nat) | ins (C:Addr) (ks:List Str) (ds:List D) | Af (F:Addr→List Addr→Heap→Prop) (ks:List D)
noncomputable def fd3 (l s d:Int):List (Key×V):=[(.inr "left",.int l),(.inr "seed",.int s),(.inr "drawn",.int d)]
abbrev aK:=List (Option MO)
noncomputable def MO.d:MO→D
 | .lst ds=>.lst ds
 | .dct ks ds=>.dct ks ds
 | .feed _=>.fd
 | .ins _ _ _=>.fd
 | .Af _ _=>.fd
inductive R where
 | dat (d:D) | new (o:MO)
noncomputable def R.d:R→D
 | .dat d=>d
 | .new o=>o.d
theorem al {H:Hp}{p:Addr}{o:HO} (hp:H p=none):dF H (upd H p o):=fun b o' e=>by rw [au (aH e hp)];exact e
structure Wd where
 B:Hp
 r:Nat→Option Addr
structure Wd.le (w w':Wd):Prop where
 b:dF w.B w'.B
 r:∀ n a,w.r n=some a→w'.r n=some a
theorem Wd.le.refl {w:Wd}:w.le w:=⟨dF.refl _,fun _ _ h=>h⟩
theorem Wd.le.trans {w w1 w2:Wd} (h:w.le w1) (g:w1.le w2):w.le w2:=⟨h.b.trans g.b,fun n a e=>g.r n a (h.r n a e)⟩
mutual
def Rep (K:yaH) (w:Wd):D→V→Prop
 | .bh,v=>v = .bh
 | .bl b,v=>v = .bl b
 | .int i,v=>v = .int i
 | .str x,v=>v = .str x
 | .ty n,v=>v = .ty n
 | .fd,v=>∃ a,v = .ref a
 | .fn a,v=>v = .ref a
 | .loc n,v=>∃ a,w.r n=some a∧v = .ref a
 | .tup ds,v=>∃ a xs,v = .ref a∧dQ K w.B a xs∧aq K w ds xs
 | .lst ds,v=>∃ a xs,v = .ref a∧w.B a=some (.lst xs)∧aq K w ds xs
 | .fG ns,v=>∃ a,v = .ref a∧cH K w.B a (ns.map V.int)
 | .dct ks ds,v=>∃ a kvs,v = .ref a∧w.B a=some (.dK kvs)∧kvs.map (·.1)=ks∧aq K w ds (kvs.map (·.2))
def aq (K:yaH) (w:Wd):List D→List V→Prop
 | [],xs=>xs=[]
 | d::ds,xs=>∃ x r,xs=x::r∧Rep K w d x∧aq K w ds r
end
mutual
theorem Rep.le {K:yaH}{w w':Wd} (e:w.le w'):∀ (d:D) (v:V),Rep K w d v→Rep K w' d v
 | .bh,_,h=>by simpa [Rep] using h
 | .bl b,_,h=>by simpa [Rep] using h
 | .int i,_,h=>by simpa [Rep] using h
 | .str x,_,h=>by simpa [Rep] using h
 | .ty x,_,h=>by simpa [Rep] using h
 | .fd,_,h=>by simpa [Rep] using h
 | .fn _,_,h=>by simpa [Rep] using h
 | .loc n,v,h=>by
  simp only [Rep] at h ⊢
  obtain ⟨a,h1,h2⟩:=h
  exact ⟨a,e.r _ _ h1,h2⟩
 | .lst ds,v,h=>by
  simp only [Rep] at h ⊢
  obtain ⟨a,xs,h1,h2,h3⟩:=h
  exact ⟨a,xs,h1,e.b _ _ h2,aq.le e ds xs h3⟩
 | .fG ns,v,h=>by
  simp only [Rep] at h ⊢
  obtain ⟨a,h1,h2⟩:=h
  exact ⟨a,h1,e.b.seq h2⟩
 | .tup ds,v,h=>by
  simp only [Rep] at h ⊢
  obtain ⟨a,xs,h1,h2,h3⟩:=h
  exact ⟨a,xs,h1,dQ.same e.b h2,aq.le e ds xs h3⟩
 | .dct ks ds,v,h=>by
  simp only [Rep] at h ⊢
  obtain ⟨a,xs,h1,h2,h3,h4⟩:=h
  exact ⟨a,xs,h1,e.b _ _ h2,h3,aq.le e ds _ h4⟩
theorem aq.le {K:yaH}{w w':Wd} (e:w.le w'):∀ (ds:List D) (xs:List V),aq K w ds xs→aq K w' ds xs
 | [],_,h=>by simpa [aq] using h
 | d::ds,xs,h=>by
  simp only [aq] at h ⊢
  obtain ⟨x,r,h1,h2,h3⟩:=h
  exact ⟨x,r,h1,Rep.le e d x h2,aq.le e ds r h3⟩
end
section
variable {K:yaH}{w w':Wd}
theorem aq.nil:aq K w [] []:=by simp [aq]
theorem aq.cons {d:D}{v:V}{ds:List D}{vs:List V} (h:Rep K w d v) (t:aq K w ds vs):aq K w (d::ds) (v::vs):=by
 simp only [aq];exact ⟨v,vs,rfl,h,t⟩
theorem aq.length:∀ {ds:List D}{vs:List V},aq K w ds vs→vs.length=ds.length
 | [],_,h=>by simp only [aq] at h;subst h;rfl
 | d::ds,vs,h=>by
  simp only [aq] at h
  obtain ⟨x,r,rfl,_,h⟩:=h
  simp [aq.length h]
theorem aq.get:∀ {ds:List D}{vs:List V}{i:Nat}{d:D},aq K w ds vs→ds[i]? = some d→∃ v,vs[i]? = some v∧Rep K w d v
 | [],_,_,_,_,e=>by simp at e
 | d::ds,vs,0,d',h,e=>by
  simp only [aq] at h
  obtain ⟨x,r,rfl,h1,h⟩:=h
  simp at e;subst e
  exact ⟨x,rfl,h1⟩
 | d::ds,vs,i+1,d',h,e=>by
  simp only [aq] at h
  obtain ⟨x,r,rfl,h1,h⟩:=h
  obtain ⟨v,e1,e2⟩:=aq.get (i:=i) h (by simpa using e)
  exact ⟨v,by simpa using e1,e2⟩
theorem aq.append:∀ {ds es:List D}{vs us:List V},aq K w ds vs→aq K w es us→aq K w (ds++es) (vs++us)
 | [],_,_,_,h,g=>by simp only [aq] at h;subst h;exact g
 | d::ds,es,vs,us,h,g=>by
  simp only [aq] at h
  obtain ⟨x,r,rfl,h1,h⟩:=h
  exact aq.cons h1 (aq.append h g)
theorem aq.snoc {ds:List D}{vs:List V}{d:D}{v:V} (h:aq K w ds vs) (g:Rep K w d v):aq K w (ds++[d]) (vs++[v]):=h.append (.cons g .nil)
theorem aq.take:∀ (n:Nat) {ds:List D}{vs:List V},aq K w ds vs→aq K w (ds.take n) (vs.take n)
 | 0,_,_,_=>by simp [aq]
 | n+1,[],_,h=>by simp only [aq] at h;subst h;simp [aq]
 | n+1,d::ds,vs,h=>by
  simp only [aq] at h
  obtain ⟨x,r,rfl,h1,h⟩:=h
  exact aq.cons h1 (aq.take n h)
theorem aq.drop:∀ (n:Nat) {ds:List D}{vs:List V},aq K w ds vs→aq K w (ds.drop n) (vs.drop n)
 | 0,_,_,h=>h
 | n+1,[],_,h=>by simp only [aq] at h;subst h;simp [aq]
 | n+1,d::ds,vs,h=>by
  simp only [aq] at h
  obtain ⟨x,r,rfl,h1,h⟩:=h
  exact aq.drop n h
theorem aq.set {d:D}{v:V} (g:Rep K w d v):∀ (n:Nat) {ds:List D}{vs:List V},aq K w ds vs→aq K w (ds.set n d) (vs.set n v)
 | _,[],_,h=>by simp only [aq] at h;subst h;simp [aq]
 | 0,e::ds,vs,h=>by
  simp only [aq] at h
  obtain ⟨x,r,rfl,h1,h⟩:=h
  exact aq.cons g h
 | n+1,e::ds,vs,h=>by
  simp only [aq] at h
  obtain ⟨x,r,rfl,h1,h⟩:=h
  exact aq.cons h1 (aq.set g n h)
end
def jU (K:yaH) (w:Wd):MO→HO→Prop
 | .lst ds,u=>∃ xs,u = .lst xs∧aq K w ds xs
 | .dct ks ds,u=>∃ kvs,u = .dK kvs∧kvs.map (·.1)=ks∧aq K w ds (kvs.map (·.2))
 | .feed n,u=>∃ l s:Int,u = .dK (fd3 l s n)∧0≤l∧0≤s∧s<1000003
 | .ins C ks ds,u=>∃ dx fs,u = .ins C dx fs∧fs.map (·.1)=ks∧aq K w ds (fs.map (·.2))
 | .Af F ks,u=>∃ (a:Addr) (bs:List Addr),u = .ext (F a bs)∧aq K w ks (bs.map V.ref)
theorem jU.le {K:yaH}{w w':Wd} (e:w.le w'):∀ {o:MO}{u:HO},jU K w o u→jU K w' o u
 | .lst ds,u,⟨xs,h1,h2⟩=>⟨xs,h1,h2.le e⟩
 | .dct ks ds,u,⟨xs,h1,h2,h3⟩=>⟨xs,h1,h2,h3.le e⟩
 | .feed n,u,h=>h
 | .ins C ks ds,u,⟨dx,fs,h1,h2,h3⟩=>⟨dx,fs,h1,h2,h3.le e⟩
 | .Af F ks,u,⟨a,bs,h1,h2⟩=>⟨a,bs,h1,h2.le e⟩
structure Ok (K:yaH) (w:Wd) (H:Hp) (S:aK):Prop where
 base:dF w.B H
 live:∀ n o,S[n]? = some (some o)→∃ a u,w.r n=some a∧w.B a=none∧H a=some u∧jU K w o u
 inj:∀ n m o o',S[n]? = some (some o)→S[m]? = some (some o')→w.r n=w.r m→n=m
 top:∀ n,S.length≤n→w.r n=none
def xZ (K:yaH) (w:Wd) (H:Hp) (S:aK):R→V→Prop
 | .dat d,v=>Rep K w d v
 | .new o,v=>∃ a u,v = .ref a∧w.B a=none∧H a=some u∧jU K w o u∧∀ n o',S[n]? = some (some o')→w.r n≠some a
def cR (K:yaH) (w:Wd) (δ:List (Option D)) (σ:St):Prop:=δ.length=σ.length∧∀ (i:Nat) (d:D),δ[i]? = some (some d)→∃ v,σ[i]? = some (some v)∧Rep K w d v
theorem cR.le {K:yaH}{w w':Wd}{δ:List (Option D)}{σ:St} (h:cR K w δ σ) (e:w.le w'):cR K w' δ σ:=⟨h.1,fun i d q=>by
 obtain ⟨v,h1,h2⟩:=h.2 i d q
 exact ⟨v,h1,h2.le e⟩⟩
theorem cR.set {K:yaH}{w:Wd}{δ:List (Option D)}{σ:St}{d:D}{v:V} (h:cR K w δ σ) (g:Rep K w d v) (i:Nat):cR K w (δ.set i (some d)) (σ.set i (some v)):=by
 refine ⟨by simp [h.1],fun j e q => ?_⟩
 by_cases hij:i=j
 ·subst hij
  rw [zbe] at q ⊢
  rw [yIp rfl] at q ⊢
  by_cases hl:i<δ.length
  ·rw [yIp hl] at q
   rw [yIp (by rw [← h.1];exact hl)]
   have:d=e:=by simpa using q
   subst this
   exact ⟨v,rfl,g⟩
  ·rw [yIn hl] at q;cases q
 ·rw [zaz hij] at q ⊢
  exact h.2 j e q
section
variable {K:yaH}{w w':Wd}{H H':Hp}{S S':aK}
theorem freeze {r:R}{v:V} (k:Ok K w H S) (h:xZ K w H S r v):∃ w',w.le w'∧Ok K w' H S∧Rep K w' r.d v:=by
 cases r with
 | dat d=>exact ⟨w,.refl,k,h⟩
 | new o =>
  obtain ⟨a,u,rfl,hb,ha,ho,hn⟩:=h
  have le:w.le ⟨upd w.B a u,w.r⟩:=⟨al hb,fun _ _ e=>e⟩
  refine ⟨⟨upd w.B a u,w.r⟩,le,⟨fun b o' e => ?_,fun n o' e => ?_,k.inj,k.top⟩,?_⟩
  ·by_cases hba:b=a
   ·subst hba
    have e:upd w.B b u b=some o':=e
    rw [aE] at e;rw [ha];exact e
   ·have e:upd w.B a u b=some o':=e
    rw [au hba] at e;exact k.base b o' e
  ·obtain ⟨a',u',h1,h2,h3,h4⟩:=k.live n o' e
   have:a'≠a:=by intro z;subst z;exact hn n o' e h1
   exact ⟨a',u',h1,by show upd w.B a u a'=none;rw [au this];exact h2,h3,h4.le le⟩
  ·cases o with
   | lst ds =>
    obtain ⟨xs,rfl,h⟩:=ho
    show Rep K _ (.lst ds) _
    simp only [Rep]
    exact ⟨a,xs,rfl,aE,h.le le⟩
   | dct ks ds =>
    obtain ⟨kvs,rfl,h1,h⟩:=ho
    show Rep K _ (.dct ks ds) _
    simp only [Rep]
    exact ⟨a,kvs,rfl,aE,h1,h.le le⟩
   | feed n =>
    show Rep K _ .fd _
    simp only [Rep]
    exact ⟨a,rfl⟩
   | ins C ks ds =>
    show Rep K _ .fd _
    simp only [Rep]
    exact ⟨a,rfl⟩
   | Af F ks =>
    show Rep K _ .fd _
    simp only [Rep]
    exact ⟨a,rfl⟩
theorem store {o:MO}{v:V} (k:Ok K w H S) (h:xZ K w H S (.new o) v):∃ w',w.le w'∧Ok K w' H (S++[some o])∧Rep K w' (.loc S.length) v:=by
 obtain ⟨a,u,rfl,hb,ha,ho,hn⟩:=h
 let r':Nat→Option Addr:=fun n=>if n=S.length then some a else w.r n
 have le:w.le ⟨w.B,r'⟩:=⟨dF.refl _,fun n b e=>by
  have:n≠S.length:=by
   intro z;subst z
   rw [k.top _ (zcy _)] at e;cases e
  show (if n=S.length then some a else w.r n)=some b
  rw [yIn this];exact e⟩
 have at_:∀ n o',(S++[some o])[n]? = some (some o')→(n=S.length∧o'=o)∨(n<S.length∧S[n]? = some (some o')):=fun n o' e=>by
  by_cases hl:n<S.length
  ·rw [zad hl] at e
   exact .inr ⟨hl,e⟩
  ·rw [zab (by lia)] at e
   have:n - S.length=0:=by
    cases q:n - S.length with
    | zero=>rfl
    | succ j=>rw [q] at e;simp at e
   rw [this] at e
   have e:o=o':=by simpa using e
   exact .inl ⟨by lia,e.symm⟩
 refine ⟨⟨w.B,r'⟩,le,⟨k.base,fun n o' e => ?_,fun n m o1 o2 e1 e2 e => ?_,fun n hn => ?_⟩,?_⟩
 ·rcases at_ n o' e with ⟨rfl,rfl⟩ | ⟨hl,e⟩
  ·exact ⟨a,u,by show (if _ then _ else _)=_;rw [yIp rfl],hb,ha,ho.le le⟩
  ·obtain ⟨a',u',h1,h2,h3,h4⟩:=k.live n o' e
   exact ⟨a',u',le.r _ _ h1,h2,h3,h4.le le⟩
 ·rcases at_ n o1 e1 with ⟨rfl,rfl⟩ | ⟨hl,q1⟩
  ·rcases at_ m o2 e2 with ⟨rfl,rfl⟩ | ⟨hl2,q2⟩
   ·rfl
   ·exfalso
    have e:(if S.length=S.length then some a else w.r S.length)=(if m=S.length then some a else w.r m):=e
    rw [yIp rfl,yIn (by lia)] at e
    exact hn m o2 q2 e.symm
  ·rcases at_ m o2 e2 with ⟨rfl,rfl⟩ | ⟨hl2,q2⟩
   ·exfalso
    have e:(if n=S.length then some a else w.r n)=(if S.length=S.length then some a else w.r S.length):=e
    rw [yIp rfl,yIn (by lia)] at e
    exact hn n o1 q1 e
   ·have e:(if n=S.length then some a else w.r n)=(if m=S.length then some a else w.r m):=e
    rw [yIn (by lia),yIn (by lia)] at e
    exact k.inj n m o1 o2 q1 q2 e
 ·rw [zaM] at hn
  have:n≠S.length:=by simp at hn;lia
  show (if n=S.length then some a else w.r n)=none
  rw [yIn this]
  exact k.top n (by simp at hn;lia)
 ·simp only [Rep]
  exact ⟨a,by show (if _ then _ else _)=_;rw [yIp rfl],rfl⟩
theorem Ok.alloc {p:Addr}{o:HO} (k:Ok K w H S) (hp:H p=none):Ok K w (upd H p o) S :=
 ⟨k.base.trans (al hp),fun n o' e=>by
  obtain ⟨a,u,h1,h2,h3,h4⟩:=k.live n o' e
  exact ⟨a,u,h1,h2,al hp _ _ h3,h4⟩,k.inj,k.top⟩
theorem Ok.free {p:Addr} (k:Ok K w H S) (hp:H p=none):w.B p=none:=k.base.free hp
theorem Ok.fresh {p:Addr}{o:HO}{m:MO} (k:Ok K w H S) (hp:H p=none) (h:jU K w m o):xZ K w (upd H p o) S (.new m) (.ref p) :=
 ⟨p,o,rfl,k.free hp,aE,h,fun n o' e z=>by
  obtain ⟨a,u,h1,h2,h3,h4⟩:=k.live n o' e
  rw [z] at h1;cases h1
  rw [hp] at h3;cases h3⟩
theorem Ok.jM {p:Addr}{ds:List D}{xs:List V} (k:Ok K w H S) (hp:H p=none) (h:aq K w ds xs):∃ w',w.le w'∧Ok K w' (upd H p (.tup xs)) S∧Rep K w' (.tup ds) (.ref p):=by
 have hb:=k.free hp
 have le:w.le ⟨upd w.B p (.tup xs),w.r⟩:=⟨al hb,fun _ _ e=>e⟩
 refine ⟨⟨upd w.B p (.tup xs),w.r⟩,le,⟨fun b o e => ?_,fun n o e => ?_,k.inj,k.top⟩,?_⟩
 ·by_cases hbp:b=p
  ·subst hbp
   have e:upd w.B b (.tup xs) b=some o:=e
   rw [aE] at e ⊢;exact e
  ·have e:upd w.B p (.tup xs) b=some o:=e
   rw [au hbp] at e ⊢;exact k.base b o e
 ·obtain ⟨a,u,h1,h2,h3,h4⟩:=k.live n o e
  have hne:a≠p:=aH h3 hp
  exact ⟨a,u,h1,by show upd w.B p _ a=none;rw [au hne];exact h2,by rw [au hne];exact h3,h4.le le⟩
 ·simp only [Rep]
  exact ⟨p,xs,rfl,dQ.of aE,h.le le⟩
theorem Ok.put {n:Nat}{a:Addr}{o o':MO}{u':HO} (k:Ok K w H S) (e:S[n]? = some (some o)) (ha:w.r n=some a) (h:jU K w o' u'):Ok K w (upd H a u') (S.set n (some o')):=by
 have hn:n<S.length:=by
  rcases zcr n S.length with h | h
  ·exact h
  ·rw [zas h] at e;cases e
 have at_:∀ m q,(S.set n (some o'))[m]? = some (some q)→(m=n∧q=o')∨(m≠n∧S[m]? = some (some q)):=fun m q z=>by
  by_cases hm:n=m
  ·subst hm
   rw [zbe,yIp rfl,yIp hn] at z
   have z:o'=q:=by simpa using z
   exact .inl ⟨rfl,z.symm⟩
  ·rw [zaz hm] at z
   exact .inr ⟨fun y=>hm y.symm,z⟩
 obtain ⟨a0,u0,h1,h2,h3,_⟩:=k.live n o e
 rw [ha] at h1;cases h1
 refine ⟨fun b q z => ?_,fun m q z => ?_,fun m l q q' z z' y => ?_,fun m hm=>k.top m (by simpa using hm)⟩
 ·rw [au (by intro y;subst y;rw [h2] at z;cases z)]
  exact k.base b q z
 ·rcases at_ m q z with ⟨rfl,rfl⟩ | ⟨hm,z⟩
  ·exact ⟨a,u',ha,h2,aE,h⟩
  ·obtain ⟨b,u,g1,g2,g3,g4⟩:=k.live m q z
   have:b≠a:=by
    intro y;subst y
    exact hm (k.inj m n q o z e (g1.trans ha.symm))
   exact ⟨b,u,g1,g2,by rw [au this];exact g3,g4⟩
 ·have old:∀ m q,(S.set n (some o'))[m]? = some (some q)→∃ q0,S[m]? = some (some q0):=fun m q z=>by
   rcases at_ m q z with ⟨rfl,rfl⟩ | ⟨hm,z⟩
   ·exact ⟨o,e⟩
   ·exact ⟨q,z⟩
  obtain ⟨q0,z0⟩:=old m q z
  obtain ⟨q1,z1⟩:=old l q' z'
  exact k.inj m l q0 q1 z0 z1 y
end
noncomputable def bf (S:aK):D→D
 | .loc n=>match S[n]? with
  | some (some o)=>o.d
  | _=>.loc n
 | d=>d
section
variable {K:yaH}{w:Wd}{H:Hp}{S:aK}{v:V}
theorem bw {d:D}{ds:List D} (k:Ok K w H S) (h:Rep K w d v) (e:bf S d = .lst ds):∃ a xs,v = .ref a∧H a=some (.lst xs)∧aq K w ds xs:=by
 cases d with
 | loc n =>
  simp only [Rep] at h
  obtain ⟨a,h1,rfl⟩:=h
  simp only [bf] at e
  split at e
  next o q =>
   obtain ⟨a',u,g1,g2,g3,g4⟩:=k.live n o q
   rw [h1] at g1;cases g1
   cases o with
   | lst es =>
    have:es=ds:=by simpa [MO.d] using e
    subst this
    obtain ⟨xs,rfl,g⟩:=g4
    exact ⟨a,xs,rfl,g3,g⟩
   | dct ks es=>simp [MO.d] at e
   | feed n=>simp [MO.d] at e
   | ins C ks ds=>simp [MO.d] at e
   | Af F ks=>simp [MO.d] at e
  next=>cases e
 | lst es =>
  have:es=ds:=by simpa [bf] using e
  subst this
  simp only [Rep] at h
  obtain ⟨a,xs,h1,h2,h3⟩:=h
  exact ⟨a,xs,h1,k.base _ _ h2,h3⟩
 | _=>simp [bf] at e
theorem cK {d:D}{ds:List D} (k:Ok K w H S) (h:Rep K w d v) (e:bf S d = .tup ds):∃ a xs,v = .ref a∧dQ K H a xs∧aq K w ds xs:=by
 cases d with
 | loc n =>
  simp only [bf] at e
  split at e
  next o q=>cases o <;> simp [MO.d] at e
  next=>cases e
 | tup es =>
  have:es=ds:=by simpa [bf] using e
  subst this
  simp only [Rep] at h
  obtain ⟨a,xs,h1,h2,h3⟩:=h
  exact ⟨a,xs,h1,dQ.same k.base h2,h3⟩
 | _=>simp [bf] at e
theorem cY {d:D}{ks:List Key}{ds:List D} (k:Ok K w H S) (h:Rep K w d v) (e:bf S d = .dct ks ds):∃ a kvs,v = .ref a∧H a=some (.dK kvs)∧kvs.map (·.1)=ks∧aq K w ds (kvs.map (·.2)):=by
 cases d with
 | loc n =>
  simp only [Rep] at h
  obtain ⟨a,h1,rfl⟩:=h
  simp only [bf] at e
  split at e
  next o q =>
   obtain ⟨a',u,g1,g2,g3,g4⟩:=k.live n o q
   rw [h1] at g1;cases g1
   cases o with
   | lst es=>simp [MO.d] at e
   | feed n=>simp [MO.d] at e
   | ins C ks ds=>simp [MO.d] at e
   | Af F ks=>simp [MO.d] at e
   | dct ks' es =>
    have:ks'=ks∧es=ds:=by simpa [MO.d] using e
    obtain ⟨rfl,rfl⟩:=this
    obtain ⟨kvs,rfl,g⟩:=g4
    exact ⟨a,kvs,rfl,g3,g⟩
  next=>cases e
 | dct ks' es =>
  have:ks'=ks∧es=ds:=by simpa [bf] using e
  obtain ⟨rfl,rfl⟩:=this
  simp only [Rep] at h
  obtain ⟨a,xs,h1,h2,h3⟩:=h
  exact ⟨a,xs,h1,k.base _ _ h2,h3⟩
 | _=>simp [bf] at e
end
abbrev bU:=List (Option D)
abbrev AK:=R→aK→Prop
abbrev AE:=bU→aK→AK→Prop
abbrev AT:=bU→aK→(Bool→aK→Prop)→Prop
abbrev AA:=bU→aK→(List D→aK→Prop)→Prop
abbrev AO:=bU→aK→(Option Int→aK→Prop)→Prop
structure nq where
 nx:bU→aK→Prop
 rt:AK
 bk:bU→aK→Prop:=fun _ _=>False
 ct:bU→aK→Prop:=fun _ _=>False
abbrev AS:=nq→bU→aK→Prop
abbrev AG:=D→bU→aK→(bU→aK→Prop)→Prop
abbrev Bp:=List D→bU→aK→(bU→aK→Prop)→Prop
abbrev AI:=bU→aK→(List D→(aK→Prop)→aK→Prop)→Prop
abbrev A2:=D→D→aK→AK→Prop
abbrev A1:=D→aK→AK→Prop
abbrev AN:=List D→aK→AK→Prop
section
variable (K:yaH) (w:Wd)
def dP (Qa:AK) (Q:VK):Prop:=∀ r S' v w' H',w.le w'→Ok K w' H' S'→xZ K w' H' S' r v→Qa r S'→Q v H'
def wB (Qa:Bool→aK→Prop) (Q:Bool→Hp→Prop):Prop:=∀ b S' w' H',w.le w'→Ok K w' H' S'→Qa b S'→Q b H'
def Jp (Qa:List D→aK→Prop) (Q:List V→Hp→Prop):Prop:=∀ ds S' vs w' H',w.le w'→Ok K w' H' S'→aq K w' ds vs→Qa ds S'→Q vs H'
def Jo (Qa:Option Int→aK→Prop) (Q:Option Int→Hp→Prop):Prop:=∀ i S' w' H',w.le w'→Ok K w' H' S'→Qa i S'→Q i H'
def kq (Qa:bU→aK→Prop) (Q:St→Hp→Prop):Prop:=∀ δ S' σ w' H',w.le w'→Ok K w' H' S'→cR K w' δ σ→Qa δ S'→Q σ H'
structure sG (Da:nq) (D:Ends):Prop where
 nx:kq K w Da.nx D.nx
 rt:dP K w Da.rt D.rt
 bk:kq K w Da.bk D.bk
 ct:kq K w Da.ct D.ct
structure Jm (J:It) (ds:List D) (P:aK→Prop):Prop where
 go:∀ i H S w' d,w.le w'→Ok K w' H S→P S→ds[i]? = some d→J.go i H
 yd:∀ i H S w' d x H',w.le w'→Ok K w' H S→P S→ds[i]? = some d→J.yd i H x H'→∃ w3,w'.le w3∧Ok K w3 H' S∧Rep K w3 d x
 stop:∀ i H S w',w.le w'→Ok K w' H S→P S→i=ds.length→J.stop i H
def Jq (Qa:List D→(aK→Prop)→aK→Prop) (R:It→Hp→Prop):Prop:=∀ ds P S' J w' H',w.le w'→Ok K w' H' S'→Jm K w' J ds P→Qa ds P S'→R J H'
end
section
variable {K:yaH}{w w':Wd}
theorem dP.le {Qa:AK}{Q:VK} (h:dP K w Qa Q) (e:w.le w'):dP K w' Qa Q:=fun r S v w2 H l=>h r S v w2 H (e.trans l)
theorem wB.le {Qa}{Q} (h:wB K w Qa Q) (e:w.le w'):wB K w' Qa Q:=fun r S w2 H l=>h r S w2 H (e.trans l)
theorem kq.le {Qa}{Q} (h:kq K w Qa Q) (e:w.le w'):kq K w' Qa Q:=fun r S v w2 H l=>h r S v w2 H (e.trans l)
theorem sG.le {Da:nq}{D:Ends} (h:sG K w Da D) (e:w.le w'):sG K w' Da D:=⟨h.nx.le e,h.rt.le e,h.bk.le e,h.ct.le e⟩
end
section
variable (K:yaH)
def aR (a:AE):TE:=fun σ H Q=>∃ w δ S Qa,Ok K w H S∧cR K w δ σ∧a δ S Qa∧dP K w Qa Q
def fM (a:AT):TT:=fun σ H Q=>∃ w δ S Qa,Ok K w H S∧cR K w δ σ∧a δ S Qa∧wB K w Qa Q
def nG (a:AA):TA:=fun σ H Q=>∃ w δ S Qa,Ok K w H S∧cR K w δ σ∧a δ S Qa∧Jp K w Qa Q
def Am (a:AO):TO:=fun σ H Q=>∃ w δ S Qa,Ok K w H S∧cR K w δ σ∧a δ S Qa∧Jo K w Qa Q
def dU (a:AS):TS:=fun D σ H=>∃ w δ S Da,Ok K w H S∧cR K w δ σ∧a Da δ S∧sG K w Da D
def uo (a:AG):TG:=fun x σ H Q=>∃ w d δ S Qa,Ok K w H S∧cR K w δ σ∧Rep K w d x∧a d δ S Qa∧kq K w Qa Q
def rF (a:Bp):CW:=fun xs σ H Q=>∃ w ds δ S Qa,Ok K w H S∧cR K w δ σ∧aq K w ds xs∧a ds δ S Qa∧kq K w Qa Q
def um (a:AI):TI:=fun σ H R=>∃ w δ S Qa,Ok K w H S∧cR K w δ σ∧a δ S Qa∧Jq K w Qa R
def xE (a:A2):R2:=fun x y H Q=>∃ w d e S Qa,Ok K w H S∧Rep K w d x∧Rep K w e y∧a d e S Qa∧dP K w Qa Q
def Gk (a:AN):List V→Hp→VK→Prop:=fun xs H Q=>∃ w ds S Qa,Ok K w H S∧aq K w ds xs∧a ds S Qa∧dP K w Qa Q
def IU (a:D→List D→aK→AK→Prop):V→List V→Hp→VK→Prop:=fun x xs H Q=>∃ w d ds S Qa,Ok K w H S∧Rep K w d x∧aq K w ds xs∧a d ds S Qa∧dP K w Qa Q
def aD (a:AN):Sp:=fun vs H Q _=>Gk K a vs H Q
end
structure GE (X:Cx) (e:Expr) (a:AE):Prop where
 p:PE X e (aR X.K a)
structure GT (X:Cx) (e:Expr) (a:AT):Prop where
 p:PT X e (fM X.K a)
structure GW (X:Cx) (e:Expr) (a:AT):Prop where
 p:PW X e (fM X.K a)
structure GA (X:Cx) (e:List Expr) (a:AA):Prop where
 p:PA X e (nG X.K a)
structure GO (X:Cx) (e:Option Expr) (a:AO):Prop where
 p:PO X e (Am X.K a)
structure GS (X:Cx) (s:Stmt) (a:AS):Prop where
 p:PS X s (dU X.K a)
structure uF (X:Cx) (s:List Stmt) (a:AS):Prop where
 p:oH X s (dU X.K a)
structure GG (X:Cx) (e:Expr) (a:AG):Prop where
 p:PG X e (uo X.K a)
structure JI (X:Cx) (e:List Expr) (a:Bp):Prop where
 p:GD X e (rF X.K a)
structure GI (X:Cx) (tg e:Expr) (a:AI):Prop where
 p:PI X tg e (um X.K a)
structure JG (X:Cx) (e:List Expr) (a:AT):Prop where
 p:DZ X e (fM X.K a)
structure qo (X:Cx) (f:yaj→yaj→Sem yaj) (a:A2):Prop where
 p:gH X f (xE X.K a)
structure C8 (X:Cx) (f:yaj) (a:AN):Prop where
 p:b6 X f (Gk X.K a)
structure K3 (X:Cx) (a:A2):Prop where
 p:Bo X (xE X.K a)
section
variable {X:Cx}
theorem mE {e:Expr}{t u:TE} (h:PE X e t) (m:∀ σ H Q,u σ H Q→t σ H Q):PE X e u:=fun pins s σ H Q I q=>h pins s σ H Q I (m σ H Q q)
theorem mT {e:Expr}{t u:TT} (h:PT X e t) (m:∀ σ H Q,u σ H Q→t σ H Q):PT X e u:=fun pins s σ H Q I q=>h pins s σ H Q I (m σ H Q q)
theorem mW {e:Expr}{t u:TT} (h:PW X e t) (m:∀ σ H Q,u σ H Q→t σ H Q):PW X e u:=fun wh pins s σ H Q I q=>h wh pins s σ H Q I (m σ H Q q)
theorem mA {e:List Expr}{t u:TA} (h:PA X e t) (m:∀ σ H Q,u σ H Q→t σ H Q):PA X e u:=fun pos pins s σ H Q I q=>h pos pins s σ H Q I (m σ H Q q)
theorem mO {e:Option Expr}{t u:TO} (h:PO X e t) (m:∀ σ H Q,u σ H Q→t σ H Q):PO X e u:=fun pins s σ H Q I q=>h pins s σ H Q I (m σ H Q q)
theorem mS {e:Stmt}{t u:TS} (h:PS X e t) (m:∀ D σ H,u D σ H→t D σ H):PS X e u:=fun pins s σ H D I q=>h pins s σ H D I (m D σ H q)
theorem Ij {e:List Stmt}{t u:TS} (h:oH X e t) (m:∀ D σ H,u D σ H→t D σ H):oH X e u:=fun pins s σ H D I q=>h pins s σ H D I (m D σ H q)
theorem mG {e:Expr}{t u:TG} (h:PG X e t) (m:∀ x σ H Q,u x σ H Q→t x σ H Q):PG X e u:=fun pins s σ H x v Q I r q=>h pins s σ H x v Q I r (m x σ H Q q)
theorem KR {e:List Expr}{t u:CW} (h:GD X e t) (m:∀ x σ H Q,u x σ H Q→t x σ H Q):GD X e u:=fun pins s σ H x v Q I r q=>h pins s σ H x v Q I r (m x σ H Q q)
theorem mI {g e:Expr}{t u:TI} (h:PI X g e t) (m:∀ σ H R,u σ H R→t σ H R):PI X g e u:=fun pins s σ H R I q=>h pins s σ H R I (m σ H R q)
theorem mTs {e:List Expr}{t u:TT} (h:DZ X e t) (m:∀ σ H Q,u σ H Q→t σ H Q):DZ X e u:=fun pins s σ H Q I q=>h pins s σ H Q I (m σ H Q q)
theorem m2 {f:yaj→yaj→Sem yaj}{t u:R2} (h:gH X f t) (m:∀ x y H Q,u x y H Q→t x y H Q):gH X f u:=fun pins s σ H x y v u Q I r r' q=>h pins s σ H x y v u Q I r r' (m x y H Q q)
theorem mC {f:yaj}{t u:List V→Hp→VK→Prop} (h:b6 X f t) (m:∀ x H Q,u x H Q→t x H Q):b6 X f u:=fun pins s σ H x v Q I r q=>h pins s σ H x v Q I r (m x H Q q)
end
def aX (i:Nat):AE:=fun δ S Q=>∃ d,δ[i]? = some (some d)∧Q (.dat d) S
def aC (d:D):AE:=fun _ S Q=>Q (.dat d) S
def fQ (r:A2) (a b:AE):AE:=fun δ S Q=>a δ S fun x S1=>b δ S1 fun y S2=>r x.d y.d S2 Q
def Ja (r:A1) (a:AE):AE:=fun δ S Q=>a δ S fun x S1=>r x.d S1 Q
def fF:AA:=fun _ S Q=>Q [] S
def cB (a:AE) (b:AA):AA:=fun δ S Q=>a δ S fun x S1=>b δ S1 fun xs S2=>Q (x.d::xs) S2
def rV (a:AA):AE:=fun δ S Q=>a δ S fun ds S1=>ds.length≤yah∧Q (.dat (.tup ds)) S1
def qc (a:AA):AE:=fun δ S Q=>a δ S fun ds S1=>ds.length≤yah∧Q (.new (.lst ds)) S1
def bQ (a:AE):AE:=fun δ S Q=>a δ S fun r S1=>match r with
 | .new o=>Q (.dat (.loc S1.length)) (S1++[some o])
 | .dat d=>Q (.dat d) S1
def aCall (sp:AN) (a:AA):AE:=fun δ S Q=>a δ S fun ds S1=>sp ds S1 Q
def aB (a:AE):AT:=fun δ S Q=>a δ S fun r S1=>∃ b,r.d = .bl b∧Q b S1
noncomputable def eg:D→Option Bool
 | .bh=>some false
 | .bl b=>some b
 | .int i=>some (i != 0)
 | .str y=>if y.length≤yah then some ((y.length:Int) != 0) else none
 | .tup ds=>some (!ds.isEmpty)
 | .lst ds=>some (!ds.isEmpty)
 | .dct ks _=>some (!ks.isEmpty)
 | _=>none
def kG (a:AE):AT:=fun δ S Q=>a δ S fun r S1=>∃ b,eg (bf S1 r.d)=some b∧Q b S1
def m9 (a b:AE):AE:=fun δ S Q=>a δ S fun x S1=>∃ c,x.d = .bl c∧if c=true then b δ S1 Q else Q (.dat (.bl false)) S1
def AL (a b:AE):AE:=fun δ S Q=>a δ S fun x S1=>∃ c,x.d = .bl c∧if c=true then Q (.dat (.bl true)) S1 else b δ S1 Q
def rY (a:AE):AE:=fun δ S Q=>a δ S fun x S1=>∃ c,x.d = .bl c∧Q (.dat (.bl (!c))) S1
def uB (a b:AT):AT:=fun δ S Q=>a δ S fun c S1=>if c=true then b δ S1 Q else Q false S1
def AQ (a b:AT):AT:=fun δ S Q=>a δ S fun c S1=>if c=true then Q true S1 else b δ S1 Q
def m5 (a:AT):AT:=fun δ S Q=>a δ S fun c S1=>Q (!c) S1
def Gu (t:AT) (a b:AE):AE:=fun δ S Q=>t δ S fun c S1=>if c=true then a δ S1 Q else b δ S1 Q
def m8 (r r':A2) (a b c:AE):AE:=fun δ S Q=>a δ S fun x S1=>b δ S1 fun y S2=>r x.d y.d S2 fun z S3=>∃ k,z.d = .bl k∧if k=true then c δ S3 fun z' S4=>r' y.d z'.d S4 Q else Q (.dat (.bl false)) S3
def fE:AO:=fun _ S Q=>Q none S
def mZ (a:AE):AO:=fun δ S Q=>a δ S fun r S1=>∃ i,r.d = .int i∧Q (some i) S1
def Gq (r:D→Option Int→Option Int→aK→AK→Prop) (a:AE) (l u:AO):AE:=fun δ S Q=>a δ S fun x S1=>l δ S1 fun i S2=>u δ S2 fun j S3=>r x.d i j S3 Q
def kj:AS:=fun D δ S=>D.nx δ S
def fB (a b:AS):AS:=fun D δ S=>a { D with nx:=b D } δ S
def rX (a:AE):AS:=fun D δ S=>a δ S D.rt
def rW:AS:=fun D _ S=>D.rt (.dat .bh) S
def ko (a:AE):AS:=fun D δ S=>a δ S fun _ S1=>D.nx δ S1
def nK (c:AT) (a b:AS):AS:=fun D δ S=>c δ S fun k S1=>if k=true then a D δ S1 else b D δ S1
def bG (i:Nat):AG:=fun d δ S Q=>Q (δ.set i (some d)) S
def ki:Bp:=fun ds δ S Q=>ds=[]∧Q δ S
def gu (a:AG) (b:Bp):Bp:=fun ds δ S Q=>∃ d r,ds=d::r∧a d δ S fun δ1 S1=>b r δ1 S1 Q
def kh (n:Nat) (a:Bp):AG:=fun d δ S Q=>∃ ds,d = .tup ds∧ds.length=n∧a ds δ S Q
def kH (a:AE) (g:AG):AS:=fun D δ S=>a δ S fun r S1=>g r.d δ S1 D.nx
def mq (P:aK→Prop) (g:AG) (b:AS):List D→nq→bU→aK→Prop
 | [],D,δ,S=>P S∧D.nx δ S
 | x::xs,D,δ,S=>P S∧g x δ S fun δ2 S2=>b { D with nx:=mq P g b xs D,ct:=mq P g b xs D,bk:=D.nx } δ2 S2
def iJ (i:AI) (g:AG) (b:AS):AS:=fun D δ S=>i δ S fun ds P S1=>mq P g b ds D δ S1
def p7 (c:AT) (b:AS):AS:=fun D δ S=>∃ W:Nat→bU→aK→Prop,(∃ m,W m δ S)∧∀ m δ S,W m δ S →
 c δ S fun k S1=>if k=true then ∃ N:bU→aK→Prop,(∀ δ' S',N δ' S'→∃ m',m'<m∧W m' δ' S')∧b { D with nx:=N,ct:=N,bk:=D.nx } δ S1 else D.nx δ S1
def xM:AT:=fun _ S Q=>Q true S
def ic (P:aK→Prop) (g:AG) (t:AT) (e:AE):List D→List D→bU→aK→(List D→aK→Prop)→Prop
 | [],acc,_,S,Q=>P S∧Q acc S
 | x::xs,acc,δ,S,Q=>P S∧g x δ S fun δ2 S2=>t δ2 S2 fun b S3=>if b=true then e δ2 S3 fun r S4=>acc.length<yah∧ic P g t e xs (acc++[r.d]) δ2 S4 Q else ic P g t e xs acc δ2 S3 Q
noncomputable def dM (caps:List (Option Nat)) (δ:bU):bU:=caps.map fun o=>o.bind fun i=>(δ[i]?).getD none
def bZ (caps:List (Option Nat)) (i:AI) (g:AG) (t:AT) (e:AE):AE:=fun δ S Q=>i δ S fun ds P S1=>ic P g t e ds [] (dM caps δ) S1 fun ds' S2=>Q (.new (.lst ds')) S2
noncomputable def fH (lo:Int) (n:Nat):List D:=(zcC n).map fun k:Nat=>.int (lo+(k:Int))
def xw (a:AA):AI:=fun δ S Q=>a δ S fun ds S1=>∃ j:Int,ds=[.int j]∧(-(2 ^ 62)≤j∧j<2 ^ 62)∧Q (fH 0 j.toNat) (fun _=>True) S1
noncomputable def signs (x:Str):List D:=x.cps.toList.map fun c=>.str ⟨#[c]⟩
section
variable {K:yaH}
theorem dP.go {w:Wd}{Qa:AK}{Q:VK} (h:∀ r S' v w' H',w.le w'→Ok K w' H' S'→Rep K w' r.d v→Qa r S'→Q v H'):dP K w Qa Q:=fun r S' v w' H' le ok rep q=>by
 obtain ⟨w2,le2,ok2,rep2⟩:=freeze ok rep
 exact h r S' v w2 H' (le.trans le2) ok2 rep2 q
theorem dP.dat {w w':Wd}{Qa:AK}{Q:VK}{d:D}{v:V}{S:aK}{H:Hp} (h:dP K w Qa Q) (le:w.le w') (ok:Ok K w' H S) (rep:Rep K w' d v) (q:Qa (.dat d) S):Q v H:=h (.dat d) S v w' H le ok rep q
theorem Hv {i:Nat}:∀ σ H Q,aR K (aX i) σ H Q→lF i σ H Q:=by
 rintro σ H Q ⟨w,δ,S,Qa,ok,env,⟨d,e,q⟩,bk⟩
 obtain ⟨v,e1,e2⟩:=env.2 i d e
 exact ⟨v,e1,bk.dat .refl ok e2 q⟩
theorem GQ {d:D}{v:V} (h:∀ w,Rep K w d v):∀ σ H Q,aR K (aC d) σ H Q→tC v σ H Q:=by
 rintro σ H Q ⟨w,δ,S,Qa,ok,env,q,bk⟩
 exact bk.dat .refl ok (h w) q
theorem BF {r:A2}{a b:AE}:∀ σ H Q,aR K (fQ r a b) σ H Q→G9 (xE K r) (aR K a) (aR K b) σ H Q:=by
 rintro σ H Q ⟨w,δ,S,Qa,ok,env,q,bk⟩
 refine ⟨w,δ,S,_,ok,env,q,.go fun r1 S1 v1 w1 H1 le1 ok1 rep1 q1 => ?_⟩
 refine ⟨w1,δ,S1,_,ok1,env.le le1,q1,.go fun r2 S2 v2 w2 H2 le2 ok2 rep2 q2 => ?_⟩
 exact ⟨w2,r1.d,r2.d,S2,Qa,ok2,rep1.le le2,rep2,q2,bk.le (le1.trans le2)⟩
theorem HC:∀ σ H Q,nG K fF σ H Q→nB σ H Q:=by
 rintro σ H Q ⟨w,δ,S,Qa,ok,env,q,bk⟩
 exact bk [] S [] w H .refl ok .nil q
theorem EZ {a:AE}{b:AA}:∀ σ H Q,nG K (cB a b) σ H Q→bN (aR K a) (nG K b) σ H Q:=by
 rintro σ H Q ⟨w,δ,S,Qa,ok,env,q,bk⟩
 refine ⟨w,δ,S,_,ok,env,q,.go fun r1 S1 v1 w1 H1 le1 ok1 rep1 q1 => ?_⟩
 refine ⟨w1,δ,S1,_,ok1,env.le le1,q1,fun ds S2 vs w2 H2 le2 ok2 rep2 q2 => ?_⟩
 exact bk _ S2 _ w2 H2 (le1.trans le2) ok2 (.cons (rep1.le le2) rep2) q2
theorem Hx {a:AA}:∀ σ H Q,aR K (rV a) σ H Q→Bt (nG K a) σ H Q:=by
 rintro σ H Q ⟨w,δ,S,Qa,ok,env,q,bk⟩
 refine ⟨w,δ,S,_,ok,env,q,fun ds S1 vs w1 H1 le1 ok1 rep1 ⟨hl,q1⟩=>⟨by rw [rep1.length];exact hl,fun p hp => ?_⟩⟩
 obtain ⟨w2,le2,ok2,rep2⟩:=ok1.jM hp rep1
 exact bk.dat (le1.trans le2) ok2 rep2 q1
theorem HE {a:AA}:∀ σ H Q,aR K (qc a) σ H Q→Hg (nG K a) σ H Q:=by
 rintro σ H Q ⟨w,δ,S,Qa,ok,env,q,bk⟩
 refine ⟨w,δ,S,_,ok,env,q,fun ds S1 vs w1 H1 le1 ok1 rep1 ⟨hl,q1⟩=>⟨by rw [rep1.length];exact hl,fun p hp => ?_⟩⟩
 exact bk (.new (.lst ds)) S1 _ w1 _ le1 (ok1.alloc hp) (ok1.fresh hp ⟨vs,rfl,rep1⟩) q1
theorem s_alloc {a:AE}:∀ σ H Q,aR K (bQ a) σ H Q→aR K a σ H Q:=by
 rintro σ H Q ⟨w,δ,S,Qa,ok,env,q,bk⟩
 refine ⟨w,δ,S,_,ok,env,q,fun r S1 v w1 H1 le1 ok1 rep1 q1 => ?_⟩
 cases r with
 | dat d=>exact bk.dat le1 ok1 rep1 q1
 | new o =>
  obtain ⟨w2,le2,ok2,rep2⟩:=store ok1 rep1
  exact bk.dat (le1.trans le2) ok2 rep2 q1
theorem s_call {sp:AN}{a:AA}{E:XK}:∀ σ H Q,aR K (aCall sp a) σ H Q→yy (aD K sp) [] E (nG K a) σ H Q:=by
 rintro σ H Q ⟨w,δ,S,Qa,ok,env,q,bk⟩
 refine ⟨w,δ,S,_,ok,env,q,fun ds S1 vs w1 H1 le1 ok1 rep1 q1 => ?_⟩
 exact ⟨w1,ds,S1,Qa,ok1,by rw [zbB];exact rep1,q1,bk.le le1⟩
theorem HJ {r:AN}{a:AA}:∀ σ H Q,aR K (aCall r a) σ H Q→yz (Gk K r) (nG K a) σ H Q:=by
 rintro σ H Q ⟨w,δ,S,Qa,ok,env,q,bk⟩
 refine ⟨w,δ,S,_,ok,env,q,fun ds S1 vs w1 H1 le1 ok1 rep1 q1 => ?_⟩
 exact ⟨w1,ds,S1,Qa,ok1,rep1,q1,bk.le le1⟩
theorem tG {w:Wd}{b:Bool}{v:V}{d:D} (h:Rep K w d v) (e:d = .bl b):v = .bl b:=by subst e;simpa [Rep] using h
theorem bR {w:Wd}{b:Int}{v:V}{d:D} (h:Rep K w d v) (e:d = .int b):v = .int b:=by subst e;simpa [Rep] using h
theorem fk {w:Wd}{b:Str}{v:V}{d:D} (h:Rep K w d v) (e:d = .str b):v = .str b:=by subst e;simpa [Rep] using h
theorem BO {w:Wd}{v:V}{d:D} (h:Rep K w d v) (e:d = .bh):v = .bh:=by subst e;simpa [Rep] using h
theorem zd {w:Wd}{n:String}{v:V}{d:D} (h:Rep K w d v) (e:d = .ty n):v = .ty n:=by subst e;simpa [Rep] using h
theorem Rep.bl {w:Wd}{b:Bool}:Rep K w (.bl b) (.bl b):=by simp [Rep]
theorem Rep.int {w:Wd}{b:Int}:Rep K w (.int b) (.int b):=by simp [Rep]
theorem Rep.str {w:Wd}{b:Str}:Rep K w (.str b) (.str b):=by simp [Rep]
theorem Rep.bh {w:Wd}:Rep K w .bh .bh:=by simp [Rep]
theorem Rep.ty {w:Wd}{n:String}:Rep K w (.ty n) (.ty n):=by simp [Rep]
theorem s_b {a:AE}:∀ σ H Q,fM K (aB a) σ H Q→tB (aR K a) σ H Q:=by
 rintro σ H Q ⟨w,δ,S,Qa,ok,env,q,bk⟩
 refine ⟨w,δ,S,_,ok,env,q,.go fun r1 S1 v1 w1 H1 le1 ok1 rep1 ⟨b,e,q1⟩=>⟨b,tG rep1 e,bk b S1 w1 H1 le1 ok1 q1⟩⟩
theorem Bs {w:Wd}{H:Hp}{S:aK}{d:D}{v:V}{b:Bool} (ok:Ok K w H S) (h:Rep K w d v) (e:eg (bf S d)=some b):AX K v H b:=by
 cases q:bf S d with
 | lst ds =>
  rw [q] at e
  obtain ⟨a,xs,rfl,h1,h2⟩:=bw ok h q
  refine Or.inl ⟨xs,cH.of h1,?_⟩
  have:b = !ds.isEmpty:=by simpa [eg] using e.symm
  rw [this]
  have:=h2.length
  cases ds <;> cases xs <;> simp at this ⊢
 | tup ds =>
  rw [q] at e
  obtain ⟨a,xs,rfl,h1,h2⟩:=cK ok h q
  refine Or.inr (Or.inl ⟨xs,h1,?_⟩)
  have:b = !ds.isEmpty:=by simpa [eg] using e.symm
  rw [this]
  have:=h2.length
  cases ds <;> cases xs <;> simp at this ⊢
 | dct ks ds =>
  rw [q] at e
  obtain ⟨a,kvs,rfl,h1,h2,h3⟩:=cY ok h q
  refine Or.inr (Or.inr ⟨kvs,h1,?_⟩)
  have:b = !ks.isEmpty:=by simpa [eg] using e.symm
  rw [this,← h2]
  cases kvs <;> simp
 | _ =>
  rw [q] at e
  cases d <;> simp [bf] at q <;> first
   | (subst q;simp only [Rep] at h;subst h;simp [eg] at e;simp [AX,e];done)
   | (simp [eg] at e;done)
   | skip
  all_goals first
   | (simp only [Rep] at h;subst h;subst q;simp only [eg,zcB.injEq] at e;subst e;rfl)
   | (simp only [Rep] at h;subst h;simp only [eg,zcB.injEq] at e;subst e;rfl)
   | (split at q <;> first | (rename_i o _;cases o <;> simp [MO.d] at q) | (cases q;simp [eg] at e) | cases q)
   | (simp only [Rep] at h;subst h;subst q;simp only [eg] at e;split at e;next hl=>exact ⟨hl,by simpa using e.symm⟩;next=>cases e)
   | skip
theorem Hy {a:AE}:∀ σ H Q,fM K (kG a) σ H Q→(aR K a) σ H (fun x H'=>∃ k,AX K x H' k∧Q k H'):=by
 rintro σ H Q ⟨w,δ,S,Qa,ok,env,q,bk⟩
 exact ⟨w,δ,S,_,ok,env,q,.go fun r1 S1 v1 w1 H1 le1 ok1 rep1 ⟨b,e,q1⟩=>⟨b,Bs ok1 rep1 e,bk b S1 w1 H1 le1 ok1 q1⟩⟩
theorem E1 {a b:AE}:∀ σ H Q,aR K (m9 a b) σ H Q→uQ (aR K a) (aR K b) σ H Q:=by
 rintro σ H Q ⟨w,δ,S,Qa,ok,env,q,bk⟩
 refine ⟨w,δ,S,_,ok,env,q,.go fun r1 S1 v1 w1 H1 le1 ok1 rep1 ⟨c,e,q1⟩=>⟨c,tG rep1 e,?_⟩⟩
 cases c with
 | true=>exact kr ⟨w1,δ,S1,Qa,ok1,env.le le1,by simpa using q1,bk.le le1⟩
 | false=>exact nF (bk.dat le1 ok1 .bl (by simpa using q1))
theorem HK {a b:AT}:∀ σ H Q,fM K (uB a b) σ H Q→Hi (fM K a) (fM K b) σ H Q:=by
 rintro σ H Q ⟨w,δ,S,Qa,ok,env,q,bk⟩
 refine ⟨w,δ,S,_,ok,env,q,fun c S1 w1 H1 le1 ok1 q1 => ?_⟩
 cases c with
 | true=>exact kr ⟨w1,δ,S1,Qa,ok1,env.le le1,by simpa using q1,bk.le le1⟩
 | false=>exact nF (bk _ S1 w1 H1 le1 ok1 (by simpa using q1))
theorem JQ {a b:AT}:∀ σ H Q,fM K (AQ a b) σ H Q→KN (fM K a) (fM K b) σ H Q:=by
 rintro σ H Q ⟨w,δ,S,Qa,ok,env,q,bk⟩
 refine ⟨w,δ,S,_,ok,env,q,fun c S1 w1 H1 le1 ok1 q1 => ?_⟩
 cases c with
 | false=>exact nF ⟨w1,δ,S1,Qa,ok1,env.le le1,by simpa using q1,bk.le le1⟩
 | true=>exact kr (bk _ S1 w1 H1 le1 ok1 (by simpa using q1))
theorem HB {a:AT}:∀ σ H Q,fM K (m5 a) σ H Q→Hf (fM K a) σ H Q:=by
 rintro σ H Q ⟨w,δ,S,Qa,ok,env,q,bk⟩
 exact ⟨w,δ,S,_,ok,env,q,fun c S1 w1 H1 le1 ok1 q1=>bk _ S1 w1 H1 le1 ok1 q1⟩
theorem JR {t:AT}{a b:AE}:∀ σ H Q,aR K (Gu t a b) σ H Q→KO (fM K t) (aR K a) (aR K b) σ H Q:=by
 rintro σ H Q ⟨w,δ,S,Qa,ok,env,q,bk⟩
 refine ⟨w,δ,S,_,ok,env,q,fun c S1 w1 H1 le1 ok1 q1 => ?_⟩
 cases c with
 | true=>exact kr ⟨w1,δ,S1,Qa,ok1,env.le le1,by simpa using q1,bk.le le1⟩
 | false=>exact nF ⟨w1,δ,S1,Qa,ok1,env.le le1,by simpa using q1,bk.le le1⟩
theorem yO:∀ σ H Q,Am K fE σ H Q→uN σ H Q:=by
 rintro σ H Q ⟨w,δ,S,Qa,ok,env,q,bk⟩
 exact bk none S w H .refl ok q
theorem EK {a:AE}:∀ σ H Q,Am K (mZ a) σ H Q→Dj (aR K a) σ H Q:=by
 rintro σ H Q ⟨w,δ,S,Qa,ok,env,q,bk⟩
 exact ⟨w,δ,S,_,ok,env,q,.go fun r1 S1 v1 w1 H1 le1 ok1 rep1 ⟨i,e,q1⟩=>⟨i,bR rep1 e,bk _ S1 w1 H1 le1 ok1 q1⟩⟩
def DU (K:yaH) (a:D→Option Int→Option Int→aK→AK→Prop):V→Option Int→Option Int→Hp→VK→Prop:=fun x i j H Q=>∃ w d S Qa,Ok K w H S∧Rep K w d x∧a d i j S Qa∧dP K w Qa Q
theorem JP {r:D→Option Int→Option Int→aK→AK→Prop}{a:AE}{l u:AO}:∀ σ H Q,aR K (Gq r a l u) σ H Q→KL (DU K r) (aR K a) (Am K l) (Am K u) σ H Q:=by
 rintro σ H Q ⟨w,δ,S,Qa,ok,env,q,bk⟩
 refine ⟨w,δ,S,_,ok,env,q,.go fun r1 S1 v1 w1 H1 le1 ok1 rep1 q1 => ?_⟩
 refine ⟨w1,δ,S1,_,ok1,env.le le1,q1,fun i S2 w2 H2 le2 ok2 q2 => ?_⟩
 refine ⟨w2,δ,S2,_,ok2,env.le (le1.trans le2),q2,fun j S3 w3 H3 le3 ok3 q3 => ?_⟩
 exact ⟨w3,r1.d,S3,Qa,ok3,rep1.le (le2.trans le3),q3,bk.le (le1.trans (le2.trans le3))⟩
theorem EL:∀ D σ H,dU K kj D σ H→uO D σ H:=by
 rintro D σ H ⟨w,δ,S,Da,ok,env,q,bk⟩
 exact bk.nx δ S σ w H .refl ok env q
theorem Hz {a b:AS}:∀ D σ H,dU K (fB a b) D σ H→yo (dU K a) (dU K b) D σ H:=by
 rintro D σ H ⟨w,δ,S,Da,ok,env,q,bk⟩
 refine ⟨w,δ,S,_,ok,env,q,⟨fun δ1 S1 σ1 w1 H1 le1 ok1 env1 q1 => ?_,bk.rt,bk.bk,bk.ct⟩⟩
 exact ⟨w1,δ1,S1,Da,ok1,env1,q1,bk.le le1⟩
theorem HA {a:AE}:∀ D σ H,dU K (rX a) D σ H→G8 (aR K a) D σ H:=by
 rintro D σ H ⟨w,δ,S,Da,ok,env,q,bk⟩
 exact ⟨w,δ,S,_,ok,env,q,bk.rt⟩
theorem EV {a:AE}:∀ D σ H,dU K (ko a) D σ H→Dm (aR K a) D σ H:=by
 rintro D σ H ⟨w,δ,S,Da,ok,env,q,bk⟩
 exact ⟨w,δ,S,_,ok,env,q,.go fun r1 S1 v1 w1 H1 le1 ok1 rep1 q1=>bk.nx δ S1 σ w1 H1 le1 ok1 (env.le le1) q1⟩
theorem HF {c:AT}{a b:AS}:∀ D σ H,dU K (nK c a b) D σ H→Bu (fM K c) (dU K a) (dU K b) D σ H:=by
 rintro D σ H ⟨w,δ,S,Da,ok,env,q,bk⟩
 refine ⟨w,δ,S,_,ok,env,q,fun k S1 w1 H1 le1 ok1 q1 => ?_⟩
 cases k with
 | true=>exact kr ⟨w1,δ,S1,Da,ok1,env.le le1,by simpa using q1,bk.le le1⟩
 | false=>exact nF ⟨w1,δ,S1,Da,ok1,env.le le1,by simpa using q1,bk.le le1⟩
theorem oZ {i:Nat}:∀ x σ H Q,uo K (bG i) x σ H Q→j4 i x σ H Q:=by
 rintro x σ H Q ⟨w,d,δ,S,Qa,ok,env,rep,q,bk⟩
 exact bk _ S _ w H .refl ok (env.set rep i) q
theorem ET:∀ x σ H Q,rF K ki x σ H Q→IB x σ H Q:=by
 rintro x σ H Q ⟨w,ds,δ,S,Qa,ok,env,rep,⟨rfl,q⟩,bk⟩
 exact ⟨by simpa [aq] using rep,bk _ S _ w H .refl ok env q⟩
theorem BG {a:AG}{b:Bp}:∀ x σ H Q,rF K (gu a b) x σ H Q→DO (uo K a) (rF K b) x σ H Q:=by
 rintro x σ H Q ⟨w,ds,δ,S,Qa,ok,env,rep,⟨d,r,rfl,q⟩,bk⟩
 simp only [aq] at rep
 obtain ⟨v,vs,rfl,h1,h2⟩:=rep
 refine ⟨v,vs,rfl,w,d,δ,S,_,ok,env,h1,q,fun δ1 S1 σ1 w1 H1 le1 ok1 env1 q1 => ?_⟩
 exact ⟨w1,r,δ1,S1,Qa,ok1,env1,h2.le le1,q1,bk.le le1⟩
theorem ES {n:Nat}{a:Bp}:∀ x σ H Q,uo K (kh n a) x σ H Q→Iz K n (rF K a) x σ H Q:=by
 rintro x σ H Q ⟨w,d,δ,S,Qa,ok,env,rep,⟨ds,rfl,hl,q⟩,bk⟩
 simp only [Rep] at rep
 obtain ⟨p,xs,rfl,h1,h2⟩:=rep
 exact ⟨p,xs,rfl,dQ.same ok.base h1,by rw [h2.length];exact hl,w,ds,δ,S,Qa,ok,env,h2,q,bk⟩
theorem yR {a:AE}{g:AG}:∀ D σ H,dU K (kH a g) D σ H→oO (aR K a) (uo K g) D σ H:=by
 rintro D σ H ⟨w,δ,S,Da,ok,env,q,bk⟩
 refine ⟨w,δ,S,_,ok,env,q,.go fun r1 S1 v1 w1 H1 le1 ok1 rep1 q1 => ?_⟩
 exact ⟨w1,r1.d,δ,S1,_,ok1,env.le le1,rep1,q1,bk.nx.le le1⟩
theorem HH {i:AI}{g:AG}{b:AS}:∀ D σ H,dU K (iJ i g b) D σ H→Hh (um K i) (uo K g) (dU K b) D σ H:=by
 rintro D σ H ⟨w,δ,S,Da,ok,env,q,bk⟩
 refine ⟨w,δ,S,_,ok,env,q,fun ds P S1 J w1 H1 le1 ok1 it q1 => ?_⟩
 refine ⟨fun i m σ H=>m=ds.length - i∧i≤ds.length∧∃ w2 δ2 S2,w1.le w2∧Ok K w2 H S2∧cR K w2 δ2 σ∧mq P g b (ds.drop i) Da δ2 S2,⟨ds.length,by simp,zcz _,w1,δ,S1,.refl,ok1,env.le le1,by simpa using q1⟩,?_⟩
 rintro i m σ2 H2 ⟨rfl,hi,w2,δ2,S2,le2,ok2,env2,lp⟩
 by_cases hlt:i<ds.length
 ·rw [zae hlt] at lp
  obtain ⟨hP,lp⟩:=lp
  have hd:ds[i]? = some ds[i]:=zah hlt
  refine .inr ⟨it.go i H2 S2 w2 _ le2 ok2 hP hd,fun σ' H'=>∃ w3 δ3 S3,w1.le w3∧Ok K w3 H' S3∧cR K w3 δ3 σ'∧mq P g b (ds.drop (i+1)) Da δ3 S3,fun σ' H' h=>⟨_,by lia,rfl,hlt,h⟩,fun x H' y => ?_⟩
  obtain ⟨w2',le2',ok2,rx⟩:=it.yd i H2 S2 w2 _ x H' le2 ok2 hP hd y
  replace env2:=env2.le le2'
  replace le2:=le2.trans le2'
  refine ⟨w2',ds[i],δ2,S2,_,ok2,env2,rx,lp,fun δ3 S3 σ3 w3 H3 le3 ok3 env3 q3 => ?_⟩
  have lew:=le1.trans (le2.trans le3)
  refine ⟨w3,δ3,S3,_,ok3,env3,q3,⟨?_,bk.rt.le lew,bk.nx.le lew,?_⟩⟩
  ·exact fun δ4 S4 σ4 w4 H4 le4 ok4 env4 q4=>⟨w4,δ4,S4,le2.trans (le3.trans le4),ok4,env4,q4⟩
  ·exact fun δ4 S4 σ4 w4 H4 le4 ok4 env4 q4=>⟨w4,δ4,S4,le2.trans (le3.trans le4),ok4,env4,q4⟩
 ·have e:i=ds.length:=by lia
  subst e
  rw [List.drop_length] at lp
  exact .inl ⟨it.stop _ H2 S2 w2 le2 ok2 lp.1 rfl,bk.nx δ2 S2 σ2 w2 H2 (le1.trans le2) ok2 env2 lp.2⟩
theorem BD {c:AT}{b:AS}:∀ D σ H,dU K (p7 c b) D σ H→yl (fM K c) (dU K b) D σ H:=by
 rintro D σ H ⟨w,δ,S,Da,ok,env,⟨W,⟨m0,w0⟩,turn⟩,bk⟩
 refine ⟨fun m σ H=>∃ w1 δ1 S1,w.le w1∧Ok K w1 H S1∧cR K w1 δ1 σ∧W m δ1 S1,⟨m0,w,δ,S,.refl,ok,env,w0⟩,?_⟩
 rintro m σ1 H1 ⟨w1,δ1,S1,le1,ok1,env1,h1⟩
 refine ⟨w1,δ1,S1,_,ok1,env1,turn m δ1 S1 h1,fun k S2 w2 H2 le2 ok2 q2 => ?_⟩
 cases k with
 | false=>exact nF (bk.nx δ1 S2 σ1 w2 H2 (le1.trans le2) ok2 (env1.le le2) (by simpa using q2))
 | true =>
  rw [yIp rfl] at q2
  obtain ⟨N,hN,q2⟩:=q2
  have lew:=le1.trans le2
  refine kr ⟨fun σ' H'=>∃ w3 δ3 S3,w.le w3∧Ok K w3 H' S3∧cR K w3 δ3 σ'∧N δ3 S3,?_,w2,δ1,S2,_,ok2,env1.le le2,q2,⟨?_,bk.rt.le lew,bk.nx.le lew,?_⟩⟩
  ·rintro σ' H' ⟨w3,δ3,S3,le3,ok3,env3,n3⟩
   obtain ⟨m',hm,h3⟩:=hN δ3 S3 n3
   exact ⟨m',hm,w3,δ3,S3,le3,ok3,env3,h3⟩
  ·exact fun δ4 S4 σ4 w4 H4 le4 ok4 env4 q4=>⟨w4,δ4,S4,lew.trans le4,ok4,env4,q4⟩
  ·exact fun δ4 S4 σ4 w4 H4 le4 ok4 env4 q4=>⟨w4,δ4,S4,lew.trans le4,ok4,env4,q4⟩
theorem Hu:∀ σ H Q,fM K xM σ H Q→G4 σ H Q:=by
 rintro σ H Q ⟨w,δ,S,Qa,ok,env,q,bk⟩
 exact bk true S w H .refl ok q
theorem Ab {w:Wd}{δ:bU}{σ:St} (h:cR K w δ σ) (caps:List (Option Nat)):cR K w (dM caps δ) (nI caps σ):=by
 refine ⟨by simp [dM,nI],fun i d e => ?_⟩
 simp only [dM,zbb] at e
 cases q:caps[i]? with
 | none=>rw [q] at e;cases e
 | some o =>
  rw [q] at e
  cases o with
  | none=>simp at e
  | some j =>
   cases z:δ[j]? with
   | none=>rw [Option.map_some] at e;simp [z] at e
   | some d' =>
    simp [z] at e
    subst e
    obtain ⟨v,h1,h2⟩:=h.2 j d z
    exact ⟨v,by simp [nI,zbb,q,h1],h2⟩
theorem yQ {caps:List (Option Nat)}{i:AI}{g:AG}{t:AT}{e:AE}:∀ σ H Q,aR K (bZ caps i g t e) σ H Q→yx caps (um K i) (uo K g) (fM K t) (aR K e) σ H Q:=by
 rintro σ H Q ⟨w,δ,S,Qa,ok,env,q,bk⟩
 refine ⟨w,δ,S,_,ok,env,q,fun ds P S1 J w1 H1 le1 ok1 it q1 => ?_⟩
 refine ⟨fun i m xs τ H=>m=ds.length - i∧i≤ds.length∧∃ w2 δ2 S2 acc,w1.le w2∧Ok K w2 H S2∧cR K w2 δ2 τ∧aq K w2 acc xs∧ic P g t e (ds.drop i) acc δ2 S2 (fun ds' S2=>Qa (.new (.lst ds')) S2),
  ⟨ds.length,by simp,zcz _,w1,dM caps δ,S1,[],.refl,ok1,Ab (env.le le1) caps,.nil,by simpa using q1⟩,?_⟩
 rintro i m xs τ2 H2 ⟨rfl,hi,w2,δ2,S2,acc,le2,ok2,env2,reps,lp⟩
 by_cases hlt:i<ds.length
 ·rw [zae hlt] at lp
  obtain ⟨hP,lp⟩:=lp
  have hd:ds[i]? = some ds[i]:=zah hlt
  refine .inr ⟨it.go i H2 S2 w2 _ le2 ok2 hP hd,fun ys τ' H'=>∃ w3 δ3 S3 acc,w1.le w3∧Ok K w3 H' S3∧cR K w3 δ3 τ'∧aq K w3 acc ys∧ic P g t e (ds.drop (i+1)) acc δ3 S3 (fun ds' S2=>Qa (.new (.lst ds')) S2),fun ys σ' H' h=>⟨_,by lia,rfl,hlt,h⟩,fun x H' y => ?_⟩
  obtain ⟨w2',le2',ok2,rx⟩:=it.yd i H2 S2 w2 _ x H' le2 ok2 hP hd y
  replace env2:=env2.le le2'
  replace le2:=le2.trans le2'
  replace reps:=reps.le le2'
  refine ⟨w2',ds[i],δ2,S2,_,ok2,env2,rx,lp,fun δ3 S3 σ3 w3 H3 le3 ok3 env3 q3 => ?_⟩
  refine ⟨w3,δ3,S3,_,ok3,env3,q3,fun k S4 w4 H4 le4 ok4 q4 => ?_⟩
  cases k with
  | false =>
   exact nF ⟨w4,δ3,S4,acc,le2.trans (le3.trans le4),ok4,env3.le le4,reps.le (le3.trans le4),by simpa using q4⟩
  | true =>
   rw [yIp rfl] at q4
   refine kr ⟨w4,δ3,S4,_,ok4,env3.le le4,q4,.go fun r5 S5 v5 w5 H5 le5 ok5 rep5 ⟨hz,q5⟩ => ?_⟩
   exact ⟨by rw [reps.length];exact hz,w5,δ3,S5,acc++[r5.d],le2.trans (le3.trans (le4.trans le5)),ok5,env3.le (le4.trans le5),(reps.le (le3.trans (le4.trans le5))).snoc rep5,q5⟩
 ·have e:i=ds.length:=by lia
  subst e
  rw [List.drop_length] at lp
  refine .inl ⟨it.stop _ H2 S2 w2 le2 ok2 lp.1 rfl,fun p hp => ?_⟩
  exact bk (.new (.lst acc)) S2 _ w2 _ (le1.trans le2) (ok2.alloc hp) (ok2.fresh hp ⟨xs,rfl,reps⟩) lp.2
theorem Ci {w:Wd}{p:Addr}{xs:List V}{ds:List D} (h1:w.B p=some (.lst xs)) (h:aq K w ds xs):Jm K w (Jl K p) ds (fun _=>True) where
 go:=fun i H S w' d le ok hP e=>by
  obtain ⟨v,e1,_⟩:=h.get e
  exact ⟨xs,v,cH.of ((le.b.trans ok.base) _ _ h1),e1⟩
 yd:=fun i H S w' d x H' le ok hP e y=>by
  obtain ⟨v,e1,e2⟩:=h.get e
  obtain ⟨y1,y2⟩:=y
  have:=y2 xs (cH.of ((le.b.trans ok.base) _ _ h1))
  rw [e1] at this;cases this
  subst y1
  exact ⟨w',.refl,ok,e2.le le⟩
 stop:=fun i H S w' le ok hP e=>⟨xs,cH.of ((le.b.trans ok.base) _ _ h1),by rw [h.length];lia⟩
theorem Cj {w:Wd}{p:Addr}{n:Nat}{ds:List D} (hp:w.r n=some p):Jm K w (Jl K p) ds (fun S=>S[n]? = some (some (.lst ds))) where
 go:=fun i H S w' d le ok hP e=>by
  obtain ⟨b,u,k1,k2,k3,ys,rfl,k5⟩:=ok.live n _ hP
  rw [le.r n p hp] at k1;cases k1
  obtain ⟨v,e1,_⟩:=k5.get e
  exact ⟨ys,v,cH.of k3,e1⟩
 yd:=fun i H S w' d x H' le ok hP e y=>by
  obtain ⟨b,u,k1,k2,k3,ys,rfl,k5⟩:=ok.live n _ hP
  rw [le.r n p hp] at k1;cases k1
  obtain ⟨v,e1,e2⟩:=k5.get e
  obtain ⟨y1,y2⟩:=y
  have:=y2 ys (cH.of k3)
  rw [e1] at this;cases this
  subst y1
  exact ⟨w',.refl,ok,e2⟩
 stop:=fun i H S w' le ok hP e=>by
  obtain ⟨b,u,k1,k2,k3,ys,rfl,k5⟩:=ok.live n _ hP
  rw [le.r n p hp] at k1;cases k1
  exact ⟨ys,cH.of k3,by rw [k5.length];lia⟩
theorem Cf {w:Wd}{p:Addr}{xs:List V}{ds:List D} (h1:dQ K w.B p xs) (h2:aq K w ds xs):Jm K w (JD K p) ds (fun _=>True) where
 go:=fun i H S w' d le ok hP e=>by
  obtain ⟨v,e1,_⟩:=h2.get e
  exact ⟨xs,v,dQ.same (le.b.trans ok.base) h1,e1⟩
 yd:=fun i H S w' d x H' le ok hP e y=>by
  obtain ⟨v,e1,e2⟩:=h2.get e
  obtain ⟨y1,y2⟩:=y
  have:=y2 xs (dQ.same (le.b.trans ok.base) h1)
  rw [e1] at this;cases this
  subst y1
  exact ⟨w',.refl,ok,e2.le le⟩
 stop:=fun i H S w' le ok hP e=>⟨xs,dQ.same (le.b.trans ok.base) h1,by rw [h2.length];lia⟩
theorem Cg {w:Wd}{x:Str}:Jm K w (JE x) (signs x) (fun _=>True) where
 go:=fun i H S w' d le ok hP e=>by
  have:i<(signs x).length:=by
   rcases zcr i (signs x).length with h | h
   ·exact h
   ·rw [zas h] at e;cases e
  show i<x.cps.size
  simpa [signs] using this
 yd:=fun i H S w' d y H' le ok hP e z=>by
  obtain ⟨z1,c,z2,rfl⟩:=z
  subst z1
  refine ⟨w',.refl,ok,?_⟩
  rw [signs,zbb] at e
  have z2':x.cps.toList[i]? = some c:=by simpa using z2
  rw [z2'] at e
  have:D.str ⟨#[c]⟩=d:=by simpa using e
  subst this
  exact .str
 stop:=fun i H S w' le ok hP e=>by
  show _=_
  rw [e];simp [signs]
def bT (S1:aK) (Q:List D→(aK→Prop)→aK→Prop):D→Prop
 | .lst ds=>Q ds (fun _=>True) S1
 | .tup ds=>Q ds (fun _=>True) S1
 | .str x=>Q (signs x) (fun _=>True) S1
 | .loc n=>∃ ds,S1[n]? = some (some (.lst ds))∧Q ds (fun S=>S[n]? = some (some (.lst ds))) S1
 | _=>False
def cT (t:AE):AI:=fun δ S Q=>t δ S fun r S1=>bT S1 Q r.d
theorem ER {t:AE}:∀ σ H R,um K (cT t) σ H R→(aR K t) σ H fun x H1=>(∃ a,x = .ref a∧(∃ xs,cH K H1 a xs)∧R (Jl K a) H1)∨(∃ a,x = .ref a∧(∃ xs,dQ K H1 a xs)∧R (JD K a) H1)∨∃ y,x = .str y∧R (JE y) H1:=by
 rintro σ H R ⟨w,δ,S,Qa,ok,env,q,bk⟩
 refine ⟨w,δ,S,_,ok,env,q,.go fun r1 S1 v1 w1 H1 le1 ok1 rep1 q1 => ?_⟩
 generalize r1.d=d at rep1 q1
 cases d with
 | lst ds =>
  simp only [Rep] at rep1
  obtain ⟨p,xs,rfl,h1,h2⟩:=rep1
  exact .inl ⟨p,rfl,⟨xs,cH.of (ok1.base _ _ h1)⟩,bk ds _ S1 _ w1 H1 le1 ok1 (Ci h1 h2) q1⟩
 | tup ds =>
  simp only [Rep] at rep1
  obtain ⟨p,xs,rfl,h1,h2⟩:=rep1
  exact .inr (.inl ⟨p,rfl,⟨xs,dQ.same ok1.base h1⟩,bk ds _ S1 _ w1 H1 le1 ok1 (Cf h1 h2) q1⟩)
 | str x=>exact .inr (.inr ⟨x,fk rep1 rfl,bk _ _ S1 _ w1 H1 le1 ok1 Cg q1⟩)
 | loc n =>
  simp only [Rep] at rep1
  obtain ⟨p,hp,rfl⟩:=rep1
  obtain ⟨ds,e,q1⟩:=q1
  obtain ⟨p',u,g1,g2,g3,xs,rfl,g5⟩:=ok1.live n _ e
  rw [hp] at g1;cases g1
  exact .inl ⟨p,rfl,⟨xs,cH.of g3⟩,bk ds _ S1 _ w1 H1 le1 ok1 (Cj hp) q1⟩
 | _=>exact q1.elim
theorem zc {lo:Int}{n i:Nat}{d:D} (e:(fH lo n)[i]? = some d):i<n∧d = .int (lo+(i:Int)):=by
 unfold fH at e
 rw [zbb] at e
 by_cases h:i<n
 ·rw [List.getElem?_range h] at e
  exact ⟨h,by simpa using e.symm⟩
 ·rw [zas (by simpa using h)] at e;cases e
theorem EN {a:AA}:∀ σ H R,um K (xw a) σ H R→DM (nG K a) σ H R:=by
 rintro σ H R ⟨w,δ,S,Qa,ok,env,q,bk⟩
 refine ⟨w,δ,S,_,ok,env,q,fun ds S1 vs w1 H1 le1 ok1 rep1 ⟨j,hd,⟨h1,h2⟩,q1⟩=>⟨j,?_,h1,h2,?_⟩⟩
 ·subst hd
  simp only [aq,Rep] at rep1
  obtain ⟨x,r,rfl,rfl,rfl⟩:=rep1
  rfl
 ·refine bk _ _ S1 _ w1 H1 le1 ok1 ⟨fun i H S w' d le ok hP e => ?_,fun i H S w' d x H' le ok hP e y => ?_,fun i H S w' le ok hP e => ?_⟩ q1
  ·exact (zc e).1
  ·obtain ⟨y1,y2⟩:=y
   obtain ⟨e1,rfl⟩:=zc e
   subst y2 y1
   exact ⟨w',.refl,ok,.int⟩
  ·show _≤_
   rw [e];simp [fH]
end
end M
namespace M
open PySem PySem.Spec PyProof.Rows L2
section
variable {X:Cx}{pos:Pos}{e a b c:Expr}{es:List Expr}
theorem pv (i:Nat) {x:Str} (hN:X.N[i]? = some x:=by rfl) (hv:JA X.env.scope x:=by first | exact Or.inl rfl | exact Or.inr (Or.inl rfl) | exact Or.inr (Or.inr rfl)) (hd:(x==("__debug__" : Str))=false:=by decide)
  (hcd:(x==("__classdict__" : Str))=false:=by decide):GE X (.Name x pos) (aX i):=⟨mE (L2.zw hN hv hd hcd) Hv⟩
theorem ai {i j}:GE X (.Constant (.int i) j pos) (aC (.int i)):=⟨mE L2.ai (GQ fun _=>.int)⟩
theorem eW {i j}:GE X (.Constant (.bool i) j pos) (aC (.bl i)):=⟨mE L2.eW (GQ fun _=>.bl)⟩
theorem av {i j}:GE X (.Constant (.str i) j pos) (aC (.str i)):=⟨mE L2.av (GQ fun _=>.str)⟩
theorem iD {j}:GE X (.Constant .none j pos) (aC .bh):=⟨mE L2.iD (GQ fun _=>.bh)⟩
theorem qO (T:String) {x:Str} (hg:Gl X x) (hm:X.mg x=none) (hv:bootBuiltins x=some (.type T)) (hn:x ≠ "__name__" := by decide +kernel) (hd:(x==("__debug__" : Str))=false:=by decide +kernel):GE X (.Name x pos) (aC (.ty T)) :=
 ⟨mE (L2.qO T hg hm hv hn hd) (GQ fun _=>.ty)⟩
theorem iZ {x:Str}{d:D}{v:V}{u:yaj} (hg:Gl X x) (hm:X.mg x=some u) (r:RelV v u) (h:∀ w,Rep X.K w d v) (hd:(x==("__debug__" : Str))=false:=by decide):GE X (.Name x pos) (aC d) :=
 ⟨mE (L2.iZ hg hm r hd) (GQ h)⟩
theorem aW {op:Operator}{r:A2}{ta tb:AE} (ho:qo X (binaryOp op) r) (ha:GE X a ta) (hb:GE X b tb):GE X (.BinOp a op b pos) (fQ r ta tb):=⟨mE (L2.aW ho.p ha.p hb.p) BF⟩
theorem dY {op:CmpOp}{r:A2}{ta tb:AE} (ho:qo X (yao op) r) (ha:GE X a ta) (hb:GE X b tb) (hm:behindInMarks op b=false):GE X (.Compare a [op] [b] pos) (fQ r ta tb):=⟨mE (L2.dY ho.p ha.p hb.p hm) BF⟩
theorem aM {r:A2}{ta tb:AE} (ho:K3 X r) (ha:GE X a ta) (hb:GE X b tb) (hs:wc b):GE X (.Subscript a b pos) (fQ r ta tb):=⟨mE (L2.aM ho.p ha.p hb.p hs) BF⟩
theorem aa:GA X [] fF:=⟨mA L2.aa HC⟩
theorem ay {ta:AE}{t:AA} (ha:GE X e ta) (hr:GA X es t) (hs:notStar e=true:=by rfl):GA X (e::es) (cB ta t):=⟨mA (L2.ay ha.p hr.p hs) EZ⟩
theorem br {k:Nat}{t:AA} (h:GA X es t):GE X (.Tuple es k pos) (rV t):=⟨mE (L2.br h.p) Hx⟩
theorem aS {t:AA} (h:GA X es t):GE X (.List es pos) (qc t):=⟨mE (L2.aS h.p) HE⟩
theorem oG {t:AE} (h:GE X e t):GE X e (bQ t):=⟨mE h.p s_alloc⟩
theorem pI {op}{t:AE} (h:GE X a t):GE X (.BoolOp op [a] pos) t:=⟨L2.pI h.p⟩
theorem jJ {rest:List Expr}{ta tb:AE} (ha:GE X a ta) (hb:GE X (.BoolOp .And (b::rest) pos) tb):GE X (.BoolOp .And (a::b::rest) pos) (m9 ta tb):=⟨mE (L2.jJ ha.p hb.p) E1⟩
theorem f7 {t:AT}{ta tb:AE} (hc:GT X c t) (ha:GE X a ta) (hb:GE X b tb):GE X (.IfExp c a b pos) (Gu t ta tb):=⟨mE (L2.f7 hc.p ha.p hb.p) JR⟩
theorem cO:GO X none fE:=⟨mO L2.cO yO⟩
theorem cN {t:AE} (h:GE X e t):GO X (some e) (mZ t):=⟨mO (L2.cN h.p) EK⟩
structure K2 (X:Cx) (r:D→Option Int→Option Int→aK→AK→Prop):Prop where
 p:Bm X (DU X.K r)
theorem bW {lo hi:Option Expr}{p2:Pos}{r:D→Option Int→Option Int→aK→AK→Prop}{te:AE}{tl th:AO} (hr:K2 X r) (he:GE X e te) (hl:GO X lo tl) (hu:GO X hi th):GE X (.Subscript e (.Slice lo hi none p2) pos) (Gq r te tl th) :=
 ⟨mE (L2.bW hr.p he.p hl.p hu.p) JP⟩
theorem n5 {id:String}{r:AN}{t:AA}{x:Str}{p:Pos} (hc:C8 X (.builtin id) r) (hg:Gl X x) (hm:X.mg x=none) (hv:bootBuiltins x=some (.builtin id)) (ha:GA X (e::es) t) (hn:x ≠ "__name__" := by decide +kernel) (hdb:(x==("__debug__" : Str))=false:=by decide +kernel)
  (hs:(e::es).all notStar=true:=by rfl):GE X (.Call (.Name x p) (e::es) [] pos) (aCall r t):=⟨mE (L2.n5 hc.p hg hm hv ha.p hn hdb hs) HJ⟩
theorem x9 {T:String}{r:AN}{t:AA}{x:Str}{p:Pos} (hc:C8 X (.type T) r) (hg:Gl X x) (hm:X.mg x=none) (hv:bootBuiltins x=some (.type T)) (ha:GA X (e::es) t) (hn:x ≠ "__name__" := by decide +kernel) (hdb:(x==("__debug__" : Str))=false:=by decide +kernel)
  (hs:(e::es).all notStar=true:=by rfl):GE X (.Call (.Name x p) (e::es) [] pos) (aCall r t):=⟨mE (L2.x9 hc.p hg hm hv ha.p hn hdb hs) HJ⟩
theorem cy {k:Nat}{ps:List Str}{sp:AN}{t:AA}{x:Str}{p:Pos} (D:Def X.prog X.w X.K X.mg X.base k x ps (aD X.K sp)) (hr:bE k X.A) (hg:Gl X x) (ha:GA X (e::es) t) (hdb:(x==("__debug__" : Str))=false:=by decide +kernel) (hs:(e::es).all notStar=true:=by rfl) :
  GE X (.Call (.Name x p) (e::es) [] pos) (aCall sp t):=⟨mE (L2.cy D hr hg DB ha.p hdb hs) s_call⟩
theorem cu {t:AE} (h:GE X e t) (he:∀ whole,isTrue e X.env whole=(do let v ← whole;standAt e.pos;holding [v] (truthy v)):=by intro _;rfl):GT X e (kG t):=⟨mT (L2.zp h.p he) Hy⟩
theorem aA {op:CmpOp}{r:A2}{ta tb:AE} (ho:qo X (yao op) r) (ha:GE X a ta) (hb:GE X b tb) (hm:behindInMarks op b=false):GT X (.Compare a [op] [b] pos) (aB (fQ r ta tb)) :=
 ⟨mT (L2.aA ho.p ha.p hb.p hm) fun σ H Q h=>by
  obtain ⟨w,δ,S,Qa,ok,env,q,bk⟩:=s_b σ H Q h
  exact BF σ H _ ⟨w,δ,S,Qa,ok,env,q,bk⟩⟩
theorem pw_pt {t:AT} (h:GW X e t):GT X e t:=⟨h.p.pt⟩
theorem pw_and1 {t:AT} (h:GT X a t):GW X (.BoolOp .And [a] pos) t:=⟨L2.pw_and1 h.p⟩
theorem pw_or1 {t:AT} (h:GT X a t):GW X (.BoolOp .Or [a] pos) t:=⟨L2.pw_or1 h.p⟩
theorem pw_and {rest:List Expr}{t u:AT} (ha:GT X a t) (hb:GW X (.BoolOp .And (b::rest) pos) u):GW X (.BoolOp .And (a::b::rest) pos) (uB t u):=⟨mW (L2.pw_and ha.p hb.p) HK⟩
theorem pw_or {rest:List Expr}{t u:AT} (ha:GT X a t) (hb:GW X (.BoolOp .Or (b::rest) pos) u):GW X (.BoolOp .Or (a::b::rest) pos) (AQ t u):=⟨mW (L2.pw_or ha.p hb.p) JQ⟩
theorem eB {t:AT} (h:GT X a t):GT X (.UnaryOp .Not a pos) (m5 t):=⟨mT (L2.eB h.p) HB⟩
theorem dX:JG X [] xM:=⟨mTs L2.dX Hu⟩
theorem bM {t:AT} (h:GT X c t):JG X [c] t:=⟨L2.bM h.p⟩
theorem dG {tg:Expr}{t:AA}{p:Pos} (hg:Gl X "range") (hm:X.mg "range" = none) (ha:GA X [a] t) (hs:yap [a] X.env=[(false,eval a X.env)]:=by rfl):GI X tg (.Call (.Name "range" p) [a] [] pos) (xw t):=⟨mI (L2.dG hg hm ha.p hs) EN⟩
theorem BZ {tg l:Expr}{tl:TE} (hl:PE X l tl):PI X tg l (fun σ H R=>tl σ H fun x H1=>(∃ a,x = .ref a∧(∃ xs,cH X.K H1 a xs)∧R (Jl X.K a) H1)∨(∃ a,x = .ref a∧(∃ xs,dQ X.K H1 a xs)∧R (JD X.K a) H1)∨∃ y,x = .str y∧R (JE y) H1):=by
 intro pins s σ H R I h
 refine bJ (hl pins s σ H _ I h) fun v s1 ⟨x,H1,I1,r1,q1⟩ => ?_
 rcases q1 with ⟨a,rfl,⟨xs,hq⟩,q⟩ | ⟨a,rfl,⟨xs,hq⟩,q⟩ | ⟨y,rfl,q⟩
 ·cases r1
  obtain ⟨its,rv,p,hz⟩:=I1.list hq
  refine wpAny_pyIter_list p.isList ?_
  refine ⟨s1.heap.objs.size,[s1.heap.objs.size],_,_,H1,rfl,I1.kept (t':=s1.toks) fun b o e=>zan _ e,wD a _,⟨_,zaK _ rfl,rfl,rfl⟩,fun b hb => ?_,q⟩
  have e:b=s1.heap.objs.size:=by simpa using hb
  subst e
  exact I1.ue (zcy _) (I1.hok.fresh (zcy _))
 ·cases r1
  obtain ⟨its,rv,p,hz⟩:=I1.tuple hq
  refine wpAny_pyIter_tuple (show s1.heap.IsTuple a its.toArray from p) ?_
  refine ⟨s1.heap.objs.size,[s1.heap.objs.size],_,_,H1,rfl,I1.kept (t':=s1.toks) fun b o e=>zan _ e,sN a _,⟨_,zaK _ rfl,rfl,rfl⟩,fun b hb => ?_,q⟩
  have e:b=s1.heap.objs.size:=by simpa using hb
  subst e
  exact I1.ue (zcy _) (I1.hok.fresh (zcy _))
 ·obtain ⟨t,rfl⟩:=r1
  refine wpAny_pyIter_strU ?_
  refine ⟨s1.heap.objs.size,[s1.heap.objs.size],_,_,H1,rfl,I1.kept (t':=s1.toks) fun b o e=>zan _ e,yg _ y t,⟨_,zaK _ rfl,rfl,rfl⟩,fun b hb => ?_,q⟩
  have e:b=s1.heap.objs.size:=by simpa using hb
  subst e
  exact I1.ue (zcy _) (I1.hok.fresh (zcy _))
theorem bB {tg l:Expr}{tl:AE} (hl:GE X l tl):GI X tg l (cT tl):=⟨mI (BZ hl.p) ER⟩
theorem bF {elt tg iter:Expr}{ifs:List Expr}{scope:Scope}{N:List Str}{caps:List (Option Nat)}{wi:AI}{g:AG}{tt:AT}{te:AE}
  (S:dO scope N) (hcap:kc X.N X.env scope N caps=true) (hfr:L2.freeOk X.env scope=true) (hc:X.calm=true) (hi:GI X tg iter wi)
  (hg:∀ s₀ H₀ C fp,GG (kE X scope N s₀ H₀ C fp) tg g) (ht:∀ s₀ H₀ C fp,JG (kE X scope N s₀ H₀ C fp) ifs tt) (he:∀ s₀ H₀ C fp,GE (kE X scope N s₀ H₀ C fp) elt te)
  (hs:∀ x,foldedSetIterable iter X.env x=pure x:=by intro _;rfl):GE X (.ListComp elt [⟨tg,iter,ifs,0⟩] scope pos) (bZ caps wi g tt te) :=
 ⟨mE (L2.bF S hcap hfr hc hi.p (fun s₀ H₀ C fp=>(hg s₀ H₀ C fp).p) (fun s₀ H₀ C fp=>(ht s₀ H₀ C fp).p) (fun s₀ H₀ C fp=>(he s₀ H₀ C fp).p) hs) yQ⟩
theorem aL:uF X [] kj:=⟨Ij L2.aL EL⟩
theorem aj {st:Stmt}{t:AS} (h:GS X st t):uF X [st] t:=⟨L2.aj h.p⟩
theorem ah {st:Stmt}{rest:List Stmt}{t u:AS} (h:GS X st t) (g:uF X rest u):uF X (st::rest) (fB t u):=⟨Ij (L2.ah h.p g.p) Hz⟩
theorem cD {t:AE} (h:GE X e t) (hs:yau e none pos.line X.env=pure false:=by rfl):GS X (.Expr e pos) (ko t):=⟨mS (L2.cD h.p hs) EV⟩
theorem aF {t:AE} (h:GE X e t):GS X (.Return (some e) pos) (rX t):=⟨mS (L2.aF h.p) HA⟩
theorem bu {p q:List Stmt}{tc:AT}{t u:AS} (hc:GT X c tc) (ha:uF X p t) (hb:uF X q u):GS X (.If c p q pos) (nK tc t u):=⟨mS (L2.bu hc.p ha.p hb.p) HF⟩
theorem aG {i:Nat}{x:Str} (hN:X.N.Nodup) (hi:X.N[i]? = some x) (hx:Loc X.env.scope x) (hf:X.fn x=true∨X.env.scope.names.lookup x=some .local:=by first | exact .inl rfl | exact .inr rfl | assumption):GG X (.Name x pos) (bG i):=⟨mG (L2.aG hN hi hx hf) oZ⟩
theorem fm:JI X [] ki:=⟨KR L2.fm ET⟩
theorem bP {t:AG}{u:Bp} (h1:GG X e t) (h2:JI X es u) (hs:(assignEach (e::es) X.env).map (·.2)=assign e X.env::(assignEach es X.env).map (·.2):=by rfl):JI X (e::es) (gu t u):=⟨KR (L2.bP h1.p h2.p hs) BG⟩
theorem iC {k:Nat}{t:Bp}{n:Nat} (hc:X.calm=true) (h:JI X es t) (hn:(assignEach es X.env).length=n:=by rfl) (hst:(assignEach es X.env).findIdx? (·.1)=none:=by rfl):GG X (.Tuple es k pos) (kh n t):=⟨mG (L2.iC hc h.p hn hst) ES⟩
theorem pD {tg:Expr}{t:AE}{g:AG} (he:GE X e t) (hg:GG X tg g) (hs:swapsWithSole [tg] e pos.line X.env=pure false:=by rfl) (hw:swappedStores [tg] e X.env=pure none:=by rfl)
  (h1:(assignEach [tg] X.env).map (·.2)=[assign tg X.env]:=by rfl):GS X (.Assign [tg] e pos) (kH t g):=⟨mS (L2.pD he.p hg.p hs hw h1) yR⟩
theorem az {i:Nat}{x:Str}{t:AE}{pos':Pos} (hN:X.N.Nodup) (hi:X.N[i]? = some x) (hx:Loc X.env.scope x) (he:GE X e t) (hs:yau e (some (.Name x pos')) pos.line X.env=pure false:=by rfl) (hf:X.fn x=true∨X.env.scope.names.lookup x=some .local:=by first | exact .inl rfl | exact .inr rfl | assumption) :
  GS X (.Assign [.Name x pos'] e pos) (kH t (bG i)):=⟨mS (L2.az hN hi hx he.p hs hf) fun D σ H h=>by
  obtain ⟨w,δ,S,Qa,ok,env,q,bk⟩:=yR D σ H h
  exact ⟨w,δ,S,Qa,ok,env,q,fun r S' v w' H' le ok' rep q'=>oZ _ _ _ _ (bk r S' v w' H' le ok' rep q')⟩⟩
theorem dJ {elt tg iter:Expr}{ifs:List Expr}{scope:Scope}{N:List Str}{caps:List (Option Nat)}{pos' spos:Pos}{wi:AI}{g:AG}{tt:AT}{te:AE}{i:Nat}{x:Str}
  (hN:X.N.Nodup) (hix:X.N[i]? = some x) (hx:X.env.scope.names.lookup x=some .local)
  (S:dO scope N) (hcap:kc X.N X.env scope N caps=true) (hfr:L2.freeOk X.env scope=true) (hc:X.calm=true) (hi:GI X tg iter wi)
  (hg:∀ s₀ H₀ C fp,GG (kE X scope N s₀ H₀ C fp) tg g) (ht:∀ s₀ H₀ C fp,JG (kE X scope N s₀ H₀ C fp) ifs tt) (he:∀ s₀ H₀ C fp,GE (kE X scope N s₀ H₀ C fp) elt te)
  (hsw:yau (.ListComp elt [⟨tg,iter,ifs,0⟩] scope pos) (some (.Name x pos')) spos.line X.env=pure true:=by rfl)
  (hs:∀ x,foldedSetIterable iter X.env x=pure x:=by intro _;rfl):GS X (.Assign [.Name x pos'] (.ListComp elt [⟨tg,iter,ifs,0⟩] scope pos) spos) (kH (bZ caps wi g tt te) (bG i)) :=
 ⟨mS (L2.dJ hN hix hx S hcap hfr hc hi.p (fun s₀ H₀ C fp=>(hg s₀ H₀ C fp).p) (fun s₀ H₀ C fp=>(ht s₀ H₀ C fp).p) (fun s₀ H₀ C fp=>(he s₀ H₀ C fp).p) hsw hs) fun D σ H h=>by
  obtain ⟨w,δ,S,Qa,ok,env,q,bk⟩:=yR D σ H h
  exact yQ _ _ _ ⟨w,δ,S,Qa,ok,env,q,fun r S' v w' H' le ok' rep q'=>oZ _ _ _ _ (bk r S' v w' H' le ok' rep q')⟩⟩
theorem cV {tg iter:Expr}{body:List Stmt}{wi:AI}{g:AG}{tb:AS} (hp:PassesOwn (model X.prog X.w) X.A X.env X.xe) (hc:X.calm=true) (hi:GI X tg iter wi) (hg:GG X tg g) (hb:uF X body tb)
  (hs:∀ x,foldedSetIterable iter X.env x=pure x:=by intro _;rfl):GS X (.For tg iter body [] pos) (iJ wi g tb):=⟨mS (L2.cV hp hc hi.p hg.p hb.p hs) HH⟩
theorem dI {body:List Stmt}{tc:AT}{tb:AS} (hp:PassesOwn (model X.prog X.w) X.A X.env X.xe) (hc:GT X c tc) (hb:uF X body tb):GS X (.While c body [] pos) (p7 tc tb):=⟨mS (L2.dI hp hc.p hb.p) BD⟩
end
section
variable {X:Cx}
theorem DC {f:yaj→yaj→Sem yaj}{r r':R2} (h:gH X f r) (h':gH X f r'):gH X f (fun x y H Q=>r x y H Q∨r' x y H Q):=by
 intro pins s σ H x y v u Q I rx ry q
 rcases q with q | q
 ·exact h pins s σ H x y v u Q I rx ry q
 ·exact h' pins s σ H x y v u Q I rx ry q
theorem J6 {f:yaj}{r r':List V→Hp→VK→Prop} (h:b6 X f r) (h':b6 X f r'):b6 X f (fun x H Q=>r x H Q∨r' x H Q):=by
 intro pins s σ H x v Q I rx q
 rcases q with q | q
 ·exact h pins s σ H x v Q I rx q
 ·exact h' pins s σ H x v Q I rx q
variable {K:yaH}{w:Wd}{H:Hp}{S:aK}{v u:V}{d e:D}
theorem b9 {i:Int} (h:Rep K w d v) (z:bf S d = .int i):v = .int i:=by
 cases d <;> simp only [bf] at z
 case loc n=>split at z <;> first | (rename_i o _;cases o <;> simp [MO.d] at z) | cases z
 all_goals first | cases z | skip
 simpa [Rep] using h
theorem bK {i:Str} (h:Rep K w d v) (z:bf S d = .str i):v = .str i:=by
 cases d <;> simp only [bf] at z
 case loc n=>split at z <;> first | (rename_i o _;cases o <;> simp [MO.d] at z) | cases z
 all_goals first | cases z | skip
 simpa [Rep] using h
theorem fj {i:Bool} (h:Rep K w d v) (z:bf S d = .bl i):v = .bl i:=by
 cases d <;> simp only [bf] at z
 case loc n=>split at z <;> first | (rename_i o _;cases o <;> simp [MO.d] at z) | cases z
 all_goals first | cases z | skip
 simpa [Rep] using h
theorem By (h:Rep K w d v) (z:bf S d = .bh):v = .bh:=by
 cases d <;> simp only [bf] at z
 case loc n=>split at z <;> first | (rename_i o _;cases o <;> simp [MO.d] at z) | cases z
 all_goals first | cases z | skip
 simpa [Rep] using h
theorem iQ {ns:List Int} (k:Ok K w H S) (h:Rep K w d v) (z:bf S d = .fG ns):∃ a,v = .ref a∧cH K H a (ns.map V.int):=by
 cases d <;> simp only [bf] at z
 case loc n=>split at z <;> first | (rename_i o _;cases o <;> simp [MO.d] at z) | cases z
 all_goals first | cases z | skip
 simp only [Rep] at h
 obtain ⟨a,h1,h2⟩:=h
 exact ⟨a,h1,k.base.seq h2⟩
def aI (C:Int→Int→Prop) (g:Int→Int→D):A2:=fun x y S Q=>∃ i j,x = .int i∧y = .int j∧C i j∧Q (.dat (g i j)) S
theorem GX {C:Int→Int→Prop}{g:Int→Int→D}{g':Int→Int→V} (h:∀ w i j,Rep K w (g i j) (g' i j)):∀ x y H Q,xE K (aI C g) x y H Q→rI C g' x y H Q:=by
 rintro x y H Q ⟨w,d,e,S,Qa,ok,r1,r2,⟨i,j,e1,e2,hc,q⟩,bk⟩
 exact ⟨i,j,bR r1 e1,bR r2 e2,hc,bk.dat .refl ok (h w i j) q⟩
theorem tK {g:Int→Int→V}:∀ x y H Q,rI (fun _ _=>True) g x y H Q→Dz g x y H Q:=by
 rintro x y H Q ⟨i,j,h1,h2,_,q⟩
 exact ⟨i,j,h1,h2,q⟩
theorem vo:qo X (binaryOp .Sub) (aI (fun _ _=>True) fun i j=>.int (i - j)):=⟨m2 L2.Fo fun x y H Q h=>tK x y H Q (GX (g':=fun i j=>.int (i - j)) (fun _ _ _=>.int) x y H Q h)⟩
theorem tR:qo X (binaryOp .FloorDiv) (aI Dd fun i j=>.int (i / j)):=⟨m2 L2.B8 (GX fun _ _ _=>.int)⟩
theorem g8:qo X (binaryOp .Mod) (aI (fun _ j=>0<j) fun i j=>.int (i % j)):=⟨m2 L2.Fw (GX fun _ _ _=>.int)⟩
theorem Ic:qo X (binaryOp .Pow) (aI GN fun i j=>.int (i ^ j.toNat)):=⟨m2 L2.Fq (GX fun _ _ _=>.int)⟩
theorem FG:qo X (yao .Gt) (aI (fun _ _=>True) fun i j=>.bl (decide (j<i))):=⟨m2 L2.H9 fun x y H Q h=>tK x y H Q (GX (g':=fun i j=>.bl (decide (j<i))) (fun _ _ _=>.bl) x y H Q h)⟩
theorem J8:qo X (yao .GtE) (aI (fun _ _=>True) fun i j=>.bl (decide (j≤i))):=⟨m2 L2.Ia fun x y H Q h=>tK x y H Q (GX (g':=fun i j=>.bl (decide (j≤i))) (fun _ _ _=>.bl) x y H Q h)⟩
def K0:A2:=fun x y S Q=>match x,y with
 | .int i,.int j=>Q (.dat (.bl (decide (i<j)))) S
 | .str i,.str j=>Q (.dat (.bl (decide (i.cps.toList<j.cps.toList)))) S
 | _,_=>False
def K1:A2:=fun x y S Q=>match x,y with
 | .int i,.int j=>Q (.dat (.bl (decide (i≤j)))) S
 | .str i,.str j=>Q (.dat (.bl (!decide (j.cps.toList<i.cps.toList)))) S
 | _,_=>False
theorem FF:qo X (yao .Lt) K0:=⟨m2 (DC L2.HZ L2.wY) fun x y H Q h=>by
 obtain ⟨w,d,e,S,Qa,ok,r1,r2,q,bk⟩:=h
 cases d <;> cases e <;> first | exact q.elim | skip
 ·exact .inl ⟨_,_,bR r1 rfl,bR r2 rfl,bk.dat .refl ok .bl q⟩
 ·exact .inr ⟨_,_,fk r1 rfl,fk r2 rfl,bk.dat .refl ok .bl q⟩⟩
noncomputable def vz:D→Bool
 | .bh=>true
 | _=>false
def Jb:A2:=fun x y S Q=>y = .bh∧Q (.dat (.bl (vz x))) S
theorem Cc (h:Rep K w d v):decide (v = .bh)=vz d:=by
 cases d <;> simp only [Rep] at h
 case loc=>obtain ⟨a,_,rfl⟩:=h;rfl
 case tup=>obtain ⟨a,_,rfl,_⟩:=h;rfl
 case lst=>obtain ⟨a,_,rfl,_⟩:=h;rfl
 case dct=>obtain ⟨a,_,rfl,_⟩:=h;rfl
 case fG=>obtain ⟨a,rfl,_⟩:=h;rfl
 case fd=>obtain ⟨a,rfl⟩:=h;rfl
 all_goals (subst h;rfl)
theorem zF:qo X (yao .Is) Jb:=⟨m2 L2.Fx fun x y H Q h=>by
 obtain ⟨w,d,e,S,Qa,ok,r1,r2,⟨rfl,q⟩,bk⟩:=h
 refine ⟨BO r2 rfl,?_⟩
 rw [Cc r1]
 exact bk.dat .refl ok .bl q⟩
def nL:A2:=fun x y S Q=>match bf S x,bf S y with
 | .int i,.int j=>Q (.dat (.int (i+j))) S
 | .str i,.str j=>i.length+j.length≤yah∧Q (.dat (.str (i++j))) S
 | .lst xs,.lst ys=>xs.length+ys.length≤yah∧Q (.new (.lst (xs++ys))) S
 | .tup xs,.tup ys=>xs≠[]∧xs.length+ys.length≤yah∧Q (.dat (.tup (xs++ys))) S
 | _,_=>False
theorem bY:qo X (binaryOp .Add) nL:=⟨m2 (DC L2.FD (DC L2.tP (DC L2.FA L2.B9))) fun x y H Q h=>by
 obtain ⟨w,d,e,S,Qa,ok,r1,r2,q,bk⟩:=h
 unfold nL at q
 cases z1:bf S d <;> cases z2:bf S e <;> rw [z1,z2] at q <;> first | exact q.elim | skip
 ·exact .inl ⟨_,_,b9 r1 z1,b9 r2 z2,bk.dat .refl ok .int q⟩
 ·exact .inr (.inl ⟨_,_,bK r1 z1,bK r2 z2,q.1,bk.dat .refl ok .str q.2⟩)
 ·obtain ⟨a,xs,rfl,h1,g1⟩:=cK ok r1 z1
  obtain ⟨b,ys,rfl,h2,g2⟩:=cK ok r2 z2
  obtain ⟨hne,hl,q⟩:=q
  refine .inr (.inr (.inr ⟨a,b,xs,ys,rfl,rfl,h1,h2,?_,by rw [g1.length,g2.length];exact hl,fun hy => ?_,fun hy p hp => ?_⟩))
  ·intro z;subst z
   have:=g1.length
   simp at this
   exact hne (zaa this.symm)
  ·subst hy
   have:_=[]:=zaa g2.length.symm
   rw [this,zbB] at q
   cases d <;> simp only [bf] at z1
   case tup=>cases z1;exact bk.dat .refl ok r1 q
   case loc n=>split at z1 <;> first | (rename_i o _;cases o <;> simp [MO.d] at z1) | cases z1
   all_goals cases z1
  ·obtain ⟨w2,le2,ok2,rep2⟩:=ok.jM hp (g1.append g2)
   exact bk.dat le2 ok2 rep2 q
 ·obtain ⟨a,xs,rfl,h1,g1⟩:=bw ok r1 z1
  obtain ⟨b,ys,rfl,h2,g2⟩:=bw ok r2 z2
  refine .inr (.inr (.inl ⟨a,b,xs,ys,rfl,rfl,h1,h2,by rw [g1.length,g2.length];exact q.1,fun p hp => ?_⟩))
  exact bk (.new (.lst _)) S _ w _ .refl (ok.alloc hp) (ok.fresh hp ⟨_,rfl,g1.append g2⟩) q.2⟩
end
end M
namespace M
open PySem PySem.Spec PyProof.Rows PySem.SeqAt L2
mutual
noncomputable def cI:D→Bool
 | .bh | .bl _ | .int _ | .str _=>true
 | .tup ds | .lst ds=>cM ds
 | _=>false
noncomputable def cM:List D→Bool
 | []=>true
 | d::ds=>cI d&&cM ds
end
mutual
noncomputable def py:D→yan
 | .bh=>.none
 | .bl b=>.bool b
 | .int i=>.int i
 | .str x=>.str x
 | .tup ds=>.tuple (dW ds)
 | .lst ds=>.list (dW ds)
 | _=>.none
noncomputable def dW:List D→List yan
 | []=>[]
 | d::ds=>py d::dW ds
end
section
variable {K:yaH}{w:Wd}{H:Hp}{S:aK}
mutual
theorem Ag (e:dF w.B H):∀ (d:D) (v:V),cI d=true→Rep K w d v→cz K H (py d) v
 | .bh,v,_,h=>by simpa [Rep,py,cz] using h
 | .bl _,v,_,h=>by simpa [Rep,py,cz] using h
 | .int _,v,_,h=>by simpa [Rep,py,cz] using h
 | .str _,v,_,h=>by simpa [Rep,py,cz] using h
 | .tup ds,v,hp,h=>by
  simp only [Rep,py,cz] at h ⊢
  obtain ⟨a,xs,h1,h2,h3⟩:=h
  exact ⟨a,xs,h1,dQ.same e h2,k6 e ds xs (by simpa [cI] using hp) h3⟩
 | .lst ds,v,hp,h=>by
  simp only [Rep,py,cz] at h ⊢
  obtain ⟨a,xs,h1,h2,h3⟩:=h
  exact ⟨a,xs,h1,cH.of (e _ _ h2),k6 e ds xs (by simpa [cI] using hp) h3⟩
 | .dct _ _,_,hp,_=>by simp [cI] at hp
 | .loc _,_,hp,_=>by simp [cI] at hp
 | .ty _,_,hp,_=>by simp [cI] at hp
 | .fG _,_,hp,_=>by simp [cI] at hp
 | .fd,_,hp,_=>by simp [cI] at hp
 | .fn _,_,hp,_=>by simp [cI] at hp
theorem k6 (e:dF w.B H):∀ (ds:List D) (vs:List V),cM ds=true→aq K w ds vs→jz K H (dW ds) vs
 | [],vs,_,h=>by simpa [aq,dW,jz] using h
 | d::ds,vs,hp,h=>by
  simp only [cM,zbw] at hp
  simp only [aq,dW,jz] at h ⊢
  obtain ⟨x,r,h1,h2,h3⟩:=h
  exact ⟨x,r,h1,Ag e d x hp.1 h2,k6 e ds r hp.2 h3⟩
end
theorem uZ (k:Ok K w H S) {d:D}{v:V} (h:Rep K w d v) (hp:cI (bf S d)=true):cz K H (py (bf S d)) v:=by
 cases d with
 | loc n =>
  cases z:bf S (.loc n) with
  | lst ds =>
   rw [z] at hp
   obtain ⟨a,xs,rfl,h1,h2⟩:=bw k h z
   simp only [py,cz]
   exact ⟨a,xs,rfl,cH.of h1,k6 k.base ds xs (by simpa [cI] using hp) h2⟩
  | _ =>
   rw [z] at hp
   simp only [bf] at z
   split at z <;> first | (rename_i o _;cases o <;> simp [MO.d] at z) | (cases z;simp [cI] at hp) | cases z
   all_goals simp [cI] at hp
 | _=>exact Ag k.base _ v (by simpa [bf] using hp) h
end
noncomputable def fit (d:D):Bool:=cI d&&shaped (py d)
def Gv:A2:=fun x y S Q=>match bf S x,bf S y with
 | .str a,.str b=>Q (.dat (.bl (decide (a=b)))) S
 | .int a,.int b=>Q (.dat (.bl (decide (a=b)))) S
 | .bl a,.bl b=>Q (.dat (.bl (decide (a=b)))) S
 | x',y'=>fit x'=true∧fit y'=true∧Q (.dat (.bl (PyData.eqv (py x') (py y')))) S
def GY:A2:=fun x y S Q=>match bf S x,bf S y with
 | .str a,.str b=>Q (.dat (.bl (!decide (a=b)))) S
 | .int a,.int b=>Q (.dat (.bl (!decide (a=b)))) S
 | .bl a,.bl b=>Q (.dat (.bl (!decide (a=b)))) S
 | x',y'=>fit x'=true∧fit y'=true∧Q (.dat (.bl (!PyData.eqv (py x') (py y')))) S
section
variable {X:Cx}
def J2 (K:yaH):R2:=fun x y H Q=>∃ a b,cz K H a x∧cz K H b y∧shaped a=true∧shaped b=true∧Q (.bl (PyData.eqv a b)) H
def J0 (K:yaH):R2:=fun x y H Q=>∃ a b,cz K H a x∧cz K H b y∧shaped a=true∧shaped b=true∧Q (.bl (!PyData.eqv a b)) H
theorem Fz {k:Nat} (hr:bE k X.A):gH X (yao .Eq) (J2 X.K):=by
 intro pins s σ H x y v u Q I rx ry h
 obtain ⟨a,b,h1,h2,h3,h4,q⟩:=h
 obtain ⟨as,ra⟩:=I.reads a x v h1 rx
 obtain ⟨bs,rb⟩:=I.reads b y u h2 ry
 exact eq_dataH ra rb h3 h4 hr.units ⟨.bl _,H,I,rfl,q⟩
theorem Ft {k:Nat} (hr:bE k X.A):gH X (yao .NotEq) (J0 X.K):=by
 intro pins s σ H x y v u Q I rx ry h
 obtain ⟨a,b,h1,h2,h3,h4,q⟩:=h
 obtain ⟨as,ra⟩:=I.reads a x v h1 rx
 obtain ⟨bs,rb⟩:=I.reads b y u h2 ry
 exact ne_dataH ra rb h3 h4 hr.units ⟨.bl _,H,I,rfl,q⟩
theorem d9 {K:yaH}{w:Wd}{H:Hp}{S:aK}{d:D}{v:V} (k:Ok K w H S) (h:Rep K w d v) (hf:fit (bf S d)=true):cz K H (py (bf S d)) v∧shaped (py (bf S d))=true:=by
 unfold fit at hf
 rw [zbw] at hf
 exact ⟨uZ k h hf.1,hf.2⟩
theorem dR {k:Nat} (hr:bE k X.A):qo X (yao .Eq) Gv:=⟨m2 (DC L2.DE (Fz hr)) fun x y H Q h=>by
 obtain ⟨w,d,e,S,Qa,ok,r1,r2,q,bk⟩:=h
 unfold Gv at q
 split at q
 next a b z1 z2 =>
  refine .inl ⟨by rw [bK r1 z1,bK r2 z2];rfl,?_⟩
  rw [bK r1 z1,bK r2 z2]
  exact bk.dat .refl ok (by rw [show decide (V.str a=V.str b)=decide (a=b) by simp];exact .bl) q
 next a b z1 z2 =>
  refine .inl ⟨by rw [b9 r1 z1,b9 r2 z2];rfl,?_⟩
  rw [b9 r1 z1,b9 r2 z2]
  exact bk.dat .refl ok (by rw [show decide (V.int a=V.int b)=decide (a=b) by simp];exact .bl) q
 next a b z1 z2 =>
  refine .inl ⟨by rw [fj r1 z1,fj r2 z2];rfl,?_⟩
  rw [fj r1 z1,fj r2 z2]
  exact bk.dat .refl ok (by rw [show decide (V.bl a=V.bl b)=decide (a=b) by simp];exact .bl) q
 next =>
  obtain ⟨f1,f2,q⟩:=q
  obtain ⟨g1,s1⟩:=d9 ok r1 f1
  obtain ⟨g2,s2⟩:=d9 ok r2 f2
  exact .inr ⟨_,_,g1,g2,s1,s2,bk.dat .refl ok .bl q⟩⟩
theorem pM {k:Nat} (hr:bE k X.A):qo X (yao .NotEq) GY:=⟨m2 (DC L2.HY (Ft hr)) fun x y H Q h=>by
 obtain ⟨w,d,e,S,Qa,ok,r1,r2,q,bk⟩:=h
 unfold GY at q
 split at q
 next a b z1 z2 =>
  refine .inl ⟨by rw [bK r1 z1,bK r2 z2];rfl,?_⟩
  rw [bK r1 z1,bK r2 z2]
  exact bk.dat .refl ok (by rw [show decide (V.str a=V.str b)=decide (a=b) by simp];exact .bl) q
 next a b z1 z2 =>
  refine .inl ⟨by rw [b9 r1 z1,b9 r2 z2];rfl,?_⟩
  rw [b9 r1 z1,b9 r2 z2]
  exact bk.dat .refl ok (by rw [show decide (V.int a=V.int b)=decide (a=b) by simp];exact .bl) q
 next a b z1 z2 =>
  refine .inl ⟨by rw [fj r1 z1,fj r2 z2];rfl,?_⟩
  rw [fj r1 z1,fj r2 z2]
  exact bk.dat .refl ok (by rw [show decide (V.bl a=V.bl b)=decide (a=b) by simp];exact .bl) q
 next =>
  obtain ⟨f1,f2,q⟩:=q
  obtain ⟨g1,s1⟩:=d9 ok r1 f1
  obtain ⟨g2,s2⟩:=d9 ok r2 f2
  exact .inr ⟨_,_,g1,g2,s1,s2,bk.dat .refl ok .bl q⟩⟩
noncomputable def inD (d:D) (ds:List D):Bool:=ds.any fun y=>PyData.eqv (py y) (py d)
def vX (neg:Bool):A2:=fun x y S Q=>match bf S y with
 | .tup ds=>fit (bf S x)=true∧fit (.tup ds)=true∧Q (.dat (.bl (neg != inD (bf S x) ds))) S
 | .lst ds=>fit (bf S x)=true∧fit (.lst ds)=true∧Q (.dat (.bl (neg != inD (bf S x) ds))) S
 | _=>False
def Fe (K:yaH) (neg:Bool):R2:=fun x y H Q=>∃ d ds,cz K H d x∧(cz K H (.tuple ds) y∨cz K H (.list ds) y)∧shaped d=true∧PyData.canLayAll0 ds=true∧Q (.bl (neg != ds.any fun y=>PyData.eqv y d)) H
theorem Fy {k:Nat} (hr:bE k X.A):gH X (yao .In) (Fe X.K false):=by
 intro pins s σ H x y v u Q I rx ry h
 obtain ⟨d,ds,h1,h2,h3,h4,q⟩:=h
 obtain ⟨as,ra⟩:=I.reads d x v h1 rx
 have hu:=hr.un
 rcases h2 with h2 | h2
 ·obtain ⟨bs,rb⟩:=I.reads _ y u h2 ry
  exact PySem.SeqAt.in_tuple_reads rb ra h4 (canLay_of_shaped h3) (room_in_shaped h3 (by lia)) ⟨.bl _,H,I,by simp [L2.RelV],q⟩
 ·obtain ⟨bs,rb⟩:=I.reads _ y u h2 ry
  exact PySem.SeqAt.in_list_reads rb ra h4 (canLay_of_shaped h3) (room_in_shaped h3 (by lia)) ⟨.bl _,H,I,by simp [L2.RelV],q⟩
theorem wW {k:Nat} (hr:bE k X.A):gH X (yao .NotIn) (Fe X.K true):=by
 intro pins s σ H x y v u Q I rx ry h
 obtain ⟨d,ds,h1,h2,h3,h4,q⟩:=h
 obtain ⟨as,ra⟩:=I.reads d x v h1 rx
 have hu:=hr.un
 rcases h2 with h2 | h2
 ·obtain ⟨bs,rb⟩:=I.reads _ y u h2 ry
  exact PySem.SeqAt.notIn_tuple_reads rb ra h4 (canLay_of_shaped h3) (room_in_shaped h3 (by lia)) ⟨.bl _,H,I,by simp [L2.RelV],q⟩
 ·obtain ⟨bs,rb⟩:=I.reads _ y u h2 ry
  exact PySem.SeqAt.notIn_list_reads rb ra h4 (canLay_of_shaped h3) (room_in_shaped h3 (by lia)) ⟨.bl _,H,I,by simp [L2.RelV],q⟩
theorem BS (ds:List D):dW ds=ds.map py:=by
 induction ds with
 | nil=>rfl
 | cons d ds ih=>simp [dW,ih]
theorem vR (ds:List D) (p:yan→Bool):(dW ds).any p=ds.any fun y=>p (py y):=by
 rw [BS,zcj];rfl
theorem Cs {ds:List D} (h:fit (.tup ds)=true):PyData.canLayAll0 (dW ds)=true:=by
 unfold fit at h
 rw [zbw] at h
 have:=canLay_of_shaped h.2
 simpa [py,PyData.canLay0] using this
theorem z8 {ds:List D} (h:fit (.lst ds)=true):PyData.canLayAll0 (dW ds)=true:=by
 unfold fit at h
 rw [zbw] at h
 have:=canLay_of_shaped h.2
 simpa [py,PyData.canLay0] using this
theorem IY {K:yaH}{neg:Bool}:∀ x y H Q,xE K (vX neg) x y H Q→Fe K neg x y H Q:=by
 rintro x y H Q ⟨w,d,e,S,Qa,ok,r1,r2,q,bk⟩
 unfold vX at q
 split at q
 next ds z =>
  obtain ⟨f1,f2,q⟩:=q
  obtain ⟨g1,s1⟩:=d9 ok r1 f1
  obtain ⟨g2,s2⟩:=d9 ok r2 (by rw [z];exact f2)
  rw [z] at g2
  refine ⟨_,dW ds,g1,.inl (by simpa only [py] using g2),s1,Cs f2,?_⟩
  rw [vR]
  exact bk.dat .refl ok .bl q
 next ds z =>
  obtain ⟨f1,f2,q⟩:=q
  obtain ⟨g1,s1⟩:=d9 ok r1 f1
  obtain ⟨g2,s2⟩:=d9 ok r2 (by rw [z];exact f2)
  rw [z] at g2
  refine ⟨_,dW ds,g1,.inr (by simpa only [py] using g2),s1,z8 f2,?_⟩
  rw [vR]
  exact bk.dat .refl ok .bl q
 next=>exact q.elim
theorem l9 {k:Nat} (hr:bE k X.A):qo X (yao .In) (vX false):=⟨m2 (Fy hr) IY⟩
theorem kX {k:Nat} (hr:bE k X.A):qo X (yao .NotIn) (vX true):=⟨m2 (wW hr) IY⟩
end
section
variable {X:Cx}{K:yaH}{w:Wd}{H:Hp}{S:aK}{d:D}{v:V}
theorem qE {ds:List D}{xs:List V}{i:Int}{e:D} (h:aq K w ds xs) (q:kg ds i=some e):∃ u,kg xs i=some u∧Rep K w e u:=by
 unfold kg at q ⊢
 rw [h.length]
 cases z:Bj ds.length i with
 | none=>rw [z] at q;cases q
 | some j =>
  rw [z] at q
  exact h.get q
def qm:A2:=fun x y S Q=>match bf S x,y with
 | .lst ds,.int i=>∃ e,kg ds i=some e∧Q (.dat e) S
 | .tup ds,.int i=>∃ e,kg ds i=some e∧Q (.dat e) S
 | .str z,.int i=>z.length≤yah∧∃ c,kg z.cps.toList i=some c∧Q (.dat (.str ⟨#[c]⟩)) S
 | .fG ns,.int i=>∃ n,kg ns i=some n∧Q (.dat (.int n)) S
 | _,_=>False
theorem CQ {α β:Type}{f:α→β}{xs:List α}{i:Int}{a:α} (h:kg xs i=some a):kg (xs.map f) i=some (f a):=by
 unfold kg at h ⊢
 rw [zbE]
 cases z:Bj xs.length i with
 | none=>rw [z] at h;cases h
 | some j =>
  rw [z] at h
  have h:xs[j]? = some a:=h
  show (xs.map f)[j]? = some (f a)
  rw [zbb,h];rfl
theorem bq:K3 X qm:=⟨fun value slice pins s σ H x y v u Q I rx ry h hs=>by
 refine L2.F1 value slice pins s σ H x y v u Q I rx ry ?_ hs
 obtain ⟨w,d,e,S,Qa,ok,r1,r2,q,bk⟩:=h
 unfold qm at q
 split at q
 next ds i z =>
  obtain ⟨a,xs,rfl,h1,h2⟩:=bw ok r1 z
  obtain ⟨e',he,q⟩:=q
  obtain ⟨u',g1,g2⟩:=qE h2 he
  exact .inl ⟨a,xs,i,u',rfl,bR r2 rfl,cH.of h1,g1,bk.dat .refl ok g2 q⟩
 next ds i z =>
  obtain ⟨a,xs,rfl,h1,h2⟩:=cK ok r1 z
  obtain ⟨e',he,q⟩:=q
  obtain ⟨u',g1,g2⟩:=qE h2 he
  exact .inr (.inl ⟨a,xs,i,u',rfl,bR r2 rfl,h1,g1,bk.dat .refl ok g2 q⟩)
 next y i z =>
  obtain ⟨hl,c,hc,q⟩:=q
  exact .inr (.inr ⟨y,i,c,bK r1 z,bR r2 rfl,hl,hc,bk.dat .refl ok .str q⟩)
 next ns i z =>
  obtain ⟨a,rfl,h1⟩:=iQ ok r1 z
  obtain ⟨n,hn,q⟩:=q
  exact .inl ⟨a,_,i,.int n,rfl,bR r2 rfl,h1,CQ hn,bk.dat .refl ok .int q⟩
 next=>exact q.elim⟩
noncomputable def cutD {α:Type} (xs:List α) (lo hi:Option Int):List α:=(xs.drop (HT.b7 xs.length 0 lo)).take (HT.b7 xs.length xs.length hi - HT.b7 xs.length 0 lo)
theorem lS {ds:List D}{xs:List V} (h:aq K w ds xs) (lo hi:Option Int):aq K w (cutD ds lo hi) (rE xs lo hi):=by
 unfold cutD rE
 rw [h.length]
 exact (h.drop _).take _
end
section
variable {prog:yak}{w:yal}{A:yam}{E:yaj→yai→Prop}{s:yai}
theorem gX {t sl:Addr}{items:Array yaj}{vl vu:yaj}{lo hi:Option Int}{Q:yaj→yai→Prop} (ht:IsTup s.heap t items) (hs:s.heap.IsSliceOf sl vl vu .none) (pl:IsPart vl lo) (pu:IsPart vu hi)
  (hw:HT.b7 items.size 0 lo=0∧HT.b7 items.size items.size hi=items.size) (h:Q (.ref t) s):yas (model prog w) A (getItem (.ref t) (.ref sl)) Q E s:=by
 obtain ⟨os,hos,hcs,hds⟩:=id hs
 have hTs:s.TypeIs (.ref sl) "slice" := ⟨os,hos,hcs⟩
 unfold getItem
 try with_reducible refine yad ?_
 first | refine yaa (yab ?_) | skip
 refine yaa (wpAny_sequenceKey ht.typeIs (by decide) ?_)
 refine yaa (wpAny_callSpecial?_slot (name:=Str.ofString "__getitem__") ht.typeIs PyProof.Rows.slot_tuple_getitem
  (wpAny_call_entry PyProof.Rows.slot_tuple_getitem ht.typeIs PyProof.Rows.entry_tuple_getitem ?_ (PyProof.Rows.args_tuple_getitem _ _)))
 show yas _ _ (Builtin.Tuple.tupleItemsOf (.ref t) >>= _) _ _ s
 refine yaa (PyProof.Rows.tupleItemsOf_ ht ?_)
 refine yaa (wpAny_typeOf hTs ?_)
 rw [yIp (by decide)]
 refine yaa (HT.eO hs pl pu ?_)
 have hyes:(((HT.b7 items.size 0 lo:Nat):Int)==0&&(1:Int)==1&&(HT.b7 items.size items.size hi - HT.b7 items.size 0 lo)==items.size)=true:=by
  rw [hw.1,hw.2];simp
 show yas _ _ (if (((HT.b7 items.size 0 lo:Nat):Int)==0&&(1:Int)==1&&(HT.b7 items.size items.size hi - HT.b7 items.size 0 lo)==items.size)=true then _ else _) _ _ s
 rw [yIp hyes]
 refine yaa (m:=Builtin.Tuple.tupleIsExact (.ref t)) ?_
 unfold Builtin.Tuple.tupleIsExact
 refine yaa (wpAny_typeOf ht.typeIs (yab ?_))
 rw [yIp (by decide)]
 exact yaa (wpAny_rule (yab ⟨_,rfl,yab h⟩))
end
section
variable {X:Cx}{K:yaH}{w:Wd}{H:Hp}{S:aK}{d:D}{v:V}
def p9:D→Option Int→Option Int→aK→AK→Prop:=fun x lo hi S Q=>match bf S x with
 | .lst ds=>Q (.new (.lst (cutD ds lo hi))) S
 | .tup ds=>Q (.dat (.tup (cutD ds lo hi))) S
 | .str z=>z.length≤yah∧Q (.dat (.str (Txt.slice z lo hi))) S
 | .fG ns=>Q (.new (.lst ((cutD ns lo hi).map D.int))) S
 | _=>False
def JW (K:yaH):V→Option Int→Option Int→Hp→VK→Prop:=fun x lo hi H Q=>∃ a xs,x = .ref a∧dQ K H a xs∧(HT.b7 xs.length 0 lo=0∧HT.b7 xs.length xs.length hi=xs.length)∧Q (.ref a) H
theorem yJ:Bm X (JW X.K):=by
 intro pins s σ H x v vl vu lo hi sl Q I rx hs pl pu h
 obtain ⟨a,xs,rfl,hx,hw,q⟩:=h
 cases rx
 obtain ⟨its,r,ht,hz⟩:=I.tuple hx
 have hlen:its.toArray.size=xs.length:=by rw [zba];exact r.length.symm
 refine ⟨"tuple",_,PyProof.Rows.slot_tuple_getitem.lookup,ht.typeIs,?_⟩
 exact gX ht hs pl pu (by rw [hlen];exact hw) ⟨.ref a,H,I,rfl,q⟩
theorem xD {α:Type}{xs:List α}{lo hi:Option Int} (h:HT.b7 xs.length 0 lo=0∧HT.b7 xs.length xs.length hi=xs.length):cutD xs lo hi=xs:=by
 unfold cutD
 rw [h.1,h.2];simp
theorem CJ {α β:Type} (f:α→β) (xs:List α) (lo hi:Option Int):cutD (xs.map f) lo hi=(cutD xs lo hi).map f:=by
 unfold cutD
 rw [zbE,zca,zcb]
theorem gP {w:Wd}:∀ (ns:List Int),aq K w (ns.map D.int) (ns.map V.int)
 | []=>.nil
 | n::ns=>.cons .int (gP ns)
theorem i6:K2 X p9:=⟨by
 intro pins s σ H x v vl vu lo hi sl Q I rx hs pl pu h
 refine (L2.Bv.or (L2.Ex.or (yJ.or L2.Ey))) pins s σ H x v vl vu lo hi sl Q I rx hs pl pu ?_
 obtain ⟨w,d,S,Qa,ok,r1,q,bk⟩:=h
 unfold p9 at q
 split at q
 next ds z =>
  obtain ⟨a,xs,rfl,h1,h2⟩:=bw ok r1 z
  exact .inl ⟨a,xs,rfl,cH.of h1,fun p hp=>bk (.new (.lst _)) S _ w _ .refl (ok.alloc hp) (ok.fresh hp ⟨_,rfl,lS h2 lo hi⟩) q⟩
 next ds z =>
  obtain ⟨a,xs,rfl,h1,h2⟩:=cK ok r1 z
  by_cases hw:HT.b7 xs.length 0 lo=0∧HT.b7 xs.length xs.length hi=xs.length
  ·refine .inr (.inr (.inl ⟨a,xs,rfl,h1,hw,?_⟩))
   rw [h2.length] at hw
   rw [xD hw] at q
   cases d <;> simp only [bf] at z
   case tup=>cases z;exact bk.dat .refl ok r1 q
   case loc n=>split at z <;> first | (rename_i o _;cases o <;> simp [MO.d] at z) | cases z
   all_goals cases z
  ·refine .inr (.inl ⟨a,xs,rfl,h1,hw,fun p hp => ?_⟩)
   obtain ⟨w2,le2,ok2,rep2⟩:=ok.jM hp (lS h2 lo hi)
   exact bk.dat le2 ok2 rep2 q
 next y z=>exact .inr (.inr (.inr ⟨y,bK r1 z,q.1,bk.dat .refl ok .str q.2⟩))
 next ns z =>
  obtain ⟨a,rfl,h1⟩:=iQ ok r1 z
  refine .inl ⟨a,_,rfl,h1,fun p hp=>bk (.new (.lst _)) S _ w _ .refl (ok.alloc hp) (ok.fresh hp ⟨_,rfl,?_⟩) q⟩
  have:=lS (gP (K:=X.K) (w:=w) ns) lo hi
  rw [CJ] at this
  exact this
 next=>exact q.elim⟩
def qb:A2:=fun x y S Q=>match bf S x,y with
 | .int i,.int j=>Bh i j∧Q (.dat (.int (i*j))) S
 | .lst ds,.int k=>(-(2 ^ 63)≤k∧k<2 ^ 63)∧ds.length*k.toNat≤yah∧Q (.new (.lst (zbO k.toNat ds).flatten)) S
 | .str z,.int n=>MulOk z n∧Q (.dat (.str (Txt.mul z n))) S
 | _,_=>False
theorem qD {ds:List D}{xs:List V} (h:aq K w ds xs):∀ k:Nat,aq K w (zbO k ds).flatten (zbO k xs).flatten
 | 0=>.nil
 | k+1=>by
  rw [zaG,zaG,zbc,zbc]
  exact h.append (qD h k)
theorem n8:qo X (binaryOp .Mult) qb:=⟨m2 (DC L2.Fv (DC L2.Fp L2.tO)) fun x y H Q h=>by
 obtain ⟨w,d,e,S,Qa,ok,r1,r2,q,bk⟩:=h
 unfold qb at q
 split at q
 next i j z=>exact .inl ⟨i,j,b9 r1 z,bR r2 rfl,q.1,bk.dat .refl ok .int q.2⟩
 next ds k z =>
  obtain ⟨a,xs,rfl,h1,h2⟩:=bw ok r1 z
  obtain ⟨⟨g1,g2⟩,hl,q⟩:=q
  refine .inr (.inl ⟨a,k,xs,rfl,bR r2 rfl,h1,g1,g2,by rw [h2.length];exact hl,fun p hp => ?_⟩)
  exact bk (.new (.lst _)) S _ w _ .refl (ok.alloc hp) (ok.fresh hp ⟨_,rfl,qD h2 k.toNat⟩) q
 next y n z=>exact .inr (.inr ⟨y,n,bK r1 z,bR r2 rfl,q.1,bk.dat .refl ok .str q.2⟩)
 next=>exact q.elim⟩
end
mutual
noncomputable def fN (n:Nat):D→Bool
 | .loc m=>decide (m<n)
 | .tup ds | .lst ds | .dct _ ds=>gY n ds
 | _=>true
noncomputable def gY (n:Nat):List D→Bool
 | []=>true
 | d::ds=>fN n d&&gY n ds
end
noncomputable def gZ (n:Nat):MO→Bool
 | .lst ds=>gY n ds
 | .dct _ ds=>gY n ds
 | .feed _=>true
 | .ins _ _ ds=>gY n ds
 | .Af _ ks=>gY n ks
mutual
theorem vP (n:Nat):∀ d:D,cI d=true→fN n d=true
 | .bh,_=>by simp [fN]
 | .bl _,_=>by simp [fN]
 | .int _,_=>by simp [fN]
 | .str _,_=>by simp [fN]
 | .tup ds,h=>by simp only [fN];exact dg n ds (by simpa [cI] using h)
 | .lst ds,h=>by simp only [fN];exact dg n ds (by simpa [cI] using h)
 | .dct _ _,h=>by simp [cI] at h
 | .loc _,h=>by simp [cI] at h
 | .ty _,h=>by simp [cI] at h
 | .fG _,h=>by simp [cI] at h
 | .fd,h=>by simp [cI] at h
 | .fn _,h=>by simp [cI] at h
theorem dg (n:Nat):∀ ds:List D,cM ds=true→gY n ds=true
 | [],_=>by simp [gY]
 | d::ds,h=>by
  simp only [cM,zbw] at h
  simp only [gY,zbw]
  exact ⟨vP n d h.1,dg n ds h.2⟩
end
noncomputable def iU (n:Nat) (w:Wd):Wd:=⟨w.B,fun k=>if k<n then w.r k else none⟩
section
variable {K:yaH}{w w1:Wd}{H H1:Hp}{S S0 S1:aK}
mutual
theorem nX (n:Nat):∀ (d:D) (v:V),fN n d=true→Rep K w d v→Rep K (iU n w) d v
 | .bh,_,_,h=>by simpa [Rep] using h
 | .bl _,_,_,h=>by simpa [Rep] using h
 | .int _,_,_,h=>by simpa [Rep] using h
 | .str _,_,_,h=>by simpa [Rep] using h
 | .ty _,_,_,h=>by simpa [Rep] using h
 | .fd,_,_,h=>by simpa [Rep] using h
 | .fn _,_,_,h=>by simpa [Rep] using h
 | .fG _,_,_,h=>by simpa [Rep,iU] using h
 | .loc m,v,hb,h=>by
  simp only [fN,decide_eq_true_eq] at hb
  simp only [Rep] at h ⊢
  obtain ⟨a,h1,h2⟩:=h
  exact ⟨a,by show (if m<n then w.r m else none)=_;rw [yIp hb];exact h1,h2⟩
 | .tup ds,v,hb,h=>by
  simp only [Rep] at h ⊢
  obtain ⟨a,xs,h1,h2,h3⟩:=h
  exact ⟨a,xs,h1,h2,bV n ds xs (by simpa [fN] using hb) h3⟩
 | .lst ds,v,hb,h=>by
  simp only [Rep] at h ⊢
  obtain ⟨a,xs,h1,h2,h3⟩:=h
  exact ⟨a,xs,h1,h2,bV n ds xs (by simpa [fN] using hb) h3⟩
 | .dct ks ds,v,hb,h=>by
  simp only [Rep] at h ⊢
  obtain ⟨a,xs,h1,h2,h3,h4⟩:=h
  exact ⟨a,xs,h1,h2,h3,bV n ds _ (by simpa [fN] using hb) h4⟩
theorem bV (n:Nat):∀ (ds:List D) (vs:List V),gY n ds=true→aq K w ds vs→aq K (iU n w) ds vs
 | [],_,_,h=>by simpa [aq] using h
 | d::ds,vs,hb,h=>by
  simp only [gY,zbw] at hb
  simp only [aq] at h ⊢
  obtain ⟨x,r,h1,h2,h3⟩:=h
  exact ⟨x,r,h1,nX n d x hb.1 h2,bV n ds r hb.2 h3⟩
end
mutual
theorem BP (n:Nat) (ht:∀ k,n≤k→w.r k=none):∀ (d:D) (v:V),Rep K w d v→fN n d=true
 | .bh,_,_=>by simp [fN]
 | .bl _,_,_=>by simp [fN]
 | .int _,_,_=>by simp [fN]
 | .str _,_,_=>by simp [fN]
 | .ty _,_,_=>by simp [fN]
 | .fd,_,_=>by simp [fN]
 | .fn _,_,_=>by simp [fN]
 | .fG _,_,_=>by simp [fN]
 | .loc m,v,h=>by
  simp only [Rep] at h
  obtain ⟨a,h1,h2⟩:=h
  simp only [fN,decide_eq_true_eq]
  rcases zcr m n with q | q
  ·exact q
  ·rw [ht m q] at h1;cases h1
 | .tup ds,v,h=>by
  simp only [Rep] at h
  obtain ⟨a,xs,h1,h2,h3⟩:=h
  simp only [fN];exact c8 n ht ds xs h3
 | .lst ds,v,h=>by
  simp only [Rep] at h
  obtain ⟨a,xs,h1,h2,h3⟩:=h
  simp only [fN];exact c8 n ht ds xs h3
 | .dct ks ds,v,h=>by
  simp only [Rep] at h
  obtain ⟨a,xs,h1,h2,h3,h4⟩:=h
  simp only [fN];exact c8 n ht ds _ h4
theorem c8 (n:Nat) (ht:∀ k,n≤k→w.r k=none):∀ (ds:List D) (vs:List V),aq K w ds vs→gY n ds=true
 | [],_,_=>by simp [gY]
 | d::ds,vs,h=>by
  simp only [aq] at h
  obtain ⟨x,r,h1,h2,h3⟩:=h
  simp only [gY,zbw]
  exact ⟨BP n ht d x h2,c8 n ht ds r h3⟩
end
theorem iB (n:Nat):∀ {o:MO}{u:HO},gZ n o=true→jU K w o u→jU K (iU n w) o u
 | .lst ds,u,hb,⟨xs,h1,h2⟩=>⟨xs,h1,bV n ds xs hb h2⟩
 | .dct ks ds,u,hb,⟨xs,h1,h2,h3⟩=>⟨xs,h1,h2,bV n ds _ hb h3⟩
 | .feed _,u,_,h=>h
 | .ins C ks ds,u,hb,⟨dx,fs,h1,h2,h3⟩=>⟨dx,fs,h1,h2,bV n ds _ hb h3⟩
 | .Af F ks,u,hb,⟨a,bs,h1,h2⟩=>⟨a,bs,h1,bV n ks _ hb h2⟩
theorem ze (n:Nat) (ht:∀ k,n≤k→w.r k=none):∀ {o:MO}{u:HO},jU K w o u→gZ n o=true
 | .lst ds,u,⟨xs,h1,h2⟩=>c8 n ht ds xs h2
 | .dct ks ds,u,⟨xs,h1,h2,h3⟩=>c8 n ht ds _ h3
 | .feed _,u,h=>rfl
 | .ins C ks ds,u,⟨dx,fs,h1,h2,h3⟩=>c8 n ht ds _ h3
 | .Af F ks,u,⟨a,bs,h1,h2⟩=>c8 n ht ks _ h2
noncomputable def out (n:Nat) (S1:aK):R→Option R
 | .dat (.loc m)=>if m<n then some (.dat (.loc m)) else match S1[m]? with
  | some (some o)=>if gZ n o=true then some (.new o) else none
  | _=>none
 | .dat d=>if fN n d=true then some (.dat d) else none
 | .new o=>if gZ n o=true then some (.new o) else none
def chg (S0 S1:aK):Prop:=∀ k o,k<S0.length→S1[k]? = some (some o)→S0[k]? = some (some o)∨gZ S0.length o=true
def ret (S0 S1:aK) (r:R) (Q:AK):Prop:=∃ r',out S0.length S1 r=some r'∧chg S0 S1∧Q r' (S1.take S0.length)
theorem lO {r:R}{v:V}{Qa:AK}{Q:VK} (ok:Ok K w H S0) (le:w.le w1) (ok1:Ok K w1 H1 S1) (rep:xZ K w1 H1 S1 r v) (h:ret S0 S1 r Qa) (bk:dP K w Qa Q):Q v H1:=by
 obtain ⟨r',ho,hc,q⟩:=h
 generalize hn:S0.length=n at *
 have lt:∀ k a,w.r k=some a→k<n:=fun k a e=>by
  rcases zcr k n with z | z
  ·exact z
  ·rw [ok.top k (by lia)] at e;cases e
 have at_:∀ k o,(S1.take n)[k]? = some (some o)→k<n∧S1[k]? = some (some o):=fun k o e=>by
  rw [zaO] at e
  by_cases z:k<n
  ·rw [yIp z] at e;exact ⟨z,e⟩
  ·rw [yIn z] at e;cases e
 have le2:w.le (iU n w1):=⟨le.b,fun k a e=>by show (if k<n then w1.r k else none)=_;rw [yIp (lt k a e)];exact le.r k a e⟩
 have bl:∀ k o,k<n→S1[k]? = some (some o)→gZ n o=true:=fun k o hk e=>by
  rcases hc k o (by lia) e with z | z
  ·obtain ⟨a,u,_,_,_,h4⟩:=ok.live k o z
   exact ze n (fun k hk=>ok.top k (by lia)) h4
  ·rw [hn] at z;exact z
 have ok2:Ok K (iU n w1) H1 (S1.take n):=⟨ok1.base,fun k o e=>by
   obtain ⟨hk,e⟩:=at_ k o e
   obtain ⟨a,u,h1,h2,h3,h4⟩:=ok1.live k o e
   exact ⟨a,u,by show (if k<n then w1.r k else none)=_;rw [yIp hk];exact h1,h2,h3,iB n (bl k o hk e) h4⟩,
  fun k m o o' e e' z=>by
   obtain ⟨hk,e⟩:=at_ k o e
   obtain ⟨hm,e'⟩:=at_ m o' e'
   have z:(if k<n then w1.r k else none)=(if m<n then w1.r m else none):=z
   rw [yIp hk,yIp hm] at z
   exact ok1.inj k m o o' e e' z,
  fun k hk=>by
   show (if k<n then w1.r k else none)=none
   by_cases z:k<n
   ·rw [yIp z]
    rw [zbn] at hk
    exact ok1.top k (by lia)
   ·rw [yIn z]⟩
 refine bk r' (S1.take n) v (iU n w1) H1 le2 ok2 ?_ q
 have fresh:∀ m o a,n≤m→S1[m]? = some (some o)→w1.r m=some a→∀ k o',(S1.take n)[k]? = some (some o')→(iU n w1).r k≠some a:=fun m o a hm e ha k o' e' z=>by
  obtain ⟨hk,e'⟩:=at_ k o' e'
  have z:(if k<n then w1.r k else none)=some a:=z
  rw [yIp hk] at z
  have:=ok1.inj k m o' o e' e (z.trans ha.symm)
  lia
 cases r with
 | new o =>
  simp only [out] at ho
  split at ho
  next hb =>
   cases ho
   obtain ⟨a,u,rfl,h1,h2,h3,h4⟩:=rep
   refine ⟨a,u,rfl,h1,h2,iB n hb h3,fun k o' e z => ?_⟩
   obtain ⟨hk,e⟩:=at_ k o' e
   have z:(if k<n then w1.r k else none)=some a:=z
   rw [yIp hk] at z
   exact h4 k o' e z
  next=>cases ho
 | dat d =>
  have gen:(if fN n d=true then some (R.dat d) else none)=some r'→xZ K (iU n w1) H1 (S1.take n) r' v:=fun ho=>by
   split at ho
   next hb=>cases ho;exact nX n d v hb rep
   next=>cases ho
  cases d with
  | loc m =>
   simp only [out] at ho
   split at ho
   next hm=>exact gen (by simp [fN,hm,ho])
   next hm =>
    have hm:n≤m:=by lia
    split at ho
    next o e =>
     split at ho
     next hb =>
      cases ho
      have rep:Rep K w1 (.loc m) v:=rep
      simp only [Rep] at rep
      obtain ⟨a,ha,rfl⟩:=rep
      obtain ⟨a',u,h1,h2,h3,h4⟩:=ok1.live m o e
      rw [ha] at h1;cases h1
      exact ⟨a,u,rfl,h2,h3,iB n hb h4,fresh m o a hm e ha⟩
     next=>cases ho
    next=>cases ho
  | _=>exact gen (by simpa only [out] using ho)
end
noncomputable def aU (N:List Str) (ds:List D):bU:=ds.map some++zbO (N.length - ds.length) none
theorem jR {K:yaH}{w:Wd}{N:List Str}{ds:List D}{vs:List V} (h:aq K w ds vs):cR K w (aU N ds) (L2.start N vs):=by
 have hl:=h.length
 refine ⟨by simp [aU,L2.start,hl],fun i d e => ?_⟩
 unfold aU at e
 by_cases hi:i<ds.length
 ·rw [zad (by simpa using hi),zbb] at e
  cases z:ds[i]? with
  | none=>rw [z] at e;cases e
  | some d' =>
   rw [z] at e
   have e:d'=d:=by simpa using e
   subst e
   obtain ⟨v,h1,h2⟩:=h.get z
   refine ⟨v,?_,h2⟩
   unfold L2.start
   rw [zad (by rw [zbE,hl];exact hi),zbb,h1];rfl
 ·rw [zab (by simpa using hi),List.getElem?_replicate] at e
  split at e <;> cases e
section
variable {P:yak}{w:yal}{K:yaH}{mg:Str→Option yaj}{base:Heap}
theorem dS {x:Str}{st:Stmt}{N ps:List Str}{k:Nat}{sp:AN} (F:Src K mg x ps st) (S:aJ N ps (ao st)) (len:∀ ds S Q,sp ds S Q→ds.length=ps.length)
  (hbody:∀ (f:Addr) (cdv:yaj) (A:yam) (outer:List Env) (s:yai) (H:Hp) (E:XK),bE k (A.deeper (envOfC x (ao st) s.heap.objs.size f cdv)) →
   ∃ a,uF (gp oK P w K mg base N x (ao st) f cdv A outer s H E).FH (bA st) a∧∀ ds S Q,sp ds S Q→a { nx:=fun _ S'=>ret S S' (.dat .bh) Q,rt:=fun r S'=>ret S S' r Q } (aU N ds) S):Def P w K mg base (k+1) x ps (aD K sp) :=
 F.def S (fun vs H Q E h=>by
  obtain ⟨w,ds,S,Qa,ok,rep,q,bk⟩:=h
  rw [rep.length];exact len ds S Qa q) fun f cdv A outer s H vs Q E hr h=>by
  obtain ⟨a,ha,hd⟩:=hbody f cdv A outer s H E hr
  obtain ⟨w,ds,S,Qa,ok,rep,q,bk⟩:=h
  refine ⟨_,ha.p,w,aU N ds,S,_,ok,jR rep,hd ds S Qa q,⟨fun δ S' σ w' H' le ok' env q' => ?_,fun r S' v w' H' le ok' rep' q' => ?_,fun _ _ _ _ _ _ _ _ z=>z.elim,fun _ _ _ _ _ _ _ _ z=>z.elim⟩⟩
  ·exact lO (r:=.dat .bh) (v:=.bh) ok le ok' (show Rep K w' .bh .bh from .bh) q' bk
  ·exact lO ok le ok' rep' q' bk
end
section
variable {X:Cx}{K:yaH}{w:Wd}{H:Hp}{S:aK}{d:D}{v:V}
theorem iV {vs:List V} (h:aq K w [d] vs):∃ v,vs=[v]∧Rep K w d v:=by
 simp only [aq] at h
 obtain ⟨x,r,rfl,h1,rfl⟩:=h
 exact ⟨x,rfl,h1⟩
theorem HM {e:D}{vs:List V} (h:aq K w [d,e] vs):∃ v u,vs=[v,u]∧Rep K w d v∧Rep K w e u:=by
 simp only [aq] at h
 obtain ⟨x,r,rfl,h1,y,r',rfl,h2,rfl⟩:=h
 exact ⟨x,y,rfl,h1,h2⟩
noncomputable def fy:D→Option Nat
 | .lst ds=>some ds.length
 | .tup ds=>some ds.length
 | .fG ns=>some ns.length
 | .dct ks _=>some ks.length
 | .str z=>if z.length≤yah then some z.length else none
 | _=>none
def xN:AN:=fun ds S Q=>∃ d n,ds=[d]∧fy (bf S d)=some n∧Q (.dat (.int n)) S
theorem f9:C8 X (.builtin "len") xN:=⟨mC (J6 L2.Aw L2.xG) fun xs H Q h=>by
 obtain ⟨w,ds,S,Qa,ok,rep,⟨d,n,rfl,e,q⟩,bk⟩:=h
 obtain ⟨v,rfl,r1⟩:=iV rep
 cases z:bf S d with
 | lst ds =>
  rw [z] at e
  have e:ds.length=n:=by simpa [fy] using e
  obtain ⟨a,xs,rfl,h1,h2⟩:=bw ok r1 z
  exact .inl ⟨_,n,rfl,.inl ⟨xs,cH.of h1,by rw [h2.length,e]⟩,bk.dat .refl ok .int q⟩
 | tup ds =>
  rw [z] at e
  have e:ds.length=n:=by simpa [fy] using e
  obtain ⟨a,xs,rfl,h1,h2⟩:=cK ok r1 z
  exact .inl ⟨_,n,rfl,.inr ⟨xs,h1,by rw [h2.length,e]⟩,bk.dat .refl ok .int q⟩
 | fG ns =>
  rw [z] at e
  have e:ns.length=n:=by simpa [fy] using e
  obtain ⟨a,rfl,h1⟩:=iQ ok r1 z
  exact .inl ⟨_,n,rfl,.inl ⟨_,h1,by rw [zbE,e]⟩,bk.dat .refl ok .int q⟩
 | str y =>
  rw [z] at e
  simp only [fy] at e
  split at e
  next hl =>
   cases e
   exact .inl ⟨_,_,rfl,(by rw [bK r1 z];exact ⟨hl,rfl⟩),bk.dat .refl ok .int q⟩
  next=>cases e
 | dct ks ds =>
  rw [z] at e
  have e:ks.length=n:=by simpa [fy] using e
  obtain ⟨a,kvs,rfl,h1,h2,_⟩:=cY ok r1 z
  refine .inr ⟨a,kvs,rfl,h1,?_⟩
  rw [← zbE (f:=(·.1)),h2,e]
  exact bk.dat .refl ok .int q
 | _=>rw [z] at e;simp [fy] at e⟩
noncomputable def GP:D→Option String
 | .bh=>some "NoneType"
 | .bl _=>some "bool"
 | .int _=>some "int"
 | .str _=>some "str"
 | .tup _=>some "tuple"
 | .lst _=>some "list"
 | _=>none
noncomputable def Im (d:D) (T:String):Option Bool:=(GP d).bind fun t=>if T == "str" || T == "int" || T == "bool" || T == "tuple" || T == "list" then some (t==T||(t == "bool" && T == "int")) else none
def xO:AN:=fun ds S Q=>∃ d T b,ds=[d,.ty T]∧Im (bf S d) T=some b∧Q (.dat (.bl b)) S
theorem Ec (ok:Ok K w H S) (h:Rep K w d v) {t:String} (e:GP (bf S d)=some t):jr K H v (.type t)∨t = "tuple" ∧ ∃ a ys,v = .ref a∧dQ K H a ys:=by
 cases z:bf S d with
 | lst ds =>
  rw [z] at e;cases e
  obtain ⟨a,xs,rfl,h1,h2⟩:=bw ok h z
  exact .inl (.lst h1)
 | tup ds =>
  rw [z] at e;cases e
  obtain ⟨a,xs,rfl,h1,h2⟩:=cK ok h z
  exact .inr ⟨rfl,a,xs,rfl,h1⟩
 | bh=>rw [z] at e;cases e;rw [By h z];exact .inl .bh
 | bl b=>rw [z] at e;cases e;rw [fj h z];exact .inl (.bl b)
 | int b=>rw [z] at e;cases e;rw [b9 h z];exact .inl (.int b)
 | str b=>rw [z] at e;cases e;rw [bK h z];exact .inl (.str b)
 | _=>rw [z] at e;simp [GP] at e
theorem FP {t T:String}{b:Bool} (ht:t = "NoneType" ∨ t = "bool" ∨ t = "int" ∨ t = "str" ∨ t = "tuple" ∨ t = "list")
  (e:(if T == "str" || T == "int" || T == "bool" || T == "tuple" || T == "list" then some (t==T||(t == "bool" && T == "int")) else none)=some b):zbT K (.type t) (.type T)=some b:=by
 split at e
 next hT =>
  simp only [zbM,beq_iff_eq] at hT
  cases e
  rcases hT with (((rfl | rfl) | rfl) | rfl) | rfl <;> rcases ht with rfl | rfl | rfl | rfl | rfl | rfl <;> rfl
 next=>cases e
theorem Ef {t:String} (e:GP d=some t):t = "NoneType" ∨ t = "bool" ∨ t = "int" ∨ t = "str" ∨ t = "tuple" ∨ t = "list" := by
 cases d <;> simp [GP] at e <;> subst e <;> simp
theorem xH:b6 X (.builtin "isinstance") (fun xs H Q=>∃ (a:Addr) (ys:List V) (T:String) (b:Bool),xs=[.ref a,.ty T]∧dQ X.K H a ys∧zbT X.K (.type "tuple") (.type T)=some b∧Q (.bl b) H):=by
 intro pins s σ H xs us Q I r h
 obtain ⟨a,ys,T,b,rfl,hs,hk,q⟩:=h
 obtain ⟨v,w',rfl,rx,rw'⟩:=vals2 r
 cases qG.2 w' rw'
 cases (show v=Value.ref a from rx)
 obtain ⟨_,_,⟨o,h1,h2,_⟩,_⟩:=I.tuple hs
 exact zbN (b:=b) PySem.W.kitx_tuple I.gj ⟨o,h1,h2⟩ hk (fun z=>nomatch z) fun tk=>⟨.bl b,H,I.tok tk,rfl,q⟩
theorem DF:C8 X (.builtin "isinstance") xO:=⟨mC (J6 L2.Ax xH) fun xs H Q h=>by
 obtain ⟨w,ds,S,Qa,ok,rep,⟨d,T,b,rfl,e,q⟩,bk⟩:=h
 obtain ⟨v,u,rfl,r1,r2⟩:=HM rep
 unfold Im at e
 cases z:GP (bf S d) with
 | none=>rw [z] at e;cases e
 | some t =>
  rw [z] at e
  have kt:=FP (K:=X.K) (Ef z) e
  rcases Ec ok r1 z with ty | ⟨rfl,a,ys,rfl,hs⟩
  ·exact .inl ⟨v,.ty T,_,_,b,(by rw [zd r2 rfl]),qG.1,qG.2,ty,kt,bk.dat .refl ok .bl q⟩
  ·exact .inr ⟨a,ys,T,b,(by rw [zd r2 rfl]),hs,kt,bk.dat .refl ok .bl q⟩⟩
def qd:AN:=fun ds S Q=>∃ d,ds=[d]∧match bf S d with
 | .lst es=>Q (.new (.lst es)) S
 | .tup es=>Q (.new (.lst es)) S
 | .fG ns=>Q (.new (.lst (ns.map D.int))) S
 | _=>False
theorem qR:C8 X (.type "list") qd:=⟨mC L2.jm fun xs H Q h=>by
 obtain ⟨w,ds,S,Qa,ok,rep,⟨d,rfl,q⟩,bk⟩:=h
 obtain ⟨v,rfl,r1⟩:=iV rep
 split at q
 next es z =>
  obtain ⟨a,xs,rfl,h1,h2⟩:=bw ok r1 z
  exact ⟨a,xs,rfl,.inl (cH.of h1),fun p hp=>bk (.new (.lst _)) S _ w _ .refl (ok.alloc hp) (ok.fresh hp ⟨_,rfl,h2⟩) q⟩
 next es z =>
  obtain ⟨a,xs,rfl,h1,h2⟩:=cK ok r1 z
  exact ⟨a,xs,rfl,.inr h1,fun p hp=>bk (.new (.lst _)) S _ w _ .refl (ok.alloc hp) (ok.fresh hp ⟨_,rfl,h2⟩) q⟩
 next ns z =>
  obtain ⟨a,rfl,h1⟩:=iQ ok r1 z
  exact ⟨a,_,rfl,.inl h1,fun p hp=>bk (.new (.lst _)) S _ w _ .refl (ok.alloc hp) (ok.fresh hp ⟨_,rfl,gP ns⟩) q⟩
 next=>exact q.elim⟩
def gA:AN:=fun ds S Q=>∃ d,ds=[d]∧match bf S d with
 | .lst es=>Q (.dat (.tup es)) S
 | .tup es=>Q (.dat (.tup es)) S
 | _=>False
theorem jL:C8 X (.type "tuple") gA:=⟨mC L2.nJ fun xs H Q h=>by
 obtain ⟨w,ds,S,Qa,ok,rep,⟨d,rfl,q⟩,bk⟩:=h
 obtain ⟨v,rfl,r1⟩:=iV rep
 split at q
 next es z =>
  obtain ⟨a,xs,rfl,h1,h2⟩:=bw ok r1 z
  refine ⟨a,xs,rfl,.inl ⟨cH.of h1,fun p hp => ?_⟩⟩
  obtain ⟨w2,le2,ok2,rep2⟩:=ok.jM hp h2
  exact bk.dat le2 ok2 rep2 q
 next es z =>
  obtain ⟨a,xs,rfl,h1,h2⟩:=cK ok r1 z
  refine ⟨a,xs,rfl,.inr ⟨h1,?_⟩⟩
  cases d <;> simp only [bf] at z
  case tup=>cases z;exact bk.dat .refl ok r1 q
  case loc n=>split at z <;> first | (rename_i o _;cases o <;> simp [MO.d] at z) | cases z
  all_goals cases z
 next=>exact q.elim⟩
end
abbrev AM:=D→List D→aK→AK→Prop
structure JC (X:Cx) (id:String) (r:AM):Prop where
 p:ya X id (IU X.K r)
def ku (T:String):D→Prop
 | .lst _=>T = "list"
 | .str _=>T = "str"
 | .fG _=>T = "list"
 | .dct _ _=>T = "dict"
 | _=>False
def xP (T:String) (r:AM) (a:AE) (b:AA):AE:=fun δ S Q=>a δ S fun x S1=>ku T (bf S1 x.d)∧b δ S1 fun ds S2=>r x.d ds S2 Q
section
variable {X:Cx}{K:yaH}{w:Wd}{H:Hp}{S:aK}{d:D}{v:V}
theorem G2 {T:String} (ok:Ok K w H S) (h:Rep K w d v) (t:ku T (bf S d)):JL K T v H:=by
 cases z:bf S d with
 | lst ds =>
  rw [z] at t;cases t
  obtain ⟨a,xs,rfl,h1,h2⟩:=bw ok h z
  exact .inl ⟨rfl,xs,cH.of h1⟩
 | str y=>rw [z] at t;cases t;rw [bK h z];exact rfl
 | fG ns =>
  rw [z] at t;cases t
  obtain ⟨a,rfl,h1⟩:=iQ ok h z
  exact .inl ⟨rfl,_,h1⟩
 | dct ks ds =>
  rw [z] at t;cases t
  obtain ⟨a,kvs,rfl,h1,_⟩:=cY ok h z
  exact .inr (.inr (.inl ⟨rfl,.inl ⟨kvs,h1⟩⟩))
 | _=>rw [z] at t;exact t.elim
theorem JS {T:String}{r:AM}{a:AE}{b:AA}:∀ σ H Q,aR K (xP T r a b) σ H Q→JN K T (IU K r) (aR K a) (nG K b) σ H Q:=by
 rintro σ H Q ⟨w,δ,S,Qa,ok,env,q,bk⟩
 refine ⟨w,δ,S,_,ok,env,q,.go fun r1 S1 v1 w1 H1 le1 ok1 rep1 ⟨ty,q1⟩=>⟨G2 ok1 rep1 ty,?_⟩⟩
 refine ⟨w1,δ,S1,_,ok1,env.le le1,q1,fun ds S2 vs w2 H2 le2 ok2 rep2 q2 => ?_⟩
 exact ⟨w2,r1.d,ds,S2,Qa,ok2,rep1.le le2,rep2,q2,bk.le (le1.trans le2)⟩
theorem dZ {o e:Expr}{es:List Expr}{to:AE}{t:AA}{name:Str}{apos cpos:Pos}{T id:String}{r:AM} (pa:PlainAttrs T) (slot:Slot T name id) (hty:typeOf (.builtin id)=pure (.type "method_descriptor")) (hm:JC X id r) (ho:GE X o to) (ha:GA X (e::es) t)
  (hbase:attributeBase o name X.env (eval o X.env)=eval o X.env:=by rfl) (hs:(e::es).all notStar=true:=by rfl) (hfew:decide ((e::es).length+0+0<30)=true:=by rfl)
  (hline:(apos.endLine==cpos.line)=true:=by rfl):GE X (.Call (.Attribute o name apos) (e::es) [] cpos) (xP T r to t):=⟨mE (L2.Fl pa slot hty hm.p ho.p ha.p hbase hs hfew hline) JS⟩
theorem mM {id:String}{t u:V→List V→Hp→VK→Prop} (h:ya X id t) (m:∀ x xs H Q,u x xs H Q→t x xs H Q):ya X id u:=fun pins s σ H x xs v us Q I rx rs q=>h pins s σ H x xs v us Q I rx rs (m x xs H Q q)
theorem t8 {n:Nat}{ds:List D} (ok:Ok K w H S) (h:Rep K w (.loc n) v) (e:S[n]? = some (some (.lst ds))):∃ a xs,v = .ref a∧w.r n=some a∧H a=some (.lst xs)∧aq K w ds xs:=by
 simp only [Rep] at h
 obtain ⟨a,h1,rfl⟩:=h
 obtain ⟨a',u,g1,g2,g3,xs,rfl,g5⟩:=ok.live n _ e
 rw [h1] at g1;cases g1
 exact ⟨a,xs,rfl,h1,g3,g5⟩
theorem iW {ds:List D}{xs:List V} (h:aq K w ds xs):jU K w (.lst ds) (.lst xs):=⟨xs,rfl,h⟩
def vZ:AM:=fun x ds S Q=>∃ n es e,x = .loc n∧ds=[e]∧S[n]? = some (some (.lst es))∧es.length<yah∧Q (.dat .bh) (S.set n (some (.lst (es++[e]))))
theorem gf:JC X "list.append" vZ:=⟨mM (X:=X) (t:=ve) L2.xj fun x xs H Q h=>by
 obtain ⟨w,d,ds,S,Qa,ok,r1,r2,⟨n,es,e,rfl,rfl,hS,hl,q⟩,bk⟩:=h
 obtain ⟨a,ys,rfl,ha,hH,hr⟩:=t8 ok r1 hS
 obtain ⟨v,rfl,r3⟩:=iV r2
 exact ⟨a,ys,v,rfl,rfl,hH,by rw [hr.length];exact hl,bk.dat .refl (ok.put hS ha (iW (hr.snoc r3))) .bh q⟩⟩
def zk (K:yaH):V→List V→Hp→VK→Prop:=fun x vs H Q=>∃ l b xs zs,x = .ref l∧vs=[.ref b]∧H l=some (.lst xs)∧dQ K H b zs∧xs.length+zs.length≤yah∧Q .bh (upd H l (.lst (xs++zs)))
theorem Ct {l b:Addr}{xs zs:Array yaj}{n k:Nat}{dd:Option Addr}{sl:Array (Option yaj)} (h0 : ¬(!xs.isEmpty&&Builtin.List.listTooLong (xs.size+zs.size))=true) (h1:xs.size≤yah) (h2:xs.size+zs.size≤yah+1) :
  Meets (Builtin.«list.extend» ⟨[.ref l,.ref b],[]⟩) (fun _ R s=>s.heap.get? l=some { cls:=.type "list",dict:=none,data:=.seq xs n,slots := #[] }∧s.heap.get? b=some { cls:=.type "tuple",dict:=dd,data:=.seq zs k,slots:=sl }∧R (.ok (.ret Value.none)) { s with heap:=s.heap.update l (Obj.mapSeq fun x=>x++zs),toks:=s.toks }) :=
 .of_wp fun prog w A R s h=>by
  obtain ⟨hl,hb,q⟩:=h
  obtain ⟨hp,g,dr,tk,os⟩:=s
  have e1:=AutoSeq1.idx_int
  have e2:=AutoSeq1.sub_tuple_tuple
  have e3:=AutoSeq1.sub_list_list
  have e4:=AutoSeq1.sub_tuple_list
  have e5:=AutoSeq1.sub_list_tuple
  have z:(xs++zs).size≤yah+1:=by rw [Array.size_append];exact h2
  wp_walk using (wpAny_updateSeq hl rfl (hz:=h1) (_hz':=z)),AutoSeq1.wpAny_loadPart' hl,AutoSeq1.wpAny_loadPart' hb
  exact ⟨_,rfl,q⟩
theorem tX:ya X "list.extend" (zk X.K):=by
 intro pins s σ H x vs v us Q I rx rv h
 obtain ⟨l,b,xs,zs,rfl,rfl,hH,hB,hz,q⟩:=h
 cases rx
 obtain ⟨u,rfl,ru⟩:=rv.one
 cases ru
 obtain ⟨z,its,n,r,hl,e⟩:=I.t7 hH
 obtain ⟨its2,r2,⟨⟨c2,dd,da,sl⟩,e2,hc2,n2,d2⟩,z2⟩:=I.tuple hB
 simp only at hc2 d2
 subst hc2 d2
 have hl2:=r2.length
 have hsz:its.toArray.size+its2.toArray.size≤yah:=by rw [zba,zba];lia
 have q9 : ¬ (!its.toArray.isEmpty&&Builtin.List.listTooLong (its.toArray.size+its2.toArray.size))=true:=by
  rw [mh hsz,Bool.and_false]
  exact zaW
 refine call_meets F.slot_list_extend ⟨_,e,rfl⟩ F.entry_list_extend (F.args_list_extend_2 _ _)
  (Ct (n:=n) (k:=n2) (dd:=dd) (sl:=sl) q9 (by rw [zba];lia) (by lia)) ⟨e,e2,?_⟩
 refine ⟨.bh,_,I.FN (its':=its++its2) hH e (by simp) (r.append r2) ?_,rfl,q⟩
 rw [zaM]
 lia
def vY:AM:=fun x ds S Q=>∃ n es e fs,x = .loc n∧ds=[e]∧S[n]? = some (some (.lst es))∧(bf S e = .lst fs∨bf S e = .tup fs)∧es.length+fs.length≤yah∧Q (.dat .bh) (S.set n (some (.lst (es++fs))))
theorem i7:JC X "list.extend" vY:=⟨mM (ya.or (X:=X) (r:=vd) L2.xh tX) fun x xs H Q h=>by
 obtain ⟨w,d,ds,S,Qa,ok,r1,r2,⟨n,es,e,fs,rfl,rfl,hS,hf,hl,q⟩,bk⟩:=h
 obtain ⟨a,ys,rfl,ha,hH,hr⟩:=t8 ok r1 hS
 obtain ⟨v,rfl,r3⟩:=iV r2
 rcases hf with hf | hf
 ·obtain ⟨b,zs,rfl,g1,g2⟩:=bw ok r3 hf
  exact .inl ⟨a,b,ys,zs,rfl,rfl,hH,g1,by rw [hr.length,g2.length];exact hl,bk.dat .refl (ok.put hS ha (iW (hr.append g2))) .bh q⟩
 ·obtain ⟨b,zs,rfl,g1,g2⟩:=cK ok r3 hf
  exact .inr ⟨a,b,ys,zs,rfl,rfl,hH,g1,by rw [hr.length,g2.length];exact hl,bk.dat .refl (ok.put hS ha (iW (hr.append g2))) .bh q⟩⟩
end
end M
namespace M
open PySem L2
theorem cE {P:aK→Prop}{g:AG}{b:AS}{D:nq} (I:List M.D→bU→aK→Prop) (hn:∀ δ S,I [] δ S→P S∧D.nx δ S)
  (hc:∀ x xs δ S N,I (x::xs) δ S→(∀ δ' S',I xs δ' S'→N δ' S')→P S∧g x δ S fun δ2 S2=>b { D with nx:=N,ct:=N,bk:=D.nx } δ2 S2):∀ ds δ S,I ds δ S→mq P g b ds D δ S
 | [],δ,S,h=>hn δ S h
 | x::xs,δ,S,h=>hc x xs δ S _ h fun δ' S' h'=>cE I hn hc xs δ' S' h'
theorem uY {S:aK}{d:D} (h:cI d=true):bf S d=d:=by
 cases d <;> first | rfl | simp [cI] at h
theorem fX {S:aK}{i:Int}:bf S (.int i) = .int i:=rfl
theorem fU {S:aK}{i:Str}:bf S (.str i) = .str i:=rfl
theorem iR {S:aK}{i:Bool}:bf S (.bl i) = .bl i:=rfl
theorem fW {S:aK}:bf S .bh = .bh:=rfl
theorem eT {S:aK}{i:List D}:bf S (.tup i) = .tup i:=rfl
theorem eU {S:aK}{i:List D}:bf S (.lst i) = .lst i:=rfl
theorem fV {S:aK}{i:List Int}:bf S (.fG i) = .fG i:=rfl
theorem aY {d:D}:(R.dat d).d=d:=rfl
theorem fZ {o:MO}:(R.new o).d=o.d:=rfl
theorem d8 {ds:List D}:(MO.lst ds).d = .lst ds:=rfl
theorem i9 {i j:Int}{S:aK}{Q:AK}:K1 (.int i) (.int j) S Q=Q (.dat (.bl (decide (i≤j)))) S:=rfl
theorem i8 {i j:Int}{S:aK}{Q:AK}:K0 (.int i) (.int j) S Q=Q (.dat (.bl (decide (i<j)))) S:=rfl
theorem Jv {i j:Str}{S:aK}{Q:AK}:K1 (.str i) (.str j) S Q=Q (.dat (.bl (!decide (j.cps.toList<i.cps.toList)))) S:=rfl
theorem m6 {C:Int→Int→Prop}{g:Int→Int→D}{i j:Int}{S:aK}{Q:AK}:aI C g (.int i) (.int j) S Q=(C i j∧Q (.dat (g i j)) S):=by
 refine propext ⟨fun ⟨a,b,e1,e2,h⟩ => ?_,fun h=>⟨i,j,rfl,rfl,h⟩⟩
 cases e1;cases e2;exact h
theorem gz {i j:Int}{S:aK}{Q:AK}:nL (.int i) (.int j) S Q=Q (.dat (.int (i+j))) S:=rfl
theorem gy {i j:List D}{S:aK}{Q:AK}:nL (.lst i) (.lst j) S Q=(i.length+j.length≤yah∧Q (.new (.lst (i++j))) S):=rfl
theorem jh {i j:Int}{S:aK}{Q:AK}:Gv (.int i) (.int j) S Q=Q (.dat (.bl (decide (i=j)))) S:=rfl
theorem ee {i j:Str}{S:aK}{Q:AK}:Gv (.str i) (.str j) S Q=Q (.dat (.bl (decide (i=j)))) S:=rfl
theorem lC {b:Bool}:eg (.bl b)=some b:=rfl
theorem iO {ds:List D}:eg (.lst ds)=some (!ds.isEmpty):=rfl
theorem iN {ds:List D}:eg (.tup ds)=some (!ds.isEmpty):=rfl
theorem d7 {n:Nat}{S:aK}{d:D} (h:cI d=true):out n S (.dat d)=some (.dat d):=by
 have b:=vP n d h
 cases d <;> first | (simp [cI] at h;done) | (simp only [out];rw [yIp b])
theorem rK {S:aK}:chg S S:=fun _ _ _ e=>.inl e
theorem aT {S:aK}{d:D}{Q:AK} (h:cI d=true) (q:Q (.dat d) S):ret S S (.dat d) Q:=⟨_,d7 h,rK,by rw [zbs];exact q⟩
theorem iA {S:aK}{b:Bool}{Q:AK}:ret S S (.dat (.bl b)) Q=Q (.dat (.bl b)) S:=by
 refine propext ⟨fun ⟨r,h1,_,h2⟩ => ?_,aT rfl⟩
 simp [out,fN] at h1
 subst h1
 rw [zbs] at h2;exact h2
theorem iT {S:aK}{b:Int}{Q:AK}:ret S S (.dat (.int b)) Q=Q (.dat (.int b)) S:=by
 refine propext ⟨fun ⟨r,h1,_,h2⟩ => ?_,aT rfl⟩
 simp [out,fN] at h1
 subst h1
 rw [zbs] at h2;exact h2
theorem kP {S:aK}{ds:List D}{Q:AK} (h:cM ds=true) (q:Q (.new (.lst ds)) S):ret S S (.new (.lst ds)) Q :=
 ⟨_,by simp only [out];rw [yIp (show gZ _ (.lst ds)=true from dg _ ds h)],rK,by rw [zbs];exact q⟩
theorem pA {S:aK}{ds:List D}{Q:AK}{S':aK}{n:Nat} (hn:S.length≤n) (h:cM ds=true) (e:S'[n]? = some (some (.lst ds))) (hs:S'.take S.length=S) (q:Q (.new (.lst ds)) S):ret S S' (.dat (.loc n)) Q:=by
 refine ⟨.new (.lst ds),?_,fun k o hk e=>.inl ?_,by rw [hs];exact q⟩
 ·simp only [out]
  rw [yIn (by lia),e]
  show (if gZ S.length (.lst ds)=true then some (R.new (.lst ds)) else none)=_
  rw [yIp (show gZ _ (.lst ds)=true from dg _ ds h)]
 ·rw [← hs,zaO,yIp hk];exact e
noncomputable def dB (x:Str):Bool:=x.cps.toList.all (fun c=>decide (c<128))&&decide (x.length≤100)
noncomputable def fK:Nat→D→Bool
 | _,.bh=>true
 | _,.bl _=>true
 | _,.int _=>true
 | _,.str x=>dB x
 | n+1,.tup ds=>decide (ds.length≤100)&&ds.all (fK n)
 | n+1,.lst ds=>decide (ds.length≤100)&&ds.all (fK n)
 | _,_=>false
theorem bX {x:Str} (h:dB x=true):PyData.strOk x=true:=by
 unfold dB at h
 rw [zbw] at h
 unfold PyData.strOk
 rw [← Array.all_toList]
 refine zbr.mpr fun c hc => ?_
 have:=of_decide_eq_true (zbr.mp h.1 c hc)
 exact yDt (by lia)
theorem fT:∀ {n m:Nat}{d:D},fK n d=true→n≤m→fK m d=true:=by
 intro n
 induction n with
 | zero =>
  intro m d h _
  cases d <;> cases m <;> first | rfl | exact h | (simp [fK] at h;done)
 | succ n ih =>
  intro m d h hm
  cases m with
  | zero=>lia
  | succ m =>
   cases d <;> first | rfl | exact h | skip
   ·simp only [fK,zbw,zbr] at h ⊢
    exact ⟨h.1,fun x hx=>ih (h.2 x hx) (by lia)⟩
   ·simp only [fK,zbw,zbr] at h ⊢
    exact ⟨h.1,fun x hx=>ih (h.2 x hx) (by lia)⟩
theorem yj:∀ (n:Nat) (d:D),fK n d=true→cI d=true∧(py d).canLay0=true∧(py d).depth≤n:=by
 intro n
 induction n with
 | zero =>
  intro d h
  cases d <;> first | (simp [fK] at h;done) | skip
  ·simp [cI,py,PyData.canLay0,PyData.depth]
  ·simp [cI,py,PyData.canLay0,PyData.depth]
  ·simp [cI,py,PyData.canLay0,PyData.depth]
  ·simp only [fK] at h
   simp [cI,py,PyData.canLay0,PyData.depth,bX h]
 | succ n ih =>
  have all:∀ ds:List D,(ds.all (fK n))=true→cM ds=true∧PyData.canLayAll0 (dW ds)=true∧PyData.depthAll (dW ds)≤n:=by
   intro ds
   induction ds with
   | nil=>intro _;simp [cM,dW,PyData.canLayAll0,PyData.depthAll]
   | cons d ds ih2 =>
    intro h
    rw [zbZ,zbw] at h
    obtain ⟨a1,a2,a3⟩:=ih d h.1
    obtain ⟨b1,b2,b3⟩:=ih2 h.2
    refine ⟨by simp [cM,a1,b1],by simp [dW,PyData.canLayAll0,a2,b2],?_⟩
    simp only [dW,PyData.depthAll]
    lia
  intro d h
  cases d <;> first | (simp [fK] at h;done) | skip
  ·simp [cI,py,PyData.canLay0,PyData.depth]
  ·simp [cI,py,PyData.canLay0,PyData.depth]
  ·simp [cI,py,PyData.canLay0,PyData.depth]
  ·simp only [fK] at h
   simp [cI,py,PyData.canLay0,PyData.depth,bX h]
  ·simp only [fK,zbw] at h
   obtain ⟨a1,a2,a3⟩:=all _ h.2
   exact ⟨by simpa [cI] using a1,by simpa [py,PyData.canLay0] using a2,by simp only [py,PyData.depth];lia⟩
  ·simp only [fK,zbw] at h
   obtain ⟨a1,a2,a3⟩:=all _ h.2
   exact ⟨by simpa [cI] using a1,by simpa [py,PyData.canLay0] using a2,by simp only [py,PyData.depth];lia⟩
theorem sP {n:Nat}{d:D} (h:fK n d=true):cI d=true:=(yj n d h).1
theorem iu {n:Nat}{d:D} (h:fK n d=true) (hn:n≤64):fit d=true:=by
 obtain ⟨a,b,c⟩:=yj n d h
 unfold fit PySem.SeqAt.shaped
 rw [a,b,yDt (by lia)];rfl
noncomputable def GU (x:D) (s:Str):Bool:=match x with
 | .str a=>decide (a=s)
 | _=>false
noncomputable def DL (x:D) (ss:List Str):Bool:=ss.any fun s=>GU x s
theorem Cu {x:D}{s:Str} (h:cI x=true):PyData.eqv (.str s) (py x)=GU x s:=by
 cases x <;> first | (simp [cI] at h;done) | simp only [py,PyData.eqv,GU]
 rename_i a
 by_cases e:s=a
 ·subst e;simp
 ·rw [yDf (fun z=>e z.symm)]
  exact beq_eq_false_iff_ne.mpr e
theorem mL {x:D} (h:cI x=true):∀ ss:List Str,inD x (ss.map D.str)=DL x ss
 | []=>rfl
 | s::ss=>by
  have:=mL h ss
  unfold inD DL at this ⊢
  rw [zbX,zbY,zbY,this]
  rw [show PyData.eqv (py (.str s)) (py x)=GU x s from Cu h]
theorem qZ {n:Nat}{x:D}{ss:List Str}{neg:Bool}{S:aK}{Q:AK} (h:fK n x=true) (hn:n≤64) (hs:ss.all dB=true) (q:Q (.dat (.bl (neg != DL x ss))) S) (hl:ss.length≤100:=by decide):vX neg x (.tup (ss.map D.str)) S Q:=by
 have hp:=sP h
 unfold vX
 rw [uY hp,eT]
 refine ⟨iu h hn,iu (n:=1) ?_ (by decide),?_⟩
 ·simp only [fK,List.all_map,zbE,yDt hl,Bool.true_and]
  exact hs
 ·rw [mL hp];exact q
theorem xu {n:Nat}{x:D}{ss:List Str}{neg:Bool}{S:aK}{Q:AK} (h:fK n x=true) (hn:n≤64) (hs:ss.all dB=true) (q:Q (.dat (.bl (neg != DL x ss))) S) (hl:ss.length≤100:=by decide):vX neg x (.lst (ss.map D.str)) S Q:=by
 have hp:=sP h
 unfold vX
 rw [uY hp,eU]
 refine ⟨iu h hn,iu (n:=1) ?_ (by decide),?_⟩
 ·simp only [fK,List.all_map,zbE,yDt hl,Bool.true_and]
  exact hs
 ·rw [mL hp];exact q
end M
namespace M
open PySem PySem.Spec PyProof.Rows L2
theorem gM:∀ {vs:List yaj}{ss:List Str},StrsAre vs ss→Vals (ss.map V.str) vs
 | _,_,.nil=>.nil
 | _,_,.cons y t h=>.cons ⟨t,rfl⟩ (gM h)
section
variable {X:Cx}
def E9 (K:yaH):List V→Hp→VK→Prop:=fun xs H Q=>∃ (a:Addr) (ss:List Str),xs=[.ref a]∧cH K H a (ss.map V.str)∧ss.length<64∧∀ (p:Addr) (ss':List Str),H p=none→ss'.Perm ss→sortedS ss'=true→Q (.ref p) (upd H p (.lst (ss'.map V.str)))
theorem uq:b6 X (.builtin "sorted") (E9 X.K):=by
 intro pins s σ H xs us Q I r h
 obtain ⟨a,ss,rfl,ha,hl,q⟩:=h
 obtain ⟨u,rfl,ru⟩:=vals1 r
 cases ru
 obtain ⟨its,r1,⟨o,n,e,hc,hd,hda⟩,_⟩:=I.list ha
 have hlen:its.length=ss.length:=by have:=r1.length;rw [zbE] at this;exact this.symm
 refine sorted_strs ⟨o,e,hc,n,hda⟩ (fh r1) (by lia) fun out ss' a1 a2 a3 => ?_
 obtain ⟨ep,he⟩:=sortedAll_at s.heap its out
 have hz:(ss'.map V.str).length≤yah:=by rw [zbE,a2.length_eq,yag];lia
 refine ⟨.ref (s.heap.objs.size+1),_,I.laid (t':=s.toks) (o:=.lst (ss'.map V.str)) (fun b ob q=>sortedAll_old q) (zcA _) ⟨hz,out.toList,ep,gM a1,he⟩,rfl,q _ ss' (I.hok.fresh (zcA _)) a2 a3⟩
def Fb (K:yaH):List V→Hp→VK→Prop:=fun xs H Q=>∃ (a:Addr) (ns:List Int),xs=[.ref a]∧cH K H a (ns.map V.int)∧ns.length<64∧∀ (p:Addr) (ns':List Int),H p=none→ns'.Perm ns→ns'.Pairwise (· ≤ ·)→Q (.ref p) (upd H p (.lst (ns'.map V.int)))
theorem uu:b6 X (.builtin "sorted") (Fb X.K):=by
 intro pins s σ H xs us Q I r h
 obtain ⟨a,ns,rfl,ha,hl,q⟩:=h
 obtain ⟨u,rfl,ru⟩:=vals1 r
 cases ru
 obtain ⟨its,r1,⟨o,n,e,hc,hd,hda⟩,_⟩:=I.list ha
 have hlen:its.length=ns.length:=by have:=r1.length;rw [zbE] at this;exact this.symm
 refine sorted_ints ⟨o,e,hc,n,hda⟩ (intsAre_of r1) (by lia) fun out ns' a1 a2 a3 => ?_
 obtain ⟨ep,he⟩:=sortedAll_at s.heap its out
 have hz:(ns'.map V.int).length≤yah:=by rw [zbE,a2.length_eq,yag];lia
 refine ⟨.ref (s.heap.objs.size+1),_,I.laid (t':=s.toks) (o:=.lst (ns'.map V.int)) (fun b ob q=>sortedAll_old q) (zcA _) ⟨hz,out.toList,ep,jB a1,he⟩,rfl,q _ ns' (I.hok.fresh (zcA _)) a2 a3⟩
def vU:AN:=fun ds S Q=>∃ d,ds=[d] ∧
 ((∃ ss:List Str,bf S d = .lst (ss.map D.str)∧ss.length<64∧∀ ss':List Str,ss'.Perm ss→sortedS ss'=true→Q (.new (.lst (ss'.map D.str))) S)∨(∃ ns:List Int,bf S d = .lst (ns.map D.int)∧ns.length<64∧∀ ns':List Int,ns'.Perm ns→ns'.Pairwise (· ≤ ·)→Q (.new (.lst (ns'.map D.int))) S))
theorem cU {K:yaH}{w:Wd}:∀ {ss:List Str}{xs:List V},aq K w (ss.map D.str) xs→xs=ss.map V.str
 | [],xs,h=>by simpa [aq] using h
 | s::ss,xs,h=>by
  simp only [zbX,aq] at h
  obtain ⟨x,r,rfl,h1,h2⟩:=h
  rw [fk h1 rfl,cU h2];rfl
theorem lR {K:yaH}{w:Wd}:∀ {ns:List Int}{xs:List V},aq K w (ns.map D.int) xs→xs=ns.map V.int
 | [],xs,h=>by simpa [aq] using h
 | s::ss,xs,h=>by
  simp only [zbX,aq] at h
  obtain ⟨x,r,rfl,h1,h2⟩:=h
  rw [bR h1 rfl,lR h2];rfl
theorem cL {K:yaH}{w:Wd}:∀ ss:List Str,aq K w (ss.map D.str) (ss.map V.str)
 | []=>by simp [aq]
 | s::ss=>by
  simp only [zbX,aq]
  exact ⟨_,_,rfl,by simp [Rep],cL ss⟩
theorem zC:C8 X (.builtin "sorted") vU:=⟨mC (J6 uq uu) fun xs H Q h=>by
 obtain ⟨w,ds,S,Qa,ok,rep,⟨d,rfl,q⟩,bk⟩:=h
 obtain ⟨v,rfl,r1⟩:=iV rep
 rcases q with ⟨ss,z,hl,q⟩ | ⟨ns,z,hl,q⟩
 ·obtain ⟨a,xs,rfl,h1,h2⟩:=bw ok r1 z
  have:=cU h2
  subst this
  exact .inl ⟨a,ss,rfl,cH.of h1,hl,fun p ss' hp h3 h4=>bk (.new (.lst _)) S _ w _ .refl (ok.alloc hp) (ok.fresh hp ⟨_,rfl,cL ss'⟩) (q ss' h3 h4)⟩
 ·obtain ⟨a,xs,rfl,h1,h2⟩:=bw ok r1 z
  have:=lR h2
  subst this
  exact .inr ⟨a,ns,rfl,cH.of h1,hl,fun p ns' hp h3 h4=>bk (.new (.lst _)) S _ w _ .refl (ok.alloc hp) (ok.fresh hp ⟨_,rfl,gP ns'⟩) (q ns' h3 h4)⟩⟩
end
end M
namespace L2
open PySem PySem.Spec PyProof.Rows
theorem lu:∀ {xs:List V}{us:List yaj},Vals xs us→Vals xs.reverse us.reverse
 | _,_,.nil=>.nil
 | _,_,.cons r t=>by simpa using (lu t).append (.cons r .nil)
end L2
namespace M
open PySem PySem.Spec PyProof.Rows L2
section
variable {K:yaH}
theorem lQ {w:Wd}:∀ {ds:List D}{xs:List V},aq K w ds xs→aq K w ds.reverse xs.reverse
 | [],_,h=>by simp only [aq] at h;subst h;simp [aq]
 | d::ds,xs,h=>by
  simp only [aq] at h
  obtain ⟨x,r,rfl,h1,h2⟩:=h
  rw [zbf,zbf]
  exact (lQ h2).snoc h1
end
structure Jf (K:yaH) (C:Addr) (m qual:Str) (ps:List Str) (st:Stmt):Prop where
 ex:∃ f fd,wA K m qual st f fd∧Meth K C m f∧Binds K fd ps []
section
variable {P:yak}{w:yal}{K:yaH}{mg:Str→Option yaj}{base:Heap}{C:Addr}
theorem J7 {x qual:Str}{st:Stmt}{f:Addr}{fd:yaq}{N ps:List Str}{k:Nat}{sp:AN} (F:wA K x qual st f fd) (S:aJ N ps (ao st)) (len:∀ ds S Q,sp ds S Q→ds.length=ps.length)
  (hbody:∀ (f:Addr) (cdv:yaj) (A:yam) (outer:List Env) (s:yai) (H:Hp) (E:XK),bE k (A.deeper (PyProof.Rows.envOfC qual (ao st) s.heap.objs.size f cdv)) →
   ∃ a,uF (gp oK P w K mg base N qual (ao st) f cdv A outer s H E).FH (bA st) a∧∀ ds S Q,sp ds S Q→a { nx:=fun _ S'=>M.ret S S' (.dat .bh) Q,rt:=fun r S'=>M.ret S S' r Q } (aU N ds) S):cJ P w K mg base oK (k+1) f fd ps (aD K sp) :=
 F.ok S (fun vs H Q E h=>by
  obtain ⟨w,ds,S,Qa,ok,rep,q,bk⟩:=h
  rw [rep.length];exact len ds S Qa q) fun cdv A outer s H vs Q E hr h=>by
  obtain ⟨a,ha,hd⟩:=hbody f cdv A outer s H E hr
  obtain ⟨w,ds,S,Qa,ok,rep,q,bk⟩:=h
  refine ⟨_,ha.p,w,aU N ds,S,_,ok,jR rep,hd ds S Qa q,⟨fun δ S' σ w' H' le ok' env q' => ?_,fun r S' v w' H' le ok' rep' q' => ?_,fun _ _ _ _ _ _ _ _ z=>z.elim,fun _ _ _ _ _ _ _ _ z=>z.elim⟩⟩
  ·exact lO (r:=.dat .bh) (v:=.bh) ok le ok' (show Rep K w' .bh .bh from .bh) q' bk
  ·exact lO ok le ok' rep' q' bk
end
section
variable {X:Cx}{e o:Expr}{es:List Expr}{p pos apos:Pos}{C:Addr}{k:Nat}{m:Str}{ps:List Str}{sp:AN}
def Gr:AS:=fun _ _ _=>False
theorem lW {st:Stmt}:GS X st Gr:=⟨mS L2.lW fun D σ H h=>by obtain ⟨_,_,_,_,_,_,z,_⟩:=h;exact z.elim⟩
end
end M
namespace Srt
open PySem PySem.W PyProof.Rows
structure Ord (α:Type) where
 lt:α→α→Bool
 irr:∀ a,lt a a=false
 tr:∀ a b c,lt a b=true→lt b c=true→lt a c=true
 nt:∀ a b c,lt a c=true→lt a b=true∨lt b c=true
noncomputable def run {β:Type} (f:Nat→Nat→Bool):KasT β→β
 | .ret a=>a
 | .ask i j k=>run f (k (f i j))
section
variable {α:Type} (O:Ord α)
def le (a b:α):Prop:=O.lt b a=false
variable {O}
end
section
variable {α:Type}{O:Ord α}{k:Nat→α}{p:Array Nat}
noncomputable def val (k:Nat→α) (p:Array Nat) (i:Nat):α:=k (p.getD i 0)
variable (O k)
noncomputable abbrev ask (i j:Nat):Bool:=O.lt (k i) (k j)
variable {O k}
end
end Srt
namespace M5
open PySem PySem.Spec PyProof.Rows
theorem qW (t:SetTable) (es:Array (Int×yaj)) (h:Int) (x:yaj):(layNew t es h x).2.1.led=t.led∧((layNew t es h x).2.1.plain=true→t.plain=true):=by
 unfold layNew
 split
 ·unfold SetTable.orStandIn
  dsimp only
  split
  ·exact ⟨rfl,fun z=>z⟩
  ·exact ⟨rfl,fun z=>by cases z⟩
 ·exact ⟨rfl,fun z=>by cases z⟩
theorem jZ {t t':SetTable}{hs:Array Int}{n:Nat}{o:Array Nat} (h:t.relaid hs n=some (t',o)):t'.led=t.led∧t'.plain=t.plain:=by
 unfold SetTable.relaid SetTable.laid at h
 cases hl:SetTable.layClean (SetTable.sizeAbove n - 1) hs with
 | none=>rw [hl] at h;cases h
 | some ow =>
  rw [hl] at h
  have h:some _=some _:=h
  injection h with h
  injection h with h1 h2
  subst h1
  exact ⟨rfl,rfl⟩
theorem nE (t:SetTable) (es:Array (Int×yaj)) (n:Nat):(relayAll t es n).2.1.led=t.led∧((relayAll t es n).2.1.plain=true→t.plain=true):=by
 unfold relayAll
 split
 ·rename_i t' order he
  dsimp only
  split
  ·exact ⟨(jZ he).1,fun z=>by rw [← (jZ he).2];exact z⟩
  ·exact ⟨rfl,fun z=>by cases z⟩
 ·exact ⟨rfl,fun z=>by cases z⟩
def Kx (prog:yak) (w:yal) (o:Obj) (S:List Str):Prop :=
 ∃ es ep t,o.ExactSet∧o.data = .set es ep t∧ElemsOf (PySem.strKind prog w) es.toList∧(es.toList.map fun e=>strOf e.2).Perm S∧t.fits es.size=true∧t.led=(!w.params.followText "set-order")∧(es.size≠0→t.plain=false)
def qj (prog:yak) (w:yal) (h:Heap) (a:Addr) (S:List Str):Prop:=∃ o,h.get? a=some o∧Kx prog w o S
noncomputable def kF (S:List Str) (x:Str):List Str:=if x∈S then S else S++[x]
section
variable {prog:yak}{w:yal}{A:yam}{E:yaj→yai→Prop}{s:yai}
theorem Ke (x:Str) (t:Tok):(PySem.strKind prog w).is x (.str x t)=true:=by
 show Value.isStrOf x (.str x t)=true
 simp [Value.isStrOf]
theorem yC {x:Str}{v:yaj} (h:(PySem.strKind prog w).is x v=true):strOf v=x:=by
 obtain ⟨t,rfl⟩:=Value.isStrOf_shape h
 rfl
theorem uJ {h:Heap}{a:Addr}{o:Obj}{es:Array (Int×yaj)}{ep:Nat}{t:SetTable} (es':Array (Int×yaj)) (t':SetTable) (ho:h.get? a=some o) (hd:o.data = .set es ep t) :
  (h.update a (Obj.putSet es' t')).get? a=some { o with data:=.set es' (ep+1) t' }:=by
 have e:=zaw (Obj.putSet es' t') ho
 rw [putSet_of es' t' hd] at e
 exact e rfl
theorem add_str {a:Addr}{S:List Str}{x:Str}{tk:Tok}{Q:Bool→yai→Prop} (hS:qj prog w s.heap a S) (hn:S.length+1<4096)
  (h:∀ b h',Heap.SameBut a s.heap h'→qj prog w h' a (kF S x)→Q b { s with heap:=h' }) :
  yas (model prog w) A (setAddHashed a (.str x tk) ((PySem.strKind prog w).hash x)) Q E s:=by
 obtain ⟨o,ho,es,ep,t,hex,hd,hel,hp,hf,hled,hpl⟩:=hS
 have hlen:es.size=S.length:=by rw [← hp.length_eq,zbE,zaJ]
 have hb:es.size<scanBound:=by show es.size<4096;lia
 unfold setAddHashed
 unfold setAddHashedIn
 refine yad (yaa (wpAny_setState_of ho hd hf ?_))
 dsimp only
 rw [byScan_of (x:=.str x tk) rfl hb hel,yIp rfl]
 unfold setAddByScan
 refine yaa (yaa (wpAny_rule (yaa (wpAny_setScan_of (k:=x) (Ke x tk) ho hd hf hel ?_))))
 cases hr:List.findIdx? (fun e=>(PySem.strKind prog w).is x e.2) es.toList with
 | some j =>
  obtain ⟨hj,hpj,_⟩:=List.findIdx?_eq_some_iff_getElem.mp hr
  have hx:x∈S:=hp.mem_iff.mp (zck.mpr ⟨_,List.getElem_mem hj,yC hpj⟩)
  dsimp only
  refine yab (yab ?_)
  have q:=h false s.heap (Heap.SameBut.refl a s.heap) (by
   unfold kF
   rw [yIp hx]
   exact ⟨o,ho,es,ep,t,hex,hd,hel,hp,hf,hled,hpl⟩)
  exact q
 | none =>
  have hx:x ∉ S:=fun hx=>by
   obtain ⟨e,he,z⟩:=zck.mp (hp.mem_iff.mpr hx)
   obtain ⟨⟨k,hk,_⟩,_⟩:=hel e he
   rw [yC hk] at z
   subst z
   have:=List.findIdx?_eq_none_iff.mp hr e he
   rw [hk] at this;cases this
  dsimp only
  have hlp:=layNew_perm t es ((PySem.strKind prog w).hash x) (.str x tk)
  have hlf:=layNew_fits t es ((PySem.strKind prog w).hash x) (.str x tk)
  have hlk:=qW t es ((PySem.strKind prog w).hash x) (.str x tk)
  generalize layNew t es ((PySem.strKind prog w).hash x) (.str x tk)=L at hlp hlf hlk ⊢
  obtain ⟨es1,t1,wd,gv⟩:=L
  dsimp only at hlp hlf hlk ⊢
  rw [zbk] at hlp
  have hel1:ElemsOf (PySem.strKind prog w) es1.toList:=(hel.push (Ke x tk) rfl).perm hlp
  have hp1:(es1.toList.map fun e=>strOf e.2).Perm (S++[x]):=by
   refine (hlp.map _).trans ?_
   rw [zbI]
   exact hp.append_right [x]
  have hsz1:es1.size=S.length+1:=by rw [← zaJ,← zbE (f:=fun e:Int×yaj=>strOf e.2),hp1.length_eq,zaM];rfl
  have gw:∀ (b:Bool) {s₁:yai}{Q':Unit→yai→Prop},Q' () s₁→yas (model prog w) A (match b with | true=>rule "set.scan.the-table-gave-way" | false=>pure ()) Q' E s₁:=by
   intro b s₁ Q' q
   cases b
   ·exact yab q
   ·exact wpAny_rule q
  refine yaa (gw _ ?_)
  have fin:∀ (t2:SetTable),t2.fits es1.size=true→t2.led=t.led→t2.plain=false→yas (model prog w) A (do
    storeSet a es1 t2
    if (!wd&&t2.tooFull)=true then do
      (match (relayAll t2 es1 (SetTable.grown es1.size)).2.2 with | true=>rule "set.scan.the-table-gave-way" | false=>pure ())
      storeSet a (relayAll t2 es1 (SetTable.grown es1.size)).1 (relayAll t2 es1 (SetTable.grown es1.size)).2.1
      pure (some true)
     else pure (some true)) (fun r s'=>r=some true∧Q true s') E s:=by
   intro t2 f2 l2 p2
   refine yaa (wpAny_storeSet_of ho hd ?_ (by rw [hsz1,yag];lia))
   have ho1:=uJ es1 t2 ho hd
   have sb1:=Heap.SameBut.update s.heap a (Obj.putSet es1 t2)
   split
   ·have rp:=relayAll_perm t2 es1 (SetTable.grown es1.size)
    have rf:=relayAll_fits t2 es1 (SetTable.grown es1.size)
    have rk:=nE t2 es1 (SetTable.grown es1.size)
    generalize relayAll t2 es1 (SetTable.grown es1.size)=Rl at rp rf rk ⊢
    obtain ⟨es2,t3,g2⟩:=Rl
    dsimp only at rp rf rk ⊢
    have hsz2:es2.size=es1.size:=by rw [← zaJ,rp.length_eq,zaJ]
    refine yaa (gw _ ?_)
    refine yaa (wpAny_storeSet_of ho1 rfl ?_ (by rw [hsz2,hsz1,yag];lia))
    refine yab ⟨rfl,h true _ (sb1.trans (Heap.SameBut.update _ a _)) ⟨_,uJ es2 t3 ho1 rfl,es2,_,t3,hex,rfl,hel1.perm rp,?_,rf,rk.1.trans (l2.trans hled),fun _ => ?_⟩⟩
    ·unfold kF;rw [yIn hx];exact (rp.map _).trans hp1
    ·cases hh:t3.plain with
     | false=>rfl
     | true=>rw [rk.2 hh] at p2;cases p2
   ·refine yab ⟨rfl,h true _ sb1 ⟨_,ho1,es1,_,t2,hex,rfl,hel1,?_,f2,l2.trans hled,fun _=>p2⟩⟩
    unfold kF;rw [yIn hx];exact hp1
  cases hpt:t1.plain with
  | true =>
   rw [yIp rfl]
   refine yaa ?_
   rw [hashByValue_scannable 8 (x:=.str x tk) rfl]
   refine yab ?_
   refine yac (fin _ ?_ ?_ ?_) ?_ (fun _ _ z=>z)
   ·rw [yIn (by simp [plainKind])];exact SetTable.fits_plain_off hlf
   ·rw [yIn (by simp [plainKind])];exact hlk.1
   ·rw [yIn (by simp [plainKind])]
   ·rintro r s' ⟨rfl,q⟩
    exact yab q
  | false =>
   rw [yIn (by decide)]
   refine yaa (yab ?_)
   refine yac (fin _ ?_ ?_ ?_) ?_ (fun _ _ z=>z)
   ·rw [yIp rfl];exact hlf
   ·rw [yIp rfl];exact hlk.1
   ·rw [yIp rfl];exact hpt
   ·rintro r s' ⟨rfl,q⟩
    exact yab q
end
noncomputable def all1 (val:Nat→Str):Nat→List Str
 | 0=>[]
 | i+1=>kF (all1 val i) (val i)
theorem AF (S:List Str) (x:Str):(kF S x).length≤S.length+1:=by
 unfold kF
 split
 ·lia
 ·rw [zaM];exact zcy _
theorem jo (val:Nat→Str):∀ i,(all1 val i).length≤i
 | 0=>zcy _
 | i+1=>zco (AF ..) (Nat.succ_le_succ (jo val i))
theorem qj.keep {prog:yak}{w:yal}{h h':Heap}{a:Addr}{S:List Str} (x:qj prog w h a S) (e:∀ o,h.get? a=some o→h'.get? a=some o):qj prog w h' a S :=
 let ⟨o,ho,r⟩:=x;⟨o,e o ho,r⟩
section
variable {prog:yak}{w:yal}{A:yam}{R:Result→yai→Prop}{I:Addr}{fp wr:List Addr}{G:Array yax→Array yax→Prop}{n:Nat}{P:Nat→yaj→Prop}{St:Nat→yai→Prop}
theorem zK (W:WalksS prog w A.in1 I fp wr G n P St) (a:Addr) (ha:a ∉ fp) (val:Nat→Str) (hval:∀ i v,P i v→∃ t,v = .str (val i) t) (hn:n<4000) :
  ∀ (k i:Nat) (s:yai),n - i=k→i≤n→St i s→qj prog w s.heap a (all1 val i) →
   (∀ s',Moved (a::wr) G s s'→qj prog w s'.heap a (all1 val n)→R (.ok (.ret .none)) s') →
   codeAny (model prog w) A (.builtin "set.update.loop" ⟨[.ref a,.ref I],[]⟩) R s:=by
 have haw:a ∉ wr:=fun z=>ha (W.sub _ z)
 have sub:∀ b∈wr,b∈a::wr:=fun b z=>zax _ z
 intro k
 induction k with
 | zero =>
  intro i s hk hi hst hS hR
  obtain rfl:i=n:=by lia
  refine codeAny_builtin PyProof.Rows.F.entry_set_update_loop ?_
  rw [Around.under_plainId PyProof.Rows.F.plain_set_update_loop _]
  show yas _ A.in1 (pyNext (.ref I) >>= _) _ _ s
  refine yaa (W.done s _ _ hst fun s' hm => ?_)
  exact yab (hR s' (hm.mono sub) (hS.keep fun o e=>hm.heap a o haw e))
 | succ k ih =>
  intro i s hk hi hst hS hR
  have hlt:i<n:=by lia
  refine codeAny_builtin PyProof.Rows.F.entry_set_update_loop ?_
  rw [Around.under_plainId PyProof.Rows.F.plain_set_update_loop _]
  show yas _ A.in1 (pyNext (.ref I) >>= _) _ _ s
  refine yaa (W.item i s _ _ hlt hst fun v s' hP hst' hm => ?_)
  obtain ⟨t,rfl⟩:=hval i v hP
  have hS':qj prog w s'.heap a (all1 val i):=hS.keep fun o e=>hm.heap a o haw e
  show yas _ A.in1 (holding [Value.str (val i) t] (setAdd a (.str (val i) t)) >>= _) _ _ s'
  refine yaa (yad ?_)
  unfold setAdd
  refine yad (yaa ((PySem.strKind prog w).pyHash (k:=val i) (Ke _ _) ?_))
  have:=jo val i
  refine add_str (s:={ s' with toks:=s'.toks+1 }) hS' (by lia) fun b h' hsb hS2 => ?_
  refine yab ⟨plainId_quiet PyProof.Rows.F.plain_set_update_loop _,ih (i+1) _ (by lia) hlt (W.frame _ s' _ _ hst' (zcA _) fun b hb o e => ?_) hS2 fun s'' hm'' hS'' => ?_⟩
  ·rw [hsb.2 b fun z:b=a=>ha (z ▸ hb)];exact e
  ·refine hR s'' (Moved.trans W.gtrans ((hm.mono sub).then_heap (zcA _) fun b o hb e => ?_) hm'') hS''
   rw [hsb.2 b fun z:b=a=>hb (z ▸ zaL)];exact e
end
namespace F
theorem sub_tuple_set:isSubtype (.type "tuple") (.type "set")=pure false:=by rw [isSubtype_type];kernel_rfl
theorem sub_tuple_frozenset:isSubtype (.type "tuple") (.type "frozenset")=pure false:=by rw [isSubtype_type];kernel_rfl
end F
noncomputable def bS (led:Bool):Obj:={ cls:=.type "set",dict:=none,data:=.set #[] 0 (.fresh 0 0 led) }
section
variable {prog:yak}{w:yal}{A:yam}{E:yaj→yai→Prop}{s:yai}
theorem Bw (a:yaj) {Q₁:yaj→yai→Prop} (h:Q₁ (.ref s.heap.objs.size) { s with heap:=s.heap.push (bS (!w.params.followText "set-order")) }) :
  codeAny (model prog w) A (.call (.builtin "set.__new__") ⟨[.type "set",a],[]⟩) (wants Q₁ E) s:=by
 refine codeAny_of_tree ?_
 show yas _ A.in1 (do checkBuiltinCall "set.__new__" ⟨[.type "set",a],[]⟩;again (.builtin "set.__new__" ⟨[.type "set",a],[]⟩)) _ _ s
 refine yaa (wpAny_of_eq (PySem.F.newCall_set_1 a) (yab ⟨plainId_quiet PySem.F.plain_set_new _,codeAny_builtin PySem.F.entry_set_new ?_⟩))
 rw [Around.under_plainId PySem.F.plain_set_new _]
 unfold Builtin.«set.__new__» Builtin.Frozenset.newClass
 have hsub:=sub_set_self
 obtain ⟨hp,g,d,tk,os⟩:=s
 dsimp only
 wp_walk
 refine wpAny_askSetting (yab ?_)
 dsimp only
 simp only [newObj]
 refine yaa (wpAny_alloc (yab ?_))
 exact yab h
theorem xQ {h:Heap}{a:Addr} (e:h.get? a=some (bS (!w.params.followText "set-order"))):qj prog w h a [] :=
 ⟨_,e,#[],0,_,⟨rfl,rfl,rfl⟩,rfl,fun e he=>by simp at he,.nil,rfl,rfl,fun z=>absurd rfl z⟩
theorem rO {l:Addr}{T:String}{ob:Obj}{n:Nat}{P:Nat→yaj→Prop}{St:Addr→Nat→Heap→Prop}{val:Nat→Str}{Q:yaj→yai→Prop}
  (hh:A.handled=none) (hT:s.TypeIs (.ref l) T) (h1:isSubtype (.type T) (.type "set")=pure false) (h2:isSubtype (.type T) (.type "frozenset")=pure false) (h3:(Value.type T==Value.type "dict")=false)
  (it:∀ {A':yam}{s':yai}{Q':yaj→yai→Prop}{E':yaj→yai→Prop},(∀ b o,s.heap.get? b=some o→s'.heap.get? b=some o)→Q' (.ref s'.heap.objs.size) { s' with heap:=s'.heap.push ob }→yas (model prog w) A' (pyIter (.ref l)) Q' E' s')
  (hob:ob.isFreed=false) (W:∀ {A':yam} (I:Addr),A'.handled=none→l≠I→Walks prog w A' I [I,l] [I] n P (St I)) (st0:∀ I h',(∀ b o,s.heap.get? b=some o→h'.get? b=some o)→h'.get? I=some ob→St I 0 h')
  (hval:∀ i v,P i v→∃ t,v = .str (val i) t) (hn:n<4000)
  (h:∀ (h':Heap) (tk:Nat),qj prog w h' s.heap.objs.size (all1 val n)→(∀ b o,b<s.heap.objs.size→s.heap.get? b=some o→h'.get? b=some o)→Q (.ref s.heap.objs.size) { s with heap:=h',toks:=tk }) :
  yas (model prog w) A (call (.type "set") [.ref l]) Q E s:=by
 obtain ⟨c,tl,hmro⟩:=PySem.F.called_set.mro
 have hmade:=PySem.F.called_set.made
 have hsub:=PySem.F.called_set.sub
 have g1:=PySem.F.called_set.notType
 have g2:=PySem.F.called_set.canCreate
 have hct:=PySem.F.typeCall_set_1 (.ref l)
 refine yaG (codeAny_of_tree ?_)
 show yas _ _ (callAny (.type "set") _) _ _ _
 refine yab ⟨Code.quiet_builtin _ (by decide +kernel),codeAny_builtin PySem.F.entry_type_call ?_⟩
 rw [Around.under_plain (weight_type_call_type "set" [.ref l] []) rfl]
 repeat (any_goals (first | assumption | wp_step))
 generalize hled:(!w.params.followText "set-order")=led
 refine yay (Bw (.ref l) (E:=E) (Q₁:=fun u s₁=>u = .ref s.heap.objs.size∧s₁={ s with heap:=s.heap.push (bS led) }) ⟨rfl,by rw [hled]⟩) fun r s₁ hr => ?_
 cases r with
 | error e=>exact hr
 | ok fl =>
  cases fl with
  | ret u =>
   obtain ⟨rfl,rfl⟩:=hr
   have gS:(s.heap.push (bS led)).get? s.heap.objs.size=some (bS led):=zaK _ rfl
   have tS:Shared.TypeIs { s with heap:=s.heap.push (bS led) } (.ref s.heap.objs.size) "set" := ⟨_,gS,rfl⟩
   have hli:=PySem.F.called_set.init.lookup
   have hbi:=PySem.F.called_set.init.bind (.ref s.heap.objs.size)
   repeat (any_goals (first | assumption | wp_step))
   refine yay (codeAny_call_builtin (R:=wants (fun r s₂=>r = .none∧∃ h' tk,s₂={ s with heap:=h',toks:=tk }∧qj prog w h' s.heap.objs.size (all1 val n)∧(∀ b o,b<s.heap.objs.size→s.heap.get? b=some o→h'.get? b=some o)) E) PySem.F.called_set.init.plain PySem.F.entry_set_init (check_set_init_1 tS ?_)) fun r₂ s₂ hr₂ => ?_
   ·have hlS:l<s.heap.objs.size:=by obtain ⟨o,ho,_⟩:=hT;exact zcw ho
    have kp:∀ b o,s.heap.get? b=some o→(s.heap.push (bS led)).get? b=some o:=fun b o e=>zan _ e
    have tl1:Shared.TypeIs { s with heap:=s.heap.push (bS led) } (.ref l) T:=by obtain ⟨o,ho,z⟩:=hT;exact ⟨o,kp _ _ ho,z⟩
    unfold Builtin.«set.__init__» noKeywords Builtin.Frozenset.updateFrom
    generalize hPI:pyIter=PI
    wp_walk
    subst hPI
    refine it kp ?_
    have sz:(s.heap.push (bS led)).objs.size=s.heap.objs.size+1:=zbV ..
    have kp2:∀ b o,s.heap.get? b=some o→((s.heap.push (bS led)).push ob).get? b=some o:=fun b o e=>zan _ (kp b o e)
    have hne:l≠(s.heap.push (bS led)).objs.size:=by rw [sz];exact zcn (zbh hlS)
    have hSf:s.heap.objs.size ∉ [(s.heap.push (bS led)).objs.size,l]:=by
     rw [sz]
     simp only [zbW,zbt,or_false]
     rintro (z | z)
     ·exact absurd z (by lia)
     ·rw [z] at hlS;exact zcc _ hlS
    refine yaa (wpAny_runValue ?_)
    refine zK (W (A':=A.in1.in1.in1) _ hh hne).toS s.heap.objs.size hSf val hval hn (n - 0) 0 _ rfl (zcz _) ?_ ?_ ?_
    ·exact st0 _ _ kp2 (zaK _ hob)
    ·exact xQ (by rw [hled];exact zan _ gS)
    ·intro s' hm hS'
     obtain ⟨h',g',d',tk',os'⟩:=s'
     obtain rfl:g'=s.gens:=hm.gens
     obtain rfl:d'=s.drawn:=hm.drawn
     obtain rfl:os'=s.os:=hm.os
     refine yab (yab ⟨rfl,h',tk',rfl,hS',fun b o hb e=>hm.heap b o ?_ (kp2 b o e)⟩)
     rw [sz]
     simp only [zbW,zbt,or_false]
     rintro (z | z)
     ·exact zcn hb z
     ·exact zcn (zbh hb) z
   ·cases r₂ with
    | error e=>exact hr₂
    | ok fl₂ =>
     cases fl₂ with
     | ret r =>
      obtain ⟨rfl,h',tk,rfl,hS',hk'⟩:=hr₂
      repeat (any_goals (first | assumption | wp_step))
      exact h _ _ hS' hk'
     | _=>exact hr₂.elim
  | _=>exact hr.elim
theorem set_tuple {l:Addr}{its:Array yaj}{ss:List Str}{Q:yaj→yai→Prop} (hh:A.handled=none) (hl:s.heap.IsTuple l its) (hS:StrsAre its.toList ss) (hn:ss.length<4000)
  (h:∀ (h':Heap) (tk:Nat),qj prog w h' s.heap.objs.size (all1 (fun i=>ss.getD i ⟨#[]⟩) ss.length)→(∀ b o,b<s.heap.objs.size→s.heap.get? b=some o→h'.get? b=some o)→Q (.ref s.heap.objs.size) { s with heap:=h',toks:=tk }) :
  yas (model prog w) A (call (.type "set") [.ref l]) Q E s:=by
 have el:its.size=ss.length:=by rw [← zaJ,hS.length]
 rw [← el] at h
 refine rO (T := "tuple") (St:=fun I i h=>h.IsTupleIter I l i∧h.IsTuple l its) (ob:={ cls:=.type "tuple_iterator",data:=.fields #[.ref l,.int 0 0] }) (P:=fun i v=>its[i]? = some v) hh hl.typeIs F.sub_tuple_set F.sub_tuple_frozenset (by decide) (fun kp q=>wpAny_pyIter_tuple (hl.at (kp l)) q) rfl (fun I h1 h2=>Walks.tuple h1 I l h2 its)
  (fun I h' kp e=>⟨⟨_,e,rfl,rfl⟩,hl.at (kp l)⟩) ?_ (by lia) h
 intro i v hv
 rw [← zav] at hv
 clear h
 revert i
 generalize its.toList=vs at hS
 clear el hn
 induction hS with
 | nil=>intro i hv;simp at hv
 | cons x t r ih =>
  intro i hv
  cases i with
  | zero=>simp at hv;exact ⟨t,by rw [← hv];rfl⟩
  | succ i =>
   rw [zai] at hv
   obtain ⟨t',e⟩:=ih i hv
   exact ⟨t',e⟩
theorem set_list {l:Addr}{its:Array yaj}{ss:List Str}{Q:yaj→yai→Prop} (hh:A.handled=none) (hl:s.heap.IsList l its) (hS:StrsAre its.toList ss) (hn:ss.length<4000)
  (h:∀ (h':Heap) (tk:Nat),qj prog w h' s.heap.objs.size (all1 (fun i=>ss.getD i ⟨#[]⟩) ss.length)→(∀ b o,b<s.heap.objs.size→s.heap.get? b=some o→h'.get? b=some o)→Q (.ref s.heap.objs.size) { s with heap:=h',toks:=tk }) :
  yas (model prog w) A (call (.type "set") [.ref l]) Q E s:=by
 have el:its.size=ss.length:=by rw [← zaJ,hS.length]
 rw [← el] at h
 refine rO (T := "list") (St:=fun I i h=>h.IsListIter I l i∧h.IsList l its) (ob:={ cls:=.type "list_iterator",data:=.fields #[.ref l,.int 0 0] }) (P:=fun i v=>its[i]? = some v) hh hl.typeIs PySem.F.sub_list_set PySem.F.sub_list_frozenset (by decide) (fun kp q=>wpAny_pyIter_list (hl.at (kp l)) q) rfl (fun I h1 h2=>Walks.list h1 I l h2 its)
  (fun I h' kp e=>⟨⟨_,e,rfl,rfl⟩,hl.at (kp l)⟩) ?_ (by lia) h
 intro i v hv
 rw [← zav] at hv
 clear h
 revert i
 generalize its.toList=vs at hS
 clear el hn
 induction hS with
 | nil=>intro i hv;simp at hv
 | cons x t r ih =>
  intro i hv
  cases i with
  | zero=>simp at hv;exact ⟨t,by rw [← hv];rfl⟩
  | succ i =>
   rw [zai] at hv
   obtain ⟨t',e⟩:=ih i hv
   exact ⟨t',e⟩
end
theorem zI {S:List Str}{x y:Str}:y∈kF S x↔y∈S∨y=x:=by
 unfold kF
 split
 ·exact ⟨.inl,fun z=>z.elim id fun e=>e ▸ ‹_›⟩
 ·simp
theorem tU {S:List Str}{x:Str} (h:S.Nodup):(kF S x).Nodup:=by
 unfold kF
 split
 ·exact h
 ·rw [zbg]
  refine ⟨h,by simp,fun a ha b hb => ?_⟩
  simp only [zaP] at hb
  subst hb
  intro e
  subst e
  exact absurd ha ‹_›
theorem iE (val:Nat→Str):∀ n,(all1 val n).Nodup
 | 0=>List.nodup_nil
 | n+1=>tU (iE val n)
theorem qU (val:Nat→Str) (y:Str):∀ n,y∈all1 val n↔∃ i,i<n∧val i=y
 | 0=>by simp [all1]
 | n+1=>by
  show y∈kF _ _↔_
  rw [zI,qU val y n]
  constructor
  ·rintro (⟨i,h,e⟩ | e)
   ·exact ⟨i,by lia,e⟩
   ·exact ⟨n,by lia,e.symm⟩
  ·rintro ⟨i,h,e⟩
   rcases zcr i n with z | z
   ·exact .inl ⟨i,z,e⟩
   ·obtain rfl:i=n:=by lia
    exact .inr e.symm
theorem oi (ss:List Str) (y:Str):y∈all1 (fun i=>ss.getD i ⟨#[]⟩) ss.length↔y∈ss:=by
 rw [qU]
 constructor
 ·rintro ⟨i,h,e⟩
  have:ss.getD i ⟨#[]⟩=ss[i]:=by simp [h]
  rw [this] at e
  exact e ▸ List.getElem_mem h
 ·intro h
  obtain ⟨i,h1,e⟩:=List.getElem_of_mem h
  exact ⟨i,h1,by simp [h1,e]⟩
end M5
namespace M5
open PySem PySem.Spec PyProof.Rows
namespace F
theorem qP:Manifest.owners.lookup (String.ofList ['r','o','t','a','r','e','t','i','_','t','e','s'].reverse)=some Manifest.sig_set_iterator:=by kernel_rfl
theorem B6:Manifest.owners.lookup (String.ofList ['t','e','s'].reverse)=some Manifest.sig_set:=by kernel_rfl
theorem slot_next:Slot "set_iterator" "__next__" "set_iterator.__next__" :=
 .of (owner := "set_iterator") (n := "__next__") (by rw [typeLookup_type,builtinLookup_eq_fast];kernel_rfl) (by decide +kernel) (by decide +kernel) (by decide +kernel)
  (by first | exact .inl (by decide +kernel) | exact .inr (by decide +kernel)) (by rw [isSubtype_type];kernel_rfl)
theorem entry_next:entryFor table "set_iterator.__next__" = some Builtin.«set_iterator.__next__» := entryFor_of_tree (by kernel_rfl)
theorem args_next (a:yaj):argsOk "set_iterator.__next__" ⟨[a],[]⟩:=by
 unfold argsOk;rw [signature?_of (id := "set_iterator.__next__") (n:=['_','_','t','x','e','n','_','_']) (o:=['r','o','t','a','r','e','t','i','_','t','e','s']) (by kernel_rfl) qP];kernel_rfl
theorem nS:Slot "set_iterator" "__iter__" "set_iterator.__iter__" :=
 .of (owner := "set_iterator") (n := "__iter__") (by rw [typeLookup_type,builtinLookup_eq_fast];kernel_rfl) (by decide +kernel) (by decide +kernel) (by decide +kernel)
  (by first | exact .inl (by decide +kernel) | exact .inr (by decide +kernel)) (by rw [isSubtype_type];kernel_rfl)
theorem xK (a:yaj):argsOk "set_iterator.__iter__" ⟨[a],[]⟩:=by
 unfold argsOk;rw [signature?_of (id := "set_iterator.__iter__") (n:=['_','_','r','e','t','i','_','_']) (o:=['r','o','t','a','r','e','t','i','_','t','e','s']) (by kernel_rfl) qP];kernel_rfl
theorem ug:entryFor table "set_iterator.__iter__" = some Builtin.«dict_keyiterator.__iter__» :=
 entryFor_alias (id' := "dict_keyiterator.__iter__") (by kernel_rfl) (by first | rfl | decide +kernel | (unfold String.splitOn;simp +decide [String.splitOnAux])) (by decide +kernel) (by kernel_rfl)
theorem lK:Slot "set" "__iter__" "set.__iter__" :=
 .of (owner := "set") (n := "__iter__") (by rw [typeLookup_type,builtinLookup_eq_fast];kernel_rfl) (by decide +kernel) (by decide +kernel) (by decide +kernel)
  (by first | exact .inl (by decide +kernel) | exact .inr (by decide +kernel)) (by rw [isSubtype_type];kernel_rfl)
theorem uw (a:yaj):argsOk "set.__iter__" ⟨[a],[]⟩:=by
 unfold argsOk;rw [signature?_of (id := "set.__iter__") (n:=['_','_','r','e','t','i','_','_']) (o:=['t','e','s']) (by kernel_rfl) B6];kernel_rfl
theorem rq:entryFor table "set.__iter__" = some Builtin.«frozenset.__iter__» :=
 entryFor_alias (id' := "frozenset.__iter__") (by kernel_rfl) (by first | rfl | decide +kernel | (unfold String.splitOn;simp +decide [String.splitOnAux])) (by decide +kernel) (by kernel_rfl)
end F
noncomputable def GR (first:yaj) (i:Nat) (a:Addr) (n ep:Nat):Obj:={ cls:=.type "set_iterator",data:=.fields #[first,rawInt i,.ref a,rawInt n,rawInt ep] }
def g7 (h:Heap) (I:Addr) (first:yaj) (i:Nat) (a:Addr) (n ep:Nat):Prop:=∃ o,h.get? I=some o∧o.cls = .type "set_iterator" ∧ o.data = .fields #[first,rawInt i,.ref a,rawInt n,rawInt ep]
def sI (h:Heap) (a:Addr) (es:Array (Int×yaj)) (ep:Nat) (t:SetTable):Prop:=∃ o,h.get? a=some o∧o.cls = .type "set" ∧ o.data = .set es ep t
theorem g7.at {h h':Heap}{I a:Addr}{f:yaj}{i n ep:Nat} (x:g7 h I f i a n ep) (e:∀ o,h.get? I=some o→h'.get? I=some o):g7 h' I f i a n ep:=let ⟨o,ho,r⟩:=x;⟨o,e _ ho,r⟩
theorem sI.at {h h':Heap}{a:Addr}{es:Array (Int×yaj)}{ep:Nat}{t:SetTable} (x:sI h a es ep t) (e:∀ o,h.get? a=some o→h'.get? a=some o):sI h' a es ep t:=let ⟨o,ho,r⟩:=x;⟨o,e _ ho,r⟩
section
variable {prog:yak}{w:yal}{A:yam}{E:yaj→yai→Prop}{s:yai}
theorem g7.typeIs {I a:Addr}{f:yaj}{i n ep:Nat} (x:g7 s.heap I f i a n ep):s.TypeIs (.ref I) "set_iterator" := let ⟨o,ho,hc,_⟩:=x;⟨o,ho,hc⟩
theorem sI.typeIs {a:Addr}{es:Array (Int×yaj)}{ep:Nat}{t:SetTable} (x:sI s.heap a es ep t):s.TypeIs (.ref a) "set" := let ⟨o,ho,hc,_⟩:=x;⟨o,ho,hc⟩
theorem uy {src:Source}{n:Nat}{Q:Nat→yai→Prop} (hn:n≠0) (h:∀ i d,i<n→Q i { s with drawn:=d }):yas (model prog w) A (choose src n) Q E s:=by
 intro Γ p hΓ
 show Sem.wp _ _ (.choose src n .pure) _ _ _ _
 rw [Sem.wp_choose]
 exact ⟨hn,h _ _ (Nat.mod_lt _ (Nat.pos_of_ne_zero hn))⟩
theorem iG {α:Type}:∀ {l:List α}{i:Nat} (h:i<l.length),(l[i]::l.eraseIdx i).Perm l
 | x::r,0,h=>.refl _
 | x::r,i+1,h=>by
  have h':i<r.length:=Nat.lt_of_succ_lt_succ h
  show (r[i]::x::r.eraseIdx i).Perm (x::r)
  exact (List.Perm.swap ..).trans ((iG (Nat.lt_of_succ_lt_succ h)).cons x)
theorem rS {α:Type}:∀ (n:Nat) (xs:List α) {s:yai}{Q:List α→yai→Prop},xs.length=n→(∀ ys d,ys.Perm xs→Q ys { s with drawn:=d })→yas (model prog w) A (drawOrder n xs) Q E s
 | 0,xs,s,Q,hl,h=>by
  obtain rfl:xs=[]:=zaa hl
  unfold drawOrder
  exact yab (h [] s.drawn .nil)
 | n+1,[],s,Q,hl,h=>by cases hl
 | n+1,x::r,s,Q,hl,h=>by
  unfold drawOrder
  refine yaa (uy (by simp) fun i d hi => ?_)
  rw [zah hi]
  dsimp only
  refine yaa (rS n _ ?_ fun ys d2 hp => ?_)
  ·rw [List.length_eraseIdx,yIp hi,hl];rfl
  ·refine yab (h _ d2 ((hp.cons _).trans ?_))
   exact iG hi
theorem vj {α:Type} (next:Nat→Nat):∀ (n k:Nat) (left:List α) (out:Array α),left.length=n→(pickOrder.go next n k left out).toList.Perm (out.toList++left)
 | 0,k,left,out,h=>by
  obtain rfl:left=[]:=zaa h
  unfold pickOrder.go
  simp
 | n+1,k,left,out,h=>by
  unfold pickOrder.go
  have hi:next k % left.length<left.length:=Nat.mod_lt _ (by lia)
  rw [zah hi]
  dsimp only
  refine (vj next n (k+1) _ _ ?_).trans ?_
  ·rw [List.length_eraseIdx,yIp hi,h];rfl
  ·rw [zbk,zbd]
   exact (iG hi).append_left _
theorem wR {α:Type} (next:Nat→Nat) (xs:Array α):(pickOrder next xs).toList.Perm xs.toList:=by
 unfold pickOrder
 have:=vj next xs.size 0 xs.toList #[] zaJ
 simpa using this
end
end M5
namespace M5
open PySem PySem.Spec PyProof.Rows
section
variable {prog:yak}{w:yal}{A:yam}{E:yaj→yai→Prop}{s:yai}
theorem next_item {I a:Addr}{sl i n ep nx:Nat}{es:Array (Int×yaj)}{t:SetTable}{x:yaj}{Q:Option yaj→yai→Prop} (hit:g7 s.heap I (rawInt sl) i a n ep) (hS:sI s.heap a es ep t) (hf:t.fits es.size=true) (hn:es.size=n)
  (hs:∀ {A':yam}{Q':Option (yaj×Nat)→yai→Prop}{E':yaj→yai→Prop},Q' (some (x,nx)) s→yas (model prog w) A' (setNext a sl i ep) Q' E' s)
  (hQ:∀ h',g7 h' I (rawInt nx) (i+1) a n ep→Heap.SameBut I s.heap h'→Q (some x) { s with heap:=h' }):yas (model prog w) A (pyNext (.ref I)) Q E s:=by
 obtain ⟨o,ho,hc,hd⟩:=id hit
 obtain ⟨os,hos,hcs,hds⟩:=id hS
 unfold pyNext
 refine yaa (wpAny_attempt (wpAny_callSpecial?_slot (name:=Str.ofString "__next__") hit.typeIs F.slot_next
  (wpAny_call_entry F.slot_next hit.typeIs F.entry_next ?_ (F.args_next _))))
 unfold Builtin.«set_iterator.__next__»
 refine yaa (wpAny_of_eq (a:=(Value.ref I,[])) rfl ?_)
 refine yaa (wpAny_fieldsOf ho hd ?_)
 dsimp only [rawInt]
 refine yaa (wpAny_setEntries_of hos hds hf ?_)
 rw [yIn (by rw [hn];simp)]
 refine yaa (hs ?_)
 dsimp only
 refine yaa (wpAny_setField ho hd (by simp) ?_)
 have ho2:=zaw (Obj.mapFields (·.setIfInBounds 0 (rawInt nx))) ho (Obj.isFreed_of_fields (Obj.data_mapFields hd _))
 have hd2:=Obj.data_mapFields hd (·.setIfInBounds 0 (rawInt nx))
 refine yaa (wpAny_setField ho2 hd2 (by simp) ?_)
 refine yab ⟨x,rfl,yab (hQ _ ?_ ((Heap.SameBut.update ..).trans (Heap.SameBut.update ..)))⟩
 exact ⟨_,zaw _ ho2 (Obj.isFreed_of_fields (Obj.data_mapFields hd2 _)),(Obj.cls_mapFields ..).trans ((Obj.cls_mapFields ..).trans hc),by
  rw [Obj.data_mapFields hd2];simp [rawInt]⟩
theorem next_end {I a:Addr}{sl i n ep:Nat}{es:Array (Int×yaj)}{t:SetTable}{Q:Option yaj→yai→Prop} (hh:A.handled=none) (hit:g7 s.heap I (rawInt sl) i a n ep) (hS:sI s.heap a es ep t) (hf:t.fits es.size=true) (hn:es.size=n)
  (hs:∀ {A':yam}{Q':Option (yaj×Nat)→yai→Prop}{E':yaj→yai→Prop},Q' none s→yas (model prog w) A' (setNext a sl i ep) Q' E' s)
  (hQ:∀ h',Heap.ExtBut I s.heap h'→Q none { s with heap:=h' }):yas (model prog w) A (pyNext (.ref I)) Q E s:=by
 obtain ⟨o,ho,hc,hd⟩:=id hit
 obtain ⟨os,hos,hcs,hds⟩:=id hS
 unfold pyNext
 refine yaa (wpAny_attempt (wpAny_callSpecial?_slot (name:=Str.ofString "__next__") hit.typeIs F.slot_next
  (wpAny_call_entry F.slot_next hit.typeIs F.entry_next ?_ (F.args_next _))))
 unfold Builtin.«set_iterator.__next__»
 refine yaa (wpAny_of_eq (a:=(Value.ref I,[])) rfl ?_)
 refine yaa (wpAny_fieldsOf ho hd ?_)
 dsimp only [rawInt]
 refine yaa (wpAny_setEntries_of hos hds hf ?_)
 rw [yIn (by rw [hn];simp)]
 refine yaa (hs ?_)
 dsimp only
 refine yaa (wpAny_setField ho hd (by simp) ?_)
 refine yaa ?_
 simp only [newExc,newTuple]
 refine yaa (yaf ?_ (by size_fits))
 refine yaa (m:=firstArgMember _ _) (wpAny_of_eq (a:=Value.none) (by first | rfl | (simp only [firstArgMember];rfl)) ?_)
 refine yaf ?_ (by size_fits)
 simp only [raiseNew]
 refine yaa (wpAny_handled ?_)
 first | rw [show A.in1.handled=none from hh] | rw [hh]
 refine yaa (yab (wpAny_throw ?_))
 refine yaa (wpAny_isInstance (T := "StopIteration") (b:=true) ⟨_,zaK _ rfl,rfl⟩ isSubtype_stop ?_)
 refine yab (hQ _ (Heap.ExtBut.push (Heap.ExtBut.push ?_ _) _))
 exact fun b ob hb e=>(zao _ _ (Ne.symm hb)).trans e
theorem tW {I T a:Addr}{i n ep pl:Nat}{tk:Tok}{es:Array (Int×yaj)}{t:SetTable}{ps:Array yaj}{hx:Int}{x:yaj}{Q:Option yaj→yai→Prop} (hit:g7 s.heap I (.ref T) i a n ep) (hS:sI s.heap a es ep t) (hf:t.fits es.size=true) (hn:es.size=n)
  (hT:s.heap.IsTuple T ps) (hp:ps[i]? = some (.int pl tk)) (he:es[pl]? = some (hx,x))
  (hQ:∀ h',g7 h' I (.ref T) (i+1) a n ep→Heap.SameBut I s.heap h'→Q (some x) { s with heap:=h' }):yas (model prog w) A (pyNext (.ref I)) Q E s:=by
 obtain ⟨o,ho,hc,hd⟩:=id hit
 obtain ⟨os,hos,hcs,hds⟩:=id hS
 obtain ⟨ot,hot,hct,nt,hdt⟩:=id hT
 unfold pyNext
 refine yaa (wpAny_attempt (wpAny_callSpecial?_slot (name:=Str.ofString "__next__") hit.typeIs F.slot_next
  (wpAny_call_entry F.slot_next hit.typeIs F.entry_next ?_ (F.args_next _))))
 unfold Builtin.«set_iterator.__next__»
 refine yaa (wpAny_of_eq (a:=(Value.ref I,[])) rfl ?_)
 refine yaa (wpAny_fieldsOf ho hd ?_)
 dsimp only [rawInt]
 refine yaa (wpAny_setEntries_of hos hds hf ?_)
 rw [yIn (by rw [hn];simp)]
 refine yaa (wpAny_seqItems hot hdt ?_)
 dsimp only
 rw [zbi,hp]
 dsimp only
 refine yaa ?_
 unfold setNextDrawn
 refine yaa (wpAny_setState_of hos hds hf ?_)
 dsimp only
 rw [yIn (by simp),zbi,he]
 dsimp only
 refine yab ?_
 refine yaa (wpAny_setField ho hd (by simp) ?_)
 refine yab ⟨x,rfl,yab (hQ _ ?_ (Heap.SameBut.update ..))⟩
 exact ⟨_,zaw _ ho (Obj.isFreed_of_fields (Obj.data_mapFields hd _)),(Obj.cls_mapFields ..).trans hc,by
  rw [Obj.data_mapFields hd];simp [rawInt]⟩
theorem w9 {I T a:Addr}{i n ep:Nat}{es:Array (Int×yaj)}{t:SetTable}{ps:Array yaj}{Q:Option yaj→yai→Prop} (hh:A.handled=none) (hit:g7 s.heap I (.ref T) i a n ep) (hS:sI s.heap a es ep t) (hf:t.fits es.size=true) (hn:es.size=n)
  (hT:s.heap.IsTuple T ps) (hp:ps[i]? = none)
  (hQ:∀ h',Heap.ExtBut I s.heap h'→Q none { s with heap:=h' }):yas (model prog w) A (pyNext (.ref I)) Q E s:=by
 obtain ⟨o,ho,hc,hd⟩:=id hit
 obtain ⟨os,hos,hcs,hds⟩:=id hS
 obtain ⟨ot,hot,hct,nt,hdt⟩:=id hT
 unfold pyNext
 refine yaa (wpAny_attempt (wpAny_callSpecial?_slot (name:=Str.ofString "__next__") hit.typeIs F.slot_next
  (wpAny_call_entry F.slot_next hit.typeIs F.entry_next ?_ (F.args_next _))))
 unfold Builtin.«set_iterator.__next__»
 refine yaa (wpAny_of_eq (a:=(Value.ref I,[])) rfl ?_)
 refine yaa (wpAny_fieldsOf ho hd ?_)
 dsimp only [rawInt]
 refine yaa (wpAny_setEntries_of hos hds hf ?_)
 rw [yIn (by rw [hn];simp)]
 refine yaa (wpAny_seqItems hot hdt ?_)
 dsimp only
 rw [zbi,hp]
 dsimp only
 refine yaa (wpAny_setField ho hd (by simp) ?_)
 have ho2:=zaw (Obj.mapFields (·.setIfInBounds 0 (rawInt 0))) ho (Obj.isFreed_of_fields (Obj.data_mapFields hd _))
 refine yaa (wpAny_setField ho2 (Obj.data_mapFields hd _) (by simp) ?_)
 refine yaa ?_
 simp only [newExc,newTuple]
 refine yaa (yaf ?_ (by size_fits))
 refine yaa (m:=firstArgMember _ _) (wpAny_of_eq (a:=Value.none) (by first | rfl | (simp only [firstArgMember];rfl)) ?_)
 refine yaf ?_ (by size_fits)
 simp only [raiseNew]
 refine yaa (wpAny_handled ?_)
 first | rw [show A.in1.handled=none from hh] | rw [hh]
 refine yaa (yab (wpAny_throw ?_))
 refine yaa (wpAny_isInstance (T := "StopIteration") (b:=true) ⟨_,zaK _ rfl,rfl⟩ isSubtype_stop ?_)
 refine yab (hQ _ (Heap.ExtBut.push (Heap.ExtBut.push ?_ _) _))
 exact fun b ob hb e=>(zao _ _ (Ne.symm hb)).trans ((zao _ _ (Ne.symm hb)).trans e)
theorem vv {I a:Addr}{f:yaj}{i n ep:Nat}{Q:yaj→yai→Prop} (hit:g7 s.heap I f i a n ep) (h:Q (.ref I) s):yas (model prog w) A (pyIter (.ref I)) Q E s:=by
 refine wpAny_pyIter_slot hit.typeIs F.nS (wpAny_call_entry F.nS hit.typeIs F.ug ?_ (F.xK _))
 show yas _ _ (ret (.ref I)) _ _ s
 exact yab ⟨_,rfl,"set_iterator",_,hit.typeIs,F.slot_next.lookup,h⟩
theorem ye {I a:Addr}{ep:Nat}{es:Array (Int×yaj)}{t:SetTable}{ord:List yaj}{sl:Nat→Nat} (hh:A.handled=none) (hne:a≠I) (hf:t.fits es.size=true) (hlen:ord.length=es.size)
  (hs:∀ i x,ord[i]? = some x→∀ {A':yam}{s':yai}{Q':Option (yaj×Nat)→yai→Prop}{E':yaj→yai→Prop},sI s'.heap a es ep t→Q' (some (x,sl (i+1))) s'→yas (model prog w) A' (setNext a (sl i) i ep) Q' E' s')
  (he:∀ {A':yam}{s':yai}{Q':Option (yaj×Nat)→yai→Prop}{E':yaj→yai→Prop},sI s'.heap a es ep t→Q' none s'→yas (model prog w) A' (setNext a (sl ord.length) ord.length ep) Q' E' s') :
  Walks prog w A I [I,a] [I] ord.length (fun i v=>ord[i]? = some v) (fun i h=>g7 h I (rawInt (sl i)) i a es.size ep∧sI h a es ep t) where
 sub:=fun b hb=>by simp at hb;simp [hb]
 frame:=fun _ _ _ x hk=>⟨x.1.at fun o e=>hk I (by simp) o e,x.2.at fun o e=>hk a (by simp) o e⟩
 item:=fun i s Q E hi x hQ=>by
  have hx:ord[i]? = some ord[i]:=zah hi
  refine next_item x.1 x.2 hf rfl (hs i _ hx x.2) fun h' hit' hs' => ?_
  exact hQ _ h' s.toks hx ⟨hit',x.2.at fun o e=>(hs'.2 a hne).trans e⟩ fun b o hb eo=>hs'.extBut b o (fun z=>hb (by simp [z])) eo
 done:=fun s Q E x hQ=>next_end hh x.1 x.2 hf rfl (he x.2) fun h' he'=>hQ h' s.toks fun b o hb eo=>he' b o (fun z=>hb (by simp [z])) eo
 self:=fun _ _ _ _ x hQ=>vv x.1 hQ
theorem D8 {I T a:Addr}{ep:Nat}{es:Array (Int×yaj)}{t:SetTable}{ps:List Nat}{ord:List yaj} (hh:A.handled=none) (hne:a≠I) (hT:T≠I) (hf:t.fits es.size=true)
  (ho:ord.length=ps.length) (hs:∀ i (h:i<ps.length) (h2:i<ord.length),∃ k,es[ps[i]]? = some (k,ord[i])) :
  Walks prog w A I [I,a,T] [I] ord.length (fun i v=>ord[i]? = some v) (fun i h=>g7 h I (.ref T) i a es.size ep∧sI h a es ep t∧h.IsTuple T (ps.map fun (i:Nat)=>rawInt i).toArray) where
 sub:=fun b hb=>by simp at hb;simp [hb]
 frame:=fun _ _ _ x hk=>⟨x.1.at fun o e=>hk I (by simp) o e,x.2.1.at fun o e=>hk a (by simp) o e,x.2.2.at fun o e=>hk T (by simp) o e⟩
 item:=fun i s Q E hi x hQ=>by
  have hx:ord[i]? = some ord[i]:=zah hi
  have hi2:i<ps.length:=by lia
  obtain ⟨k,hk⟩:=hs i hi2 hi
  refine tW (pl:=ps[i]) (tk:=0) x.1 x.2.1 hf rfl x.2.2 (by simp [hi2,rawInt]) hk fun h' hit' hs' => ?_
  exact hQ _ h' s.toks hx ⟨hit',x.2.1.at fun o e=>(hs'.2 a hne).trans e,x.2.2.at fun o e=>(hs'.2 T hT).trans e⟩ fun b o hb eo=>hs'.extBut b o (fun z=>hb (by simp [z])) eo
 done:=fun s Q E x hQ=>w9 hh x.1 x.2.1 hf rfl x.2.2 (by simp [ho]) fun h' he'=>hQ h' s.toks fun b o hb eo=>he' b o (fun z=>hb (by simp [z])) eo
 self:=fun _ _ _ _ x hQ=>vv x.1 hQ
theorem k8 {Q:Bool→yai→Prop} (h:Q (w.params.followText "set-order") s):yas (model prog w) A setsByText Q E s:=by
 unfold setsByText
 exact yaa (wpAny_askSetting (yab h))
theorem DH {a:Addr}{ep i:Nat}{es:Array (Int×yaj)}{t:SetTable}{Q:Option (yaj×Nat)→yai→Prop} (hb:w.params.followText "set-order" = true) (hS:sI s.heap a es ep t) (hf:t.fits es.size=true)
  (h:Q (((pickOrder (w.params.setOrder a ep) es)[i]?).map fun e=>(e.2,0)) s):yas (model prog w) A (setNext a 0 i ep) Q E s:=by
 obtain ⟨o,ho,hc,hd⟩:=hS
 unfold setNext
 refine yaa (wpAny_setState_of ho hd hf ?_)
 dsimp only
 refine yaa (k8 ?_)
 rw [yIp hb]
 rw [yIn (by simp)]
 refine yaa ?_
 unfold setWalk
 refine yaa (wpAny_setState_of ho hd hf ?_)
 dsimp only
 refine yaa (k8 ?_)
 rw [yIp hb]
 refine yaa (wpAny_askSetting (yab ?_))
 exact yab h
theorem DG {a:Addr}{ep i sl:Nat}{es:Array (Int×yaj)}{t:SetTable}{Q:Option (yaj×Nat)→yai→Prop} (hb:w.params.followText "set-order" = false) (hS:sI s.heap a es ep t) (hf:t.fits es.size=true) (h1:es.size≤1) (hl:t.led=true)
  (h:Q (match es[SetTable.below t.place sl]?,t.place[SetTable.below t.place sl]? with | some (_,x),some j=>some (x,j+1) | _,_=>none) s):yas (model prog w) A (setNext a sl i ep) Q E s:=by
 obtain ⟨o,ho,hc,hd⟩:=hS
 unfold setNext
 refine yaa (wpAny_setState_of ho hd hf ?_)
 dsimp only
 refine yaa (k8 ?_)
 rw [yIn (by rw [hb];decide)]
 rw [yIn (by
  show ¬ ((!t.plain&&decide (es.size > 1))=true)
  rw [yDf (by lia)];simp)]
 refine yaa ?_
 show yas _ _ (if (!t.led && !es.isEmpty)=true then unsupported "set:maker-not-led" else pure ()) _ _ _
 rw [yIn (by rw [hl];simp)]
 refine yab (yab ?_)
 exact h
theorem Gp (t:Array Nat) (h:t.size≤1):SetTable.below t 0=0:=by
 unfold SetTable.below
 match t,h with
 | ⟨[]⟩,_=>rfl
 | ⟨[j]⟩,_ =>
  show SetTable.below.go #[j] 0 1 0 1=0
  unfold SetTable.below.go
  simp [SetTable.below.go]
 | ⟨_::_::_⟩,h=>simp at h
theorem Gn (j:Nat):SetTable.below #[j] (j+1)=1:=by
 unfold SetTable.below
 show SetTable.below.go #[j] (j+1) 1 0 1=1
 unfold SetTable.below.go
 simp [SetTable.below.go]
def r6 (vs:List yaj) (S:List Str):Prop:=(∀ v∈vs,∃ x t,v = .str x t)∧(vs.map strOf).Perm S
theorem lD {es:Array (Int×yaj)}{l:List (Int×yaj)}{S:List Str} (hel:ElemsOf (PySem.strKind prog w) es.toList) (hp:(es.toList.map fun e=>strOf e.2).Perm S) (h:l.Perm es.toList):r6 (l.map (·.2)) S:=by
 refine ⟨fun v hv => ?_,?_⟩
 ·obtain ⟨e,he,rfl⟩:=zck.mp hv
  obtain ⟨⟨k,hk,_⟩,_⟩:=hel e (h.mem_iff.mp he)
  obtain ⟨t,z⟩:=Value.isStrOf_shape hk
  exact ⟨k,t,z⟩
 ·rw [zcl]
  exact (h.map _).trans hp
theorem pull {α:Type} (es:Array α) (ps:List Nat) (h:ps.Perm (zcC es.size)):∃ l:List α,l.length=ps.length∧l.Perm es.toList∧∀ i (h:i<ps.length) (h2:i<l.length),es[ps[i]]? = some l[i]:=by
 have all:∀ p∈ps,p<es.size:=fun p hp=>List.mem_range.mp (h.mem_iff.mp hp)
 have key:∀ qs:List Nat,(∀ p∈qs,p<es.size)→∃ l:List α,l.length=qs.length∧l=qs.filterMap (fun i=>es[i]?)∧∀ i (h:i<qs.length) (h2:i<l.length),es[qs[i]]? = some l[i]:=by
  intro qs
  induction qs with
  | nil=>exact fun _=>⟨[],rfl,rfl,fun i h=>by simp at h⟩
  | cons q r ih =>
   intro a1
   obtain ⟨l,e1,e2,e3⟩:=ih fun p hp=>a1 p (zax _ hp)
   have hq:=a1 q zaL
   refine ⟨es[q]::l,by simp [e1],by rw [zaF,zag hq,e2],fun i h h2 => ?_⟩
   cases i with
   | zero=>simp [hq]
   | succ i=>exact e3 i (by simpa using h) (by simpa using h2)
 obtain ⟨l,e1,e2,e3⟩:=key ps all
 refine ⟨l,e1,?_,e3⟩
 rw [e2,← filterMap_getElem?_range es]
 exact h.filterMap _
theorem zQ {a:Addr}{S:List Str}{Q:yaj→yai→Prop} (hS:qj prog w s.heap a S) (hn:S.length<4000)
  (h:∀ (I:Addr) (ord:List yaj) (fp:List Addr) (St:Nat→Heap→Prop) (h':Heap) d,(∀ b o,s.heap.get? b=some o→h'.get? b=some o)→s.heap.objs.size≤I→(∀ b∈fp,b=a∨s.heap.objs.size≤b) →
   (∀ {A':yam},A'.handled=none→Walks prog w A' I fp [I] ord.length (fun i v=>ord[i]? = some v) St)→St 0 h'→r6 ord S→Q (.ref I) { s with heap:=h',drawn:=d }) :
  yas (model prog w) A (pyIter (.ref a)) Q E s:=by
 obtain ⟨o,ho,es,ep,t,hex,hd,hel,hp,hf,hled,hpl⟩:=hS
 have sa:sI s.heap a es ep t:=⟨o,ho,hex.1,hd⟩
 have la:a<s.heap.objs.size:=zcw ho
 refine wpAny_pyIter_slot sa.typeIs F.lK (wpAny_call_entry F.lK sa.typeIs F.rq ?_ (F.uw _))
 unfold Builtin.«frozenset.__iter__»
 refine yaa (wpAny_of_eq (a:=a) rfl ?_)
 refine yaa (yaa (wpAny_setEntries_of ho hd hf (yab ?_)))
 refine yaa ?_
 unfold setDrawn
 refine yaa (wpAny_setState_of ho hd hf ?_)
 dsimp only
 refine yaa (k8 ?_)
 refine yab ?_
 have hsz:es.size=S.length:=by rw [← hp.length_eq,zbE,zaJ]
 cases hb:w.params.followText "set-order" with
 | true =>
  rw [yIn (by simp)]
  refine yaa (yab ?_)
  refine yaa (wpAny_setEpoch_of ho hd hf ?_)
  refine yaa (yaf ?_)
  have ho2:=zan (GR (rawInt 0) 0 a es.size ep) ho
  have hit:g7 (s.heap.push (GR (rawInt 0) 0 a es.size ep)) s.heap.objs.size (rawInt 0) 0 a es.size ep:=⟨_,zaK _ rfl,rfl,rfl⟩
  refine yab ⟨_,rfl,"set_iterator",_,⟨_,zaK _ rfl,rfl⟩,F.slot_next.lookup,?_⟩
  have hpk:=wR (w.params.setOrder a ep) es
  refine h s.heap.objs.size ((pickOrder (w.params.setOrder a ep) es).toList.map (·.2)) [s.heap.objs.size,a] _ _ s.drawn (fun b o e=>zan _ e) (zcy _) (fun b z => ?_)
   (fun {A'} hh=>ye (sl:=fun _=>0) (ep:=ep) (es:=es) (t:=t) hh (zcn la) hf (by rw [zbE,hpk.length_eq,zaJ]) ?_ ?_) ⟨hit,_,ho2,hex.1,hd⟩ (lD hel hp hpk)
  ·simp only [zbW,zbt,or_false] at z
   rcases z with rfl | rfl
   ·exact .inr (zcy _)
   ·exact .inl rfl
  ·intro i x hx A' s' Q' E' sa' q
   refine DH hb sa' hf ?_
   rw [zbb,zav] at hx
   cases hy:(pickOrder (w.params.setOrder a ep) es)[i]? with
   | none=>rw [hy] at hx;cases hx
   | some e=>rw [hy] at hx;injection hx with hx;subst hx;exact q
  ·intro A' s' Q' E' sa' q
   refine DH hb sa' hf ?_
   rw [zal (by rw [zbE,zaJ];exact zcy _)]
   exact q
 | false =>
  rw [hb] at hled
  by_cases hz:es.size≤1
  ·rw [yIn (by
    show ¬ ((!false&&(!t.plain&&decide (es.size > 1)))=true)
    rw [yDf (by lia)];simp)]
   refine yaa (yab ?_)
   refine yaa (wpAny_setEpoch_of ho hd hf ?_)
   refine yaa (yaf ?_)
   have ho2:=zan (GR (rawInt 0) 0 a es.size ep) ho
   have hit:g7 (s.heap.push (GR (rawInt 0) 0 a es.size ep)) s.heap.objs.size (rawInt 0) 0 a es.size ep:=⟨_,zaK _ rfl,rfl,rfl⟩
   refine yab ⟨_,rfl,"set_iterator",_,⟨_,zaK _ rfl,rfl⟩,F.slot_next.lookup,?_⟩
   have hps:t.place.size=es.size:=by
    simp only [SetTable.fits,zbw,beq_iff_eq] at hf
    exact hf.1
   refine h s.heap.objs.size (es.toList.map (·.2)) [s.heap.objs.size,a] _ _ s.drawn (fun b o e=>zan _ e) (zcy _) (fun b z => ?_)
    (fun {A'} hh=>ye (sl:=fun i=>if i=0 then 0 else t.place.getD 0 0+1) (ep:=ep) (es:=es) (t:=t) hh (zcn la) hf (by rw [zbE,zaJ]) ?_ ?_) ⟨hit,_,ho2,hex.1,hd⟩ (lD hel hp (.refl _))
   ·simp only [zbW,zbt,or_false] at z
    rcases z with rfl | rfl
    ·exact .inr (zcy _)
    ·exact .inl rfl
   ·intro i x hx A' s' Q' E' sa' q
    have hi:i<es.size:=by
     have:=(zac.mp hx).1
     simpa using this
    obtain rfl:i=0:=by lia
    refine DG hb sa' hf hz hled ?_
    have e0:SetTable.below t.place (if 0=0 then 0 else t.place.getD 0 0+1)=0:=Gp _ (by lia)
    rw [zbb,zav,zag hi] at hx
    injection hx with hx
    subst hx
    rw [e0,zag hi,zag (by lia:0<t.place.size)]
    have e1:(if 0+1=0 then 0 else t.place.getD 0 0+1)=t.place[0]+1:=by simp [hps ▸ hi]
    rw [e1] at q
    exact q
   ·intro A' s' Q' E' sa' q
    refine DG hb sa' hf hz hled ?_
    rw [zbE,zaJ]
    have en:es[SetTable.below t.place (if es.size=0 then 0 else t.place.getD 0 0+1)]? = none:=by
     apply zal
     by_cases h0:es.size=0
     ·rw [h0];exact zcz _
     ·rw [yIn h0]
      have h1:t.place.size=1:=by lia
      obtain ⟨⟨l⟩,hl⟩:∃ x,t.place=x:=⟨_,rfl⟩
      rw [hl] at h1 ⊢
      match l,h1 with
      | [j],_ =>
       show es.size≤SetTable.below #[j] (j+1)
       rw [Gn];exact hz
    rw [en]
    exact q
  ·have hpf:t.plain=false:=hpl (by lia)
   rw [yIp (by
    show (!false&&(!t.plain&&decide (es.size > 1)))=true
    rw [yDt (by lia),hpf];rfl)]
   refine yaa (rS _ _ (by simp) fun ps d hps => ?_)
   obtain ⟨l,e1,e2,e3⟩:=pull es ps hps
   refine yaa ?_
   unfold newTuple
   refine yaf (s:={ s with drawn:=d }) ?_ (by
    have:ps.length=es.size:=by rw [hps.length_eq,List.length_range]
    show (ps.map fun (i:Nat)=>rawInt i).toArray.size≤yah
    rw [zba,zbE,yag];lia)
   refine yaa (wpAny_setEpoch_of (s:={ s with heap:=s.heap.push _,drawn:=d }) (zan _ ho) hd hf ?_)
   refine yaa (yaf ?_)
   generalize hto:({ cls:=.type "tuple",data:=.seq (ps.map fun (i:Nat)=>rawInt i).toArray }:Obj)=to
   have hT1:(s.heap.push to).get? s.heap.objs.size=some to:=zaK _ (by rw [← hto];rfl)
   have z1:(s.heap.push to).objs.size=s.heap.objs.size+1:=zbV ..
   have gI:((s.heap.push to).push (GR (.ref s.heap.objs.size) 0 a es.size ep)).get? (s.heap.push to).objs.size=some (GR (.ref s.heap.objs.size) 0 a es.size ep):=zaK _ rfl
   refine yab ⟨_,rfl,"set_iterator",_,⟨_,gI,rfl⟩,F.slot_next.lookup,?_⟩
   refine h (s.heap.push to).objs.size (l.map (·.2)) [(s.heap.push to).objs.size,a,s.heap.objs.size] _ _ d (fun b o e=>zan _ (zan _ e)) (by rw [z1];exact zcA _) (fun b z => ?_)
    (fun {A'} hh=>D8 (T:=s.heap.objs.size) (ep:=ep) (es:=es) (t:=t) (ps:=ps) hh (by rw [z1];exact zcn (zbh la)) (by rw [z1];exact zcn (Nat.lt_succ_self _)) hf (by rw [zbE];exact e1) (fun i h1 h2 => ?_)) ⟨⟨_,gI,rfl,rfl⟩,⟨_,zan _ (zan _ ho),hex.1,hd⟩,⟨_,zan _ hT1,by rw [← hto],0,by rw [← hto]⟩⟩ (lD hel hp e2)
   ·rw [z1] at z
    simp only [zbW,zbt,or_false] at z
    rcases z with rfl | rfl | rfl
    ·exact .inr (zcA _)
    ·exact .inl rfl
    ·exact .inr (zcy _)
   ·have h3:i<l.length:=by rw [zbE] at h2;exact h2
    refine ⟨l[i].1,?_⟩
    rw [e3 i h1 h3,List.getElem_map]
theorem zU {a:Addr}{Q:Bool→yai→Prop} (hT:s.TypeIs (.ref a) "set") (h:Q false s):yas (model prog w) A (Builtin.List.listLengthHint (.ref a)) Q E s:=by
 unfold Builtin.List.listLengthHint
 refine yaa (wpAny_specialOf hT PySem.F.slot_set_len.lookup ?_)
 dsimp only
 rw [show splitId "set.__len__" = some ("set","__len__") by decide +kernel]
 dsimp only
 refine yaa (wpAny_isInstance (b:=true) hT sub_set_self ?_)
 rw [yIn (by decide)]
 rw [yIp (by decide +kernel)]
 refine yaa (wpAny_typeOf hT ?_)
 exact yab h
theorem uf {a L:Addr}{S:List Str}{R:Result→yai→Prop} (hh:A.handled=none) (hS:qj prog w s.heap a S) (hn:S.length<4000) (hL:s.heap.get? L=some { cls:=.type "list",data:=.seq #[] }) (hLa:L≠a)
  (hR:∀ s' (ord:List yaj) c',(∀ b o,b≠L→s.heap.get? b=some o→s'.heap.get? b=some o)→s'.gens=s.gens→s'.os=s.os→s'.heap.get? L=some { cls:=.type "list",dict:=none,data:=.seq ord.toArray c',slots := #[] }→r6 ord S→R (.ok (.ret (.ref L))) s') :
  yas (model prog w) A.in1 (Builtin.List.listExtendWith (.ref L) (.ref a) (.ref L))
   (fun fin s'=>match fin with | .done f=>R (.ok f) s' | .again c'=>c'.quiet=true∧codeAny (model prog w) A c' R s') (fun e s'=>R (.error e) s') s:=by
 have tS:s.TypeIs (.ref a) "set" := let ⟨o,ho,es,ep,t,hex,_⟩:=hS;⟨o,ho,hex.1⟩
 unfold Builtin.List.listExtendWith
 refine yaa (wpAny_typeOf tS ?_)
 have h1:Builtin.List.listSameRef (.ref L) (.ref a)=false:=by simp [Builtin.List.listSameRef,hLa]
 have h2:(Value.type "set" == Value.type "list")=false:=by decide
 have h3:(Value.type "set" == Value.type "tuple")=false:=by decide
 simp only [h1,h2,h3,Bool.or_false,zaX,if_false]
 refine yaa (zQ hS hn fun I ord fp St h' d kp hI hfp W st0 tx => ?_)
 have ll:L<s.heap.objs.size:=zcw hL
 have hLf:L ∉ fp:=fun z=>(hfp L z).elim hLa fun z=>absurd ll (Nat.not_lt.mpr z)
 have tS':Shared.TypeIs { s with heap:=h',drawn:=d } (.ref a) "set" := let ⟨o,ho,hc⟩:=tS;⟨o,kp _ _ ho,hc⟩
 refine yaa (yad (zU tS' ?_))
 rw [yIp (by rfl)]
 refine yaa (wpAny_rule ?_)
 refine yaa ?_
 show yas _ A.in1 (updateSeq L (·.push .none) >>= fun _=>updateSeq L (·.pop)) _ _ _
 refine yaa (wpAny_updateSeq (s:={ s with heap:=h',drawn:=d }) (kp _ _ hL) rfl ?_)
 have g2:=zaw (Obj.mapSeq (·.push Value.none)) (kp _ _ hL) rfl
 refine wpAny_updateSeq (hz:=by seq_fits) g2 rfl ?_
 have g3:=zaw (Obj.mapSeq (·.pop)) g2 rfl
 have oth:∀ b o,b≠L→h'.get? b=some o→((h'.update L (Obj.mapSeq (·.push Value.none))).update L (Obj.mapSeq (·.pop))).get? b=some o :=
  fun b o hb e=>(zao _ _ (Ne.symm hb)).trans ((zao _ _ (Ne.symm hb)).trans e)
 have hlen:ord.length=S.length:=by rw [← tx.2.length_eq,zbE]
 have WS:=(W (A':=A.in1) hh).toS
 refine yab ⟨plainId_quiet PySem.F.plain_extend_loop _,codeAny_extend_loopS WS (by rw [yag];lia) _ hLf _ ord.length 0 _ _ _ rfl (zcz _)
   (WS.frame 0 { s with heap:=h',drawn:=d } _ s.toks st0 (zcy _) fun b hb o e=>oth b o (fun z=>hLf (z ▸ hb)) e) g3 (ItemsOf.nil _) fun s' acc' c' hm hS' hacc => ?_⟩
 have ea:acc'=ord.toArray:=by
  refine Array.ext (by rw [hacc.1,zba]) fun i h1 h2 => ?_
  have z:ord[i]? = some acc'[i]:=hacc.2 i acc'[i] (zag h1)
  have h2:i<ord.length:=by simpa using h2
  rw [zah h2] at z
  simpa using (zcB.inj z).symm
 rw [ea] at hS'
 refine hR s' ord c' (fun b o hb e => ?_) hm.gens hm.os hS' tx
 refine hm.heap b o ?_ (oth b o hb (kp b o e))
 simp only [zbW,zbt,or_false]
 rintro (z | z)
 ·exact hb z
 ·have:=zcw e
  rw [z] at this
  exact absurd this (Nat.not_lt.mpr hI)
theorem pX {a:Addr}{S:List Str}{R:Result→yai→Prop} (hh:A.handled=none) (hS:qj prog w s.heap a S) (hn:S.length<4000)
  (hR:∀ s' (ord:List yaj) c',(∀ b o,s.heap.get? b=some o→s'.heap.get? b=some o)→s'.gens=s.gens→s'.os=s.os→s'.heap.get? s.heap.objs.size=some { cls:=.type "list",dict:=none,data:=.seq ord.toArray c',slots := #[] }→r6 ord S→R (.ok (.ret (.ref s.heap.objs.size))) s') :
  codeAny (model prog w) A (.builtin "proto.collect" ⟨[.ref a],[]⟩) R s:=by
 have la:a<s.heap.objs.size:=let ⟨o,ho,_⟩:=hS;zcw ho
 refine codeAny_builtin entry_proto_collect' ?_
 show yas _ _ (do again (.builtin "list.__iadd__" ⟨[← newList [],.ref a],[]⟩)) _ _ s
 refine yaa (wpAny_newList (yab ⟨Code.quiet_builtin _ (by decide +kernel),codeAny_builtin entry_list_iadd' ?_⟩))
 rw [Around.under_plainId (show plainId "list.__iadd__" = true by decide +kernel) _]
 show yas _ _ (Builtin.List.listExtendWith (.ref s.heap.objs.size) (.ref a) (.ref s.heap.objs.size)) _ _ { s with heap:=s.heap.push (seqObj "list" #[] 0) }
 refine uf (s:={ s with heap:=s.heap.push (seqObj "list" #[] 0) }) (S:=S) ?_ (hS.keep fun o e=>zan _ e) hn (zaK _ rfl) (zcq la) fun s' ord c' kp e1 e2 g tx => ?_
 ·exact hh
 ·exact hR s' ord c' (fun b o e=>kp b o (zcn (zcw e)) (zan _ e)) e1 e2 g tx
theorem rH {a:Addr}{S:List Str}{Q:List yaj→yai→Prop} (hh:A.handled=none) (hS:qj prog w s.heap a S) (hn:S.length<4000)
  (h:∀ s' (ord:List yaj),(∀ b o,s.heap.get? b=some o→s'.heap.get? b=some o)→s'.gens=s.gens→s'.os=s.os→s.heap.objs.size≤s'.heap.objs.size→r6 ord S→Q ord s'):yas (model prog w) A (collect (.ref a)) Q E s:=by
 unfold collect
 refine yaa (wpAny_runValue (pX hh hS hn fun s' ord c' kp e1 e2 g tx => ?_))
 dsimp only
 refine yaa (wpAny_load g ?_)
 exact yab (h s' ord kp e1 e2 (zcp (zcw g)) tx)
theorem sV {a:Addr}{S:List Str}{Q:yaj→yai→Prop} (hh:A.handled=none) (hS:qj prog w s.heap a S) (hn:S.length<64)
  (h:∀ (p:Addr) s' (out:List yaj) (ss:List Str) c,(∀ b o,s.heap.get? b=some o→s'.heap.get? b=some o)→s'.gens=s.gens→s'.os=s.os→s.heap.objs.size≤p→s'.heap.get? p=some (seqObj "list" out.toArray c)→StrsAre out ss→ss.Perm S→sortedS ss=true→Q (.ref p) s') :
  yas (model prog w) A (call (.builtin "sorted") [.ref a]) Q E s:=by
 refine Calls.call_function_entry kind_sorted plain_sorted entry_sorted (args_sorted1 _) ?_
 unfold Builtin.«sorted»
 refine yaa (m:=checkCount "sorted" 1 1 _) (yab ?_)
 refine yaa (rH (S:=S) ?_ hS (by lia) fun s1 ord kp e1 e2 le tx => ?_)
 ·exact hh
 refine yaa (wpAny_newList ?_ (by have:=tx.2.length_eq;rw [zbE] at this;first | (rw [yag];lia) | (rw [zba,yag];lia)))
 have hl:ord.length=S.length:=by rw [← tx.2.length_eq,zbE]
 have hSA:StrsAre ord (ord.map strOf):=strsAre_map ord tx.1
 have gL:(s1.heap.push (seqObj "list" ord.toArray 0)).get? s1.heap.objs.size=some (seqObj "list" ord.toArray 0):=zaK _ rfl
 refine yaa (yad (wpAny_call_entry slot_list_sort ⟨_,gL,rfl⟩ entry_list_sort (list_sort_treeK (κ:=PyProof.Rows.strKind) strKind_oneLt gL hSA.keysOf (fun v₁ v₂ rest e=>keyKind_strs (by rw [← e];exact hSA)) (by lia) fun st' a1 a2=>⟨_,rfl,?_⟩) (args_list_sort _)))
 obtain ⟨ss',b1,b2,b3⟩:=sorted_out_str hSA a1 a2
 obtain ⟨c,hc⟩:=sortedHeap_at (out:=(arrOf st').map (·.2)) gL
 refine yab ⟨_,rfl,h s1.heap.objs.size _ ((arrOf st').map (·.2)).toList ss' c (fun b o e => ?_) e1 e2 le ?_ b1 (b2.trans tx.2) b3⟩
 ·have lb:=zcw (kp b o e)
  show (sortedHeap _ _ _ _).get? b=some o
  rw [sortedHeap_old (zcn lb) (by rw [size_push'];exact zbh lb)]
  exact zan _ (kp b o e)
 ·rw [zaE];exact hc
end
namespace F
theorem nC:Slot "list_reverseiterator" "__length_hint__" "list_reverseiterator.__length_hint__" :=
 .of (owner := "list_reverseiterator") (n := "__length_hint__") (by rw [typeLookup_type,builtinLookup_eq_fast];kernel_rfl) (by decide +kernel) (by decide +kernel) (by decide +kernel)
  (by first | exact .inl (by decide +kernel) | exact .inr (by decide +kernel)) (by rw [isSubtype_type];kernel_rfl)
theorem tV:typeLookup (.type "list_reverseiterator") "__len__" = pure none:=by rw [typeLookup_type,builtinLookup_eq_fast];kernel_rfl
theorem oQ:isSubtype (.type "list_reverseiterator") (.type "list_reverseiterator")=pure true:=by rw [isSubtype_type];kernel_rfl
end F
section
variable {prog:yak}{w:yal}{A:yam}{E:yaj→yai→Prop}{s:yai}
theorem zV {I:Addr}{Q:Bool→yai→Prop} (hT:s.TypeIs (.ref I) "list_reverseiterator") (h:Q false s):yas (model prog w) A (Builtin.List.listLengthHint (.ref I)) Q E s:=by
 unfold Builtin.List.listLengthHint
 refine yaa (wpAny_specialOf hT F.tV ?_)
 show yas _ _ (specialOf (Value.ref I) (Str.ofString "__length_hint__") >>= _) _ _ _
 refine yaa (wpAny_specialOf hT F.nC.lookup ?_)
 dsimp only
 rw [show splitId "list_reverseiterator.__length_hint__" = some ("list_reverseiterator","__length_hint__") by decide +kernel]
 dsimp only
 refine yaa (wpAny_isInstance (b:=true) hT F.oQ ?_)
 rw [yIn (by decide)]
 rw [yIp (by decide +kernel)]
 rw [yIn (by decide)]
 exact yab h
theorem nH {I l:Addr}{items:Array yaj}{R:Result→yai→Prop} (hh:A.handled=none) (hI:s.heap.IsRevIter I l ((items.size:Int) - 1)) (hl:s.heap.IsList l items) (hne:l≠I) (hn:items.size≤100000)
  (hR:∀ s' c',(∀ b o,b≠I→s.heap.get? b=some o→s'.heap.get? b=some o)→s'.gens=s.gens→s'.drawn=s.drawn→s'.os=s.os→s'.heap.get? s.heap.objs.size=some { cls:=.type "list",dict:=none,data:=.seq items.reverse c',slots := #[] }→R (.ok (.ret (.ref s.heap.objs.size))) s') :
  codeAny (model prog w) A (.builtin "proto.collect" ⟨[.ref I],[]⟩) R s:=by
 have lI:I<s.heap.objs.size:=let ⟨o,ho,_⟩:=hI;zcw ho
 have ll:l<s.heap.objs.size:=let ⟨o,ho,_⟩:=hl;zcw ho
 refine codeAny_builtin entry_proto_collect' ?_
 show yas _ _ (do again (.builtin "list.__iadd__" ⟨[← newList [],.ref I],[]⟩)) _ _ s
 refine yaa (wpAny_newList (yab ⟨Code.quiet_builtin _ (by decide +kernel),codeAny_builtin entry_list_iadd' ?_⟩))
 rw [Around.under_plainId (show plainId "list.__iadd__" = true by decide +kernel) _]
 show yas _ _ (Builtin.List.listExtendWith (.ref s.heap.objs.size) (.ref I) (.ref s.heap.objs.size)) _ _ { s with heap:=s.heap.push (seqObj "list" #[] 0) }
 have hI2:(s.heap.push (seqObj "list" #[] 0)).IsRevIter I l ((items.size:Int) - 1):=hI.at fun o e=>zan _ e
 have hl2:(s.heap.push (seqObj "list" #[] 0)).IsList l items:=hl.at fun o e=>zan _ e
 have tI:Shared.TypeIs { s with heap:=s.heap.push (seqObj "list" #[] 0) } (.ref I) "list_reverseiterator" := hI2.typeIs
 unfold Builtin.List.listExtendWith
 refine yaa (wpAny_typeOf tI ?_)
 have h1:Builtin.List.listSameRef (.ref s.heap.objs.size) (.ref I)=false:=by simp only [Builtin.List.listSameRef];exact beq_false_of_ne (zcq lI)
 have h2:(Value.type "list_reverseiterator" == Value.type "list")=false:=by decide
 have h3:(Value.type "list_reverseiterator" == Value.type "tuple")=false:=by decide
 simp only [h1,h2,h3,Bool.or_false,zaX,if_false]
 refine yaa (wpAny_pyIter_revIter hI2 ?_)
 refine yaa (yad (zV tI ?_))
 rw [yIn (by decide)]
 have hSf:s.heap.objs.size ∉ [I,l]:=by
  simp only [zbW,zbt,or_false]
  rintro (z | z)
  ·exact zcq lI z
  ·exact zcq ll z
 have W:=(Walks.listRev (prog:=prog) (w:=w) (A:=A.in1) hh I l hne items).toS
 refine yab ⟨plainId_quiet PySem.F.plain_extend_loop _,codeAny_extend_loopS W (by rw [yag];lia) _ hSf _ items.size 0 _ #[] 0 rfl (zcz _) ⟨zcz _,by simpa using hI2,hl2⟩ (zaK _ rfl) (ItemsOf.nil _) fun s' acc' c' hm hS' hacc => ?_⟩
 have ea:acc'=items.reverse:=by
  refine Array.ext (by rw [hacc.1,Array.size_reverse]) fun i h1 h2 => ?_
  have z:items[items.size - 1 - i]? = some acc'[i]:=hacc.2 i acc'[i] (zag h1)
  rw [Array.size_reverse] at h2
  rw [zag (by lia)] at z
  rw [Array.getElem_reverse]
  exact (zcB.inj z).symm
 rw [ea] at hS'
 refine hR s' c' (fun b o hb e=>hm.heap b o ?_ (zan _ e)) hm.gens hm.drawn hm.os hS'
 simp only [zbW,zbt,or_false]
 rintro (z | z)
 ·exact zcn (zcw e) z
 ·exact hb z
theorem An {I l:Addr}{items:Array yaj}{Q:List yaj→yai→Prop} (hh:A.handled=none) (hI:s.heap.IsRevIter I l ((items.size:Int) - 1)) (hl:s.heap.IsList l items) (hne:l≠I) (hn:items.size≤100000)
  (hQ:∀ s',(∀ b o,b≠I→s.heap.get? b=some o→s'.heap.get? b=some o)→s'.gens=s.gens→s'.drawn=s.drawn→s'.os=s.os→s.heap.objs.size≤s'.heap.objs.size→Q items.toList.reverse s'):yas (model prog w) A (collect (.ref I)) Q E s:=by
 unfold collect
 refine yaa (wpAny_runValue (nH hh hI hl hne hn fun s' c' kp e1 e2 e3 g => ?_))
 dsimp only
 refine yaa (wpAny_load g ?_)
 refine yab ?_
 rw [Array.toList_reverse]
 exact hQ s' kp e1 e2 e3 (zcp (zcw g))
theorem Eg {I l:Addr}{items:Array yaj}{Q:yaj→yai→Prop} (hh:A.handled=none) (hI:s.heap.IsRevIter I l ((items.size:Int) - 1)) (hl:s.heap.IsList l items) (hne:l≠I) (hn:items.size≤100000)
  (hQ:∀ s':yai,(∀ b o,b≠I→s.heap.get? b=some o→s'.heap.get? b=some o)→s'.gens=s.gens→s'.drawn=s.drawn→s'.os=s.os→s.heap.objs.size≤s'.heap.objs.size→Q (.ref s'.heap.objs.size) { s' with heap:=s'.heap.push { cls:=.type "tuple",data:=.seq items.toList.reverse.toArray } }) :
  yas (model prog w) A (call (.type "tuple") [.ref I]) Q E s:=by
 refine callType_codes (Q₁:=fun obj s₁=>s₁.TypeIs obj "tuple" ∧ Q obj s₁) PySem.F.called_tuple (PySem.F.typeCall_tuple_1 _) PySem.F.entry_object_init ?_ fun obj s₁ h₁ => ?_
 ·refine codeAny_of_tree ?_
  show yas _ A.in1.in1 (do checkBuiltinCall "tuple.__new__" ⟨[.type "tuple",.ref I],[]⟩;again (.builtin "tuple.__new__" ⟨[.type "tuple",.ref I],[]⟩)) _ _ s
  refine yaa (wpAny_of_eq (PySem.F.newCall_tuple_1 _) (yab ⟨plainId_quiet PySem.F.plain_tuple_new _,codeAny_builtin PySem.F.entry_tuple_new ?_⟩))
  rw [Around.under_plainId PySem.F.plain_tuple_new _]
  have hsub:=sub_tuple_self
  have KS:=init_tuple_lookup
  have hmh:=madeHere_tuple
  have tI:=hI.typeIs
  have hh2:A.in1.in1.handled=none:=hh
  wp_walk using wpAny_typeOf tI,An hh2 hI hl hne hn
  intro s' kp e1 e2 e3 le
  show yas _ _ (Builtin.Tuple.tupleExact items.toList.reverse.toArray >>= fun v=>ret v) _ _ _
  unfold Builtin.Tuple.tupleExact
  refine yaa (yaf ?_ (by show items.toList.reverse.toArray.size≤yah;rw [zba,zaH,zaJ,yag];lia))
  exact yab ⟨⟨_,zaK _ rfl,rfl⟩,hQ s' kp e1 e2 e3 le⟩
 ·exact ⟨h₁.1,PySem.F.args_object_init_2 obj _,object_init_meets PySem.F.called_tuple.init.lookup PySem.F.called_tuple.made (by decide) prog w A.in1 _ s₁ ⟨h₁.1,rfl,h₁.2⟩⟩
end
end M5
namespace L2
open PySem PySem.Spec PyProof.Rows
theorem Inv.nv {X:Cx}{pins:List (Addr×Obj)}{σ:List (Option V)}{H:Hp}{s:yai} (I:Inv X pins σ H s) (d:Drawn):Inv X pins σ H { s with drawn:=d } :=
 ⟨I.ok,I.os,I.bare,I.base,I.loc,I.cell,I.free,I.dz,I.pin,I.hok,I.len⟩
def qv (K:yaH) (ta:TE):TE:=fun σ H Q=>ta σ H fun x H1=>∃ (p:Addr) (ss:List Str),x = .ref p∧(dQ K H1 p (ss.map V.str)∨cH K H1 p (ss.map V.str))∧ss.length<64 ∧
 ∀ (l:Addr) (ss':List Str),H1 l=none→ss'.Nodup→(∀ y,y∈ss'↔y∈ss)→sortedS ss'=true→Q (.ref l) (upd H1 l (.lst (ss'.map V.str)))
def uM (K:yaH) (ta:TE):TE:=fun σ H Q=>ta σ H fun x H1=>∃ p ys,x = .ref p∧cH K H1 p ys∧ys.length≤100000∧∀ l,H1 l=none→Q (.ref l) (upd H1 l (.tup ys.reverse))
def Di (K:yaH) (ta:TE):TE:=fun σ H Q=>ta σ H fun x H1=>∃ p ys,x = .ref p∧cH K H1 p ys∧∀ l,H1 l=none→Q (.ref l) (upd H1 l (.lst ys.reverse))
section
variable {X:Cx}{e:Expr}{ta:TE}{p p2 pos pos2:Pos}
theorem fq (hc:X.calm=true) (hg:Gl X "sorted") (hm:X.mg "sorted" = none) (hg2:Gl X "set") (hm2:X.mg "set" = none) (he:PE X e ta) (hs:notStar e=true:=by rfl) :
  PE X (.Call (.Name "sorted" p) [.Call (.Name "set" p2) [e] [] pos2] [] pos) (qv X.K ta):=by
 intro pins s σ H Q I h
 have hk:=I.ok.hd hc
 refine wpAny_Call_Name_kw (eE I hg hm (u:=.builtin "sorted") (by decide +kernel) ?_ (by decide +kernel) (by decide +kernel))
 refine PyProof.Rows.callWith_builtin1 (E:=X.xe) ?_ (aO [] X.env rfl) rfl
 rw [aO [] X.env rfl]
 refine zaZ ?_
 refine wpAny_Call_Name_kw (eE I hg2 hm2 (u:=.type "set") (by decide +kernel) ?_ (by decide +kernel) (by decide +kernel))
 refine PyProof.Rows.callWith_type1 (E:=X.xe) ?_ (aO [] X.env hs) rfl
 rw [aO [] X.env hs]
 refine zaZ (bJ (he pins s σ H _ I h) fun u s1 ⟨x,H1,I1,rx,a,ss,ex,hq,hl,q⟩ => ?_)
 subst ex
 obtain rfl:u=Value.ref a:=rx
 refine zbm ?_
 have fin:∀ (h':Heap) (tk:Nat),M5.qj X.prog X.w h' s1.heap.objs.size (M5.all1 (fun i=>ss.getD i ⟨#[]⟩) ss.length)→(∀ b o,b<s1.heap.objs.size→s1.heap.get? b=some o→h'.get? b=some o) →
   yas (model X.prog X.w) X.A (call (.builtin "sorted") [.ref s1.heap.objs.size]) (EP X pins σ Q) X.xe { s1 with heap:=h',toks:=tk }:=by
  intro h' tk tS kp
  have hlen:=M5.jo (fun i=>ss.getD i ⟨#[]⟩) ss.length
  refine M5.sV (s:={ s1 with heap:=h',toks:=tk }) hk tS (by lia) fun l s2 out ss' c kp2 e1 e2 le g hS hp hs => ?_
  obtain ⟨h2,g2,d2,t2,o2⟩:=s2
  obtain rfl:g2=s1.gens:=e1
  obtain rfl:o2=s1.os:=e2
  have kpA:∀ b o,s1.heap.get? b=some o→h2.get? b=some o:=fun b o z=>kp2 b o (kp b o (zcw z) z)
  have le1:s1.heap.objs.size≤l:=by
   obtain ⟨o,ho,_⟩:=tS
   exact zco (zcp (zcw ho)) le
  have hlen2:ss'.length<64:=by rw [hp.length_eq];lia
  refine ⟨.ref l,_,(I1.laid (a:=l) (t':=t2) (o:=.lst (ss'.map V.str)) kpA le1 ⟨by rw [zbE,yag];lia,out,c,M.gM hS,g⟩).nv d2,rfl,q l ss' (I1.hok.fresh le1) (hp.nodup_iff.mpr (M5.iE _ _)) (fun y=>(hp.mem_iff).trans (M5.oi ss y)) hs⟩
 rcases hq with hq | hq
 ·obtain ⟨its,r',pl,hz⟩:=I1.tuple hq
  refine M5.set_tuple (its:=its.toArray) (ss:=ss) hk pl (by simpa using fh r') (by lia) fun h' tk tS kp => ?_
  exact zbm (fin h' tk tS kp)
 ·obtain ⟨its,r',pl,hz⟩:=I1.list hq
  refine M5.set_list (its:=its.toArray) (ss:=ss) hk pl.isList (by simpa using fh r') (by lia) fun h' tk tS kp => ?_
  exact zbm (fin h' tk tS kp)
theorem jH (hc:X.calm=true) (hg:Gl X "tuple") (hm:X.mg "tuple" = none) (hg2:Gl X "reversed") (hm2:X.mg "reversed" = none) (he:PE X e ta) (hs:notStar e=true:=by rfl) :
  PE X (.Call (.Name "tuple" p) [.Call (.Name "reversed" p2) [e] [] pos2] [] pos) (uM X.K ta):=by
 intro pins s σ H Q I h
 have hk:=I.ok.hd hc
 refine wpAny_Call_Name_kw (eE I hg hm (u:=.type "tuple") (by decide +kernel) ?_ (by decide +kernel) (by decide +kernel))
 refine PyProof.Rows.callWith_type1 (E:=X.xe) ?_ (aO [] X.env rfl) rfl
 rw [aO [] X.env rfl]
 refine zaZ ?_
 refine wpAny_Call_Name_kw (eE I hg2 hm2 boot_reversed ?_ (by decide +kernel) (by decide +kernel))
 refine PyProof.Rows.callWith_type1 (E:=X.xe) ?_ (aO [] X.env hs) rfl
 rw [aO [] X.env hs]
 refine zaZ (bJ (he pins s σ H _ I h) fun u s1 ⟨x,H1,I1,rx,a,ys,ex,hq,hl,q⟩ => ?_)
 subst ex
 obtain rfl:u=Value.ref a:=rx
 refine zbm ?_
 obtain ⟨its,r',pl,hz⟩:=I1.list hq
 have hlen:=r'.length
 refine call_reversed_list pl.isList ?_
 refine zbm ?_
 have hne:a≠s1.heap.objs.size:=by
  obtain ⟨o,ho,_⟩:=pl.isList
  exact zcn (zcw ho)
 refine M5.Eg (s:={ s1 with heap:=s1.heap.push (revObj a ((its.toArray.size:Int) - 1)) }) (I:=s1.heap.objs.size) (l:=a) (items:=its.toArray) hk ⟨_,zaK _ rfl,rfl,rfl⟩ (pl.isList.at fun o e=>zan _ e) hne (by rw [zba];lia) fun s2 kp e1 e2 e3 le => ?_
 obtain ⟨h2,g2,d2,t2,o2⟩:=s2
 obtain rfl:g2=s1.gens:=e1
 obtain rfl:d2=s1.drawn:=e2
 obtain rfl:o2=s1.os:=e3
 have kpA:∀ b o,s1.heap.get? b=some o→(h2.push { cls:=.type "tuple",data:=.seq its.toArray.toList.reverse.toArray }).get? b=some o:=fun b o z=>zan _ (kp b o (zcn (zcw z)) (zan _ z))
 have le1:s1.heap.objs.size≤h2.objs.size:=zco (by rw [show (s1.heap.push (revObj a ((its.toArray.size:Int) - 1))).objs.size=s1.heap.objs.size+1 from zbV ..];exact zcA _) le
 refine ⟨.ref h2.objs.size,_,I1.laid (a:=h2.objs.size) (t':=t2) (o:=.tup ys.reverse) kpA le1 ?_,rfl,q _ (I1.hok.fresh le1)⟩
 exact ⟨by rw [zaH];lia,its.reverse,lu r',⟨_,zaK _ rfl,rfl,0,by simp⟩⟩
theorem pH {j:Nat}{pc pu:Pos} (he:PE X e ta):PE X (.Subscript e (.Slice none none (some (.UnaryOp .USub (.Constant (.int 1) j pc) pu)) p2) pos) (Di X.K ta):=by
 intro pins s σ H Q I h
 refine Subscript_ (bJ (he pins s σ H _ I h) fun v s1 ⟨x,H1,I1,r1,a,ys,ex,hq,q⟩ => ?_)
 subst ex
 obtain rfl:v=Value.ref a:=r1
 refine wpAny_Slice ?_
 rw [evalPart_none]
 refine yab (yab ?_)
 rw [evalPart_some]
 have hneg:PE X (.UnaryOp .USub (.Constant (.int 1) j pc) pu) (KJ (rU fun i=>.int (-i)) (tC (.int 1))):=HW Eb ai
 refine bJ (hneg pins s1 σ H1 (fun y H2=>y = .int (-1)∧H2=H1) I1 ⟨1,rfl,rfl,rfl⟩) fun vk s2 ⟨y,H2,I2,ry,ey,eH⟩ => ?_
 subst ey
 subst eH
 obtain ⟨t,rfl⟩:=ry
 have I3:Inv X pins σ H2 { s2 with heap:=s2.heap.push { cls:=.type "slice",data:=.fields #[.none,.none,.int (-1) t] } }:=I2.kept (t':=s2.toks) fun b ob q=>zan _ q
 obtain ⟨its,r,ht,hz⟩:=I3.list hq
 have hlen:=r.length
 show yas (model X.prog X.w) X.A (subscriptTail e (.Slice none none (some (.UnaryOp .USub (.Constant (.int 1) j pc) pu)) p2) (.ref a) (.ref s2.heap.objs.size)) (EP X pins σ Q) X.xe { s2 with heap:=s2.heap.push { cls:=.type "slice",data:=.fields #[.none,.none,.int (-1) t] } }
 refine tail_any (ops:=[.ref a,.ref s2.heap.objs.size]) ht.isList.typeIs slot_list_getitem.lookup ?_ (by with_unfolding_all rfl)
 refine wpAny_getItem_list_slice ht.isList (Heap.IsSliceOf.new ..) .none .none (.int (-1) t) (by decide) ?_ (by rw [zba];lia)
 rw [PySem.W.krv_pick]
 exact ⟨.ref _,_,I3.laid (t':=s2.toks) (o:=.lst ys.reverse) (fun b ob q=>zan _ q) (zcy _) ⟨by rw [zaH];exact hz,its.reverse,0,lu r,zaK _ rfl⟩,rfl,q _ (I3.hok.fresh (zcy _))⟩
end
end L2
namespace M
open PySem PySem.Spec PyProof.Rows L2
section
variable {K:yaH}
def jq (a:AE):AE:=fun δ S Q=>a δ S fun r S1=>∃ ss:List Str,(bf S1 r.d = .tup (ss.map D.str)∨bf S1 r.d = .lst (ss.map D.str))∧ss.length<64 ∧
 ∀ ss':List Str,ss'.Nodup→(∀ y,y∈ss'↔y∈ss)→sortedS ss'=true→Q (.new (.lst (ss'.map D.str))) S1
theorem wL {a:AE}:∀ σ H Q,aR K (jq a) σ H Q→qv K (aR K a) σ H Q:=by
 rintro σ H Q ⟨w,δ,S,Qa,ok,env,q,bk⟩
 refine ⟨w,δ,S,_,ok,env,q,.go fun r1 S1 v1 w1 H1 le1 ok1 rep1 ⟨ss,z,hl,q1⟩ => ?_⟩
 rcases z with z | z
 ·obtain ⟨a,xs,rfl,h1,h2⟩:=cK ok1 rep1 z
  rw [cU h2] at h1
  exact ⟨a,ss,rfl,.inl h1,hl,fun l ss' hp n1 n2 n3=>bk (.new (.lst _)) S1 _ w1 _ le1 (ok1.alloc hp) (ok1.fresh hp ⟨_,rfl,cL ss'⟩) (q1 ss' n1 n2 n3)⟩
 ·obtain ⟨a,xs,rfl,h1,h2⟩:=bw ok1 rep1 z
  rw [cU h2] at h1
  exact ⟨a,ss,rfl,.inr (cH.of h1),hl,fun l ss' hp n1 n2 n3=>bk (.new (.lst _)) S1 _ w1 _ le1 (ok1.alloc hp) (ok1.fresh hp ⟨_,rfl,cL ss'⟩) (q1 ss' n1 n2 n3)⟩
def lg (a:AE):AE:=fun δ S Q=>a δ S fun r S1=>∃ ds,bf S1 r.d = .lst ds∧ds.length≤100000∧Q (.dat (.tup ds.reverse)) S1
theorem yN {a:AE}:∀ σ H Q,aR K (lg a) σ H Q→uM K (aR K a) σ H Q:=by
 rintro σ H Q ⟨w,δ,S,Qa,ok,env,q,bk⟩
 refine ⟨w,δ,S,_,ok,env,q,.go fun r1 S1 v1 w1 H1 le1 ok1 rep1 ⟨ds,z,hl,q1⟩ => ?_⟩
 obtain ⟨a,xs,rfl,h1,h2⟩:=bw ok1 rep1 z
 refine ⟨a,xs,rfl,cH.of h1,by rw [h2.length];exact hl,fun p hp => ?_⟩
 obtain ⟨w2,le2,ok2,rep2⟩:=ok1.jM hp (lQ h2)
 exact bk.dat (le1.trans le2) ok2 rep2 q1
def AJ (a:AE):AE:=fun δ S Q=>a δ S fun r S1=>∃ ds,bf S1 r.d = .lst ds∧Q (.new (.lst ds.reverse)) S1
theorem EJ {a:AE}:∀ σ H Q,aR K (AJ a) σ H Q→Di K (aR K a) σ H Q:=by
 rintro σ H Q ⟨w,δ,S,Qa,ok,env,q,bk⟩
 refine ⟨w,δ,S,_,ok,env,q,.go fun r1 S1 v1 w1 H1 le1 ok1 rep1 ⟨ds,z,q1⟩ => ?_⟩
 obtain ⟨a,xs,rfl,h1,h2⟩:=bw ok1 rep1 z
 exact ⟨a,xs,rfl,cH.of h1,fun p hp=>bk (.new (.lst ds.reverse)) S1 _ w1 _ le1 (ok1.alloc hp) (ok1.fresh hp ⟨_,rfl,lQ h2⟩) q1⟩
noncomputable def fz (ks:List Key) (ds:List D) (k:Key):Option D:=((ks.zip ds).find? fun p=>decide (p.1=k)).map (·.2)
noncomputable def pV (ks:List Key) (ds:List D) (k:Key) (d:D):MO:=if (ks.any fun j=>decide (j=k))=true then .dct ks ((ks.zip ds).map fun p=>if p.1=k then d else p.2) else .dct (ks++[k]) (ds++[d])
theorem jb {w:Wd}{k:Key}{d:D}:∀ {kvs:List (Key×V)}{ds:List D},aq K w ds (kvs.map (·.2))→fz (kvs.map (·.1)) ds k=some d→∃ v,eL kvs k=some v∧Rep K w d v
 | [],ds,h,e=>by simp [fz] at e
 | (j,u)::r,ds,h,e=>by
  cases ds with
  | nil=>simp [fz] at e
  | cons x ds =>
   simp only [zbX,aq] at h
   obtain ⟨x',r',e',h1,h2⟩:=h
   injection e' with e1 e2
   subst e1;subst e2
   unfold fz at e
   unfold eL
   by_cases hj:j=k
   ·rw [zbX,zaQ,List.find?_cons_of_pos (by simpa using hj)] at e
    rw [List.find?_cons_of_pos (by simpa using hj)]
    cases e
    exact ⟨u,rfl,h1⟩
   ·rw [zbX,zaQ,List.find?_cons_of_neg (by simpa using hj)] at e
    rw [List.find?_cons_of_neg (by simpa using hj)]
    exact jb (kvs:=r) h2 e
theorem qF {w:Wd}{k:Key}{d:D}{v:V} (g:Rep K w d v):∀ {kvs:List (Key×V)}{ds:List D},aq K w ds (kvs.map (·.2)) →
  aq K w (((kvs.map (·.1)).zip ds).map fun p=>if p.1=k then d else p.2) ((kvs.map fun kv=>if kv.1=k then (kv.1,v) else kv).map (·.2))
 | [],ds,h=>by
  cases ds with
  | nil=>exact .nil
  | cons x ds=>simp only [zci,aq] at h;obtain ⟨_,_,z,_⟩:=h;cases z
 | (j,u)::r,ds,h=>by
  cases ds with
  | nil=>simp only [zbX,aq] at h;cases h
  | cons x ds =>
   simp only [zbX,aq] at h
   obtain ⟨x',r',e',h1,h2⟩:=h
   injection e' with e1 e2
   subst e1;subst e2
   simp only [zbX,zaQ]
   refine .cons ?_ (qF g h2)
   by_cases hj:j=k
   ·rw [yIp hj,yIp hj];exact g
   ·rw [yIn hj,yIn hj];exact h1
theorem qK {w:Wd}{k:Key}{d:D}{v:V}{kvs:List (Key×V)}{ds:List D} (g:Rep K w d v) (h:aq K w ds (kvs.map (·.2))):jU K w (pV (kvs.map (·.1)) ds k d) (.dK (putK kvs k v)):=by
 unfold pV putK
 have e:((kvs.map (·.1)).any fun j=>decide (j=k))=(kvs.any fun kv=>decide (kv.1=k)):=by
  rw [zcj];rfl
 rw [e]
 by_cases hc:(kvs.any fun kv=>decide (kv.1=k))=true
 ·rw [yIp hc,yIp hc]
  refine ⟨_,rfl,?_,qF g h⟩
  rw [zcl]
  refine zaI fun kv _ => ?_
  show (if kv.1=k then (kv.1,v) else kv).1=kv.1
  split <;> rfl
 ·rw [yIn hc,yIn hc]
  refine ⟨_,rfl,by simp,?_⟩
  rw [zbI]
  exact h.snoc g
theorem pU {w:Wd}{H:Hp}{S:aK}{p:Nat}{v:V}{ks:List Key}{ds:List D} (ok:Ok K w H S) (h:Rep K w (.loc p) v) (e:S[p]? = some (some (.dct ks ds))) :
  ∃ a kvs,v = .ref a∧w.r p=some a∧H a=some (.dK kvs)∧kvs.map (·.1)=ks∧aq K w ds (kvs.map (·.2)):=by
 simp only [Rep] at h
 obtain ⟨a,h1,rfl⟩:=h
 obtain ⟨a',u,g1,g2,g3,kvs,rfl,g5,g6⟩:=ok.live p _ e
 rw [h1] at g1;cases g1
 exact ⟨a,kvs,rfl,h1,g3,g5,g6⟩
def AW (a b:AE):AE:=fun δ S Q=>a δ S fun r1 S1=>b δ S1 fun r2 S2=>∃ ks ds k d,bf S2 r1.d = .dct ks ds∧r2.d = .str k∧fz ks ds (.inr k)=some d∧Q (.dat d) S2
theorem EY {a b:AE}:∀ σ H Q,aR K (AW a b) σ H Q→yw (aR K a) (aR K b) σ H Q:=by
 rintro σ H Q ⟨w,δ,S,Qa,ok,env,q,bk⟩
 refine ⟨w,δ,S,_,ok,env,q,.go fun r1 S1 v1 w1 H1 le1 ok1 rep1 q1 => ?_⟩
 refine ⟨w1,δ,S1,_,ok1,env.le le1,q1,.go fun r2 S2 v2 w2 H2 le2 ok2 rep2 ⟨ks,ds,k,d,z1,z2,z3,q2⟩ => ?_⟩
 obtain ⟨a,kvs,rfl,h1,rfl,h3⟩:=cY ok2 (rep1.le le2) z1
 obtain ⟨v,g1,g2⟩:=jb h3 z3
 rw [fk rep2 z2]
 refine ⟨a,v,rfl,?_,bk.dat (le1.trans le2) ok2 g2 q2⟩
 rw [← g1]
 exact nk.k (k:=.inr k) h1
def AV (a b c:AE):AS:=fun D δ S=>c δ S fun r3 S1=>a δ S1 fun r1 S2=>b δ S2 fun r2 S3=>∃ n ks ds k,r1.d = .loc n∧r2.d = .str k∧S3[n]? = some (some (.dct ks ds))∧ds.length<1000∧D.nx δ (S3.set n (some (pV ks ds (.inr k) r3.d)))
theorem EW {a b c:AE}:∀ D σ H,dU K (AV a b c) D σ H→za (aR K a) (aR K b) (aR K c) D σ H:=by
 rintro D σ H ⟨w,δ,S,Da,ok,env,q,bk⟩
 refine ⟨w,δ,S,_,ok,env,q,.go fun r3 S1 v3 w1 H1 le1 ok1 rep3 q1 => ?_⟩
 refine ⟨w1,δ,S1,_,ok1,env.le le1,q1,.go fun r1 S2 v1 w2 H2 le2 ok2 rep1 q2 => ?_⟩
 refine ⟨w2,δ,S2,_,ok2,(env.le le1).le le2,q2,.go fun r2 S3 v2 w3 H3 le3 ok3 rep2 ⟨n,ks,ds,k,z1,z2,z3,hl,q3⟩ => ?_⟩
 rw [z1] at rep1
 obtain ⟨a,kvs,rfl,h0,h1,rfl,h3⟩:=pU ok3 (rep1.le le3) z3
 rw [fk rep2 z2]
 have hlen:kvs.length=ds.length:=by have:=h3.length;rw [zbE] at this;exact this
 refine ⟨a,_,rfl,x6.k (k:=.inr k) h1 (by rw [hlen,yag];lia),?_⟩
 have ok4:=ok3.put z3 h0 (qK (k:=.inr k) (rep3.le (le2.trans le3)) h3)
 exact bk.nx δ _ σ w3 _ ((le1.trans le2).trans le3) ok4 (((env.le le1).le le2).le le3) q3
def AR (a b c:AE):AS:=fun D δ S=>c δ S fun r3 S1=>a δ S1 fun r1 S2=>b δ S2 fun r2 S3=>∃ n es k j,r1.d = .loc n∧r2.d = .int k∧S3[n]? = some (some (.lst es))∧Bj es.length k=some j∧D.nx δ (S3.set n (some (.lst (es.set j r3.d))))
theorem EM {a b c:AE}:∀ D σ H,dU K (AR a b c) D σ H→oO (aR K c) (IA (aR K a) (aR K b) Dy) D σ H:=by
 rintro D σ H ⟨w,δ,S,Da,ok,env,q,bk⟩
 refine ⟨w,δ,S,_,ok,env,q,.go fun r3 S1 v3 w1 H1 le1 ok1 rep3 q1 => ?_⟩
 refine ⟨w1,δ,S1,_,ok1,env.le le1,q1,.go fun r1 S2 v1 w2 H2 le2 ok2 rep1 q2 => ?_⟩
 refine ⟨w2,δ,S2,_,ok2,(env.le le1).le le2,q2,.go fun r2 S3 v2 w3 H3 le3 ok3 rep2 ⟨n,es,k,j,z1,z2,z3,hj,q3⟩ => ?_⟩
 rw [z1] at rep1
 obtain ⟨a,ys,rfl,ha,hH,hr⟩:=t8 ok3 (rep1.le le3) z3
 rw [bR rep2 z2]
 refine ⟨a,ys,k,j,rfl,rfl,hH,by rw [hr.length];exact hj,?_⟩
 have ok4:=ok3.put z3 ha (iW (hr.set (rep3.le (le2.trans le3)) j))
 exact bk.nx δ _ σ w3 _ ((le1.trans le2).trans le3) ok4 (((env.le le1).le le2).le le3) q3
end
section
variable {X:Cx}{e o i value:Expr}{p p2 pos pos2 pos' pc pu:Pos}
theorem fq {ta:AE} (hc:X.calm=true) (hg:Gl X "sorted") (hm:X.mg "sorted" = none) (hg2:Gl X "set") (hm2:X.mg "set" = none) (he:GE X e ta) (hs:notStar e=true:=by rfl) :
  GE X (.Call (.Name "sorted" p) [.Call (.Name "set" p2) [e] [] pos2] [] pos) (jq ta):=⟨mE (L2.fq hc hg hm hg2 hm2 he.p hs) wL⟩
theorem jH {ta:AE} (hc:X.calm=true) (hg:Gl X "tuple") (hm:X.mg "tuple" = none) (hg2:Gl X "reversed") (hm2:X.mg "reversed" = none) (he:GE X e ta) (hs:notStar e=true:=by rfl) :
  GE X (.Call (.Name "tuple" p) [.Call (.Name "reversed" p2) [e] [] pos2] [] pos) (lg ta):=⟨mE (L2.jH hc hg hm hg2 hm2 he.p hs) yN⟩
theorem pH {ta:AE}{j:Nat} (he:GE X e ta):GE X (.Subscript e (.Slice none none (some (.UnaryOp .USub (.Constant (.int 1) j pc) pu)) p2) pos) (AJ ta):=⟨mE (L2.pH he.p) EJ⟩
theorem cZ {ta tb:AE} (hu:X.A.units+1<cLine) (ho:GE X o ta) (hi:GE X i tb) (hs:sC i):GE X (.Subscript o i pos) (AW ta tb):=⟨mE (L2.cZ hu ho.p hi.p hs) EY⟩
theorem gR {ta tb tc:AE} (hu:X.A.units+1<cLine) (ho:GE X o ta) (hi:GE X i tb) (hv:GE X value tc) (hs:yau value (some (.Subscript o i pos')) pos.line X.env=pure false):GS X (.Assign [.Subscript o i pos'] value pos) (AV ta tb tc) :=
 ⟨mS (L2.gR hu ho.p hi.p hv.p hs) EW⟩
theorem BW {ta tb tc:AE} (ho:GE X o ta) (hi:GE X i tb) (hv:GE X value tc) (ha:∀ v,assign (.Subscript o i pos') X.env v=(do
   let ov ← holding [v] (eval o X.env)
   let iv ← holding [v,ov] (eval i X.env)
   standAt pos'
   holding [v,ov,iv] (setItem ov iv v)
   release [v,ov,iv] []):=by intro _;rfl) (hs:swapsWithSole [.Subscript o i pos'] value pos.line X.env=pure false:=by rfl) (hw:swappedStores [.Subscript o i pos'] value X.env=pure none:=by rfl)
  (h1:(assignEach [.Subscript o i pos'] X.env).map (·.2)=[assign (.Subscript o i pos') X.env]:=by rfl):GS X (.Assign [.Subscript o i pos'] value pos) (AR ta tb tc) :=
 ⟨mS (L2.pD hv.p (L2.Fi ho.p hi.p set_list ha) hs hw h1) EM⟩
end
section
variable {K:yaH}
noncomputable def uK (K:yaH):List Str→List AE→List (TE×TE)
 | k::ks,a::as=>(tC (.str k),aR K a)::uK K ks as
 | _,_=>[]
def qa:List AE→bU→aK→(List D→aK→Prop)→Prop
 | [],_,S,Q=>Q [] S
 | a::as,δ,S,Q=>a δ S fun r S1=>qa as δ S1 fun ds S2=>Q (r.d::ds) S2
theorem u6:∀ (ks:List Str) (as:List AE) {w:Wd}{δ:bU}{S:aK}{σ:L2.St}{H:Hp}{Qa:List D→aK→Prop}{Q:List (V×V)→Hp→Prop},ks.length=as.length→Ok K w H S→cR K w δ σ→qa as δ S Qa →
  (∀ ds S' (vs:List V) w' H',w.le w'→Ok K w' H' S'→aq K w' ds vs→vs.length=ks.length→Qa ds S'→Q ((ks.zip vs).map fun p=>(V.str p.1,p.2)) H')→oN (uK K ks as) σ H Q
 | [],[],w,δ,S,σ,H,Qa,Q,_,ok,env,q,bk=>bk [] S [] w H .refl ok .nil rfl q
 | [],_::_,_,_,_,_,_,_,_,hl,_,_,_,_=>by cases hl
 | _::_,[],_,_,_,_,_,_,_,hl,_,_,_,_=>by cases hl
 | k::ks,a::as,w,δ,S,σ,H,Qa,Q,hl,ok,env,q,bk=>by
  show aR K a σ H _
  refine ⟨w,δ,S,_,ok,env,q,.go fun r S1 v w1 H1 le1 ok1 rep1 q1 => ?_⟩
  refine u6 ks as (by simpa using hl) ok1 (env.le le1) q1 fun ds S2 vs w2 H2 le2 ok2 rep2 l2 q2 => ?_
  exact bk (r.d::ds) S2 (v::vs) w2 H2 (le1.trans le2) ok2 (.cons (rep1.le le2) rep2) (by simp [l2]) q2
theorem oh:∀ (more kvs:List (Key×V)),((kvs++more).map (·.1)).Nodup→gc kvs more=kvs++more
 | [],kvs,_=>by simp [gc]
 | p::r,kvs,h=>by
  show gc (putK kvs p.1 p.2) r=_
  have e:putK kvs p.1 p.2=kvs++[p]:=by
   unfold putK
   rw [yIn]
   intro z
   obtain ⟨q,hq,e⟩:=List.any_eq_true.mp z
   have e:q.1=p.1:=by simpa using e
   rw [zbI,zbg] at h
   exact h.2.2 q.1 (zck.mpr ⟨q,hq,rfl⟩) p.1 (by simp) e
  rw [e,oh r (kvs++[p]) (by simpa using h)]
  simp
def AU (ks:List Str) (as:List AE):AE:=fun δ S Q=>qa as δ (S++[some (.dct [] [])]) fun ds S'=>S'[S.length]? = some (some (.dct [] []))∧Q (.dat (.loc S.length)) (S'.set S.length (some (.dct (ks.map Sum.inr) ds)))
theorem EX {ks:List Str}{as:List AE} (hn:ks.Nodup) (hl:ks.length=as.length) (h15:ks.length≤15):∀ σ H Q,aR K (AU ks as) σ H Q→Dn (uK K ks as) σ H Q:=by
 rintro σ H Q ⟨w,δ,S,Qa,ok,env,q,bk⟩ p hp
 have ok1:=ok.alloc (o:=.dK []) hp
 obtain ⟨w2,le2,ok2,rep2⟩:=store ok1 (ok.fresh (o:=.dK []) (m:=.dct [] []) hp ⟨[],rfl,rfl,.nil⟩)
 refine u6 ks as hl ok2 (env.le le2) q fun ds S' vs w3 H3 le3 ok3 rep3 l3 ⟨hS,q3⟩ => ?_
 obtain ⟨a,kvs,ea,h0,h1,h2,h3⟩:=pU ok3 (rep2.le le3) hS
 cases ea
 have hk:kvs=[]:=by
  cases kvs with
  | nil=>rfl
  | cons x r=>simp at h2
 subst hk
 have em:((ks.map Sum.inr).zip vs:List (Key×V)).map (·.1)=ks.map Sum.inr:=by
  rw [zbu]
  rw [zbE,l3];exact zcy _
 have em2:((ks.map Sum.inr).zip vs:List (Key×V)).map (·.2)=vs:=by
  rw [List.map_snd_zip]
  rw [zbE,l3];exact zcy _
 refine ⟨h1,(ks.map Sum.inr).zip vs,?_,?_,?_⟩
 ·rw [List.zip_map_left,zcl]
  rfl
 ·rw [zbJ,zbE,l3,Nat.min_self];exact h15
 ·have hnd:(([]++((ks.map Sum.inr).zip vs:List (Key×V)):List (Key×V)).map (fun p=>p.1)).Nodup:=by
   rw [zbH,em]
   exact List.Pairwise.map _ (fun a b (h:a≠b) z=>h (by injection z)) hn
  rw [oh _ [] hnd,zbH]
  refine bk.dat (le2.trans le3) (ok3.put hS h0 (o':=.dct (ks.map Sum.inr) ds) ⟨_,rfl,em,by rw [em2];exact rep3⟩) (rep2.le le3) q3
theorem Kn {w:Wd}{H:Hp}{S:aK}{m:Nat}{ds:List D} (k:Ok K w H S) (e:S[m]? = some (some (.lst ds))):∃ w',w.le w'∧Ok K w' H (S.set m none)∧∀ v,Rep K w (.loc m) v→Rep K w' (.lst ds) v:=by
 obtain ⟨a,u,h1,h2,h3,xs,rfl,h4⟩:=k.live m _ e
 have le:w.le ⟨upd w.B a (.lst xs),w.r⟩:=⟨al h2,fun _ _ e=>e⟩
 have at_:∀ n o,(S.set m none)[n]? = some (some o)→n≠m∧S[n]? = some (some o):=fun n o z=>by
  by_cases hm:m=n
  ·subst hm
   rw [zbe] at z
   simp at z
  ·rw [zaz hm] at z
   exact ⟨fun y=>hm y.symm,z⟩
 refine ⟨⟨upd w.B a (.lst xs),w.r⟩,le,⟨fun b o z => ?_,fun n o z => ?_,fun n j o o' z1 z2 z => ?_,fun n hn=>k.top n (by rw [zbG] at hn;exact hn)⟩,fun v hv => ?_⟩
 ·by_cases hb:b=a
  ·subst hb
   have z:upd w.B b (.lst xs) b=some o:=z
   rw [aE] at z
   rw [h3];exact z
  ·have z:upd w.B a (.lst xs) b=some o:=z
   rw [au hb] at z
   exact k.base b o z
 ·obtain ⟨hn,z⟩:=at_ n o z
  obtain ⟨a',u',g1,g2,g3,g4⟩:=k.live n o z
  have hne:a'≠a:=fun y=>hn (k.inj n m _ _ z e (by rw [g1,h1,y]))
  exact ⟨a',u',g1,by show upd w.B a _ a'=none;rw [au hne];exact g2,g3,g4.le le⟩
 ·exact k.inj n j o o' (at_ n o z1).2 (at_ j o' z2).2 z
 ·simp only [Rep] at hv ⊢
  obtain ⟨a',g1,rfl⟩:=hv
  rw [h1] at g1;cases g1
  exact ⟨a,xs,rfl,aE,h4.le le⟩
noncomputable def sb (m:Nat) (e:D):D→D
 | .loc n=>if n=m then e else .loc n
 | d=>d
end
section
variable {X:Cx}{e:Expr}{pos:Pos}
structure JH (X:Cx) (pos:Pos) (keys:List (Option Expr)) (values:List Expr) (ks:List Str) (as:List AE):Prop where
 p:Jh X pos keys values (uK X.K ks as)
theorem pF:JH X pos [] [] [] []:=⟨L2.pF⟩
theorem f6 {k:Str}{j:Nat}{pk:Pos}{v:Expr}{keys:List (Option Expr)}{values:List Expr}{ks:List Str}{a:AE}{as:List AE} (hv:GE X v a) (hr:JH X pos keys values ks as) :
  JH X pos (some (.Constant (.str k) j pk)::keys) (v::values) (k::ks) (a::as):=⟨L2.f6 L2.av hv.p hr.p⟩
theorem pJ {keys:List (Option Expr)}{values:List Expr}{ks:List Str}{as:List AE} (h:JH X pos keys values ks as) (hall:keys.all (·.isSome)=true:=by rfl) (hl:keys.length=values.length:=by rfl) (h0:keys≠[]:=by exact List.cons_ne_nil _ _)
  (h15:keys.length≤15:=by decide) (hn:ks.Nodup:=by decide +kernel) (hl2:ks.length=as.length:=by rfl) (h15':ks.length≤15:=by decide):GE X (.Dict keys values pos) (AU ks as):=⟨mE (L2.pJ h.p hall hl h0 h15) (EX hn hl2 h15')⟩
end
end M
namespace M6
open PySem PySem.Spec PyProof.Rows
mutual
noncomputable def cS:yan→Bool
 | .int _=>true
 | .str x=>(PyData.str x).canLay0
 | .tuple xs=>di xs
 | _=>false
noncomputable def di:List yan→Bool
 | []=>true
 | x::xs=>cS x&&di xs
end
mutual
noncomputable def vC (w:yal):yan→Int
 | .int i=>hashInt i
 | .str x=>hashStr w x
 | .tuple xs=>reduceHash (Builtin.Tuple.tupleHashOf (gk w xs))
 | _=>0
noncomputable def gk (w:yal):List yan→List Int
 | []=>[]
 | x::xs=>vC w x::gk w xs
end
mutual
noncomputable def Kp:yan→Nat
 | .int _=>1
 | .str _=>1
 | .tuple xs=>mR xs+1
 | _=>0
noncomputable def mR:List yan→Nat
 | []=>0
 | x::xs=>Kp x+mR xs
end
theorem ia (w:yal):∀ a b,gk w (a++b)=gk w a++gk w b
 | [],b=>rfl
 | x::a,b=>by simp only [zbv,gk,ia w a b]
theorem j7:∀ a b,mR (a++b)=mR a+mR b
 | [],b=>by simp [mR]
 | x::a,b=>by simp only [zbv,mR,j7 a b];lia
theorem l8:∀ {xs:List yan},di xs=true→∀ x∈xs,cS x=true
 | [],_,x,hx=>by simp at hx
 | y::xs,h,x,hx=>by
  simp only [di,zbw] at h
  rcases zbW.mp hx with rfl | hx
  ·exact h.1
  ·exact l8 h.2 x hx
theorem jS:∀ {xs:List yan}{x:yan},x∈xs→x.depth≤PyData.depthAll xs
 | y::xs,x,hx=>by
  simp only [PyData.depthAll]
  rcases zbW.mp hx with rfl | hx
  ·lia
  ·have:=jS hx;lia
theorem ef (xs:List yan):(PyData.tuple xs).depth=PyData.depthAll xs+1:=by
 simp only [PyData.depth]
section
variable {prog:yak}{w:yal}
theorem nQ {s:yai}{a:Addr}{o:Obj} (ho:s.heap.get? a=some o) (hc:o.cls=Value.type "tuple"):s.TypeIs (.ref a) "tuple" := ⟨o,ho,hc⟩
theorem qJ:∀ (n:Nat) (d:yan) {v:yaj}{as:List Addr}{A:yam}{E:yaj→yai→Prop}{s:yai}{Q:Int→yai→Prop},d.depth≤n→cS d=true→Reads s.heap v d as→A.units+n<cLine →
  Q (vC w d) { s with toks:=s.toks+Kp d }→yas (model prog w) A (pyHash v) Q E s:=by
 intro n
 induction n with
 | zero =>
  intro d v as A E s Q hd hk hr hu h
  cases hr with
  | int i t=>exact wpAny_pyHash_int h
  | str x t=>exact wpAny_pyHash_str h
  | tuple ho hc hd' hall=>rw [ef] at hd;lia
  | none=>simp [cS] at hk
  | bool b=>simp [cS] at hk
  | list _ _ _ _=>simp [cS] at hk
  | dict _ _ _ _ _=>simp [cS] at hk
 | succ n ih =>
  intro d v as A E s Q hd hk hr hu h
  cases hr with
  | int i t=>exact wpAny_pyHash_int h
  | str x t=>exact wpAny_pyHash_str h
  | none=>simp [cS] at hk
  | bool b=>simp [cS] at hk
  | list _ _ _ _=>simp [cS] at hk
  | dict _ _ _ _ _=>simp [cS] at hk
  | @tuple a o vs m xs as ho hc hdat hall =>
   have hT:=nQ ho hc
   have hk:di xs=true:=hk
   rw [ef] at hd
   show yas (model prog w) A (pyHashByItsType (.ref a)) Q E s
   refine W.pyHash_slot (T := "tuple") hT F.slot_tuple_hash F.entry_tuple_hash (F.args_tuple_hash_1 (.ref a)) (by decide) (.inr (by lia)) ?_
   show yas (model prog w) A.in1 (do
    let __do_lift ← Builtin.Tuple.tupleItemsOf (.ref a)
    let __s ← forIn __do_lift (#[]:Array Int) fun x __s=>do
       let __do_lift ← pyHash x
       pure (ForInStep.yield (__s.push __do_lift))
    retInt (Builtin.Tuple.tupleHashOf __s.toList)) _ E s
   refine yaa (wpAny_tupleItemsOf ho hdat (yaa ?_))
   rw [← Array.forIn_toList]
   refine wpAny_forIn_list _ (fun rest b s'=>∃ don left as',xs=don++left∧ReadsAll s.heap rest left as'∧b.toList=gk w don∧s'={ s with toks:=s.toks+mR don }) _ ?_ ?_ vs.toList #[] ⟨[],xs,_,rfl,hall,rfl,rfl⟩
   ·rintro x rest b s' ⟨don,left,as',rfl,hl,hb,rfl⟩
    cases hl with
    | @cons _ _ d' ds as1 bs hx hrest =>
     have hm:d'∈don++d'::ds:=by simp
     refine yaa (ih d' (as:=as1) (s:={ s with toks:=s.toks+mR don }) (by have:=jS hm;lia) (l8 hk d' hm) hx (by show A.units+1+n<cLine;lia) ?_)
     refine yab ⟨don++[d'],ds,bs,by simp,hrest,?_,?_⟩
     ·rw [zbk,hb,ia];rfl
     ·rw [j7];simp only [mR,Nat.add_zero,Nat.add_assoc]
   ·rintro b s' ⟨don,left,as',rfl,hl,hb,rfl⟩
    cases hl
    rw [zbB] at h
    rw [hb]
    refine yac (wpAny_ret_mkInt (Q:=fun v s'=>∃ n t,v=Value.int n t∧Q (reduceHash n) s') ⟨_,_,rfl,?_⟩) (fun fin s' => ?_) (fun _ _ z=>z)
    ·have h:Q (reduceHash (Builtin.Tuple.tupleHashOf (gk w don))) { s with toks:=s.toks+(mR don+1) }:=h
     exact h
    ·rintro ⟨v,rfl,n,t,rfl,q⟩
     exact ⟨n,t,rfl,q⟩
theorem tL:∀ (n:Nat) (d:yan) {v:yaj}{as:List Addr}{A:yam}{E:yaj→yai→Prop}{s:yai}{Q:Bool→yai→Prop},d.depth≤n→cS d=true→Reads s.heap v d as→Q true s→yas (model prog w) A (eqIsQuiet n v) Q E s:=by
 intro n
 induction n with
 | zero =>
  intro d v as A E s Q hd hk hr h
  cases hr with
  | int i t=>rw [eqIsQuiet_byValue 0 rfl];exact yab h
  | str x t=>rw [eqIsQuiet_byValue 0 rfl];exact yab h
  | tuple ho hc hd' hall=>rw [ef] at hd;lia
  | none=>simp [cS] at hk
  | bool b=>simp [cS] at hk
  | list _ _ _ _=>simp [cS] at hk
  | dict _ _ _ _ _=>simp [cS] at hk
 | succ n ih =>
  intro d v as A E s Q hd hk hr h
  cases hr with
  | int i t=>rw [eqIsQuiet_byValue _ rfl];exact yab h
  | str x t=>rw [eqIsQuiet_byValue _ rfl];exact yab h
  | none=>simp [cS] at hk
  | bool b=>simp [cS] at hk
  | list _ _ _ _=>simp [cS] at hk
  | dict _ _ _ _ _=>simp [cS] at hk
  | @tuple a o vs m xs as ho hc hdat hall =>
   have hT:=nQ ho hc
   have hk:di xs=true:=hk
   rw [ef] at hd
   rw [eqIsQuiet.eq_def]
   refine yaa (wpAny_specialOf hT F.slot_tuple_eq.lookup ?_)
   refine yaa (wpAny_isInstance hT isSubtype_tuple_tuple ?_)
   rw [yIn (by decide)]
   refine yaa (wpAny_seqItems ho hdat (yaa ?_))
   show yas (model prog w) A (forIn vs _ _) _ E s
   rw [← Array.forIn_toList]
   refine wpAny_forIn_list _ (fun rest r s'=>r.1=none∧s'=s∧∃ left as',ReadsAll s.heap rest left as'∧∀ x∈left,x∈xs) _ ?_ ?_ vs.toList (none,()) ⟨rfl,rfl,xs,_,hall,fun _ hx=>hx⟩
   ·rintro y rest ⟨r1,r2⟩ s' ⟨hr,rfl,left,as',hl,hsub⟩
    cases hl with
    | @cons _ _ d' ds as1 bs hx hrest =>
     have hm:d'∈xs:=hsub d' (by simp)
     refine yaa (ih d' (as:=as1) (by have:=jS hm;lia) (l8 hk d' hm) hx ?_)
     exact yab ⟨rfl,rfl,ds,bs,hrest,fun x hx=>hsub x (zax _ hx)⟩
   ·rintro ⟨r1,r2⟩ s' ⟨hr,rfl,_⟩
    have hr:r1=none:=hr
    subst hr
    exact yab h
end
noncomputable instance:DecidableEq yan:=fun _ _=>Classical.propDecidable _
mutual
theorem vF:∀ x y:yan,cS x=true→cS y=true→PyData.eqv x y=decide (x=y)
 | .int i,.int j,_,_=>by
  simp only [PyData.eqv]
  by_cases h:i=j
  ·subst h;simp
  ·have : ¬ PyData.int i = .int j:=fun e=>h (by injection e)
   rw [yDf this];simpa using h
 | .str i,.str j,_,_=>by
  simp only [PyData.eqv]
  by_cases h:i=j
  ·subst h;simp
  ·have : ¬ PyData.str i = .str j:=fun e=>h (by injection e)
   rw [yDf this];simpa using h
 | .tuple xs,.tuple ys,hx,hy=>by
  simp only [PyData.eqv]
  rw [jg xs ys hx hy]
  by_cases h:xs=ys
  ·subst h;simp
  ·have : ¬ PyData.tuple xs = .tuple ys:=fun e=>h (by injection e)
   rw [yDf this,yDf h]
 | .int i,.str j,_,_=>by rw [yDf (fun e=>nomatch e)];rfl
 | .int i,.tuple j,_,_=>by rw [yDf (fun e=>nomatch e)];rfl
 | .str i,.int j,_,_=>by rw [yDf (fun e=>nomatch e)];rfl
 | .str i,.tuple j,_,_=>by rw [yDf (fun e=>nomatch e)];rfl
 | .tuple i,.int j,_,_=>by rw [yDf (fun e=>nomatch e)];rfl
 | .tuple i,.str j,_,_=>by rw [yDf (fun e=>nomatch e)];rfl
 | .none,_,h,_=>by simp [cS] at h
 | .bool _,_,h,_=>by simp [cS] at h
 | .list _,_,h,_=>by simp [cS] at h
 | .dict _,_,h,_=>by simp [cS] at h
 | _,.none,_,h=>by simp [cS] at h
 | _,.bool _,_,h=>by simp [cS] at h
 | _,.list _,_,h=>by simp [cS] at h
 | _,.dict _,_,h=>by simp [cS] at h
theorem jg:∀ x y:List yan,di x=true→di y=true→PyData.eqvAll x y=decide (x=y)
 | [],[],_,_=>by simp [PyData.eqvAll]
 | [],y::ys,_,_=>by simp [PyData.eqvAll]
 | x::xs,[],_,_=>by simp [PyData.eqvAll]
 | x::xs,y::ys,hx,hy=>by
  simp only [di,zbw] at hx hy
  simp only [PyData.eqvAll]
  rw [vF x y hx.1 hy.1,jg xs ys hx.2 hy.2]
  by_cases h:x=y <;> by_cases g:xs=ys <;> simp [h,g]
end
mutual
theorem t9:∀ x:yan,cS x=true→x.canLay0=true
 | .int i,_=>rfl
 | .str i,h=>h
 | .tuple xs,h=>by simp only [PyData.canLay0];exact vp xs h
 | .none,h=>by simp [cS] at h
 | .bool _,h=>by simp [cS] at h
 | .list _,h=>by simp [cS] at h
 | .dict _,h=>by simp [cS] at h
theorem vp:∀ x:List yan,di x=true→PyData.canLayAll0 x=true
 | [],_=>rfl
 | x::xs,h=>by
  simp only [di,zbw] at h
  simp only [PyData.canLayAll0,t9 x h.1,vp xs h.2,zce]
end
def isKey (h:Heap) (d:yan) (a:Addr):Prop:=cS d=true∧d.depth≤6∧∃ as,Reads h (.ref a) d as
mutual
theorem nZ {h h':Heap}{b:Addr}{ob:Obj}{es:Array yaw}{ep:Nat} (hb:h.get? b=some ob) (hd:ob.data=Data.dict es ep) (sm:Heap.SameBut b h h'):∀ (d:yan) {v:yaj}{as:List Addr},cS d=true→Reads h v d as→Reads h' v d as
 | .int i,v,as,hk,hr=>by cases hr;exact .int ..
 | .str i,v,as,hk,hr=>by cases hr;exact .str ..
 | .tuple xs,v,as,hk,hr=>by
  cases hr with
  | @tuple a o vs m _ _ ho hc hdat hall =>
   have hne:a≠b:=fun e=>by
    subst e
    rw [hb] at ho;cases ho
    rw [hd] at hdat;cases hdat
   exact .tuple (by rw [sm.2 a hne];exact ho) hc hdat (lT hb hd sm xs hk hall)
 | .none,_,_,h,_=>by simp [cS] at h
 | .bool _,_,_,h,_=>by simp [cS] at h
 | .list _,_,_,h,_=>by simp [cS] at h
 | .dict _,_,_,h,_=>by simp [cS] at h
theorem lT {h h':Heap}{b:Addr}{ob:Obj}{es:Array yaw}{ep:Nat} (hb:h.get? b=some ob) (hd:ob.data=Data.dict es ep) (sm:Heap.SameBut b h h'):∀ (ds:List yan) {vs:List yaj}{as:List Addr},di ds=true→ReadsAll h vs ds as→ReadsAll h' vs ds as
 | [],vs,as,hk,hr=>by cases hr;exact .nil
 | d::ds,vs,as,hk,hr=>by
  simp only [di,zbw] at hk
  cases hr with
  | cons hx hr=>exact .cons (nZ hb hd sm d hk.1 hx) (lT hb hd sm ds hk.2 hr)
end
noncomputable def jj (prog:yak) (w:yal):HeapKind prog w yan where
 is:=isKey
 hash:=vC w
 draws:=Kp
 room:=fun A=>A.units+10<cLine
 inj:=fun ⟨_,_,as,hx⟩ ⟨_,_,bs,hy⟩=>(Reads.unique hx _ _ hy).1
 keeps:=fun ⟨h1,h2,as,hr⟩ hb hd sm=>⟨h1,h2,as,nZ hb hd sm _ h1 hr⟩
 pyHash:=fun hu ⟨h1,h2,as,hr⟩ h=>qJ 6 _ h2 h1 hr (by lia) h
 eqBool:=fun {A E s x y a b Q} hu ⟨h1,h2,as,hr⟩ ⟨g1,g2,bs,gr⟩ h=>SeqAt.eqBoolOverData prog w A E s _ _ _ _ _ _ Q hr gr (t9 _ h1) (t9 _ g1) (by lia) (by
  rw [vF _ _ h1 g1]
  exact h)
 quiet:=fun ⟨h1,h2,as,hr⟩ h=>tL 8 _ (by lia) h1 hr h
def gC (h:Heap) (d:Addr) (es:Array yaw) (ep:Nat):Prop:=∃ o,h.get? d=some o∧o.ExactDict∧o.data=Data.dict es ep
theorem gC.at {h h':Heap}{d:Addr}{es:Array yaw}{ep:Nat} (x:gC h d es ep) (e:∀ o,h.get? d=some o→h'.get? d=some o):gC h' d es ep:=let ⟨o,ho,r⟩:=x;⟨o,e o ho,r⟩
section
variable {prog:yak}{w:yal}{A:yam}{E:yaj→yai→Prop}{s:yai}
theorem gC.typeIs {d:Addr}{es:Array yaw}{ep:Nat} (x:gC s.heap d es ep):s.TypeIs (.ref d) "dict" := let ⟨o,ho,hc,_⟩:=x;⟨o,ho,hc.1⟩
theorem nextK {it d:Addr}{i ep:Nat}{es:Array yaw}{e:yaw}{Q:Option yaj→yai→Prop} (hit:s.heap.IsKeyIter it d i es.size ep) (hD:gC s.heap d es ep) (hx:es[i]? = some e)
  (hQ:∀ h',h'.IsKeyIter it d (i+1) es.size ep→Heap.SameBut it s.heap h'→Q (some e.key) { s with heap:=h' }):yas (model prog w) A (pyNext (.ref it)) Q E s:=by
 obtain ⟨o,ho,hc,hd⟩:=id hit
 obtain ⟨od,hod,hcd,hdd⟩:=id hD
 have hT:=Heap.IsKeyIter.typeIs hit
 unfold pyNext
 refine yaa (wpAny_attempt (wpAny_callSpecial?_slot (name:=Str.ofString "__next__") hT F.slot_dict_keyiterator_next
  (wpAny_call_entry F.slot_dict_keyiterator_next hT F.entry_dict_keyiterator_next ?_ (F.args_dict_keyiterator_next_1 _))))
 unfold Builtin.«dict_keyiterator.__next__»
 refine yaa (yab ?_)
 refine yaa ?_
 refine yaa ?_
 refine yaa (wpAny_typeNameOfWhole_keyiter hT (yab ?_))
 have hown:Builtin.Dict_items.ownsTuple "dict_keyiterator" = false:=by decide +kernel
 refine yaa (wpAny_fieldsOf ho hd ?_)
 simp only [hown,zaX,if_false,List.drop_zero]
 show yas (model prog w) A.in1 (if (Value.ref d==Value.none)=true then _ else _) _ _ s
 rw [yIn (by exact zaW)]
 refine yaa (yab ?_)
 refine yaa (wpAny_dictEntries hod hdd ?_)
 rw [yIn (by simp)]
 refine yaa (yab ?_)
 refine yaa (wpAny_dictEpoch hod hdd ?_)
 rw [yIn (by simp)]
 refine yab ?_
 dsimp only
 rw [yIn (by lia),show ((i:Int)).toNat=i from zbi i,hx]
 dsimp only
 refine yaa (?_)
 refine yaa (wpAny_typeNameOfWhole_keyiter hT (yab ?_))
 simp only [hown,zaX,if_false]
 refine yaa (wpAny_isOneOf_keyiter hT ?_)
 refine yaa (wpAny_setField ho hd (by simp) ?_)
 have e1:∀ b:Bool,b=false→(if b=true then (i:Int) - 1 else (i:Int)+1)=((i+1:Nat):Int):=fun b hb=>by subst hb;simp
 rw [e1 _ (by decide +kernel)]
 refine yaa (yad ?_)
 have ho2:=zaw (Obj.mapFields (·.setIfInBounds (0+1) (rawInt ((i+1:Nat):Int)))) ho (Obj.isFreed_of_fields (Obj.data_mapFields hd _))
 have hc2:=(Obj.cls_mapFields o (·.setIfInBounds (0+1) (rawInt ((i+1:Nat):Int)))).trans hc
 refine yaa (wpAny_isOneOf_keyiter ⟨_,ho2,hc2⟩ ?_)
 rw [yIp (by decide +kernel)]
 refine yab (yab ⟨e.key,rfl,yab (hQ _ ?_ (Heap.SameBut.update ..))⟩)
 exact ⟨_,ho2,hc2,by rw [Obj.data_mapFields hd];simp [rawInt]⟩
theorem IC {it d:Addr}{ep:Nat}{es:Array yaw}{Q:Option yaj→yai→Prop} (hh:A.handled=none) (hit:s.heap.IsKeyIter it d es.size es.size ep) (hD:gC s.heap d es ep)
  (hQ:∀ h',Heap.ExtBut it s.heap h'→Q none { s with heap:=h' }):yas (model prog w) A (pyNext (.ref it)) Q E s:=by
 obtain ⟨o,ho,hc,hd⟩:=id hit
 obtain ⟨od,hod,hcd,hdd⟩:=id hD
 have hT:=Heap.IsKeyIter.typeIs hit
 unfold pyNext
 refine yaa (wpAny_attempt (wpAny_callSpecial?_slot (name:=Str.ofString "__next__") hT F.slot_dict_keyiterator_next
  (wpAny_call_entry F.slot_dict_keyiterator_next hT F.entry_dict_keyiterator_next ?_ (F.args_dict_keyiterator_next_1 _))))
 unfold Builtin.«dict_keyiterator.__next__»
 refine yaa (yab ?_)
 refine yaa ?_
 refine yaa ?_
 refine yaa (wpAny_typeNameOfWhole_keyiter hT (yab ?_))
 have hown:Builtin.Dict_items.ownsTuple "dict_keyiterator" = false:=by decide +kernel
 refine yaa (wpAny_fieldsOf ho hd ?_)
 simp only [hown,zaX,if_false,List.drop_zero]
 show yas (model prog w) A.in1 (if (Value.ref d==Value.none)=true then _ else _) _ _ s
 rw [yIn (by exact zaW)]
 refine yaa (yab ?_)
 refine yaa (wpAny_dictEntries hod hdd ?_)
 rw [yIn (by simp)]
 refine yaa (yab ?_)
 refine yaa (wpAny_dictEpoch hod hdd ?_)
 rw [yIn (by simp)]
 refine yab ?_
 dsimp only
 rw [yIn (by lia),show ((es.size:Int)).toNat=es.size from zbi _,zal (zcy _)]
 dsimp only
 refine yaa ?_
 refine yaa (wpAny_typeNameOfWhole_keyiter hT (yab ?_))
 simp only [hown,zaX,if_false]
 refine yaa (wpAny_setField ho hd (by simp) ?_)
 refine yaa ?_
 simp only [newExc,newTuple]
 refine yaa (yaf ?_ (by size_fits))
 refine yaa (m:=firstArgMember _ _) (wpAny_of_eq (a:=Value.none) (by first | rfl | (simp only [firstArgMember];rfl)) ?_)
 refine yaf ?_ (by size_fits)
 simp only [raiseNew]
 refine yaa (wpAny_handled ?_)
 first | rw [show A.in1.handled=none from hh] | rw [hh]
 refine yaa (yab (wpAny_throw ?_))
 refine yaa (wpAny_isInstance (T := "StopIteration") (b:=true) ⟨_,zaK _ rfl,rfl⟩ isSubtype_stop ?_)
 refine yab (hQ _ (Heap.ExtBut.push (Heap.ExtBut.push ?_ _) _))
 exact fun b ob hb e=>(zao _ _ (Ne.symm hb)).trans e
theorem DJ {d:Addr}{ep:Nat}{es:Array yaw}{Q:yaj→yai→Prop} (hd:(d==yat)=false) (hD:gC s.heap d es ep)
  (hQ:Q (.ref s.heap.objs.size) { s with heap:=s.heap.push { cls:=.type "dict_keyiterator",data:=.fields #[.ref d,.int 0 0,.int es.size 0,.int ep 0] } }):yas (model prog w) A (pyIter (.ref d)) Q E s:=by
 obtain ⟨od,hod,hcd,hdd⟩:=id hD
 have hT:=hD.typeIs
 refine wpAny_pyIter_slot hT F.slot_dict_iter (wpAny_call_entry F.slot_dict_iter hT F.entry_dict_iter ?_ (F.args_dict_iter_1 _))
 unfold Builtin.«dict.__iter__»
 refine yaa (yaa (wpAny_notOrdered_dict hT (yab ?_)))
 refine yaa (yab ?_)
 unfold Builtin.Dict.showsAll
 rw [yIn (by rw [hd];exact zaW)]
 refine yaa (yab ?_)
 refine yaa (wpAny_dictEntries hod hdd ?_)
 refine yaa (wpAny_dictEpoch hod hdd ?_)
 refine yaa (yaf ?_ (by size_fits))
 exact yab ⟨_,rfl,"dict_keyiterator",_,⟨_,zaK _ rfl,rfl⟩,F.slot_dict_keyiterator_next.lookup,hQ⟩
theorem D7 (hh:A.handled=none) (I d:Addr) (hne:d≠I) (es:Array yaw) (ep:Nat) :
  Walks prog w A I [I,d] [I] es.size (fun i v=>∃ e,es[i]? = some e∧v=e.key) (fun i h=>h.IsKeyIter I d i es.size ep∧gC h d es ep) where
 sub:=fun b hb=>by simp only [zaP] at hb;simp [hb]
 frame:=fun i h h' st hk=>⟨Heap.IsKeyIter.at st.1 fun o e=>hk I (by simp) o e,st.2.at fun o e=>hk d (by simp) o e⟩
 item:=fun i s Q E hi st hQ=>by
  have hx:es[i]? = some es[i]:=zag hi
  refine nextK st.1 st.2 hx fun h' hit' hs'=>hQ es[i].key h' s.toks ⟨es[i],hx,rfl⟩ ⟨hit',st.2.at fun o e=>by rw [hs'.2 d hne];exact e⟩ fun b o hb e => ?_
  rw [hs'.2 b (fun z=>hb (by simp [z]))];exact e
 done:=fun s Q E st hQ=>IC hh st.1 st.2 fun h' he=>hQ h' s.toks fun b o hb e=>he b o (fun z=>hb (by simp [z])) e
 self:=fun i s Q E st hQ=>wpAny_pyIter_keyiter st.1 hQ
theorem Hl {d:Addr}{es:Array yaw}{ep:Nat} (lo:(d==yat)=false):W.KdlSrc prog w "dict" d d es.size (fun i v=>∃ e,es[i]? = some e∧v=e.key) (fun h=>gC h d es ep) where
 type:=fun s hm=>hm.typeIs
 there:=fun h hm=>by obtain ⟨o,ho,_⟩:=hm;exact ⟨zcw ho,zcw ho⟩
 keep:=fun h h' hm hk=>hm.at fun o e=>hk d (.inl rfl) o e
 notList:=by decide
 notTuple:=by decide
 hint:=fun A E s Q hm hq=>W.kdl_hint_dict hm.typeIs hq
 iter:=fun A s hh hm=>by
  have hlt:d<s.heap.objs.size:=by obtain ⟨o,ho,_⟩:=hm;exact zcw ho
  exact ⟨_,_,fun E Q hq=>DJ lo hm hq,D7 hh s.heap.objs.size d (zcn hlt) es ep,⟨_,zaK _ rfl,rfl,rfl⟩,hm.at fun o e=>zan _ e⟩
theorem Ao {d:Addr}{es:Array yaw}{ep:Nat}{R:List yaj→yai→Prop} (lo:(d==yat)=false) (hh:A.handled=none) (hD:gC s.heap d es ep) (hl:es.size≤yah)
  (h:∀ (h':Heap) (tk:Nat),(∀ b o,s.heap.get? b=some o→h'.get? b=some o)→R (es.toList.map (·.key)) { s with heap:=h',toks:=tk }):yas (model prog w) A (collect (.ref d)) R E s:=by
 refine W.kdu_collect (Hl lo) hh hD hl fun h' tk acc kp hacc => ?_
 have:acc.toList=es.toList.map (·.key):=by
  refine List.ext_getElem? fun i => ?_
  rw [zav,zbb,zav]
  cases z:acc[i]? with
  | some v =>
   obtain ⟨e,he,rfl⟩:=hacc.2 i v z
   rw [he];rfl
  | none =>
   have:es.size≤i:=by rw [← hacc.1];exact Array.getElem?_eq_none_iff.mp z
   rw [zal this];rfl
 rw [this]
 exact h h' tk kp
end
end M6
namespace L2
open PySem PySem.Spec PyProof.Rows M6
section
variable {X:Cx}{pins:List (Addr×Obj)}{σ:St}{H:Hp}{s:yai}{A:yam}{E:yaj→yai→Prop}
def Jk (K:yaH) (H:Hp) (xs:List (yan×Addr)):Prop:=∀ x∈xs,cS x.1=true∧x.1.depth≤6∧cz K H x.1 (.ref x.2)
theorem Inv.key (I:Inv X pins σ H s) {d:yan}{b:Addr} (h1:cS d=true) (h2:d.depth≤6) (h3:cz X.K H d (.ref b)):isKey s.heap d b :=
 ⟨h1,h2,I.reads d (.ref b) (.ref b) h3 rfl⟩
end
theorem nP {α:Type} (f:α→Addr):∀ l:List α,Vals (l.map fun x=>V.ref (f x)) (l.map fun x=>Value.ref (f x))
 | []=>.nil
 | x::l=>.cons rfl (nP f l)
end L2
namespace M6
open PySem PySem.Spec PyProof.Rows
section
variable {prog:yak}{w:yal}{A:yam}{E:yaj→yai→Prop}{s:yai}
theorem zR {es:Array yaw}{acc:Array yaj} (hacc:ItemsOf (fun i v=>∃ e,es[i]? = some e∧v=e.key) acc es.size):acc.toList=es.toList.map (·.key):=by
 refine List.ext_getElem? fun i => ?_
 rw [zav,zbb,zav]
 cases z:acc[i]? with
 | some v =>
  obtain ⟨e,he,rfl⟩:=hacc.2 i v z
  rw [he];rfl
 | none =>
  have:es.size≤i:=by rw [← hacc.1];exact Array.getElem?_eq_none_iff.mp z
  rw [zal this];rfl
end
end M6
namespace L2
open PySem PySem.Spec PyProof.Rows M6
theorem FY {k:Key}{u:yaj} (h:mF k u=true):RelV (kV k) u:=by
 rcases bH h with ⟨i,t,rfl,rfl⟩ | ⟨x,t,rfl,rfl⟩
 ·exact ⟨t,rfl⟩
 ·exact ⟨t,rfl⟩
theorem mz {prog:yak}{w:yal}:∀ {kvs:List (Key×V)}{vs:List (Key×yaj)}{es:List yaw},KV kvs vs→Pairs (bz prog w) es vs→Vals (kvs.map fun p=>kV p.1) (es.map (·.key))
 | [],_,es,h1,h2=>by cases h1;cases h2;exact .nil
 | p::kvs,_,es,h1,h2=>by
  cases h1 with
  | cons r t =>
   cases h2 with
   | cons g1 g2 g3 =>
    refine .cons ?_ (mz t g3)
    show RelV (kV p.1) _
    rw [r.1]
    exact FY g1
def Fc:List V→Hp→VK→Prop:=fun xs H Q=>∃ (a:Addr) (kvs:List (Key×V)),xs=[.ref a]∧H a=some (.dK kvs)∧∀ p,H p=none→Q (.ref p) (upd H p (.lst (kvs.map fun x=>kV x.1)))
def HR (neg:Bool):R2:=fun y x H Q=>∃ a kvs k,x = .ref a∧y=kV k∧H a=some (.dK kvs)∧Q (.bl (neg != (eL kvs k).isSome)) H
section
variable {X:Cx}
theorem zh {pins:List (Addr×Obj)}{σ:St}{H:Hp}{s:yai}{a:Addr}{kvs:List (Key×V)} (I:Inv X pins σ H s) (e:H a=some (.dK kvs)):(a==yat)=false∧kvs.length≤yah∧∃ es ep,gC s.heap a es ep∧Vals (kvs.map fun x=>kV x.1) (es.toList.map (·.key)):=by
 obtain ⟨z,hd,vs,rel,o,es,ep,ho,hx,hdat,hk,hp,hn⟩:=vG I.hok e
 exact ⟨hd,z,es,ep,⟨o,ho,hx,hdat⟩,mz rel hp⟩
theorem uv {k:Nat} (hr:bE k X.A):b6 X (.type "list") Fc:=by
 intro pins s σ H xs us Q I r h
 obtain ⟨a,kvs,rfl,e,q⟩:=h
 obtain ⟨u,rfl,ru⟩:=vals1 r
 cases ru
 obtain ⟨lo,hz,es,ep,hD,hv⟩:=zh I e
 have hl:es.size=kvs.length:=by have:=hv.length;simpa using this.symm
 refine W.kdl_call (Hl lo) hr.hd hD (by rw [hl];exact hz) fun h' tk acc c kp g hacc => ?_
 have ea:acc.toList=es.toList.map (·.key):=zR hacc
 refine ⟨.ref s.heap.objs.size,_,I.laid (a:=s.heap.objs.size) (t':=tk) (o:=.lst (kvs.map fun x=>kV x.1)) kp (zcy _) ⟨by rw [zbE];exact hz,acc.toList,c,by rw [ea];exact hv,by rw [zaE];exact g⟩,rfl,q _ (I.hok.fresh (zcy _))⟩
theorem wV (hu:X.A.units+1<cLine):gH X (yao .NotIn) (HR true):=by
 intro pins s σ H y x v u Q I ry rx h
 obtain ⟨a,kvs,k,rfl,rfl,e,q⟩:=h
 obtain rfl:u=Value.ref a:=rx
 exact Cw hu I (nk.k e) ry fun s3 I3=>⟨.bl (!(eL kvs k).isSome),H,I3,rfl,by simpa using q⟩
end
end L2
namespace M6
open PySem PySem.Spec PyProof.Rows
section
variable {prog:yak}{w:yal}{A:yam}{E:yaj→yai→Prop}{s:yai}{K:Type} [DecidableEq K] {knd:KeyKind prog w K}
theorem Cv {h h':Heap}{d:Addr}{kvs:List (K×yaj)} (x:Heap.DictOf knd h d kvs) (e:∀ o,h.get? d=some o→h'.get? d=some o):Heap.DictOf knd h' d kvs:=by
 obtain ⟨o,es,ep,h1,r⟩:=x
 exact ⟨o,es,ep,e o h1,r⟩
end
end M6
namespace L2
open PySem PySem.Spec PyProof.Rows M6
theorem nY:∀ {ts:List Addr}{us:List yaj},Vals (ts.map V.ref) us→us=ts.map Value.ref
 | [],us,h=>by cases h;rfl
 | t::ts,us,h=>by
  cases h with
  | cons r g =>
   obtain rfl:_=Value.ref t:=r
   rw [nY g];rfl
end L2
namespace M
open PySem PySem.Spec PyProof.Rows L2 M6
noncomputable def keyOf:D→Option Key
 | .int i=>some (.inl i)
 | .str x=>some (.inr x)
 | _=>none
noncomputable def kD:Key→D
 | .inl i=>.int i
 | .inr x=>.str x
noncomputable def Ak (ks:List Key) (k:Key):Bool:=ks.any fun j=>decide (j=k)
section
variable {K:yaH}
theorem kQ {w:Wd}{d:D}{v:V}{k:Key} (h:Rep K w d v) (e:keyOf d=some k):v=kV k:=by
 cases d <;> simp only [keyOf] at e <;> cases e
 ·simpa [Rep,kV] using h
 ·simpa [Rep,kV] using h
theorem BA {w:Wd}{S:aK}{d:D}{v:V}{k:Key} (h:Rep K w d v) (e:keyOf (bf S d)=some k):v=kV k:=by
 cases z:bf S d <;> rw [z] at e <;> simp only [keyOf] at e <;> cases e
 ·exact b9 h z
 ·exact bK h z
theorem zP {w:Wd} (k:Key):Rep K w (kD k) (kV k):=by cases k <;> simp [kD,kV,Rep]
theorem vq {w:Wd}:∀ (kvs:List (Key×V)),aq K w ((kvs.map (·.1)).map kD) (kvs.map fun x=>kV x.1)
 | []=>.nil
 | p::r=>.cons (zP p.1) (vq r)
def qh:AE:=fun _ S Q=>Q (.new (.dct [] [])) S
theorem BI:∀ σ H Q,aR K qh σ H Q→yt σ H Q:=by
 rintro σ H Q ⟨w,δ,S,Qa,ok,env,q,bk⟩ p hp
 exact bk (.new (.dct [] [])) S _ w _ .refl (ok.alloc hp) (ok.fresh hp ⟨[],rfl,rfl,.nil⟩) q
def m7 (a b:AE):AE:=fun δ S Q=>a δ S fun r1 S1=>b δ S1 fun r2 S2=>∃ ks ds k d,bf S2 r1.d = .dct ks ds∧keyOf r2.d=some k∧fz ks ds k=some d∧Q (.dat d) S2
theorem BK {a b:AE}:∀ σ H Q,aR K (m7 a b) σ H Q→yw (aR K a) (aR K b) σ H Q:=by
 rintro σ H Q ⟨w,δ,S,Qa,ok,env,q,bk⟩
 refine ⟨w,δ,S,_,ok,env,q,.go fun r1 S1 v1 w1 H1 le1 ok1 rep1 q1 => ?_⟩
 refine ⟨w1,δ,S1,_,ok1,env.le le1,q1,.go fun r2 S2 v2 w2 H2 le2 ok2 rep2 ⟨ks,ds,k,d,z1,z2,z3,q2⟩ => ?_⟩
 obtain ⟨a,kvs,rfl,h1,rfl,h3⟩:=cY ok2 (rep1.le le2) z1
 obtain ⟨v,g1,g2⟩:=jb h3 z3
 rw [kQ rep2 z2]
 refine ⟨a,v,rfl,?_,bk.dat (le1.trans le2) ok2 g2 q2⟩
 rw [← g1]
 exact nk.k h1
def qg (a b c:AE):AS:=fun D δ S=>c δ S fun r3 S1=>a δ S1 fun r1 S2=>b δ S2 fun r2 S3=>∃ n ks ds k,r1.d = .loc n∧keyOf r2.d=some k∧S3[n]? = some (some (.dct ks ds))∧ds.length<1000∧D.nx δ (S3.set n (some (pV ks ds k r3.d)))
theorem BH {a b c:AE}:∀ D σ H,dU K (qg a b c) D σ H→za (aR K a) (aR K b) (aR K c) D σ H:=by
 rintro D σ H ⟨w,δ,S,Da,ok,env,q,bk⟩
 refine ⟨w,δ,S,_,ok,env,q,.go fun r3 S1 v3 w1 H1 le1 ok1 rep3 q1 => ?_⟩
 refine ⟨w1,δ,S1,_,ok1,env.le le1,q1,.go fun r1 S2 v1 w2 H2 le2 ok2 rep1 q2 => ?_⟩
 refine ⟨w2,δ,S2,_,ok2,(env.le le1).le le2,q2,.go fun r2 S3 v2 w3 H3 le3 ok3 rep2 ⟨n,ks,ds,k,z1,z2,z3,hl,q3⟩ => ?_⟩
 rw [z1] at rep1
 obtain ⟨a,kvs,rfl,h0,h1,rfl,h3⟩:=pU ok3 (rep1.le le3) z3
 rw [kQ rep2 z2]
 have hlen:kvs.length=ds.length:=by have:=h3.length;rw [zbE] at this;exact this
 refine ⟨a,_,rfl,x6.k h1 (by rw [hlen,yag];lia),?_⟩
 have ok4:=ok3.put z3 h0 (qK (k:=k) (rep3.le (le2.trans le3)) h3)
 exact bk.nx δ _ σ w3 _ ((le1.trans le2).trans le3) ok4 (((env.le le1).le le2).le le3) q3
def CU (neg:Bool):A2:=fun x y S Q=>match bf S y with
 | .dct ks _=>∃ k,keyOf (bf S x)=some k∧Q (.dat (.bl (neg != Ak ks k))) S
 | _=>False
theorem IW {neg:Bool}:∀ x y H Q,xE K (CU neg) x y H Q→HR neg x y H Q:=by
 intro x y H Q h
 obtain ⟨w,d,e,S,Qa,ok,r1,r2,q,bk⟩:=h
 unfold CU at q
 cases z:bf S e <;> rw [z] at q <;> first | exact q.elim | skip
 obtain ⟨k,z1,q⟩:=q
 obtain ⟨a,kvs,rfl,h1,rfl,h3⟩:=cY ok r2 z
 refine ⟨a,kvs,k,rfl,BA r1 z1,h1,bk.dat .refl ok .bl ?_⟩
 have e2:Ak (kvs.map (·.1)) k=(eL kvs k).isSome:=by
  unfold Ak
  rw [zcj]
  exact lA k kvs
 rw [← e2];exact q
def qe:AN:=fun ds S Q=>∃ d ks es,ds=[d]∧bf S d = .dct ks es∧Q (.new (.lst (ks.map kD))) S
end
section
variable {X:Cx}{o i value:Expr}{pos pos':Pos}
theorem i0:GE X (.Dict [] [] pos) qh:=⟨mE L2.i0 BI⟩
theorem l5 {ta tb:AE} (hu:X.A.units+1<cLine) (ho:GE X o ta) (hi:GE X i tb) (hs:sC i):GE X (.Subscript o i pos) (m7 ta tb):=⟨mE (L2.cZ hu ho.p hi.p hs) BK⟩
theorem qN {ta tb tc:AE} (hu:X.A.units+1<cLine) (ho:GE X o ta) (hi:GE X i tb) (hv:GE X value tc) (hs:yau value (some (.Subscript o i pos')) pos.line X.env=pure false):GS X (.Assign [.Subscript o i pos'] value pos) (qg ta tb tc) :=
 ⟨mS (L2.gR hu ho.p hi.p hv.p hs) BH⟩
theorem zE {k:Nat} (hr:bE k X.A):qo X (yao .NotIn) (CU true):=⟨m2 (wV (c9 hr)) IW⟩
theorem pN {k:Nat} (hr:bE k X.A):C8 X (.type "list") qe:=⟨mC (uv hr) fun xs H Q h=>by
 obtain ⟨w,ds,S,Qa,ok,rep,⟨d,ks,es,rfl,z,q⟩,bk⟩:=h
 obtain ⟨v,rfl,r1⟩:=iV rep
 obtain ⟨a,kvs,rfl,h1,rfl,h3⟩:=cY ok r1 z
 exact ⟨a,kvs,rfl,h1,fun p hp=>bk (.new (.lst _)) S _ w _ .refl (ok.alloc hp) (ok.fresh hp ⟨_,rfl,vq kvs⟩) q⟩⟩
end
def gK (d:D):Prop:=cI d=true∧cS (py d)=true∧(py d).depth≤6∧∃ es,d = .tup es
section
variable {K:yaH}
theorem ja {w:Wd}{H:Hp}{S:aK}{d:D}{v:V} (ok:Ok K w H S) (h:Rep K w d v) (g:gK d):∃ b,v = .ref b∧cz K H (py d) (.ref b):=by
 obtain ⟨g1,g2,g3,es,rfl⟩:=g
 have h2:=h
 simp only [Rep] at h2
 obtain ⟨b,ys,rfl,_⟩:=h2
 have:=uZ ok h (by simpa [bf] using g1)
 exact ⟨b,rfl,by simpa [bf] using this⟩
theorem qY {w:Wd}{H:Hp}{S:aK} (ok:Ok K w H S):∀ {ks:List D}{bs:List Addr},aq K w ks (bs.map V.ref)→(∀ k∈ks,gK k)→Jk K H ((ks.map py).zip bs)
 | [],bs,_,_=>fun x hx=>by simp at hx
 | k::ks,[],h,_=>by simp only [zci,aq] at h;obtain ⟨_,_,z,_⟩:=h;cases z
 | k::ks,b::bs,h,g=>by
  simp only [zbX,aq] at h
  obtain ⟨x,r,e,h1,h2⟩:=h
  injection e with e1 e2
  subst e1;subst e2
  intro y hy
  rw [zbX,zaQ] at hy
  rcases zbW.mp hy with rfl | hy
  ·obtain ⟨b',e,hd⟩:=ja ok h1 (g k (by simp))
   cases e
   exact ⟨(g k (by simp)).2.1,(g k (by simp)).2.2.1,hd⟩
  ·exact qY ok h2 (fun k hk=>g k (zax _ hk)) y hy
end
end M
namespace M8
open PySem PySem.Spec PyProof.Rows
open PySem.SetTable (Probe bits runEnd leap turns)
noncomputable def KZ (m:Nat) (p:Probe):Probe :=
 if p.more > 0 then { p with j:=p.j+1,more:=p.more - 1 } else
 { p with j:=(leap m p.i p.perturb).1,more:=runEnd m (leap m p.i p.perturb).1 - (leap m p.i p.perturb).1,i:=(leap m p.i p.perturb).1,perturb:=(leap m p.i p.perturb).2 }
theorem Kr (t:SetTable) (p:Probe):t.advance p=KZ t.mask p:=rfl
noncomputable def fO (m:Nat) (q:Nat×Nat):Probe:={ j:=q.1,more:=runEnd m q.1 - q.1,i:=q.1,perturb:=q.2,dummy:=none }
noncomputable def ru (m:Nat) (h:Int):Nat→Nat×Nat
 | 0=>(bits h % (m+1),bits h)
 | k+1=>leap m (ru m h k).1 (ru m h k).2
noncomputable def road (m:Nat) (h:Int):Nat→Probe
 | 0=>fO m (ru m h 0)
 | n+1=>KZ m (road m h n)
theorem Hj (t:SetTable) (h:Int):t.probeStart h=road t.mask h 0:=rfl
noncomputable def lcg (m i:Nat):Nat:=(i*5+1) % (m+1)
noncomputable def it (m:Nat):Nat→Nat→Nat
 | 0,i=>i
 | k+1,i=>it m k (lcg m i)
abbrev Ent:=Nat×(Int×yaj)
noncomputable def fs (l:List Ent):List Nat:=l.map (·.1)
section
variable {t:SetTable}{es:Array (Int×yaj)}{l:List Ent}
noncomputable def more (l:List Ent) (p:Nat) (e:Ent):List Ent:=l.take p++e::l.drop p
end
end M8
namespace M9
open PySem PySem.Spec PyProof.Rows
section
variable {prog:yak}{w:yal}{A:yam}{E:yaj→yai→Prop}{s:yai}
noncomputable abbrev G3 (l:Addr):Obj:={ cls:=.type "tuple_iterator",data:=.fields #[.ref l,.int 0 0] }
noncomputable abbrev KP (a b:yaj):Obj:={ cls:=.type "tuple",data:=.seq #[a,b] }
noncomputable abbrev zO (a b:Addr):Obj:={ cls:=.type "zip",data:=.fields #[.none,.bool false,.bool false,.ref a,.ref b] }
noncomputable abbrev q2 (h:Heap) (l1 l2:Addr):Heap:=(h.push (G3 l1)).push (G3 l2)
noncomputable abbrev q3 (h:Heap) (l1 l2:Addr):Heap:=(q2 h l1 l2).push (KP (.ref h.objs.size) (.ref (h.push (G3 l1)).objs.size))
noncomputable abbrev q4 (h:Heap) (l1 l2:Addr):Heap:=(q3 h l1 l2).push (KP .none .none)
noncomputable abbrev q5 (h:Heap) (l1 l2:Addr):Heap:=(q4 h l1 l2).push (zO (q2 h l1 l2).objs.size (q3 h l1 l2).objs.size)
end
end M9
namespace M12
open PySem PySem.Spec PyProof.Rows M9
noncomputable abbrev Ju (l:Addr):Obj:={ cls:=.type "list_iterator",data:=.fields #[.ref l,.int 0 0] }
noncomputable abbrev KI (a b c:yaj):Obj:={ cls:=.type "tuple",data:=.seq #[a,b,c] }
noncomputable abbrev p3 (h:Heap) (l1 l2 l3:Addr):Heap:=((h.push (Ju l1)).push (G3 l2)).push (Ju l3)
noncomputable abbrev p4 (h:Heap) (l1 l2 l3:Addr):Heap:=(p3 h l1 l2 l3).push (KI (.ref h.objs.size) (.ref (h.push (Ju l1)).objs.size) (.ref ((h.push (Ju l1)).push (G3 l2)).objs.size))
noncomputable abbrev p5 (h:Heap) (l1 l2 l3:Addr):Heap:=(p4 h l1 l2 l3).push (KI .none .none .none)
end M12
namespace M10
open PySem PyProof.Rows
section
variable {prog:yak}{w:yal}{A:yam}{E:yaj→yai→Prop}{s:yai}{R:Keyed→Int}{κ:SortKind}{T:Keyed→Prop}{a₀ b:Array Keyed}{p:Array (Nat×Nat×Nat)}{lo:Nat}
noncomputable def t3 (lo n nrem:Nat):StateT SortSt Sem (Option Nat):=do
 let mut n:=n
 reverseSlice' lo (lo+n)
 for _ in [n:nrem] do
  let some sm ← ltAt' (lo+n) (lo+n - 1) | return none
  if sm then break
  n:=n+1
 return some n
end
section
variable {prog:yak}{w:yal}{A:yam}{E:yaj→yai→Prop}{s:yai}{R:Keyed→Int}{κ:SortKind}{T:Keyed→Prop}{a₀:Array Keyed}
set_option hygiene false in
local macro_rules | `(tactic| exact_mod_cast ⟨1,$N⟩) => `(tactic| (
 obtain ⟨ys,g3,rfl,hp3,hr3⟩:=B3.ri hr
 refine wpS_bind (wpS_get ?_)
 have fin:∀ (zs:Array Keyed) (p':Array (Nat×Nat×Nat)) (g':Nat),zs.Perm a₀→Runs R zs p'.toList 0 lo→(∀ k,lo≤k→zs[k]? = ys[k]?)→RI R κ a₀ (lo + $N) (SortSt.mk' κ zs (p'.push (lo,$N,0)) g' none):=fun zs p' g' q1 q2 q3 =>
  ⟨zs,_,g',rfl,q1,by
   rw [zbk]
   exact q2.app ⟨rfl,n1,hu3.of fun k k1 k2=>KR_congr (q3 k k1),rfl⟩⟩
 split
 ·rename_i s1 n1' q' hb
  refine wpS_bind (wpS_mono (wpS_forRange
   (I:=fun x c st'=>c=(none,())∧∃ zs p g,st'=SortSt.mk' κ zs p g none∧zs.Perm a₀∧Runs R zs p.toList 0 lo∧∀ k,lo≤k→zs[k]? = ys[k]?)
   (Q:=fun c st'=>c=(none,())∧∃ zs p g,st'=SortSt.mk' κ zs p g none∧zs.Perm a₀∧Runs R zs p.toList 0 lo∧∀ k,lo≤k→zs[k]? = ys[k]?) ?step3 (fun _ _ h=>h) ⟨rfl,ys,p,g3,rfl,hp3,hr3,fun _ _=>rfl⟩) ?post3)
  case step3 =>
   rintro x3 c st' _ _ ⟨rfl,zs,p4,g4,rfl,hp4,hr4,hk4⟩
   refine wpS_bind (wpS_get ?_)
   split
   ·rename_i o1 o2 o3 ho
    split
    ·exact wpS_pure ⟨rfl,zs,p4,g4,rfl,hp4,hr4,hk4⟩
    ·have hs4:p4.size > 1:=by
      by_cases hc:p4.size > 1
      ·exact hc
      ·rw [yIn hc] at ho;cases ho
     refine wpS_bind (mrg_ok C (tp hp4) hr4 (by rw [hp4.size_eq];lia) (show p4.size - 2+1<p4.size by lia) fun z5 p5 g5 q1 q2 q3 q4 => ?_)
     rw [yIn (by decide)]
     exact wpS_pure ⟨rfl,z5,p5,g5,rfl,q1.trans hp4,q2,fun k hk=>(q4 k hk).trans (hk4 k hk)⟩
   ·exact wpS_pure ⟨rfl,zs,p4,g4,rfl,hp4,hr4,hk4⟩
  case post3 =>
   rintro c st' ⟨rfl,zs,p4,g4,rfl,hp4,hr4,hk4⟩
   refine wpS_bind (wpS_modify (wpS_bind (wpS_modify (wpS_pure ⟨_,rfl,by lia,n2,fin zs _ g4 hp4 ?_ hk4⟩))))
   refine hr4.pow ?_
   rw [Array.toList_modify]
   exact map_mod _ _ _
 ·exact wpS_bind (wpS_modify (wpS_pure ⟨_,rfl,by lia,n2,fin ys p g3 hp3 hr3 fun _ _=>rfl⟩))))
end
end M10
namespace M10
open PySem PySem.Spec PyProof.Rows
section
variable {prog:yak}{w:yal}{A:yam}{E:yaj→yai→Prop}{s:yai}{R:Keyed→Int}{T:Keyed→Prop}
def TS (ss:List Str) (p:Keyed):Prop:=∃ x t,p.1 = .str x t∧x∈ss
end
end M10
namespace M5
open PySem PySem.Spec PyProof.Rows
section
variable {prog:yak}{w:yal}{A:yam}{E:yaj→yai→Prop}{s:yai}
theorem qA {d:Addr}{es:Array yaw}{ep:Nat}{ss:List Str}{Q:yaj→yai→Prop} (hh:A.handled=none) (lo:(d==yat)=false) (hD:M6.gC s.heap d es ep) (hes:StrsAre (es.toList.map (·.key)) ss) (h64:es.size<64)
  (h:∀ (h1 h2:Heap) (tk:Nat) (out:List yaj) (ss':List Str) (c:Nat),(∀ b o,s.heap.get? b=some o→h1.get? b=some o)→(∀ b o,h1.get? b=some o→h2.get? b=some o)→h2.get? h1.objs.size=some (seqObj "list" out.toArray c)→StrsAre out ss'→ss'.Perm ss→sortedS ss'=true→Q (.ref h1.objs.size) { s with heap:=h2,toks:=tk }) :
  yas (model prog w) A (call (.builtin "sorted") [.ref d]) Q E s:=by
 refine Calls.call_function_entry kind_sorted plain_sorted entry_sorted (args_sorted1 _) ?_
 unfold Builtin.«sorted»
 refine yaa (m:=checkCount "sorted" 1 1 _) (yab ?_)
 refine yaa (M6.Ao lo ?_ hD (by rw [yag];lia) fun h1 tk kp => ?_)
 ·exact hh
 have hvl:(es.toList.map (·.key)).length=es.size:=by rw [zbE,zaJ]
 generalize (es.toList.map (·.key))=vs at hes hvl
 refine yaa (wpAny_newList ?_ (by first | (rw [yag];lia) | (rw [zba,yag];lia)))
 have gL:(h1.push (seqObj "list" vs.toArray 0)).get? h1.objs.size=some (seqObj "list" vs.toArray 0):=zaK _ rfl
 refine yaa (yad (wpAny_call_entry slot_list_sort ⟨_,gL,rfl⟩ entry_list_sort (list_sort_treeK (κ:=PyProof.Rows.strKind) strKind_oneLt gL hes.keysOf (fun v₁ v₂ rest e=>keyKind_strs (by rw [← e];exact hes)) (by lia) fun st' a1 a2=>⟨_,rfl,?_⟩) (args_list_sort _)))
 obtain ⟨ss',b1,b2,b3⟩:=sorted_out_str hes a1 a2
 obtain ⟨c,hcc⟩:=sortedHeap_at (out:=(arrOf st').map (·.2)) gL
 refine yab ⟨_,rfl,h h1 _ tk ((arrOf st').map (·.2)).toList ss' c kp (fun b o e => ?_) (by rw [zaE];exact hcc) b1 b2 b3⟩
 have lb:=zcw e
 show (sortedHeap _ _ _ _).get? b=some o
 rw [sortedHeap_old (zcn lb) (by rw [size_push'];exact zbh lb)]
 exact zan _ e
end
end M5
namespace L2
open PySem PySem.Spec PyProof.Rows M6
def BQ:List V→Hp→VK→Prop:=fun xs H Q=>∃ (a:Addr) (kvs:List (Key×V)) (ss:List Str),xs=[.ref a]∧H a=some (.dK kvs)∧(kvs.map fun x=>kV x.1)=ss.map V.str∧ss.length<64∧∀ p (ss':List Str),H p=none→ss'.Perm ss→sortedS ss'=true→Q (.ref p) (upd H p (.lst (ss'.map V.str)))
section
variable {X:Cx}
theorem rN {k:Nat} (hr:bE k X.A):b6 X (.builtin "sorted") BQ:=by
 intro pins s σ H xs us Q I r h
 obtain ⟨a,kvs,ss,rfl,e,hi,h64,q⟩:=h
 obtain ⟨u,rfl,ru⟩:=vals1 r
 cases ru
 obtain ⟨lo,hz,es,ep,hD,hv⟩:=zh I e
 have hl:es.size=kvs.length:=by have:=hv.length;simpa using this.symm
 rw [hi] at hv
 have hl2:es.size=ss.length:=by have:=hv.length;simpa using this.symm
 refine M5.qA hr.hd lo hD (fh hv) (by lia) fun h1 h2 tk out ss' c kp1 kp2 g a1 a2 a3 => ?_
 have I1:Inv X pins σ H { s with heap:=h1,toks:=tk }:=I.kept (t':=tk) kp1
 refine ⟨.ref h1.objs.size,_,I1.laid (a:=h1.objs.size) (t':=tk) (o:=.lst (ss'.map V.str)) kp2 (zcy _) ⟨by rw [zbE,a2.length_eq];lia,out,c,M.gM a1,g⟩,rfl,q _ ss' (I1.hok.fresh (zcy _)) a2 a3⟩
end
end L2
namespace M
open PySem PySem.Spec PyProof.Rows L2 M6
section
variable {X:Cx}{e o:Expr}{es:List Expr}{p p2 pos pos2:Pos}{C:Addr}{k:Nat}{m:Str}{ps:List Str}{sp:AN}{K:yaH}
def vV:AN:=fun ds S Q=>∃ d es,∃ ss:List Str,ds=[d]∧bf S d = .dct (ss.map Sum.inr) es∧ss.length<64∧∀ ss':List Str,ss'.Perm ss→sortedS ss'=true→Q (.new (.lst (ss'.map D.str))) S
noncomputable def F3 (ks:List D) (k:D):Bool:=ks.any fun j=>decide (py j=py k)
theorem zD {j:Nat} (hr:bE j X.A):C8 X (.builtin "sorted") vV:=⟨mC (rN hr) fun xs H Q h=>by
 obtain ⟨w,ds,S,Qa,ok,rep,⟨d,es,ss,rfl,z,hl,q⟩,bk⟩:=h
 obtain ⟨v,rfl,r1⟩:=iV rep
 obtain ⟨a,kvs,rfl,h1,h2,h3⟩:=cY ok r1 z
 refine ⟨a,kvs,ss,rfl,h1,?_,hl,fun p ss' hp g1 g2=>bk (.new (.lst _)) S _ w _ .refl (ok.alloc hp) (ok.fresh hp ⟨_,rfl,cL ss'⟩) (q ss' g1 g2)⟩
 have:(kvs.map fun x=>kV x.1)=(kvs.map (·.1)).map kV:=by rw [zcl];rfl
 rw [this,h2,zcl];rfl⟩
end
end M
namespace L2
open PySem PySem.Spec PyProof.Rows M6
def Rw (a:Addr) (φ:Heap→Prop) (es:Array yaw) (ep:Nat):Prop:=∀ P w H h,aQ P w H h a (.ext φ)→gC h a es ep
noncomputable def JF (a:Addr) (es:Array yaw) (ep:Nat) (xs:List V):It :=
 ⟨fun i H=>i<es.size∧∃ φ,H a=some (.ext φ)∧Rw a φ es ep,fun i H x H'=>H'=H∧xs[i]? = some x,fun i H=>i=es.size∧∃ φ,H a=some (.ext φ)∧Rw a φ es ep⟩
theorem wF {P:yak}{w:yal}{K:yaH}{tg:Expr} (a it:Addr) {es:Array yaw}{ep:Nat}{xs:List V} (hV:Vals xs (es.toList.map (·.key))):Turn P w K tg (JF a es ep xs) [it] it (fun i h=>h.IsKeyIter it a i es.size ep) where
 mem:=by simp
 obj:=fun i h st b hb=>by
  have e:b=it:=by simpa using hb
  subst e
  obtain ⟨o,e,c,d⟩:=st
  exact ⟨o,e,fun v z=>by rw [d] at z;cases z⟩
 keep:=fun i h h' st k=>st.at fun o e=>k it (by simp) o e
 item:=by
  intro X hP hw hK hc i pins s σ H E I hf st hg
  subst hP hw hK
  obtain ⟨hi,φ,hH,hφ⟩:=hg
  have hD:gC s.heap a es ep:=hφ _ _ _ _ (show aQ X.prog X.w H s.heap a (.ext φ) from I.hok a _ hH)
  obtain ⟨f0,f1,f2,f3,f4,f5⟩:=hf it (by simp)
  have hx:es[i]? = some es[i]:=zag hi
  obtain ⟨x,hxx,rx⟩:∃ x,xs[i]? = some x∧RelV x es[i].key:=by
   have hl:=hV.length
   have hlt:i<xs.length:=by rw [hl];simpa using hi
   obtain ⟨u,hu,ru⟩:=hV.get (zah hlt)
   have:u=es[i].key:=by
    rw [zbb,zav,hx] at hu
    exact (zcB.inj hu).symm
   subst this
   exact ⟨_,zah hlt,ru⟩
  refine nextK st hD hx fun h' st' sb => ?_
  have I1:Inv X pins σ H { s with heap:=h' }:=I.turned (t':=s.toks) (fun b o hb e=>(sb.2 b hb).trans e) f0 f1 f3 f4 f5
  obtain ⟨o,e,c,d⟩:=id st'
  exact ⟨_,rfl,rg (s:={ s with heap:=h' }) e c d (by decide) ⟨x,H,I1,rx,⟨rfl,hxx⟩,st',fun b hb=>(hf b hb).1⟩⟩
 done:=by
  intro X hP hw hK hc i pins s σ H E I hf st hg
  subst hP hw hK
  obtain ⟨rfl,φ,hH,hφ⟩:=hg
  have hD:gC s.heap a es ep:=hφ _ _ _ _ (show aQ X.prog X.w H s.heap a (.ext φ) from I.hok a _ hH)
  obtain ⟨f0,f1,f2,f3,f4,f5⟩:=hf it (by simp)
  exact IC (I.ok.hd hc) st hD fun h' eb=>⟨rfl,I.turned (t':=s.toks) (fun b o hb e=>eb b o hb e) f0 f1 f3 f4 f5⟩
 self:=fun _ _ _ _ _ st h=>wpAny_pyIter_keyiter st h
section
variable {X:Cx}{tg:Expr}
theorem vH {pins:List (Addr×Obj)}{σ:St}{H:Hp}{s:yai}{R:It→Hp→Prop}{a:Addr}{es:Array yaw}{ep:Nat}{xs:List V}{φ:Heap→Prop} (I:Inv X pins σ H s) (hH:H a=some (.ext φ)) (hφ:Rw a φ es ep) (lo:(a==yat)=false) (hV:Vals xs (es.toList.map (·.key))) (q:R (JF a es ep xs) H) :
  yas (model X.prog X.w) X.A (pyIter (.ref a)) (KA X pins σ tg R) X.xe s:=by
 have hD:gC s.heap a es ep:=hφ _ _ _ _ (show aQ X.prog X.w H s.heap a (.ext φ) from I.hok a _ hH)
 refine DJ lo hD ?_
 refine ⟨_,_,_,_,H,rfl,I.kept (t':=s.toks) fun b o e=>zan _ e,wF a s.heap.objs.size hV,⟨_,zaK _ rfl,rfl,rfl⟩,fun b hb => ?_,q⟩
 rw [zaP.mp hb]
 exact I.ue (zcy _) (I.hok.fresh (zcy _))
theorem Inv.as {pins:List (Addr×Obj)}{σ:St}{H:Hp}{s:yai}{a:Addr}{ob:HO} (I:Inv X pins σ H s) (mu:D5 (H a)) (he:∃ q,s.heap.get? a=some q) (new:aQ X.prog X.w (upd H a ob) s.heap a ob):Inv X pins σ (upd H a ob) s :=
 I.write (x:=a) (e:=a) (h':=s.heap) (t':=s.toks) mu (.inl rfl) (fun _ _ _ z=>z) he new
def fL (P:yak) (W:yal) (o:Obj) (kvs:List (Key×V)) (a:Addr):Heap→Prop:=fun h=>h.get? a=some o∧(a==yat)=false∧∃ vs,KV kvs vs∧h.DictOf (bz P W) a vs
theorem fL.ok {P:yak}{w:yal}{H:Hp}{h:Heap}{o:Obj}{kvs:List (Key×V)}{a:Addr} (x:fL P w o kvs a h):aQ P w H h a (.ext (fL P w o kvs a)):=by
 refine ⟨x,⟨o,x.1⟩,fun h1 h2 y e=>⟨e _ y.1,y.2.1,?_⟩⟩
 obtain ⟨vs,kv,dd⟩:=y.2.2
 exact ⟨vs,kv,M6.Cv dd e⟩
theorem vh {P P':yak}{w W:yal}{H:Hp}{h:Heap}{a b:Addr}{o:Obj}{kvs:List (Key×V)} (x:aQ P w H h a (.ext (fL P' W o kvs b))):b=a:=by
 obtain ⟨y,⟨o1,e⟩,st⟩:=x
 apply Classical.byContradiction
 intro hne
 have g1:(h.update b fun _=>{ cls:=.none }).get? a=some o1:=(zao _ _ hne).trans e
 have g2:(h.update b fun _=>{ cls:=.none }).get? b=some { cls:=.none }:=zaw (fun _=>{ cls:=.none }) y.1 rfl
 obtain ⟨_,_,vs,_,o2,es2,ep2,k1,k2,k3,_⟩:=st h (h.update b fun _=>{ cls:=.none }) y fun o' e'=>by rw [e] at e';cases e';exact g1
 rw [g2] at k1
 cases k1
 cases k3
theorem fL.raw {P:yak}{W:yal}{o:Obj}{kvs:List (Key×V)}{a:Addr}{h0:Heap} (x:fL P W o kvs a h0):∃ es ep,(∀ kvs' b,Rw a (fL P W o kvs' b) es ep)∧Vals (kvs.map fun p=>kV p.1) (es.toList.map (·.key)):=by
 obtain ⟨h1,_,vs,kv,o',es,ep,g1,g2,g3,g4⟩:=x
 rw [h1] at g1;cases g1
 exact ⟨es,ep,fun kvs' b P' w' H' h y=>by
  obtain rfl:=vh y
  exact ⟨o,y.1.1,g2,g3⟩,mz kv g4.2.1⟩
def DN (P:yak) (W:yal) (te:TE):TI:=fun σ H R=>te σ H fun x H1=>∃ a kvs,x = .ref a∧H1 a=some (.dK kvs)∧∀ o es ep,(∀ kvs' b,Rw a (fL P W o kvs' b) es ep)→es.size=kvs.length→R (JF a es ep (kvs.map fun p=>kV p.1)) (upd H1 a (.ext (fL P W o kvs a)))
theorem BY {e:Expr}{te:TE} (he:PE X e te):PI X tg e (DN X.prog X.w te):=by
 intro pins s σ H R I h
 refine bJ (he pins s σ H _ I h) fun u s1 ⟨x,H1,I1,rx,a,kvs,ex,e1,q⟩ => ?_
 subst ex
 obtain rfl:u=Value.ref a:=rx
 obtain ⟨z,lo,vs,kv,dd⟩:=vG I1.hok e1
 obtain ⟨o,es0,ep0,g1,g2,g3,g4⟩:=id dd
 have x0:fL X.prog X.w o kvs a s1.heap:=⟨g1,lo,vs,kv,dd⟩
 obtain ⟨es,ep,hr,hV⟩:=x0.raw
 refine vH (I1.as (by rw [e1];exact True.intro) ⟨o,g1⟩ x0.ok) aE (hr _ _) lo hV (q o es ep hr ?_)
 have:=hV.length
 simpa using this.symm
def yu (P:yak) (W:yal) (td ty:TE):TE:=fun σ H Q=>td σ H fun x H1=>ty σ H1 fun y H2=>∃ a a' o kvs k v,x = .ref a∧H2 a=some (.ext (fL P W o kvs a'))∧y=kV k∧eL kvs k=some v∧Q v H2
theorem lZ {o i:Expr}{td ty:TE}{pos:Pos} (ho:PE X o td) (hi:PE X i ty) (hs:sC i):PE X (.Subscript o i pos) (yu X.prog X.w td ty):=by
 intro pins s σ H Q I h
 refine oR PySem.F.slot_dict_getitem.lookup hs (bJ (ho pins s σ H _ I h) fun u s1 ⟨x,H1,I1,rx,q1⟩=>bJ (hi pins s1 σ H1 _ I1 q1) fun iv s2 ⟨y,H2,I2,ry,a,a',ob,kvs,k,v,ex,e,ey,l,q2⟩ => ?_)
 subst ex ey
 obtain rfl:u=Value.ref a:=rx
 obtain rfl:=vh (show aQ X.prog X.w H2 s2.heap a (.ext (fL X.prog X.w ob kvs a')) from I2.hok a _ e)
 obtain ⟨_,lo,vs,rel,dd⟩:=(show aQ X.prog X.w H2 s2.heap a' (.ext (fL X.prog X.w ob kvs a')) from I2.hok a' _ e).1
 obtain ⟨w',hw,rw'⟩:=eY.some_of (v:=v) (o:=valueAt vs k) (by rw [← l];exact rel.val k)
 exact ⟨dd.typeIs,wpAny_getItem_of (mH ry) dd.mapOf hw ⟨v,H2,I2.tok _,rw',q2⟩⟩
end
end L2
namespace M
open PySem PySem.Spec PyProof.Rows L2 M6
noncomputable def zg:D→Bool
 | .tup _ | .lst _=>true
 | _=>false
noncomputable def pO (P:yak) (W:yal) (o:Obj) (ks:List Key) (ds:List D):MO:=.Af (fun a bs=>fL P W o (ks.zip (bs.map V.ref)) a) ds
section
variable {K:yaH}
theorem pC {w:Wd}:∀ {ds:List D}{vs:List V},aq K w ds vs→(∀ d∈ds,zg d=true)→∃ bs:List Addr,vs=bs.map V.ref
 | [],vs,h,_=>⟨[],by simpa [aq] using h⟩
 | d::ds,vs,h,g=>by
  simp only [aq] at h
  obtain ⟨x,r,rfl,h1,h2⟩:=h
  obtain ⟨bs,rfl⟩:=pC h2 fun d hd=>g d (zax _ hd)
  have g0:=g d zaL
  cases d <;> simp [zg] at g0
  ·simp only [Rep] at h1;obtain ⟨a,_,rfl,_⟩:=h1;exact ⟨a::bs,rfl⟩
  ·simp only [Rep] at h1;obtain ⟨a,_,rfl,_⟩:=h1;exact ⟨a::bs,rfl⟩
theorem J5 {w:Wd}{H:Hp}{S:aK}{n:Nat}{v:V}{P:yak}{W:yal}{o:Obj}{ks:List Key}{ds:List D} (ok:Ok K w H S) (r:Rep K w (.loc n) v) (z:S[n]? = some (some (pO P W o ks ds))) :
  ∃ (a a':Addr) (bs:List Addr),v = .ref a∧w.r n=some a∧H a=some (.ext (fL P W o (ks.zip (bs.map V.ref)) a'))∧aq K w ds (bs.map V.ref):=by
 simp only [Rep] at r
 obtain ⟨a,h0,rfl⟩:=r
 obtain ⟨a1,u,k1,k2,k3,a',bs,rfl,k5⟩:=ok.live n _ z
 rw [h0] at k1;cases k1
 exact ⟨a,a',bs,rfl,h0,k3,k5⟩
def Cn (P:yak) (W:yal) (a:AE):AI:=fun δ S Q=>a δ S fun r S1=>∃ n ks ds,r.d = .loc n∧S1[n]? = some (some (.dct ks ds))∧(∀ d∈ds,zg d=true)∧∀ o,Q (ks.map kD) (fun S=>S[n]? = some (some (pO P W o ks ds))) (S1.set n (some (pO P W o ks ds)))
theorem EO {P:yak}{W:yal}{a:AE}:∀ σ H R,um K (Cn P W a) σ H R→DN P W (aR K a) σ H R:=by
 rintro σ H R ⟨w,δ,S,Qa,ok,env,q,bk⟩
 refine ⟨w,δ,S,_,ok,env,q,.go fun r1 S1 v1 w1 H1 le1 ok1 rep1 ⟨n,ks,ds,hd,z,g,q1⟩ => ?_⟩
 rw [hd] at rep1
 obtain ⟨a,kvs,rfl,h0,h1,rfl,h3⟩:=pU ok1 rep1 z
 obtain ⟨bs,hb⟩:=pC h3 g
 have ek:kvs=(kvs.map (·.1)).zip (bs.map V.ref):=by
  rw [← hb]
  clear h1 h3 z g q1 hb
  induction kvs with
  | nil=>rfl
  | cons p r ih=>simp only [zbX,zaQ,← ih]
 refine ⟨a,kvs,rfl,h1,fun o es ep hr hsz => ?_⟩
 have ok2:=ok1.put (o':=pO P W o (kvs.map (·.1)) ds) (u':=.ext (fL P W o kvs a)) z h0 ⟨a,bs,(by show HO.ext (fL P W o kvs a)=HO.ext (fL P W o ((kvs.map (·.1)).zip (bs.map V.ref)) a);rw [← ek]),by rw [← hb];exact h3⟩
 have at_:∀ {H':Hp}{S':aK}{w':Wd},w1.le w'→Ok K w' H' S'→S'[n]? = some (some (pO P W o (kvs.map (·.1)) ds))→∃ φ,H' a=some (.ext φ)∧Rw a φ es ep:=fun le ok' e=>by
  obtain ⟨a1,u,k1,k2,k3,a',bs',rfl,k5⟩:=ok'.live n _ e
  rw [le.r _ _ h0] at k1;cases k1
  exact ⟨_,k3,hr _ _⟩
 refine bk _ _ _ _ w1 _ le1 ok2 ⟨fun i H' S' w' d le ok' hP e=>⟨?_,at_ le ok' hP⟩,fun i H' S' w' d v H2 le ok' hP e y => ?_,fun i H' S' w' le ok' hP e=>⟨?_,at_ le ok' hP⟩⟩ (q1 o)
 ·have:=(zac.mp e).1
  rw [hsz];simpa using this
 ·obtain ⟨rfl,y⟩:=y
  refine ⟨w',.refl,ok',?_⟩
  rw [zbb,zbb] at e
  rw [zbb] at y
  cases zz:kvs[i]? with
  | none=>rw [zz] at y;cases y
  | some p =>
   rw [zz] at y e
   cases y;cases e
   exact zP p.1
 ·rw [hsz,e];simp
def qi (P:yak) (W:yal) (a b:AE):AE:=fun δ S Q=>a δ S fun r1 S1=>b δ S1 fun r2 S2=>∃ n o ks ds k d,r1.d = .loc n∧S2[n]? = some (some (pO P W o ks ds))∧ks.length=ds.length∧keyOf r2.d=some k∧fz ks ds k=some d∧Q (.dat d) S2
theorem BJ {P:yak}{W:yal}{a b:AE}:∀ σ H Q,aR K (qi P W a b) σ H Q→yu P W (aR K a) (aR K b) σ H Q:=by
 rintro σ H Q ⟨w,δ,S,Qa,ok,env,q,bk⟩
 refine ⟨w,δ,S,_,ok,env,q,.go fun r1 S1 v1 w1 H1 le1 ok1 rep1 q1 => ?_⟩
 refine ⟨w1,δ,S1,_,ok1,env.le le1,q1,.go fun r2 S2 v2 w2 H2 le2 ok2 rep2 ⟨n,o,ks,ds,k,d,er,z1,hl,z2,z3,q2⟩ => ?_⟩
 rw [er] at rep1
 obtain ⟨a,a',bs,rfl,h0,h1,h3⟩:=J5 ok2 (rep1.le le2) z1
 have hbl:bs.length=ds.length:=by have:=h3.length;simpa using this
 have e1:(ks.zip (bs.map V.ref)).map (·.1)=ks:=zbu (by rw [zbE];lia)
 have e2:(ks.zip (bs.map V.ref)).map (·.2)=bs.map V.ref:=List.map_snd_zip (by rw [zbE];lia)
 obtain ⟨v,g1,g2⟩:=jb (kvs:=ks.zip (bs.map V.ref)) (ds:=ds) (k:=k) (by rw [e2];exact h3) (by rw [e1];exact z3)
 rw [kQ rep2 z2]
 exact ⟨a,a',o,_,k,v,rfl,h1,rfl,g1,bk.dat (le1.trans le2) ok2 g2 q2⟩
end
section
variable {X:Cx}{o i:Expr}{pos:Pos}
theorem Fg {tg e:Expr}{ta:AE} (he:GE X e ta):GI X tg e (Cn X.prog X.w ta):=⟨mI (L2.BY he.p) EO⟩
theorem lZ {ta tb:AE} (ho:GE X o ta) (hi:GE X i tb) (hs:sC i):GE X (.Subscript o i pos) (qi X.prog X.w ta tb):=⟨mE (L2.lZ ho.p hi.p hs) BJ⟩
end
end M
namespace L2
open PySem PySem.Spec PyProof.Rows M6
def fJ (W:yal) (po:Option Obj) (a:Addr) (xs:List (yan×Addr×Addr)):Heap→Prop:=fun h=>(a==yat)=false∧(∀ o,po=some o→h.get? a=some o)∧∃ o es ep,h.get? a=some o∧o.ExactDict∧o.data=Data.dict es ep ∧
 es.toList=xs.map (fun x=>({ hash:=vC W x.1,key:=.ref x.2.1,val:=.ref x.2.2 }:yaw))∧(xs.map (·.1)).Nodup
theorem fJ.at {W:yal}{po:Option Obj}{a:Addr}{xs:List (yan×Addr×Addr)}{h h':Heap} (x:fJ W po a xs h) (e:∀ o,h.get? a=some o→h'.get? a=some o):fJ W po a xs h':=by
 obtain ⟨z,p,o,es,ep,h1,r⟩:=x
 exact ⟨z,fun o q=>e o (p o q),o,es,ep,e o h1,r⟩
theorem fJ.ok {P:yak}{w W:yal}{po:Option Obj}{H:Hp}{h:Heap}{a:Addr}{xs:List (yan×Addr×Addr)} (x:fJ W po a xs h):aQ P w H h a (.ext (fJ W po a xs)):=by
 obtain ⟨z,p,o,es,ep,h1,r⟩:=id x
 exact ⟨x,⟨o,h1⟩,fun h1 h2 y e=>y.at e⟩
theorem lB {P:yak}{w W:yal}{po:Option Obj}{H:Hp}{h:Heap}{a b:Addr}{xs:List (yan×Addr×Addr)} (x:aQ P w H h a (.ext (fJ W po b xs))):b=a:=by
 obtain ⟨y,⟨o,e⟩,st⟩:=x
 apply Classical.byContradiction
 intro hne
 obtain ⟨z,p,ob,es,ep,h1,h2,h3,r⟩:=id y
 have g1:(h.update b fun _=>{ cls:=.none }).get? a=some o:=(zao _ _ hne).trans e
 have g2:(h.update b fun _=>{ cls:=.none }).get? b=some { cls:=.none }:=zaw (fun _=>{ cls:=.none }) h1 rfl
 obtain ⟨_,_,o2,es2,ep2,k1,k2,k3,_⟩:=st h (h.update b fun _=>{ cls:=.none }) y fun o' e'=>by rw [e] at e';cases e';exact g1
 rw [g2] at k1
 cases k1
 cases k3
noncomputable def wO (xs:List (yan×Addr×Addr)) (d:yan) (b c:Addr):List (yan×Addr×Addr):=if (xs.any fun x=>decide (x.1=d))=true then xs.map (fun x=>if x.1=d then (x.1,x.2.1,c) else x) else xs++[(d,b,c)]
noncomputable def j5 (xs:List (yan×Addr×Addr)) (d:yan):Option Addr:=(xs.find? fun x=>decide (x.1=d)).map (·.2.2)
theorem pZ (xs:List (yan×Addr×Addr)) (d:yan):(atKey (xs.map fun x=>(x.1,x.2.1,Value.ref x.2.2)) d).map (·.2)=(j5 xs d).map Value.ref∧(atKey (xs.map fun x=>(x.1,x.2.1,Value.ref x.2.2)) d).isSome=(xs.any fun x=>decide (x.1=d)):=by
 unfold atKey j5
 induction xs with
 | nil=>exact ⟨rfl,rfl⟩
 | cons x xs ih =>
  rw [zbX,zbF,zbF,zbY]
  by_cases h:x.1=d
  ·simp [h]
  ·simp only [h,decide_false,zcd];exact ih
theorem qL (xs:List (yan×Addr×Addr)) (d:yan) (b c:Addr):storedH (xs.map fun x=>(x.1,x.2.1,Value.ref x.2.2)) d b (.ref c)=(wO xs d b c).map fun x=>(x.1,x.2.1,Value.ref x.2.2):=by
 unfold storedH wO
 rw [(pZ xs d).2]
 by_cases h:(xs.any fun x=>decide (x.1=d))=true
 ·rw [yIp h,yIp h,zcl,zcl]
  refine zaI fun x _ => ?_
  simp only [Function.comp,putAt]
  split <;> rfl
 ·rw [yIn h,yIn h,zbI];rfl
def sE (K:yaH) (H:Hp) (xs:List (yan×Addr×Addr)):Prop:=∀ x∈xs,cS x.1=true∧x.1.depth≤6∧cz K H x.1 (.ref x.2.1)
section
variable {X:Cx}{pins:List (Addr×Obj)}{σ:St}{H:Hp}{s:yai}{A:yam}{E:yaj→yai→Prop}
theorem sM {a:Addr}{po:Option Obj}{xs:List (yan×Addr×Addr)} (I:Inv X pins σ H s) (e:H a=some (.ext (fJ X.w po a xs))) (hk:sE X.K H xs):(a==yat)=false∧Heap.DictOfH (jj X.prog X.w) s.heap a (xs.map fun x=>(x.1,x.2.1,Value.ref x.2.2)):=by
 obtain ⟨⟨z,_,o,es,ep,ho,hx,hd,hes,hn⟩,_,_⟩:=(show aQ X.prog X.w H s.heap a (.ext (fJ X.w po a xs)) from I.hok a _ e)
 refine ⟨z,o,es,ep,ho,hx,hd,?_,fun x hx' => ?_,?_⟩
 ·rw [hes,zcl];rfl
 ·obtain ⟨y,hy,rfl⟩:=zck.mp hx'
  obtain ⟨k1,k2,k3⟩:=hk y hy
  exact I.key k1 k2 k3
 ·rw [zcl];exact hn
end
def Dg (W:yal):TE:=fun _ H Q=>∀ p,H p=none→Q (.ref p) (upd H p (.ext (fJ W none p [])))
def Dv (K:yaH) (W:yal) (td ty tv:TE):TS:=fun D σ H=>tv σ H fun v H1=>td σ H1 fun x H2=>ty σ H2 fun y H3=>∃ (a a' b c:Addr) (xs:List (yan×Addr×Addr)) (d:yan),v = .ref c∧x = .ref a∧y = .ref b∧H3 a=some (.ext (fJ W none a' xs)) ∧
 sE K H3 xs∧cS d=true∧d.depth≤6∧cz K H3 d (.ref b)∧xs.length<1000∧(a'=a→D.nx σ (upd H3 a (.ext (fJ W none a (wO xs d b c)))))
def Dh (K:yaH) (W:yal) (td ty:TE):TE:=fun σ H Q=>td σ H fun x H1=>ty σ H1 fun y H2=>∃ (a a' b c:Addr) (po:Option Obj) (xs:List (yan×Addr×Addr)) (d:yan),x = .ref a∧y = .ref b∧H2 a=some (.ext (fJ W po a' xs))∧sE K H2 xs∧cS d=true∧d.depth≤6∧cz K H2 d (.ref b)∧j5 xs d=some c∧Q (.ref c) H2
def ym (K:yaH) (W:yal) (td ty tx:TE):TE:=fun σ H Q=>td σ H fun x H1=>∃ (a a':Addr) (po:Option Obj) (xs0:List (yan×Addr×Addr)),x = .ref a∧H1 a=some (.ext (fJ W po a' xs0))∧ty σ H1 fun y H2=>tx σ H2 fun z H3=>∃ (a'' b:Addr) (po:Option Obj) (xs:List (yan×Addr×Addr)) (d:yan),y = .ref b∧H3 a=some (.ext (fJ W po a'' xs))∧sE K H3 xs∧cS d=true∧d.depth≤6∧cz K H3 d (.ref b)∧Q (((j5 xs d).map V.ref).getD z) H3
def Io (W:yal) (te:TE):TI:=fun σ H R=>te σ H fun x H1=>∃ (a a':Addr) (xs:List (yan×Addr×Addr)),x = .ref a∧H1 a=some (.ext (fJ W none a' xs))∧∀ o es ep,(∀ b ys,Rw a (fJ W (some o) b ys) es ep)→es.size=xs.length→R (JF a es ep (xs.map fun x=>V.ref x.2.1)) (upd H1 a (.ext (fJ W (some o) a xs)))
def G5 (W:yal) (te:TE):TE:=fun σ H Q=>te σ H fun v H1=>∃ (a a':Addr) (o:Obj) (xs:List (yan×Addr×Addr)),H1 a=some (.ext (fJ W (some o) a' xs))∧Q v (upd H1 a (.ext (fJ W none a' xs)))
section
variable {X:Cx}{o i e f value:Expr}{td ty tv tx te:TE}{pos pos' apos cpos:Pos}{tg:Expr}
theorem kU:PE X (.Dict [] [] pos) (Dg X.w):=fun pins s σ H Q I h =>
 wpAny_Dict_empty ⟨.ref s.heap.objs.size,_,I.laid (a:=s.heap.objs.size) (o:=.ext (fJ X.w none s.heap.objs.size [])) (t':=s.toks) (fun _ _ q=>zan _ q) (zcy _)
  (fJ.ok ⟨beq_eq_false_iff_ne.mpr (Ne.symm (zcn I.big)),(fun o q=>by cases q),_,#[],0,zaK _ rfl,⟨rfl,rfl,rfl⟩,rfl,rfl,List.nodup_nil⟩),rfl,h _ (I.hok.fresh (zcy _))⟩
theorem kT (hu:X.A.units+20<cLine) (ho:PE X o td) (hi:PE X i ty) (hv:PE X value tv) (hs:yau value (some (.Subscript o i pos')) pos.line X.env=pure false) :
  PS X (.Assign [.Subscript o i pos'] value pos) (Dv X.K X.w td ty tv):=by
 intro pins s σ H D I h
 refine wpAny_Assign_Subscript (bJ (hv pins s σ H _ I h) fun r s1 ⟨v,H1,I1,rv,q1⟩=>bJ (ho pins s1 σ H1 _ I1 q1) fun u s2 ⟨x,H2,I2,rx,q2⟩=>bJ (hi pins s2 σ H2 _ I2 q2) fun iv s3 ⟨y,H3,I3,ry,a,a',b,c,xs,d,ev,ex,ey,e,k1,k2,k3,k4,k5,q3⟩ => ?_) hs
 subst ev ex ey
 obtain rfl:u=Value.ref a:=rx
 obtain rfl:iv=Value.ref b:=ry
 obtain rfl:r=Value.ref c:=rv
 obtain rfl:=lB (show aQ X.prog X.w H3 s3.heap a (.ext (fJ X.w none a' xs)) from I3.hok a _ e)
 obtain ⟨z,dd⟩:=sM I3 e k1
 refine wpAny_setItem_heap (knd:=jj X.prog X.w) (hsz:=by rw [zbE,yag];lia) (show X.A.units+1+10<cLine by lia) (I3.key k2 k3 k4) dd fun h' dd' hs=>⟨σ,_,?_,q3 rfl⟩
 rw [qL] at dd'
 obtain ⟨q,es',ep',hq,x1,x2,x3,_,x5⟩:=dd'
 have nn:fJ X.w none a' (wO xs d b c) h':=⟨z,(fun o q=>by cases q),q,es',ep',hq,x1,x2,by rw [x3,zcl];rfl,by rw [zcl] at x5;exact x5⟩
 exact k7 I3 (by rw [e];exact True.intro) hs ⟨q,hq⟩ nn.ok
theorem pG (hu:X.A.units+20<cLine) (ho:PE X o td) (hi:PE X i ty) (hs:sC i):PE X (.Subscript o i pos) (Dh X.K X.w td ty):=by
 intro pins s σ H Q I h
 refine oR PySem.F.slot_dict_getitem.lookup hs (bJ (ho pins s σ H _ I h) fun u s1 ⟨x,H1,I1,rx,q1⟩=>bJ (hi pins s1 σ H1 _ I1 q1) fun iv s2 ⟨y,H2,I2,ry,a,a',b,c,po,xs,d,ex,ey,e,k1,k2,k3,k4,l,q2⟩ => ?_)
 subst ex ey
 obtain rfl:u=Value.ref a:=rx
 obtain rfl:iv=Value.ref b:=ry
 obtain rfl:=lB (show aQ X.prog X.w H2 s2.heap a (.ext (fJ X.w po a' xs)) from I2.hok a _ e)
 obtain ⟨z,dd⟩:=sM I2 e k1
 have hp:=(pZ xs d).1
 rw [l] at hp
 obtain ⟨p,hp,hp2⟩:=zam.mp hp
 refine ⟨dd.typeIs,wpAny_getItem_heap (knd:=jj X.prog X.w) (show X.A.units+1+10<cLine by lia) (I2.key k2 k3 k4) dd hp ?_⟩
 rw [hp2]
 exact ⟨.ref c,H2,I2.tok _,rfl,q2⟩
theorem lY (hu:X.A.units+20<cLine) (ho:PE X o td) (he:PE X e ty) (hf:PE X f tx) (m:M2 X o "get" apos e f cpos):PE X (.Call (.Attribute o "get" apos) [e,f] [] cpos) (ym X.K X.w td ty tx):=by
 intro pins s σ H Q I h
 refine wpAny_Call_method m.base m.few m.line PySem.F.plainAttrs_dict PySem.F.slot_dict_get PySem.F.type_dict_get (bJ (ho pins s σ H _ I h) fun u s1 ⟨x,H1,I1,rx,a,a',po,xs0,ex,e1,q1⟩ => ?_)
 subst ex
 obtain rfl:u=Value.ref a:=rx
 obtain rfl:=lB (show aQ X.prog X.w H1 s1.heap a (.ext (fJ X.w po a' xs0)) from I1.hok a _ e1)
 obtain ⟨⟨_,_,ob,es,ep,h1,h2,h3,_⟩,_,_⟩:=(show aQ X.prog X.w H1 s1.heap a' (.ext (fJ X.w po a' xs0)) from I1.hok a' _ e1)
 refine ⟨⟨ob,h1,h2.1⟩,fun b q=>by cases q;exact ⟨ob,h1,h2.2.1⟩,?_⟩
 rw [m.trees]
 refine zap rfl (Calls.evalArgs_plain (zaZ (bJ (he pins s1 σ H1 _ I1 q1) fun iv s2 ⟨y,H2,I2,ry,q2⟩ =>
  zaZ (bJ (hf pins s2 σ H2 _ I2 q2) fun fv s3 ⟨z,H3,I3,rz,a'',b,po3,xs,d,ey,e3,k1,k2,k3,k4,q3⟩=>zbm ?_))))
 subst ey
 obtain rfl:iv=Value.ref b:=ry
 obtain rfl:=lB (show aQ X.prog X.w H3 s3.heap a' (.ext (fJ X.w po3 a'' xs)) from I3.hok a' _ e3)
 obtain ⟨lo,dd⟩:=sM I3 e3 k1
 refine call_meetsIn PySem.F.slot_dict_get dd.typeIs PySem.F.entry_dict_get (PySem.F.args_dict_get_3 _ _ _) (meetsH_dict_get_default (jj X.prog X.w) a'' b lo fv) ⟨show X.A.units+1+10<cLine by lia,d,_,I3.key k2 k3 k4,dd,?_⟩
 rw [(pZ xs d).1]
 refine ⟨_,H3,I3.tok _,?_,q3⟩
 cases j5 xs d with
 | none=>exact rz
 | some c=>rfl
theorem Ff (he:PE X e te):PI X tg e (Io X.w te):=by
 intro pins s σ H R I h
 refine bJ (he pins s σ H _ I h) fun u s1 ⟨x,H1,I1,rx,a,a',xs,ex,e1,q⟩ => ?_
 subst ex
 obtain rfl:u=Value.ref a:=rx
 have ob:=(show aQ X.prog X.w H1 s1.heap a (.ext (fJ X.w none a' xs)) from I1.hok a _ e1)
 obtain rfl:=lB ob
 obtain ⟨⟨lo,_,o,es,ep,g1,g2,g3,g4,g5⟩,_,_⟩:=ob
 have hr:∀ b ys,Rw a' (fJ X.w (some o) b ys) es ep:=fun b ys P' w' H' h' y=>by
  obtain rfl:=lB y
  exact ⟨o,y.1.2.1 o rfl,g2,g3⟩
 have x0:fJ X.w (some o) a' xs s1.heap:=⟨lo,fun o' z=>by cases z;exact g1,o,es,ep,g1,g2,g3,g4,g5⟩
 have hV:Vals (xs.map fun x=>V.ref x.2.1) (es.toList.map (·.key)):=by
  rw [g4,zcl]
  exact nP (fun x:yan×Addr×Addr=>x.2.1) xs
 refine vH (I1.as (by rw [e1];exact True.intro) ⟨o,g1⟩ x0.ok) aE (hr _ _) lo hV (q o es ep hr ?_)
 have:=hV.length
 simpa using this.symm
theorem tN (he:PE X e te):PE X e (G5 X.w te):=by
 intro pins s σ H Q I h
 refine bJ (he pins s σ H _ I h) fun u s1 ⟨v,H1,I1,rx,a,a',o,xs,e1,q⟩ => ?_
 have ob:=(show aQ X.prog X.w H1 s1.heap a (.ext (fJ X.w (some o) a' xs)) from I1.hok a _ e1)
 obtain rfl:=lB ob
 obtain ⟨⟨lo,_,o',es,ep,g1,g2,g3,g4,g5⟩,_,_⟩:=ob
 have x0:fJ X.w none a' xs s1.heap:=⟨lo,(fun o' z=>by cases z),o',es,ep,g1,g2,g3,g4,g5⟩
 exact ⟨v,_,I1.as (by rw [e1];exact True.intro) ⟨_,g1⟩ x0.ok,rx,q⟩
end
end L2
namespace M
open PySem PySem.Spec PyProof.Rows L2 M6
def uA (a b c:AE):AE:=fun δ S Q=>a δ S fun r1 S1=>(∃ ks0 ds0,bf S1 r1.d = .dct ks0 ds0)∧b δ S1 fun r2 S2=>c δ S2 fun r3 S3=>∃ ks ds k,bf S3 r1.d = .dct ks ds∧ks.length=ds.length∧keyOf r2.d=some k∧Q (.dat ((fz ks ds k).getD r3.d)) S3
noncomputable def vO (W:yal) (po:Option Obj) (ks vs:List D):MO:=.Af (fun a bs=>fJ W po a ((ks.map py).zip ((bs.take ks.length).zip (bs.drop ks.length)))) (ks++vs)
noncomputable def dH (ks vs:List D) (k v:D):List D×List D:=if F3 ks k=true then (ks,(ks.zip vs).map fun p=>if py p.1=py k then v else p.2) else (ks++[k],vs++[v])
noncomputable def dc (ks vs:List D) (k:D):Option D:=((ks.zip vs).find? fun p=>decide (py p.1=py k)).map (·.2)
section
variable {K:yaH}
theorem ou {k:Key}:∀ {kvs:List (Key×V)}{ds:List D},ds.length=kvs.length→fz (kvs.map (·.1)) ds k=none→eL kvs k=none
 | [],ds,_,_=>rfl
 | (j,u)::r,[],h,_=>by simp at h
 | (j,u)::r,d::ds,h,e=>by
  unfold fz at e
  rw [zbX,zaQ,zbF] at e
  unfold eL
  rw [zbF]
  by_cases hj:j=k
  ·simp [hj] at e
  ·simp only [hj,decide_false] at e ⊢
   exact ou (ds:=ds) (by simpa using h) e
theorem BL {a b c:AE}:∀ σ H Q,aR K (uA a b c) σ H Q→yv (aR K a) (aR K b) (aR K c) σ H Q:=by
 rintro σ H Q ⟨w,δ,S,Qa,ok,env,q,bk⟩
 refine ⟨w,δ,S,_,ok,env,q,.go fun r1 S1 v1 w1 H1 le1 ok1 rep1 ⟨⟨ks0,ds0,z0⟩,q1⟩ => ?_⟩
 obtain ⟨a,kvs0,rfl,h1,rfl,h3⟩:=cY ok1 rep1 z0
 refine ⟨a,rfl,.inl ⟨kvs0,.inl h1⟩,w1,δ,S1,_,ok1,env.le le1,q1,.go fun r2 S2 v2 w2 H2 le2 ok2 rep2 q2 => ?_⟩
 refine ⟨w2,δ,S2,_,ok2,(env.le le1).le le2,q2,.go fun r3 S3 v3 w3 H3 le3 ok3 rep3 ⟨ks,ds,k,z1,hl,z2,q3⟩ => ?_⟩
 obtain ⟨a',kvs,ea,g1,rfl,g3⟩:=cY ok3 (rep1.le (le2.trans le3)) z1
 cases ea
 rw [kQ rep2 z2]
 refine ⟨eL kvs k,.inl ⟨kvs,k,.inl g1,rfl,rfl⟩,?_⟩
 cases zz:fz (kvs.map (·.1)) ds k with
 | none =>
  rw [zz] at q3
  rw [ou (by have:=g3.length;simpa using this.symm) zz]
  exact bk.dat ((le1.trans le2).trans le3) ok3 rep3 q3
 | some d =>
  rw [zz] at q3
  obtain ⟨v,e1,e2⟩:=jb g3 zz
  rw [e1]
  exact bk.dat ((le1.trans le2).trans le3) ok3 e2 q3
theorem wC {w:Wd}{H:Hp}{S:aK}{n:Nat}{v:V}{W:yal}{po:Option Obj}{ks vs:List D} (ok:Ok K w H S) (r:Rep K w (.loc n) v) (z:S[n]? = some (some (vO W po ks vs))) (hl:ks.length=vs.length) :
  ∃ (a a':Addr) (kb vb:List Addr),v = .ref a∧w.r n=some a∧H a=some (.ext (fJ W po a' ((ks.map py).zip (kb.zip vb))))∧aq K w ks (kb.map V.ref)∧aq K w vs (vb.map V.ref)∧kb.length=ks.length∧vb.length=vs.length:=by
 simp only [Rep] at r
 obtain ⟨a,h0,rfl⟩:=r
 obtain ⟨a1,u,k1,k2,k3,a',bs,rfl,k5⟩:=ok.live n _ z
 rw [h0] at k1;cases k1
 have hb:bs.length=ks.length+vs.length:=by have:=k5.length;simpa using this
 have r1:=k5.take ks.length
 have r2:=k5.drop ks.length
 rw [zbK rfl,← zca] at r1
 rw [List.drop_left' rfl,← zcb] at r2
 exact ⟨a,a',_,_,rfl,h0,k3,r1,r2,by rw [zbn];lia,by rw [zbp];lia⟩
theorem uI {w:Wd}{W:yal}{po:Option Obj}{ks vs:List D}{kb vb:List Addr} (a:Addr) (h1:aq K w ks (kb.map V.ref)) (h2:aq K w vs (vb.map V.ref)):jU K w (vO W po ks vs) (.ext (fJ W po a ((ks.map py).zip (kb.zip vb)))):=by
 have hk:kb.length=ks.length:=by have:=h1.length;simpa using this
 refine ⟨a,kb++vb,?_,by rw [zbI];exact h1.append h2⟩
 show HO.ext _=HO.ext (fJ W po a ((ks.map py).zip (((kb++vb).take ks.length).zip ((kb++vb).drop ks.length))))
 rw [zbK hk,List.drop_left' hk]
theorem sL {w:Wd}{H:Hp}{S:aK} (ok:Ok K w H S):∀ {ks:List D}{kb vb:List Addr},aq K w ks (kb.map V.ref)→(∀ k∈ks,gK k)→sE K H ((ks.map py).zip (kb.zip vb)):=fun {ks kb vb} h g x hx=>by
 have hx2:(x.1,x.2.1)∈(ks.map py).zip kb:=by
  clear h g
  induction ks generalizing kb vb with
  | nil=>simp at hx
  | cons k ks ih =>
   cases kb with
   | nil=>simp at hx
   | cons b kb =>
    cases vb with
    | nil=>simp at hx
    | cons c vb =>
     rw [zbX,zaQ,zaQ] at hx
     rw [zbX,zaQ]
     rcases zbW.mp hx with rfl | hx
     ·exact zaL
     ·exact zax _ (ih hx)
 exact qY ok h g _ hx2
theorem G1 {w:Wd}{k v:D}{b c:Addr} (hb:Rep K w k (.ref b)) (hc:Rep K w v (.ref c)):∀ {ks vs:List D}{kb vb:List Addr},aq K w ks (kb.map V.ref)→aq K w vs (vb.map V.ref)→ks.length=vs.length →
  ∃ kb' vb':List Addr,wO ((ks.map py).zip (kb.zip vb)) (py k) b c=((dH ks vs k v).1.map py).zip (kb'.zip vb')∧aq K w (dH ks vs k v).1 (kb'.map V.ref)∧aq K w (dH ks vs k v).2 (vb'.map V.ref):=fun {ks vs kb vb} h1 h2 hl=>by
 have hk:kb.length=ks.length:=by have:=h1.length;simpa using this
 have hv:vb.length=vs.length:=by have:=h2.length;simpa using this
 have e1:(((ks.map py).zip (kb.zip vb)).any fun x=>decide (x.1=py k))=F3 ks k:=by
  have h3:(((ks.map py).zip (kb.zip vb)).any fun x=>decide (x.1=py k))=((((ks.map py).zip (kb.zip vb)).map (·.1)).any fun z=>decide (z=py k)):=by rw [zcj];rfl
  rw [h3,zbu (by rw [zbE,zbJ];lia),zcj];rfl
 unfold wO dH
 rw [e1]
 by_cases hc2:F3 ks k=true
 ·rw [yIp hc2,yIp hc2]
  refine ⟨kb,((ks.map py).zip vb).map (fun p=>if p.1=py k then c else p.2),?_,h1,?_⟩
  ·clear h1 h2 e1 hc2
   induction ks generalizing vs kb vb with
   | nil=>rfl
   | cons x ks ih =>
    cases vs with
    | nil=>simp at hl
    | cons y vs =>
     cases kb with
     | nil=>simp at hk
     | cons b' kb =>
      cases vb with
      | nil=>simp at hv
      | cons c' vb =>
       simp only [zbX,zaQ,zcD.injEq]
       refine ⟨?_,ih (by simpa using hl) (by simpa using hk) (by simpa using hv)⟩
       split <;> simp_all
  ·clear h1 e1 hc2 hk
   induction ks generalizing vs vb with
   | nil=>exact .nil
   | cons x ks ih =>
    cases vs with
    | nil=>simp at hl
    | cons y vs =>
     cases vb with
     | nil=>simp at hv
     | cons c' vb =>
      simp only [zbX,aq] at h2
      obtain ⟨_,_,e,g1,g2⟩:=h2
      injection e with e1 e2
      subst e1;subst e2
      simp only [zbX,zaQ]
      refine .cons ?_ (ih g2 (by simpa using hl) (by simpa using hv))
      split
      ·exact hc
      ·exact g1
 ·rw [yIn hc2,yIn hc2]
  refine ⟨kb++[b],vb++[c],?_,?_,?_⟩
  ·rw [zbI,List.zip_append (by lia),List.zip_append (by rw [zbE,zbJ];lia)];rfl
  ·rw [zbI];exact h1.snoc hb
  ·rw [zbI];exact h2.snoc hc
theorem v_get {w:Wd}{k:D}:∀ {ks vs:List D}{kb vb:List Addr},aq K w ks (kb.map V.ref)→aq K w vs (vb.map V.ref)→ks.length=vs.length →
  (∀ d,dc ks vs k=some d→∃ c,j5 ((ks.map py).zip (kb.zip vb)) (py k)=some c∧Rep K w d (.ref c))∧(dc ks vs k=none→j5 ((ks.map py).zip (kb.zip vb)) (py k)=none)
 | [],vs,kb,vb,_,_,_=>⟨fun d e=>by simp [dc] at e,fun _=>rfl⟩
 | x::ks,[],_,_,_,_,h=>by simp at h
 | x::ks,y::vs,[],vb,h,_,_=>by simp only [zci,aq] at h;obtain ⟨_,_,z,_⟩:=h;cases z
 | x::ks,y::vs,b::kb,[],_,h,_=>by simp only [zci,aq] at h;obtain ⟨_,_,z,_⟩:=h;cases z
 | x::ks,y::vs,b::kb,c::vb,h1,h2,hl=>by
  simp only [zbX,aq] at h1 h2
  obtain ⟨_,_,e,g1,g2⟩:=h1
  injection e with e1 e2
  subst e1;subst e2
  obtain ⟨_,_,e,k1,k2⟩:=h2
  injection e with e1 e2
  subst e1;subst e2
  have ih:=v_get (k:=k) g2 k2 (by simpa using hl)
  unfold dc j5 at ih ⊢
  rw [zbX,zaQ,zaQ,zaQ,zbF,zbF]
  by_cases hx:py x=py k
  ·simp only [hx,decide_true]
   exact ⟨fun d e=>⟨c,rfl,by cases e;exact k1⟩,fun e=>by cases e⟩
  ·simp only [hx,decide_false]
   exact ih
def vS (W:yal):AE:=fun _ S Q=>Q (.new (vO W none [] [])) S
theorem EH {W:yal}:∀ σ H Q,aR K (vS W) σ H Q→Dg W σ H Q:=by
 rintro σ H Q ⟨w,δ,S,Qa,ok,env,q,bk⟩ p hp
 exact bk (.new (vO W none [] [])) S _ w _ .refl (ok.alloc hp) (ok.fresh hp (uI (kb:=[]) (vb:=[]) p .nil .nil)) q
def AH (W:yal) (a b c:AE):AS:=fun D δ S=>c δ S fun r3 S1=>a δ S1 fun r1 S2=>b δ S2 fun r2 S3=>∃ n ks vs,zg r3.d=true∧r1.d = .loc n∧S3[n]? = some (some (vO W none ks vs))∧ks.length=vs.length∧gK r2.d∧(∀ k∈ks,gK k)∧ks.length<1000∧D.nx δ (S3.set n (some (vO W none (dH ks vs r2.d r3.d).1 (dH ks vs r2.d r3.d).2)))
theorem EG {W:yal}{a b c:AE}:∀ D σ H,dU K (AH W a b c) D σ H→Dv K W (aR K a) (aR K b) (aR K c) D σ H:=by
 rintro D σ H ⟨w,δ,S,Da,ok,env,q,bk⟩
 refine ⟨w,δ,S,_,ok,env,q,.go fun r3 S1 v3 w1 H1 le1 ok1 rep3 q1 => ?_⟩
 refine ⟨w1,δ,S1,_,ok1,env.le le1,q1,.go fun r1 S2 v1 w2 H2 le2 ok2 rep1 q2 => ?_⟩
 refine ⟨w2,δ,S2,_,ok2,(env.le le1).le le2,q2,.go fun r2 S3 v2 w3 H3 le3 ok3 rep2 ⟨n,ks,vs,z0,z1,z2,hl,g1,g2,hz,q3⟩ => ?_⟩
 rw [z1] at rep1
 obtain ⟨a,a',kb,vb,rfl,h0,k3,h1,h2,_,_⟩:=wC ok3 (rep1.le le3) z2 hl
 obtain ⟨b,rfl,hb⟩:=ja ok3 rep2 g1
 have rep3:=rep3.le (le2.trans le3)
 obtain ⟨c,rfl⟩:∃ c,v3 = .ref c:=by
  obtain ⟨bs,e⟩:=pC (.cons rep3 .nil) (fun d hd=>by rw [zaP.mp hd];exact z0)
  cases bs with
  | nil=>cases e
  | cons b r=>cases r with
   | nil=>exact ⟨b,by simpa using e⟩
   | cons _ _=>simp at e
 refine ⟨a,a',b,c,_,py r2.d,rfl,rfl,rfl,k3,sL ok3 h1 g2,g1.2.1,g1.2.2.1,hb,?_,fun e => ?_⟩
 ·rw [zbJ,zbE];lia
 ·subst e
  obtain ⟨kb',vb',e1,e2,e3⟩:=G1 rep2 rep3 h1 h2 hl
  rw [e1]
  exact bk.nx δ _ σ w3 _ ((le1.trans le2).trans le3) (ok3.put z2 h0 (uI a' e2 e3)) (((env.le le1).le le2).le le3) q3
def rT (W:yal) (a b:AE):AE:=fun δ S Q=>a δ S fun r1 S1=>b δ S1 fun r2 S2=>∃ n po ks vs d,r1.d = .loc n∧S2[n]? = some (some (vO W po ks vs))∧ks.length=vs.length∧gK r2.d∧(∀ k∈ks,gK k)∧dc ks vs r2.d=some d∧Q (.dat d) S2
theorem EI {W:yal}{a b:AE}:∀ σ H Q,aR K (rT W a b) σ H Q→Dh K W (aR K a) (aR K b) σ H Q:=by
 rintro σ H Q ⟨w,δ,S,Qa,ok,env,q,bk⟩
 refine ⟨w,δ,S,_,ok,env,q,.go fun r1 S1 v1 w1 H1 le1 ok1 rep1 q1 => ?_⟩
 refine ⟨w1,δ,S1,_,ok1,env.le le1,q1,.go fun r2 S2 v2 w2 H2 le2 ok2 rep2 ⟨n,po,ks,vs,d,z1,z2,hl,g1,g2,g3,q2⟩ => ?_⟩
 rw [z1] at rep1
 obtain ⟨a,a',kb,vb,rfl,h0,k3,h1,h2,_,_⟩:=wC ok2 (rep1.le le2) z2 hl
 obtain ⟨b,rfl,hb⟩:=ja ok2 rep2 g1
 obtain ⟨c,e1,e2⟩:=(v_get (k:=r2.d) h1 h2 hl).1 d g3
 exact ⟨a,a',b,c,po,_,py r2.d,rfl,rfl,k3,sL ok2 h1 g2,g1.2.1,g1.2.2.1,hb,e1,bk.dat (le1.trans le2) ok2 e2 q2⟩
def p8 (W:yal) (a b c:AE):AE:=fun δ S Q=>a δ S fun r1 S1=>∃ n po0 ks0 vs0,r1.d = .loc n∧S1[n]? = some (some (vO W po0 ks0 vs0))∧ks0.length=vs0.length∧b δ S1 fun r2 S2=>c δ S2 fun r3 S3=>∃ po ks vs,S3[n]? = some (some (vO W po ks vs))∧ks.length=vs.length∧gK r2.d∧(∀ k∈ks,gK k)∧Q (.dat ((dc ks vs r2.d).getD r3.d)) S3
theorem BE {W:yal}{a b c:AE}:∀ σ H Q,aR K (p8 W a b c) σ H Q→ym K W (aR K a) (aR K b) (aR K c) σ H Q:=by
 rintro σ H Q ⟨w,δ,S,Qa,ok,env,q,bk⟩
 refine ⟨w,δ,S,_,ok,env,q,.go fun r1 S1 v1 w1 H1 le1 ok1 rep1 ⟨n,po0,ks0,vs0,z1,z0,hl0,q1⟩ => ?_⟩
 rw [z1] at rep1
 obtain ⟨a,a',kb0,vb0,rfl,h0,k3,_,_,_,_⟩:=wC ok1 rep1 z0 hl0
 refine ⟨a,a',po0,_,rfl,k3,w1,δ,S1,_,ok1,env.le le1,q1,.go fun r2 S2 v2 w2 H2 le2 ok2 rep2 q2 => ?_⟩
 refine ⟨w2,δ,S2,_,ok2,(env.le le1).le le2,q2,.go fun r3 S3 v3 w3 H3 le3 ok3 rep3 ⟨po,ks,vs,z2,hl,g1,g2,q3⟩ => ?_⟩
 obtain ⟨a1,a'',kb,vb,ea,h0',k3',h1,h2,_,_⟩:=wC ok3 (rep1.le (le2.trans le3)) z2 hl
 cases ea
 obtain ⟨b,rfl,hb⟩:=ja ok3 (rep2.le le3) g1
 refine ⟨a'',b,po,_,py r2.d,rfl,k3',sL ok3 h1 g2,g1.2.1,g1.2.2.1,hb,?_⟩
 have vg:=v_get (k:=r2.d) h1 h2 hl
 cases zz:dc ks vs r2.d with
 | none =>
  rw [zz] at q3
  rw [vg.2 zz]
  exact bk.dat ((le1.trans le2).trans le3) ok3 rep3 q3
 | some d =>
  rw [zz] at q3
  obtain ⟨c,e1,e2⟩:=vg.1 d zz
  rw [e1]
  exact bk.dat ((le1.trans le2).trans le3) ok3 e2 q3
def Jw (W:yal) (a:AE):AI:=fun δ S Q=>a δ S fun r S1=>∃ n ks vs,r.d = .loc n∧S1[n]? = some (some (vO W none ks vs))∧ks.length=vs.length∧∀ o,Q ks (fun S=>S[n]? = some (some (vO W (some o) ks vs))) (S1.set n (some (vO W (some o) ks vs)))
theorem HG {W:yal}{a:AE}:∀ σ H R,um K (Jw W a) σ H R→Io W (aR K a) σ H R:=by
 rintro σ H R ⟨w,δ,S,Qa,ok,env,q,bk⟩
 refine ⟨w,δ,S,_,ok,env,q,.go fun r1 S1 v1 w1 H1 le1 ok1 rep1 ⟨n,ks,vs,hd,z,hl,q1⟩ => ?_⟩
 rw [hd] at rep1
 obtain ⟨a,a',kb,vb,rfl,h0,k3,h1,h2,l1,l2⟩:=wC ok1 rep1 z hl
 have hxl:((ks.map py).zip (kb.zip vb)).length=ks.length:=by rw [zbJ,zbE,zbJ];lia
 have hxs:((ks.map py).zip (kb.zip vb)).map (fun x=>V.ref x.2.1)=kb.map V.ref:=by
  have e1:((ks.map py).zip (kb.zip vb)).map (·.2)=kb.zip vb:=List.map_snd_zip (by rw [zbE,zbJ];lia)
  have e2:(kb.zip vb).map (·.1)=kb:=zbu (by lia)
  have:((ks.map py).zip (kb.zip vb)).map (fun x=>V.ref x.2.1)=((((ks.map py).zip (kb.zip vb)).map (·.2)).map (·.1)).map V.ref:=by rw [zcl,zcl];rfl
  rw [this,e1,e2]
 refine ⟨a,a',_,rfl,k3,fun o es ep hr hsz => ?_⟩
 rw [hxs]
 have ok2:=ok1.put (o':=vO W (some o) ks vs) z h0 (uI (po:=some o) a h1 h2)
 have at_:∀ {H':Hp}{S':aK}{w':Wd},w1.le w'→Ok K w' H' S'→S'[n]? = some (some (vO W (some o) ks vs))→∃ φ,H' a=some (.ext φ)∧Rw a φ es ep:=fun le ok' e=>by
  obtain ⟨a1,u,k1,k2,k3,a',bs',rfl,k5⟩:=ok'.live n _ e
  rw [le.r _ _ h0] at k1;cases k1
  exact ⟨_,k3,hr _ _⟩
 refine bk _ _ _ _ w1 _ le1 ok2 ⟨fun i H' S' w' d le ok' hP e=>⟨?_,at_ le ok' hP⟩,fun i H' S' w' d v H2 le ok' hP e y => ?_,fun i H' S' w' le ok' hP e=>⟨?_,at_ le ok' hP⟩⟩ (q1 o)
 ·have:=(zac.mp e).1
  lia
 ·obtain ⟨rfl,y⟩:=y
  obtain ⟨v',g1,g2⟩:=h1.get e
  rw [g1] at y;cases y
  exact ⟨w',.refl,ok',g2.le le⟩
 ·lia
def CT (W:yal) (a:AE):AE:=fun δ S Q=>a δ S fun r S1=>∃ n o ks vs,S1[n]? = some (some (vO W (some o) ks vs))∧ks.length=vs.length∧Q r (S1.set n (some (vO W none ks vs)))
theorem Hw {W:yal}{a:AE}:∀ σ H Q,aR K (CT W a) σ H Q→G5 W (aR K a) σ H Q:=by
 rintro σ H Q ⟨w,δ,S,Qa,ok,env,q,bk⟩
 refine ⟨w,δ,S,_,ok,env,q,fun r S1 v w1 H1 le1 ok1 rep1 ⟨n,o,ks,vs,z,hl,q1⟩ => ?_⟩
 obtain ⟨a1,u,k1,k2,k3,k4⟩:=ok1.live n _ z
 have rl:Rep K w1 (.loc n) (.ref a1):=by simp only [Rep];exact ⟨a1,k1,rfl⟩
 obtain ⟨a,a',kb,vb,ea,h0,k3',h1,h2,l1,l2⟩:=wC ok1 rl z hl
 cases ea
 refine ⟨a1,a',o,_,k3',bk r _ v w1 _ le1 (ok1.put z h0 (uI a' h1 h2)) ?_ q1⟩
 cases r with
 | dat d=>exact rep1
 | new m =>
  obtain ⟨b,u2,rfl,g1,g2,g3,g4⟩:=rep1
  have hne:b≠a1:=fun e=>g4 n _ z (by rw [e];exact h0)
  refine ⟨b,u2,rfl,g1,by rw [au hne];exact g2,g3,fun n' o' e => ?_⟩
  by_cases hn:n=n'
  ·subst hn;rw [h0];intro y;exact hne (zcB.inj y).symm
  ·rw [zaz hn] at e;exact g4 n' o' e
end
section
variable {X:Cx}{o i e f value:Expr}{pos pos' apos cpos:Pos}{tg:Expr}
theorem l6 {ta tb tc:AE} (hu:X.A.units+1<cLine) (ho:GE X o ta) (he:GE X e tb) (hf:GE X f tc) (m:M2 X o "get" apos e f cpos):GE X (.Call (.Attribute o "get" apos) [e,f] [] cpos) (uA ta tb tc):=⟨mE (L2.l6 hu ho.p he.p hf.p m) BL⟩
theorem kU:GE X (.Dict [] [] pos) (vS X.w):=⟨mE L2.kU EH⟩
theorem kT {j:Nat} (hr:bE j X.A) {ta tb tc:AE} (ho:GE X o ta) (hi:GE X i tb) (hv:GE X value tc) (hs:yau value (some (.Subscript o i pos')) pos.line X.env=pure false):GS X (.Assign [.Subscript o i pos'] value pos) (AH X.w ta tb tc) :=
 ⟨mS (L2.kT (by have:=hr.units;lia) ho.p hi.p hv.p hs) EG⟩
theorem pG {j:Nat}{W:yal} (hr:bE j X.A) {ta tb:AE} (ho:GE X o ta) (hi:GE X i tb) (hs:sC i) (hW:X.w=W:=by rfl):GE X (.Subscript o i pos) (rT W ta tb):=by
 subst hW
 exact ⟨mE (L2.pG (by have:=hr.units;lia) ho.p hi.p hs) EI⟩
theorem lY {j:Nat} (hr:bE j X.A) {ta tb tc:AE} (ho:GE X o ta) (he:GE X e tb) (hf:GE X f tc) (m:M2 X o "get" apos e f cpos):GE X (.Call (.Attribute o "get" apos) [e,f] [] cpos) (p8 X.w ta tb tc):=⟨mE (L2.lY (by have:=hr.units;lia) ho.p he.p hf.p m) BE⟩
theorem HV {ta:AE} (he:GE X e ta):GI X tg e (Jw X.w ta):=⟨mI (L2.Ff he.p) HG⟩
theorem tN {ta:AE} (he:GE X e ta):GE X e (CT X.w ta):=⟨mE (L2.tN he.p) Hw⟩
end
end M
namespace L2
open PySem PySem.Spec PyProof.Rows
noncomputable def XN (C:Addr) (d0:Option Addr) (x:Addr):HO:=.ext fun h=>∃ t0:Addr,h.get? x=some (PySem.W.bI C d0 #[.ref t0,.none,.none,.none,.bool false,.none])
noncomputable def XT (C:Addr) (d0:Option Addr) (T x:Addr):HO:=.ext fun h=>∃ (t0:Addr) (a2 a3 a4 a5:yaj),h.get? x=some (PySem.W.bI C d0 #[.ref t0,.ref T,a2,a3,a4,a5])
noncomputable def TB (T:Addr):HO:=.ext fun h=>∃ (ob:Obj) (ts:Array yaj),h.get? T=some ob∧ob.data = .fields ts∧ts[3]? = some .none
section
variable {P:yak}{w:yal}{H:Hp}{h:Heap}
theorem XN.ok {C x:Addr}{d0:Option Addr}{t0:Addr} (e:h.get? x=some (PySem.W.bI C d0 #[.ref t0,.none,.none,.none,.bool false,.none])):aQ P w H h x (XN C d0 x) :=
 ⟨⟨t0,e⟩,⟨_,e⟩,fun h1 h2 ⟨t,q⟩ k=>⟨t,k _ q⟩⟩
theorem XN.get {C x:Addr}{d0:Option Addr} (ok:e9 P w H h) (e:H x=some (XN C d0 x)):∃ t0:Addr,h.get? x=some (PySem.W.bI C d0 #[.ref t0,.none,.none,.none,.bool false,.none]):=(ok x _ e).1
theorem XT.ok {C x T:Addr}{d0:Option Addr}{t0:Addr}{a2 a3 a4 a5:yaj} (e:h.get? x=some (PySem.W.bI C d0 #[.ref t0,.ref T,a2,a3,a4,a5])):aQ P w H h x (XT C d0 T x) :=
 ⟨⟨t0,a2,a3,a4,a5,e⟩,⟨_,e⟩,fun h1 h2 ⟨t,b2,b3,b4,b5,q⟩ k=>⟨t,b2,b3,b4,b5,k _ q⟩⟩
theorem XT.get {C x T:Addr}{d0:Option Addr} (ok:e9 P w H h) (e:H x=some (XT C d0 T x)):∃ (t0:Addr) (a2 a3 a4 a5:yaj),h.get? x=some (PySem.W.bI C d0 #[.ref t0,.ref T,a2,a3,a4,a5]):=(ok x _ e).1
theorem TB.ok {T:Addr}{ob:Obj}{ts:Array yaj} (e:h.get? T=some ob) (d:ob.data = .fields ts) (n:ts[3]? = some .none):aQ P w H h T (TB T) :=
 ⟨⟨ob,ts,e,d,n⟩,⟨_,e⟩,fun h1 h2 ⟨o,t,q,r⟩ k=>⟨o,t,k _ q,r⟩⟩
theorem TB.get {T:Addr} (ok:e9 P w H h) (e:H T=some (TB T)):∃ (ob:Obj) (ts:Array yaj),h.get? T=some ob∧ob.data = .fields ts∧ts[3]? = some .none:=(ok T _ e).1
end
section
variable {M:Model}{A:yam}{E:yaj→yai→Prop}{s:yai}
theorem om {base:Heap}{env:Env}{outer:List Env}{L e:Addr}{oe:Obj}{vs:Array yaj}{head:yaj}{hadNext:Bool}{Q:Unit→yai→Prop}
  (hfr:A.frames=some (env::outer)) (hl:s.heap.FunFrames base (env::outer)) (hf:env.frame=some L)
  (he:s.heap.get? e=some oe) (hd:oe.data = .fields vs) (hsz:1<vs.size)
  (h:∀ h' T,s.heap.objs.size≤T→h'.get? e=some (Obj.mapFields (·.setIfInBounds 1 (Value.ref T)) oe)→(∃ ob ts,h'.get? T=some ob∧ob.data = .fields ts∧ts[3]? = some .none) →
   (∀ b o,b≠e→b ∉ frs (env::outer)→s.heap.get? b=some o→h'.get? b=some o)→(∀ b o,b≠e→s.heap.get? b=some o→∃ sl,h'.get? b=some { o with slots:=sl })→Q () { s with heap:=h' }) :
  yas M A (do let a ← frameOf env;let pl ← entryPlaceOf L hadNext;let b ← EntryCells.newEntry head a .none (rawInt L) .none pl;setField (.ref e) 1 b) (fun _ s'=>yas M A (setFlight (.ref e) none) Q E s') E s:=by
 have Kh:e ∉ (env::outer).filterMap (·.frame):=fun hm=>by
  obtain ⟨_,o,ho,hnf⟩:=hl.mem hm
  rw [he] at ho;injection ho with ho;subst ho;exact hnf vs hd
 refine yaa (wpAny_frameOf_fun hfr hl hf fun h₁ hs₁ => ?_)
 refine yaa (wpAny_entryPlaceOf fun pl hpl => ?_)
 unfold EntryCells.newEntry newFields
 refine yaa (yaf ?_ (hpl.sizeOk5 _ _ _ _ _))
 have he₁:h₁.get? e=some oe:=(hs₁.2.1 e Kh).trans he
 have he₂:=zan (h:=h₁) { cls:=.type "traceback",dict:=none,data:=.fields ([head,.ref L,.none,rawInt L,.none]++(if pl.isEmpty then zbO 6 Value.none else pl)).toArray } he₁
 refine wpAny_setField he₂ hd hsz ?_
 have hTe:h₁.objs.size≠e:=zcq (zcw he₁)
 have hd₃:=Obj.data_mapFields hd (·.setIfInBounds 1 (Value.ref h₁.objs.size))
 have he₃:=zaw (Obj.mapFields (·.setIfInBounds 1 (Value.ref h₁.objs.size))) he₂ (Obj.isFreed_of_fields hd₃)
 have hT₃:=(zao (h₁.push { cls:=.type "traceback",dict:=none,data:=.fields ([head,.ref L,.none,rawInt L,.none]++(if pl.isEmpty then zbO 6 Value.none else pl)).toArray })
  (Obj.mapFields (·.setIfInBounds 1 (Value.ref h₁.objs.size))) (Ne.symm hTe)).trans (zaK h₁ rfl)
 unfold setFlight
 refine yaa (wpAny_field he₃ hd₃ (x:=.ref h₁.objs.size) (by simp [hsz]) ?_)
 rw [yIp (show (Value.ref h₁.objs.size != Value.none)=true from by simp)]
 have keep:∀ b o,b≠e→h₁.get? b=some o →
   (((h₁.push { cls:=.type "traceback",dict:=none,data:=.fields ([head,.ref L,.none,rawInt L,.none]++(if pl.isEmpty then zbO 6 Value.none else pl)).toArray }).update e (Obj.mapFields (·.setIfInBounds 1 (Value.ref h₁.objs.size)))).update h₁.objs.size
    (Obj.mapFields (·.setIfInBounds 3 ((none:Option Addr).elim Value.none fun f=>rawInt f)))).get? b=some o:=fun b o hbe hb=>by
  have hbT:h₁.objs.size≠b:=zcq (zcw hb)
  rw [zao _ _ hbT,zao _ _ (Ne.symm hbe)]
  exact zan _ hb
 refine wpAny_setField hT₃ rfl (by simp only [zba,zaM,zbo,List.length_nil] <;> lia) (h _ h₁.objs.size (by rw [hs₁.1];exact zcy _) ?_ ⟨_,_,zaw _ hT₃ (Obj.isFreed_of_fields (Obj.data_mapFields rfl _)),Obj.data_mapFields rfl _,by first | (simp;done) | (rcases hpl with rfl | ⟨_,_,_,_,_,_,_,rfl⟩ <;> simp)⟩ (fun b o hb hf' e'=>keep b o hb ((hs₁.2.1 b hf').trans e')) fun b o hb e' => ?_)
 ·rw [zao _ _ hTe];exact he₃
 ·obtain ⟨sl,q⟩:=hs₁.2.2 b o e'
  exact ⟨sl,keep b _ hb q⟩
end
structure uE (X:Cx) (A:yam):Prop where
 st:X.stack=X.env::X.outer
 fr:X.env.frame=some X.env.locals
 af:A.frames=some (X.env::X.outer)
section
variable {X:Cx}{M:Model}{A:yam}{E:yaj→yai→Prop}{pins:List (Addr×Obj)}{σ:St}{H:Hp}{s:yai}{C x T:Addr}{d0:Option Addr}{Q:Unit→yai→Prop}
theorem Inv.noted {h':Heap}{u:HO}{u':HO} (I:Inv X pins σ H s) (hs:X.stack=X.env::X.outer) (e:H x=some u) (mu:D5 (some u)) (hT:s.heap.objs.size≤T)
  (hx:∀ H',aQ X.prog X.w H' h' x u') (hxo:∃ o,h'.get? x=some o) (ht:∃ ob ts,h'.get? T=some ob∧ob.data = .fields ts∧ts[3]? = some .none)
  (k1:∀ b o,b≠x→b ∉ frs (X.env::X.outer)→s.heap.get? b=some o→h'.get? b=some o) (k2:∀ b o,b≠x→s.heap.get? b=some o→∃ sl,h'.get? b=some { o with slots:=sl }) :
  Inv X pins σ (upd (upd H x u') T (TB T)) { s with heap:=h' }:=by
 have nT:H T=none:=I.hok.fresh hT
 have xT:x≠T:=fun z=>by rw [z,nT] at e;cases e
 have ne:∀ {b o},s.heap.get? b=some o→b≠T:=fun {b o} q=>zcn (zaU (zcw q) hT)
 have old:∀ {b v},H b=some v→b≠x→upd (upd H x u') T (TB T) b=some v:=fun {b v} q hb=>by
  rw [au (aH q nT),au hb];exact q
 have nx:∀ {b v},H b=some v→(D5 (some v)→False)→b≠x:=fun {b v} q hm z=>by
  subst z;rw [e] at q;cases q;exact hm mu
 refine I.call (g':=s.gens) (d':=s.drawn) (t':=s.toks) (ch:=[]) ⟨fun b o q n hb _ => ?_,fun b o q n hb _ => ?_,fun b o q n _ => ?_,fun b o q _ => ?_,fun b xs q => ?_,fun b o v q => ?_,fun b ps q => ?_⟩ (fun b v q => ?_) I.bare (fun b z=>absurd z (by simp))
 ·rw [hs] at hb
  exact k1 b o (fun z=>by rw [z,e] at n;cases n) hb q
 ·exact k2 b o (fun z=>by rw [z,e] at n;cases n) q
 ·rw [au (ne q),au (fun z=>by rw [z,e] at n;cases n)];exact n
 ·by_cases hb:b=x
  ·subst hb;exact hxo
  ·obtain ⟨sl,q'⟩:=k2 b o hb q;exact ⟨_,q'⟩
 ·exact old q (nx q id)
 ·exact old q (nx q id)
 ·exact ⟨#[],by rw [Array.append_empty];exact old q (nx q id)⟩
 ·by_cases h1:b=T
  ·subst h1;rw [aE] at q;cases q
   obtain ⟨ob,ts,r1,r2,r3⟩:=ht
   exact TB.ok r1 r2 r3
  ·rw [au h1] at q
   by_cases h2:b=x
   ·subst h2;rw [aE] at q;cases q;exact hx _
   ·rw [au h2] at q
    refine (I.hok b v q).stay (fun c o hc r => ?_) (fun c r=>old r (nx r id)) fun c xs r=>old r (nx r id)
    have hc':∃ v',H c=some v'∧c≠x:=by
     rcases hc with z | z
     ·subst z;exact ⟨v,q,h2⟩
     ·exact ⟨_,z,nx z id⟩
    obtain ⟨v',z1,z2⟩:=hc'
    refine k1 c o z2 (fun z => ?_) r
    rw [← hs] at z
    rw [I.oS c z] at z1;cases z1
theorem tT (I:Inv X pins σ H s) (im:uE X A) (e:H x=some (XN C d0 x))
  (h:∀ T s',H T=none→T≠x→Inv X pins σ (upd (upd H x (XT C d0 T x)) T (TB T)) s'→Q () s') :
  yas M A (noteFrame (.ref x) X.env) (fun _ s'=>yas M A (setFlight (.ref x) none) Q E s') E s:=by
 obtain ⟨t0,hx⟩:=XN.get I.hok e
 have hl:s.heap.FunFrames X.base (X.env::X.outer):=by have:=I.stack;rw [im.st] at this;exact this
 unfold noteFrame
 simp only [im.fr]
 refine yaa (wpAny_field hx rfl (x:=.none) rfl ?_)
 rw [yIn (by decide)]
 refine om im.af hl im.fr hx rfl (by simp) fun h' T hT h1 h2 h3 h4=>h T _ (I.hok.fresh hT) (fun z => ?_) (I.noted im.st e trivial hT (fun H'=>XT.ok h1) ⟨_,h1⟩ h2 h3 h4)
 exact absurd (zcw hx) (by rw [← z];exact Nat.not_lt.mpr hT)
theorem n9 {T0:Addr} (I:Inv X pins σ H s) (im:uE X A) (e:H x=some (XT C d0 T0 x)) (e0:H T0=some (TB T0)) (hne:T0≠x)
  (h:∀ T s',H T=none→T≠x→Inv X pins σ (upd (upd H x (XT C d0 T x)) T (TB T)) s'→Q () s') :
  yas M A (noteFrame (.ref x) X.env) (fun _ s'=>yas M A (setFlight (.ref x) none) Q E s') E s:=by
 obtain ⟨t0,a2,a3,a4,a5,hx⟩:=XT.get I.hok e
 obtain ⟨ob,ts,g1,g2,g3⟩:=TB.get I.hok e0
 have hsz:3<ts.size:=(Array.getElem?_eq_some_iff.mp g3).1
 unfold noteFrame
 simp only [im.fr]
 refine yaa (wpAny_field hx rfl (x:=.ref T0) rfl ?_)
 rw [yIp (show (Value.ref T0 != Value.none)=true from by simp)]
 refine yaa (wpAny_field g1 g2 g3 ?_)
 rw [yIn (by simp [rawInt])]
 refine yaa (wpAny_setField g1 g2 hsz ?_)
 have d3:=Obj.data_mapFields g2 (·.setIfInBounds 3 Value.none)
 have u3:=zaw (Obj.mapFields (·.setIfInBounds 3 Value.none)) g1 (Obj.isFreed_of_fields d3)
 have I1:Inv X pins σ (upd H T0 (TB T0)) { s with heap:=s.heap.update T0 (Obj.mapFields (·.setIfInBounds 3 Value.none)),toks:=s.toks } :=
  I.write (x:=T0) (e:=T0) (by rw [e0];exact True.intro) (.inl rfl) (fun b q hb z=>by rw [zao _ _ (Ne.symm hb)];exact z) ⟨_,u3⟩ (TB.ok u3 d3 (by simp [hsz]))
 have eH:upd H T0 (TB T0)=H:=by
  funext b
  by_cases hb:b=T0
  ·subst hb;rw [aE,e0]
  ·rw [au hb]
 rw [eH] at I1
 obtain ⟨t0',b2,b3,b4,b5,hx1⟩:=XT.get I1.hok e
 have hl:(s.heap.update T0 (Obj.mapFields (·.setIfInBounds 3 Value.none))).FunFrames X.base (X.env::X.outer):=by have:=I1.stack;rw [im.st] at this;exact this
 refine om (s:={ s with heap:=s.heap.update T0 (Obj.mapFields (·.setIfInBounds 3 Value.none)),toks:=s.toks }) im.af hl im.fr hx1 rfl (by simp) fun h' T hT h1 h2 h3 h4=>h T _ (I1.hok.fresh hT) (fun z => ?_) (I1.noted im.st e trivial hT (fun H'=>XT.ok h1) ⟨_,h1⟩ h2 h3 h4)
 exact absurd (zcw hx1) (by rw [← z];exact Nat.not_lt.mpr hT)
end
theorem Inv.re {X:Cx}{pins:List (Addr×Obj)}{σ:St}{H:Hp}{s:yai}{A':yam}{c:Bool}{xe:yaj→yai→Prop} (I:Inv X pins σ H s) (hf:A'.frames=X.A.frames) (hc:c=true→A'.handled=none) :
  Inv { X with A:=A',calm:=c,xe:=xe } pins σ H s :=
 ⟨⟨I.ok.mod,I.ok.kind,I.ok.glob,I.ok.blt,I.ok.above,I.ok.inj,I.ok.has,I.ok.GV,hc,hf.trans I.ok.frames,I.ok.stk,I.ok.Jx,I.ok.bs,I.ok.Bl,I.ok.w6,I.ok.Aa,I.ok.jQ,I.ok.DP⟩,I.os,I.bare,I.base,I.loc,I.cell,I.free,I.dz,I.pin,I.hok,I.len⟩
noncomputable abbrev Cx.at (X:Cx) (e:yaj):Cx:={ X with A:=X.A.mark (some e),calm:=false,xe:=fun _ _=>False }
theorem Inv.into {X:Cx}{pins:List (Addr×Obj)}{σ:St}{H:Hp}{s:yai} (I:Inv X pins σ H s) (e:yaj):Inv (X.at e) pins σ H s:=I.re rfl (fun z=>by cases z)
theorem Inv.HX {X:Cx}{pins:List (Addr×Obj)}{σ:St}{H:Hp}{s:yai}{e:yaj} (I:Inv (X.at e) pins σ H s) (ok:X.Ok):Inv X pins σ H s:=⟨ok,I.os,I.bare,I.base,I.loc,I.cell,I.free,I.dz,I.pin,I.hok,I.len⟩
def x8 (P:yak) (w:yal):sJ:=fun outer H s E e s'=>∃ H',s'.os=s.os∧AllBare s'.gens∧Un (frs outer) [] H H' s.heap s'.heap∧e9 P w H' s'.heap∧E e none H'
section
variable {P:yak}{w:yal}{K:yaH}{mg:Str→Option yaj}{base:Heap}{N:List Str}{qual:Str}{scope:Scope}{f:Addr}{cd:yaj}{A:yam}{outer:List Env}{s s1:yai}{H H1:Hp}{E:XK}
theorem wN {pins:List (Addr×Obj)}{σ:St}{a C:Addr}{d0:Option Addr} (I:Inv (gp (x8 P w) P w K mg base N qual scope f cd A outer s H E) pins σ H1 s1) (e:H1 a=some (XN C d0 a))
  (h:∀ T,H1 T=none→T≠a→E (.ref a) none (upd (upd H1 a (XT C d0 T a)) T (TB T))):(gp (x8 P w) P w K mg base N qual scope f cd A outer s H E).xe (.ref a) s1:=by
 show yas _ _ (leaving _ _) _ _ _
 unfold leaving
 exact yaa (tT I ⟨rfl,rfl,I.ok.frames⟩ e fun T s' hT hne I'=>⟨_,I'.os,I'.bare,I'.base,I'.hok,h T hT hne⟩)
theorem wA.okR {x:Str}{st:Stmt}{fd:yaq}{ps:List Str}{k:Nat}{sp:Sp} (F:wA K x qual st f fd) (S:aJ N ps (ao st)) (len:∀ vs H Q E,sp vs H Q E→vs.length=ps.length)
  (hbody:∀ (cdv:yaj) (A:yam) (outer:List Env) (s:yai) (H:Hp) (vs:List V) (Q:VK) (E:XK),bE k (A.deeper (envOfC qual (ao st) s.heap.objs.size f cdv))→sp vs H Q E →
   ∃ t,oH (gp (x8 P w) P w K mg base N qual (ao st) f cdv A outer s H E) (bA st) t∧t { nx:=fun _ H'=>Q .bh H',rt:=Q } (start N vs) H):cJ P w K mg base (x8 P w) (k+1) f fd ps sp:=by
 obtain ⟨oc,od,kV,doc,pm,an,cdv,ct,osl,rfl,lk,hcd⟩:=F.ex
 exact DQ lk hcd S len fun A outer s H vs Q E hr hsp=>hbody cdv A outer s H vs Q E hr hsp
end
structure nM (P:yak) (w:yal) (K:yaH) (mg:Str→Option yaj) (base:Heap) (k:Nat) (x:Str) (ps:List Str) (sp:Sp):Prop where
 ex:∃ f fd,cJ P w K mg base (x8 P w) k f fd ps sp∧mg x=some (.ref f)∧zbS K (.ref f)=true∧Binds K fd ps []
section
variable {X:Cx}{e:Expr}{te:TE}{pos:Pos}
def El (K:yaH) (R:Addr→Addr→Option Addr→Hp→Prop) (te:TE):TS:=fun _ σ H=>te σ H fun v H1=>∃ a C d0,v = .ref a∧H1 a=some (XN C d0 a)∧XCls K C∧R a C d0 H1
theorem zq {R:Addr→Addr→Option Addr→Hp→Prop} (hc:X.calm=true) (hR:∀ pins σ H s a C d0,Inv X pins σ H s→H a=some (XN C d0 a)→R a C d0 H→X.xe (.ref a) s) (he:PE X e te):PS X (.Raise (some e) none pos) (El X.K R te):=by
 intro pins s σ H D I h
 rw [arm_exec_Raise]
 refine yaa (yaz ?_)
 unfold raiseStmt
 simp only [evalOpt,Option.map]
 refine yaa (yaa (bJ (he pins s σ H _ I h) fun u s1 ⟨v,H1,I1,r,a,C,d0,ev,ea,ec,q⟩=>yaa (yaz (yab ?_))))
 subst ev
 obtain rfl:u=Value.ref a:=r
 obtain ⟨t0,hx⟩:=XN.get I1.hok ea
 obtain ⟨nm,qq,N,bs,bm,hdct,sn,sub,ab,col,dd,k0,k1,k2,k3,k5,hl,hB,_,_⟩:=pT ec.ex
 have hC:=I1.gj _ _ hl
 have hh:X.A.handled=none:=I1.ok.hd hc
 have hE:=hR pins σ H1 s1 a C d0 I1 ea q
 have L0:=PySem.W.looks_subIn (M:=model X.prog X.w) I1.gj ec.sb
 obtain ⟨hp,g,d,tk,os⟩:=s1
 repeat (first | with_reducible refine yae hx ?_ | with_reducible refine yae hC ?_ | with_reducible refine PySem.W.Looks.at L0 ?_ | wp_step)
 exact wpAny_raiseNew_none hh hE
end
def E6 (K:yaH) (ta tv:TE) (f:Str):TS:=fun D σ H=>tv σ H fun y H1=>ta σ H1 fun x H2=>∃ a C,x = .ref a∧H2 a=some (XN C none a)∧XCls K C∧zbR K (.ref C) f=some none ∧
 ∀ dx,H2 dx=none→D.nx σ (upd (upd H2 a (XN C (some dx) a)) dx (rZ [(f,y)] dx))
def Eo (K:yaH) (t:TA):TE:=fun σ H Q=>t σ H fun vs H1=>∃ x rest C d0,vs = .ref x::rest∧rest.length≤1000∧H1 x=some (XN C d0 x)∧excIn K C=true∧Q .bh H1
section
variable {X:Cx}{pins:List (Addr×Obj)}{σ:St}{H:Hp}{s:yai}
theorem yL {A:yam}{E:yaj→yai→Prop}{x C:Addr}{f:Str}{y:V}{u:yaj}{Q:Unit→yai→Prop} (I:Inv X pins σ H s) (e:H x=some (XN C none x)) (c:XCls X.K C) (n:zbR X.K (.ref C) f=some none) (ry:RelV y u)
  (h:∀ dx s',H dx=none→Inv X pins σ (upd (upd H x (XN C (some dx) x)) dx (rZ [(f,y)] dx)) s'→Q () s'):yas (model X.prog X.w) A (setAttr (.ref x) f u) Q E s:=by
 obtain ⟨t0,hx⟩:=XN.get I.hok e
 refine PySem.W.yK I.gj hx c.sa c.ov n fun h' hn hx' hk=>h s.heap.objs.size _ (I.hok.fresh (zcy _)) ?_
 have hne:s.heap.objs.size≠x:=zcq (zcw hx)
 have Iw:Inv X pins σ (upd H x (XN C (some s.heap.objs.size) x)) { s with heap:=h',toks:=s.toks+2 } :=
  I.write (x:=x) (e:=x) (by rw [e];exact True.intro) (.inl rfl) (fun b q hb z=>hk b q hb z) ⟨_,hx'⟩ (XN.ok hx')
 refine Iw.uL (by rw [au hne];exact I.hok.fresh (zcy _)) I.sz (zcq I.lt) (fun z cc ez => ?_) (fun p hp => ?_) ?_
 ·obtain ⟨v,o,ho,_⟩:=I.cell z cc ez
  exact zcn (zcw ho)
 ·exact zcn (zcw (I.pin p hp).1)
 ·exact rZ.ok (by simp) hn (fun g=>zo (fs:=[]) (mA:=fun _=>none) ry fun g=>by trivial) (BU (fs:=[]) (mA:=fun _=>none) fun g hg=>absurd rfl hg)
end
section
variable {X:Cx}{o e value:Expr}{es:List Expr}{f d:Str}{pos pos' apos p:Pos}{ta tv:TE}{t:TA}{K:yaH}
theorem zu (ha:PE X o ta) (hv:PE X value tv) (hs:yau value (some (.Attribute o f pos')) pos.line X.env=pure false:=by rfl) (hK:X.K=K:=by rfl):PS X (.Assign [.Attribute o f pos'] value pos) (E6 K ta tv f):=by
 subst hK
 intro pins s σ H D I h
 refine plainObj_wpAny_Assign_Attribute (bJ (hv pins s σ H _ I h) fun u s1 h1 => ?_) hs
 obtain ⟨y,H1,I1,ry,q⟩:=h1
 refine bJ (ha pins s1 σ H1 _ I1 q) fun ov s2 h2 => ?_
 obtain ⟨x,H2,I2,rx,a,C,ex,ea,c,n,q2⟩:=h2
 subst ex
 obtain rfl:ov=Value.ref a:=rx
 exact yL I2 ea c n ry fun dx s3 nd I3=>⟨σ,_,I3,q2 dx nd⟩
theorem zy {pl:Sem Bool}{B:Addr} (hg:Gl X d) (hm:X.mg d=some (.ref B)) (b:DY X.K B) (ha:PA X (e::es) t) (hdb:(d==("__debug__" : Str))=false:=by decide +kernel)
  (hst:(e::es).all notStar=true:=by rfl)
  (ht:eval (.Call (.Attribute (.Name d p) "__init__" apos) (e::es) [] pos) X.env=(do
   let ov ← eval (.Name d p) X.env
   standAt apos.atName
   let (g0,first) ← holding [ov] (getMethod ov "__init__" pl)
   callWith pos g0 first (yav pos (yap (e::es) X.env)) (backToKw pos (yaC [] X.env))):=by rfl) (hK:X.K=K:=by rfl) :
  PE X (.Call (.Attribute (.Name d p) "__init__" apos) (e::es) [] pos) (Eo K t):=by
 subst hK
 have h2:=hst
 rw [zbZ,zbw] at h2
 intro pins s σ H Q I h
 refine PySem.W.methodCall_KW (pl:=pl) (gU I hg hm ?_ hdb) ht
 refine PySem.W.method_cls I.gj b.ga (PySem.W.cls_value I.gj b.rd b.fc (by decide +kernel) ?_)
 refine PyProof.Rows.callWith_builtin1 (bJ (ha pos pins { s with toks:=s.toks+1 } σ H _ (I.tok _) h) fun us s1 hh => ?_) (aO es X.env h2.1) (b8 es h2.2)
 obtain ⟨vs,H1,I1,r1,x,rest,C,d0,ev,hz,ex,ec,q1⟩:=hh
 subst ev
 cases r1 with
 | @cons _ ux _ ur rx rr =>
  obtain rfl:ux=Value.ref x:=rx
  obtain ⟨t0,hx⟩:=XN.get I1.hok ex
  obtain ⟨nm,q,N,bs,bm,hdct,sn,sub,ab,col,dd,k0,k1,k2,k3,k5,hl,hB,_,_⟩:=pT ec
  refine PySem.W.zS (I1.gj _ _ hl) hB hx (by have:=rr.length;rw [yag];lia) fun h' hx' hk=>⟨.bh,H1,?_,rfl,q1⟩
  have Iw:Inv X pins σ (upd H1 x (XN C d0 x)) { s1 with heap:=h',toks:=s1.toks } :=
   I1.write (x:=x) (e:=x) (by rw [ex];exact True.intro) (.inl rfl) (fun b q hb z=>hk b q hb z) ⟨_,hx'⟩ (XN.ok hx')
  have eH:upd H1 x (XN C d0 x)=H1:=by
   funext b
   by_cases hb:b=x
   ·subst hb;rw [aE,ex]
   ·rw [au hb]
  rw [eH] at Iw
  exact Iw
end
section
variable {X:Cx}{C f:Addr}{fd:yaq}{ps:List Str}{k:Nat}{sp:Sp}{ds:List yaj}{dvs:List V}{CX:sJ}{E:XK}
theorem wM {pins:List (Addr×Obj)}{σ:St}{H:Hp}{s:yai}{Q:VK}{us:List yaj}{vs:List V} (M:Ku X.K C f) (F:cJ X.prog X.w X.K X.mg X.base CX k f fd ps sp) (hr:bE (k+1) X.A) (hb:Binds X.K fd ps ds) (hd:Vals dvs ds)
  (hx:Passes CX X E) (I:Inv X pins σ H s) (r:Vals vs us) (hz:vs.length≤1000)
  (h:∀ x,H x=none→sp (.ref x::(vs++dvs)) (upd H x (XN C none x)) (fun v H2=>v = .bh∧Q (.ref x) H2) E) :
  yas (model X.prog X.w) X.A (call (.ref C) us) (EP X pins σ Q) X.xe s:=by
 have hq:=h (s.heap.objs.size+1) (I.hok.fresh (zcA _))
 have kk:∀ b o,s.heap.get? b=some o→((s.heap.push { cls:=.type "tuple",data:=.seq us.toArray }).push (PySem.W.bI C none #[.ref s.heap.objs.size,.none,.none,.none,.bool false,.none])).get? b=some o:=fun b o e=>zan _ (zan _ e)
 have hx0:((s.heap.push { cls:=.type "tuple",data:=.seq us.toArray }).push (PySem.W.bI C none #[.ref s.heap.objs.size,.none,.none,.none,.bool false,.none])).get? (s.heap.objs.size+1)=some (PySem.W.bI C none #[.ref s.heap.objs.size,.none,.none,.none,.bool false,.none]):=by heap_get
 have I2:Inv X pins σ (upd H (s.heap.objs.size+1) (XN C none (s.heap.objs.size+1))) { s with heap:=(s.heap.push { cls:=.type "tuple",data:=.seq us.toArray }).push (PySem.W.bI C none #[.ref s.heap.objs.size,.none,.none,.none,.bool false,.none]),toks:=s.toks } :=
  I.laid kk (zcA _) (XN.ok hx0)
 have r2:Vals (V.ref (s.heap.objs.size+1)::(vs++dvs)) (Value.ref (s.heap.objs.size+1)::(us++ds)):=.cons rfl (r.append hd)
 have hl:(Value.ref (s.heap.objs.size+1)::us++ds).length=ps.length:=by
  have e:=r2.length
  rw [F.len _ _ _ _ hq] at e
  exact e.symm
 obtain ⟨nm,q,N,bs,bm,hdct,sn,sub,ab,col,dd,k0,k1,k2,k3,k5,hlk,hB,hA,hN⟩:=pT M.ex
 obtain ⟨hp,g,d,t,os⟩:=s
 refine yaG (PySem.W.zJ (f:=f) (I.gj _ _ hlk) hB hA hN (by have:=r.length;rw [yag];lia) (PySem.W.looks_findIn I.gj M.init) (fun self=>PySem.W.bind_fn I.gj self (beq_iff_eq.mp M.fn)) (yay (F.run _ X.stack _ _ ⟨Value.ref (hp.objs.size+1)::us,[]⟩ (Value.ref (hp.objs.size+1)::(us++ds)) _ _ E (hr.make C us [])
  (I2.F7.make C us []) (hb _ (Value.ref (hp.objs.size+1)::us) I2.gj hl) r2 hq) fun r s' hq' => ?_))
 cases r with
 | error e=>exact hx pins σ _ _ e s' I2 hq'
 | ok fl =>
  cases fl with
  | ret u =>
   obtain ⟨v,H',I3,rv,ev,q3⟩:=I2.after hq'
   subst ev
   exact ⟨rv,⟨V.ref (hp.objs.size+1),H',I3,rfl,q3⟩⟩
  | next=>exact False.elim hq'
  | brk=>exact False.elim hq'
  | cont=>exact False.elim hq'
def En (C:Addr) (sp:Sp) (t:TA):TE:=fun σ H Q=>t σ H fun vs H1=>vs.length≤1000∧∀ x,H1 x=none→sp (.ref x::(vs++[])) (upd H1 x (XN C none x)) (fun v H2=>v = .bh∧Q (.ref x) H2) E0
theorem zx {x:Str}{e:Expr}{es:List Expr}{t:TA}{p pos:Pos} (D:CV X.prog X.w X.K X.mg X.base k x C ps sp) (hr:bE (k+1) X.A) (hg:Gl X x) (hx:Passes oK X E0) (ha:PA X (e::es) t) (hdb:(x==("__debug__" : Str))=false:=by decide +kernel) (hs:(e::es).all notStar=true:=by rfl) :
  PE X (.Call (.Name x p) (e::es) [] pos) (En C sp t):=by
 obtain ⟨⟨f,fd,M,F,hb⟩,hm⟩:=D
 have h2:=hs
 rw [zbZ,zbw] at h2
 intro pins s σ H Q I h
 refine wpAny_Call_Name_kw (gU I hg hm ?_ hdb)
 refine PySem.W.callWith_K (h₀:=X.base) I.ok.mod.Il M.kp (bJ (ha pos pins s σ H _ I h) fun us s1 ⟨vs,H1,I1,r,hz,q⟩=>⟨I1.gj,?_⟩) (aO es X.env h2.1) (b8 es h2.2)
 exact wM (dvs:=[]) M F hr hb .nil hx I1 r hz q
end
section
variable {M:Model}{A:yam}{E:yaj→yai→Prop}
theorem qV {K:yaH}{h:Heap}{g:Array yax}{d:Drawn}{t:Nat}{os:yaF}{e C B:Addr}{oe:Obj}{Q:Bool→yai→Prop} (X:K.In h) (he:h.get? e=some oe) (hc:oe.cls = .ref C) (hB:excIn K B=true)
  (s1:zcg K (.ref B) (.type "BaseException")=some true) (s2:zcg K (.ref C) (.ref B)=some true) (hq:Q true ⟨h,g,d,t,os⟩):yas M A (excMatches (.ref e) (.ref B)) Q E ⟨h,g,d,t,os⟩:=by
 obtain ⟨nm,qq,N,bs,bm,hdct,sn,sub,ab,col,dd,k0,k1,k2,k3,k5,hl,_,_,_⟩:=pT hB
 have hC:=X _ _ hl
 have L1:=PySem.W.looks_subIn (M:=M) X s1
 have L2:=PySem.W.looks_subIn (M:=M) X s2
 have f:=tc_notTuple
 unfold excMatches
 repeat (first | (with_reducible refine yae he ?_;rw [hc]) | with_reducible refine yae hC ?_ | with_reducible refine PySem.W.Looks.at L1 ?_ | with_reducible refine PySem.W.Looks.at L2 ?_ | wp_step)
 exact hq
end
section
variable {X:Cx}{pins:List (Addr×Obj)}{σ:St}{H:Hp}{s:yai}
theorem Inv.drop {M:Model}{A:yam}{E:yaj→yai→Prop}{i:Nat}{n:Str}{v:V}{pos:Pos}{Q:Unit→yai→Prop} (I:Inv X pins σ H s) (hN:X.N.Nodup) (hi:X.N[i]? = some n) (hx:X.env.scope.names.lookup n=some .local) (hv:σ[i]? = some (some v))
  (h:∀ s',Inv X pins (σ.set i none) H s'→Q () s'):yas M A (unbindBehindTheSuite X.env n pos) Q E s:=by
 obtain ⟨m,hn,hl⟩:=id I.loc
 obtain ⟨u,ru,lk⟩:=hl i n v hi hv (.inl hx)
 have hm:m n=some u:=by
  rcases lk with ⟨_,z⟩ | ⟨z,_⟩
  ·exact z
  ·have hx':X.env.kindOf n=some .local:=hx
   rw [hx'] at z;rcases z with z | z <;> cases z
 have hcls:(X.env.scope.kind == .class||(X.env.scope.kind == .module&&X.env.locals != X.env.globals))=false:=by rw [I.ok.kind];rfl
 obtain ⟨oL,_,_,hoL,_⟩:=id hn
 unfold unbindBehindTheSuite
 refine wpAny_onRaise (wpAny_unbindName_local hx hn hm hcls fun h' u' hn' hs=>h _ ?_)
 have I0:Inv X pins (σ.set i none) H s:=I.weak (by simp) fun j w' e=>by
  by_cases hj:j=i
  ·subst hj
   rw [zbe] at e
   simp only [if_true] at e
   split at e <;> cases e
  ·rw [zaz (Ne.symm hj)] at e;exact e
 have tracked:e9 X.prog X.w H h':=fun b ob e=>by
  refine (I.hok b ob e).stay (fun c w' hc q=>(hs.2 c ?_).trans q) (fun _ q=>q) fun _ _ q=>q
  rintro rfl
  rcases hc with rfl | hc
  ·rw [I.free] at e;cases e
  ·rw [I.free] at hc;cases hc
 refine ⟨I.ok,I.os,I.bare,⟨fun b o e n hb hx => ?_,fun b o e n hb hx => ?_,I.base.free,fun b o e hx => ?_,I.base.tups,I.base.mQ,I.base.nA⟩,⟨_,hn',fun j y v' e1 e2 e3 => ?_⟩,fun y c e => ?_,I.free,I.dz,fun p hp => ?_,tracked,by simpa using I.len⟩
 ·exact (hs.2 b (zcn (zaU (zcw e) I.ok.above))).trans (I.base.keep b o e n hb hx)
 ·obtain ⟨sl,e1⟩:=I.base.slot b o e n hb hx
  exact ⟨sl,(hs.2 b (zcn (zaU (zcw e) I.ok.above))).trans e1⟩
 ·obtain ⟨o',e1⟩:=I.base.there b o e hx
  exact ⟨o',(hs.2 b (zcn (zaU (zcw e) I.ok.above))).trans e1⟩
 ·by_cases hj:j=i
  ·subst hj
   rw [zbe] at e2
   simp only [if_true] at e2
   split at e2 <;> cases e2
  ·rw [zaz (Ne.symm hj)] at e2
   obtain ⟨u',r',q⟩:=hl j y v' e1 e2 e3
   refine ⟨u',r',?_⟩
   rcases q with ⟨k,e⟩ | ⟨k,c,e,z⟩
   ·refine .inl ⟨k,?_⟩
    have:y≠n:=fun e=>hj (mj hN e1 (e ▸ hi))
    simp [this,e]
   ·exact .inr ⟨k,c,e,z.sameBut hs (I.CK y c e)⟩
 ·obtain ⟨w',z⟩:=I.cell y c e
  exact ⟨w',z.sameBut hs (I.CK y c e)⟩
 ·obtain ⟨e,n,ne,nf,d⟩:=I.pin p hp
  exact ⟨(hs.2 p.1 ne).trans e,n,ne,nf,d⟩
theorem xA {M:Model}{A:yam}{E:yaj→yai→Prop}{x C T:Addr}{d0:Option Addr}{Q:Unit→yai→Prop} (I:Inv X pins σ H s) (e:H x=some (XT C d0 T x)) (e0:H T=some (TB T))
  (h:∀ s',Inv X pins σ (upd H x (XO C d0 x)) s'→Q () s'):yas M A (setFlight (.ref x) none) Q E s:=by
 obtain ⟨t0,a2,a3,a4,a5,hx⟩:=XT.get I.hok e
 obtain ⟨ob,ts,g1,g2,g3⟩:=TB.get I.hok e0
 have hsz:3<ts.size:=(Array.getElem?_eq_some_iff.mp g3).1
 unfold setFlight
 refine yaa (wpAny_field hx rfl (x:=.ref T) rfl ?_)
 rw [yIp (show (Value.ref T != Value.none)=true from by simp)]
 refine wpAny_setField g1 g2 hsz (h _ ?_)
 have d3:=Obj.data_mapFields g2 (·.setIfInBounds 3 ((none:Option Addr).elim Value.none fun f=>rawInt f))
 have u3:=zaw (Obj.mapFields (·.setIfInBounds 3 ((none:Option Addr).elim Value.none fun f=>rawInt f))) g1 (Obj.isFreed_of_fields d3)
 have I1:Inv X pins σ (upd H T (TB T)) { s with heap:=s.heap.update T (Obj.mapFields (·.setIfInBounds 3 ((none:Option Addr).elim Value.none fun f=>rawInt f))),toks:=s.toks } :=
  I.write (x:=T) (e:=T) (by rw [e0];exact True.intro) (.inl rfl) (fun b q hb z=>by rw [zao _ _ (Ne.symm hb)];exact z) ⟨_,u3⟩ (TB.ok u3 d3 (by simp [hsz]))
 have eH:upd H T (TB T)=H:=by
  funext b
  by_cases hb:b=T
  ·subst hb;rw [aE,e0]
  ·rw [au hb]
 rw [eH] at I1
 obtain ⟨t0',b2,b3,b4,b5,hx1⟩:=XT.get I1.hok e
 exact I1.write (x:=x) (e:=x) (by rw [e];exact True.intro) (.inl rfl) (fun b q hb z=>z) ⟨_,hx1⟩ (XO.ok hx1)
end
structure Kz (K:yaH) (B:Addr) (H:Hp) (a C dx T:Addr) (fs:List (Str×V)):Prop where
 x:H a=some (XT C (some dx) T a)
 t:H T=some (TB T)
 d:H dx=some (rZ fs dx)
 n1:T≠a
 n2:dx≠a
 sb:zcg K (.ref C) (.ref B)=some true
section
variable {P:yak}{w:yal}{K:yaH}{mg:Str→Option yaj}{base:Heap}{N:List Str}{qual:Str}{scope:Scope}{f:Addr}{cd:yaj}{A:yam}{outer:List Env}{s:yai}{H:Hp}{E:XK}{B C:Addr}{fn:Str}{v:V}
theorem J4:PassesOwn (model P w) (A.deeper (envOfC qual scope s.heap.objs.size f cd)) (envOfC qual scope s.heap.objs.size f cd) (gp (x8 P w) P w K mg base N qual scope f cd A outer s H E).xe:=PassesOwn.leaving (Q₁:=fun e s''=>x8 P w outer H s E e s'')
end
theorem cJ.x0 {P:yak}{w:yal}{K:yaH}{mg:Str→Option yaj}{base:Heap}{CX:sJ}{k:Nat}{f:Addr}{fd:yaq}{ps:List Str}{sp:Sp} (F:cJ P w K mg base oK k f fd ps sp):cJ P w K mg base CX k f fd ps sp :=
 ⟨F.len,fun A outer s H args us vs Q E hr e0 hb r h=>yay (F.run A outer s H args us vs Q E hr e0 hb r h) fun r s' q=>by
  cases r with
  | ok fl=>cases fl <;> exact q
  | error e=>exact False.elim q⟩
theorem cJ.or {P:yak}{w:yal}{K:yaH}{mg:Str→Option yaj}{base:Heap}{CX:sJ}{k:Nat}{f:Addr}{fd:yaq}{ps:List Str}{sp sq:Sp} (F:cJ P w K mg base CX k f fd ps sp) (G:cJ P w K mg base CX k f fd ps sq):cJ P w K mg base CX k f fd ps fun vs H Q E=>sp vs H Q E∨sq vs H Q E :=
 ⟨fun vs H Q E h=>h.elim (F.len vs H Q E) (G.len vs H Q E),fun A outer s H args us vs Q E hr e0 hb r h=>h.elim (F.run A outer s H args us vs Q E hr e0 hb r) (G.run A outer s H args us vs Q E hr e0 hb r)⟩
end L2
namespace M
open PySem PySem.Spec PyProof.Rows L2
theorem vn {K:yaH}{w:Wd}{H H':Hp}{S:aK} (ok:Ok K w H S) (h:dF H H'):Ok K w H' S :=
 ⟨fun b o e=>h b o (ok.base b o e),fun n o e=>by
  obtain ⟨a,u,h1,h2,h3,h4⟩:=ok.live n o e
  exact ⟨a,u,h1,h2,h a u h3,h4⟩,ok.inj,ok.top⟩
def IV (K:yaH) (w0:Wd) (a:AE):TE:=fun σ H Q=>∃ w δ S Qa,w0.le w∧Ok K w H S∧cR K w δ σ∧a δ S Qa∧dP K w Qa Q
def IS (K:yaH) (w0:Wd) (a:AS):TS:=fun D σ H=>∃ w δ S Da,w0.le w∧Ok K w H S∧cR K w δ σ∧a Da δ S∧sG K w Da D
structure K6 (X:Cx) (w0:Wd) (e:Expr) (a:AE):Prop where
 p:PE X e (IV X.K w0 a)
structure GW1 (X:Cx) (w0:Wd) (s:Stmt) (a:AS):Prop where
 p:PS X s (IS X.K w0 a)
structure Dc (X:Cx) (w0:Wd) (s:List Stmt) (a:AS):Prop where
 p:oH X s (IS X.K w0 a)
section
variable {X:Cx}{w0:Wd}{st:Stmt}{rest p q:List Stmt}{a b:AS}{c e:Expr}{tc:AT}{t:AE}{pos:Pos}
theorem GS.w (h:GS X st a):GW1 X w0 st a:=⟨mS h.p fun D σ H ⟨w,δ,S,Da,_,r⟩=>⟨w,δ,S,Da,r⟩⟩
theorem uF.w (h:uF X rest a):Dc X w0 rest a:=⟨Ij h.p fun D σ H ⟨w,δ,S,Da,_,r⟩=>⟨w,δ,S,Da,r⟩⟩
theorem uH (h:GW1 X w0 st a):Dc X w0 [st] a:=⟨L2.aj h.p⟩
theorem ff (h:GW1 X w0 st a) (g:Dc X w0 rest b):Dc X w0 (st::rest) (fB a b):=⟨Ij (L2.ah h.p g.p) fun D σ H ⟨w,δ,S,Da,le,ok,env,q,bk⟩ =>
 ⟨w,δ,S,_,le,ok,env,q,⟨fun δ1 S1 σ1 w1 H1 le1 ok1 env1 q1=>⟨w1,δ1,S1,Da,le.trans le1,ok1,env1,q1,bk.le le1⟩,bk.rt,bk.bk,bk.ct⟩⟩⟩
theorem JK (hc:GT X c tc) (ha:Dc X w0 p a) (hb:Dc X w0 q b):GW1 X w0 (.If c p q pos) (nK tc a b):=⟨mS (L2.bu hc.p ha.p hb.p) fun D σ H ⟨w,δ,S,Da,le,ok,env,q,bk⟩=>by
 refine ⟨w,δ,S,_,ok,env,q,fun k S1 w1 H1 le1 ok1 q1 => ?_⟩
 cases k with
 | true=>exact kr ⟨w1,δ,S1,Da,le.trans le1,ok1,env.le le1,by simpa using q1,bk.le le1⟩
 | false=>exact nF ⟨w1,δ,S1,Da,le.trans le1,ok1,env.le le1,by simpa using q1,bk.le le1⟩⟩
end
end M
namespace L2
open PySem PySem.Spec PyProof.Rows
abbrev TX:=(St→Hp→Prop)→(yaj→St→Hp→Prop)→St→Hp→Prop
def PX (X:Cx) (sts:List Stmt) (t:TX):Prop:=∀ (pins:List (Addr×Obj)) (s:yai) (σ:St) (H:Hp) (nx:St→Hp→Prop) (ex:yaj→St→Hp→Prop),Inv X pins σ H s→t nx ex σ H →
 yas (model X.prog X.w) X.A (execs sts X.env) (fun fl s'=>fl = .next∧∃ σ' H',Inv X pins σ' H' s'∧nx σ' H') (fun e s'=>∃ H',Inv X pins σ H' s'∧ex e σ H') s
def Ek (j:Nat) (sp:Sp) (t:TA):TX:=fun nx ex σ H=>t σ H fun vs H1=>sp vs H1 (fun v H2=>nx (σ.set j (some v)) H2) fun ev _ H2=>ex ev σ H2
def JM (c:TT) (t u:TX):TX:=fun nx ex σ H=>c σ H fun b H1=>if b=true then t nx ex σ H1 else u nx ex σ H1
section
variable {X:Cx}{e:Expr}{es:List Expr}{t:TA}{x y c n:Str}{p p1 p2 p3 p4 p5 pos:Pos}{k i j:Nat}{ps:List Str}{sp:Sp}{b₀:Stmt}{suite:List Stmt}{u:TS}{B:Addr}
theorem vf (hxe:X.xe=fun _ _=>False) (Df:nM X.prog X.w X.K X.mg X.base k x ps sp) (hr:bE k X.A) (hg:Gl X x) (ha:PA X (e::es) t) (hN:X.N.Nodup) (hj:X.N[j]? = some y) (hy:X.env.scope.names.lookup y=some .local)
  (hs:yau (.Call (.Name x p) (e::es) [] p1) (some (.Name y p5)) p2.line X.env=pure false:=by rfl) (hdb:(x==("__debug__" : Str))=false:=by decide +kernel) (hss:(e::es).all notStar=true:=by rfl) :
  PX X [.Assign [.Name y p5] (.Call (.Name x p) (e::es) [] p1) p2] (Ek j sp t):=by
 obtain ⟨f,fd,F,hm,hk,hb⟩:=Df.ex
 have h2:=hss
 rw [zbZ,zbw] at h2
 intro pins s σ H nx ex I h
 refine yaE ?_
 refine wpAny_Assign_Name ?_ hs
 refine wpAny_Call_Name_kw (gU I hg hm ?_ hdb)
 refine PySem.W.callWith_K (h₀:=X.base) I.ok.mod.Il hk (yac (ha p1 pins s σ H _ I h) (fun us s1 ⟨vs,H1,I1,r,q⟩=>⟨I1.gj,?_⟩) (fun _ _ z=>by rw [hxe] at z;exact False.elim z)) (aO es X.env h2.1) (b8 es h2.2)
 have hl:us.length=ps.length:=by rw [← r.length];exact F.len _ _ _ _ q
 have hb1:=hb s1 us I1.gj (by rw [zbB];exact hl)
 rw [zbB] at hb1
 refine yaG (yay (F.run X.A X.stack s1 H1 ⟨us,[]⟩ us vs _ _ hr I1.F7 hb1 r q) fun r s' hq => ?_)
 cases r with
 | ok fl =>
  cases fl with
  | ret u =>
   obtain ⟨v,H',I2,rv,q2⟩:=I1.after hq
   refine eN I2 hN hj (.inl hy) rv (fun s3 I3 => ?_) (.inr hy)
   exact yaD ⟨rfl,_,_,I3,q2⟩
  | next=>exact False.elim hq
  | brk=>exact False.elim hq
  | cont=>exact False.elim hq
 | error ev =>
  obtain ⟨H2,ho,hbare,un,hok,q2⟩:=hq
  exact ⟨H2,I1.Ay (ch:=[]) ho un hok hbare (fun b z=>absurd z (by simp)),q2⟩
theorem HU {c:Expr}{a b:List Stmt}{tc:TT}{t u:TX} (hxe:X.xe=fun _ _=>False) (hc:PT X c tc) (ha:PX X a t) (hb:PX X b u):PX X [.If c a b pos] (JM tc t u):=by
 intro pins s σ H nx ex I h
 refine yaE (wpAny_If (yac (hc pins s σ H _ I h) (fun d s1 ⟨H1,I1,q1⟩ => ?_) (fun _ _ z=>by rw [hxe] at z;exact False.elim z)))
 cases d with
 | true =>
  rw [yIp rfl] at q1 ⊢
  refine bJ (ha pins s1 σ H1 nx ex I1 q1) fun fl s' ⟨e,r⟩ => ?_
  subst e
  exact yaD ⟨rfl,r⟩
 | false =>
  rw [yIn (by decide)] at q1 ⊢
  refine bJ (hb pins s1 σ H1 nx ex I1 q1) fun fl s' ⟨e,r⟩ => ?_
  subst e
  exact yaD ⟨rfl,r⟩
def G6 (K:yaH) (B:Addr) (i:Nat) (t:TX) (u:TS):TS:=fun D σ H=>t D.nx (fun ev σ H2=>∃ a C dx T fs,ev = .ref a∧Kz K B H2 a C dx T fs ∧
 ∀ H3,H3 a=some (XO C (some dx) a)→(∀ b o,H2 b=some o→b≠a→H3 b=some o)→u { nx:=fun σ' H'=>(∃ v,σ'[i]? = some (some v))∧D.nx (σ'.set i none) H',rt:=fun _ _=>False } (σ.set i (some (.ref a))) H3) σ H
theorem BV {body:List Stmt}{t:TX} (hst:X.stack=X.env::X.outer) (hfr:X.env.frame=some X.env.locals) (hb:PX X body t)
  (hgc:Gl X c) (hmc:X.mg c=some (.ref B)) (hB:excIn X.K B=true) (sB:zcg X.K (.ref B) (.type "BaseException")=some true) (hN:X.N.Nodup) (hi:X.N[i]? = some n) (hx:X.env.scope.names.lookup n=some .local)
  (hu:∀ a:Addr,oH (X.at (.ref a)) (b₀::suite) u) (hdc:(c==("__debug__" : Str))=false:=by decide +kernel) :
  PS X (.Try body [.ExceptHandler (some (.Name c p3)) (some n) (b₀::suite) p4] [] [] pos) (G6 X.K B i t u):=by
 intro pins s σ H D I h
 have im:uE X X.A:=⟨hst,hfr,by rw [I.ok.frames,hst]⟩
 refine wpAny_Try_except (yac (hb pins s σ H _ _ I h) (fun fl s1 ⟨e,σ',H',I',q⟩ => ?_) (fun ev s' ⟨H2,I2,a,C,dx,T,fs,eva,R,hu2⟩ => ?_))
 ·subst e
  exact yaD ⟨σ',H',I',q⟩
 ·subst eva
  refine n9 I2 im R.x R.t R.n1 fun T' s3 nT' hT' I3 => ?_
  have aT':a≠T':=Ne.symm hT'
  refine wpAny_handleBy_cons (codeAny_handlers_test (gU (X:=X.at (.ref a)) (I3.into (.ref a)) hgc hmc ?_ hdc)) (by intro q;cases q)
  have ex3:upd (upd H2 a (XT C (some dx) T' a)) T' (TB T') a=some (XT C (some dx) T' a):=by rw [au aT',aE]
  obtain ⟨t0,a2,a3,a4,a5,hx3⟩:=XT.get I3.hok ex3
  obtain ⟨hp,g,d,tk,os⟩:=s3
  refine qV I3.gj hx3 rfl hB sB R.sb ?_
  refine codeAny_handlers_suite_as (xA (I3.into (.ref a)) ex3 aE fun s4 I4 => ?_)
  refine eN (X:=X.at (.ref a)) I4 hN hi (.inl hx) (v:=.ref a) rfl (fun s5 I5 => ?_) (.inr hx)
  refine yac (hu a pins s5 _ _ _ I5 (hu2 _ aE fun b o eb hba => ?_)) (fun fl s6 hf => ?_) (fun _ _ z=>False.elim z)
  ·rw [au hba,au (aH eb nT'),au hba];exact eb
  ·cases fl with
   | next =>
    obtain ⟨σ',H',I6,⟨v,hv⟩,q6⟩:=hf
    have I6:=I6.HX I.ok
    have hil:i<σ'.length:=(zac.mp hv).1
    refine yaa (wpAny_bindName (eN I6 hN hi (.inl hx) (v:=.bh) rfl (fun s7 I7 => ?_) (.inr hx)))
    refine I7.drop hN hi hx (v:=.bh) (by rw [List.getElem?_set_self hil]) fun s8 I8 => ?_
    rw [zcm] at I8
    exact ⟨_,_,I8,q6⟩
   | ret u=>obtain ⟨_,_,_,_,_,z⟩:=hf;exact False.elim z
   | brk=>obtain ⟨_,_,_,z⟩:=hf;exact False.elim z
   | cont=>obtain ⟨_,_,_,z⟩:=hf;exact False.elim z
theorem BX {tg iter:Expr}{body:List Stmt}{te:TE} (he:PE X iter te) (hs:∀ x,foldedSetIterable iter X.env x=pure x:=by intro _;rfl):PS X (.For tg iter body [] pos) (fun _ σ H=>te σ H fun _ _=>False):=by
 intro pins s σ H D I h
 exact wpAny_For (bJ (he pins s σ H _ I h) fun v s1 ⟨_,_,_,_,z⟩=>z.elim) hs
end
def Eu (K:yaH) (C:Addr) (fn:Str):Sp:=fun vs H Q _=>∃ x a xs,vs=[.ref x,.ref a]∧H x=some (XN C none x)∧cH K H a xs∧∀ H' l dx,(∀ b o,H b=some o→b≠x→H' b=some o)→H' x=some (XN C (some dx) x)→H' dx=some (rZ [(fn,.ref l)] dx)→H' l=some (.lst xs)→H l=none→H dx=none→l≠dx→Q .bh H'
end L2
namespace M
open PySem PySem.Spec PyProof.Rows L2
theorem Al {K:yaH}{w w1:Wd}{H H1:Hp}{S0 S1:aK}{d:D}{v:V} (ok:Ok K w H S0) (le:w.le w1) (ok1:Ok K w1 H1 S1) (hS:S1.take S0.length=S0) (hp:cI d=true) (rep:Rep K w1 d v):∃ w2,w.le w2∧Ok K w2 H1 S0∧Rep K w2 d v:=by
 refine lO (r:=.dat d) (v:=v) (Qa:=fun r S'=>r = .dat d∧S'=S0) (Q:=fun v H=>∃ w2,w.le w2∧Ok K w2 H S0∧Rep K w2 d v) ok le ok1 rep ⟨.dat d,d7 hp,fun k o hk e=>.inl ?_,rfl,hS⟩ fun r S' v w' H' le' ok' rep' q => ?_
 ·rw [← hS,zaO,yIp hk];exact e
 ·obtain ⟨rfl,rfl⟩:=q
  exact ⟨w',le',ok',rep'⟩
def XG (K:yaH) (CP C:Addr) (fn:Str) (S:aK) (w:Wd) (G:D→Prop):XK:=fun ev _ H'=>∃ w' H0 a dx T v d,w.le w'∧Ok K w' H0 S∧Rep K w' d v∧G d∧H0 a=none∧H0 dx=none∧dF H0 H'∧ev = .ref a∧Kz K CP H' a C dx T [(fn,v)]
structure Gw (X:Cx) (CP C:Addr) (fn:Str) (S:aK) (w:Wd) (G:D→Prop):Prop where
 calm:X.calm=true
 pass:Passes (x8 X.prog X.w) X (XG X.K CP C fn S w G)
 out:∀ pins σ H1 s1 a C' d0,Inv X pins σ H1 s1→H1 a=some (XN C' d0 a)→(∀ T,H1 T=none→T≠a→XG X.K CP C fn S w G (.ref a) none (upd (upd H1 a (XT C' d0 T a)) T (TB T)))→X.xe (.ref a) s1
section
variable {P:yak}{w:yal}{K:yaH}{mg:Str→Option yaj}{base:Heap}{N:List Str}{qual:Str}{scope:Scope}{f:Addr}{cd:yaj}{A:yam}{outer:List Env}{s:yai}{H:Hp}{CP C:Addr}{fn:Str}{S0:aK}{w0:Wd}{G:D→Prop}
theorem G0:Gw (gp (x8 P w) P w K mg base N qual scope f cd A outer s H (XG K CP C fn S0 w0 G)) CP C fn S0 w0 G:=by
 refine ⟨rfl,?_,fun pins σ H1 s1 a C d0 I e h=>wN I e h⟩
 intro pins σ H1 s1 e s' I h
 obtain ⟨H2,ho,hb,un,hok,w',H0,a,dx,T,v,d,g1,g2,g3,gd,g4,g5,g6,rfl,R⟩:=h
 have I2:=I.Ay (ch:=[]) ho un hok hb (fun b z=>absurd z (by simp))
 show yas _ _ (leaving _ _) _ _ _
 unfold leaving
 refine yaa (n9 I2 ⟨rfl,rfl,I.ok.frames⟩ R.x R.t R.n1 fun T' s3 nT hT I3=>⟨_,I3.os,I3.bare,I3.base,I3.hok,w',H0,a,dx,T',v,d,g1,g2,g3,gd,g4,g5,fun b o e => ?_,rfl,⟨?_,aE,?_,hT,R.n2,R.sb⟩⟩)
 ·have ba:b≠a:=aH e g4
  rw [au (aH (g6 _ _ e) nT),au ba];exact g6 _ _ e
 ·rw [au (Ne.symm hT),aE]
 ·rw [au (aH R.d nT),au R.n2];exact R.d
end
def xJ (K:yaH) (CP C:Addr) (fn:Str) (bad:List D→aK→(D→Prop)→Prop):Sp:=fun vs H _ E=>∃ w ds S G,Ok K w H S∧aq K w ds vs∧bad ds S G∧∀ ev H',XG K CP C fn S w G ev none H'→E ev none H'
section
variable {X:Cx}{w0:Wd}{body:List Stmt}{b:AS}{c e:Expr}{es:List Expr}{tc:AT}{t:AE}{pos p p1:Pos}{CP C:Addr}{fn:Str}{S0:aK}{k:Nat}{G:D→Prop}{ps:List Str}
theorem Br (hp:PassesOwn (model X.prog X.w) X.A X.env X.xe) (hc:GT X c tc) (hb:Dc X w0 body b):GW1 X w0 (.While c body [] pos) (p7 tc b):=⟨mS (L2.dI hp hc.p hb.p) fun D σ H h=>by
 obtain ⟨w,δ,S,Da,le0,ok,env,⟨W,⟨m0,w0⟩,turn⟩,bk⟩:=h
 refine ⟨fun m σ H=>∃ w1 δ1 S1,w.le w1∧Ok X.K w1 H S1∧cR X.K w1 δ1 σ∧W m δ1 S1,⟨m0,w,δ,S,.refl,ok,env,w0⟩,?_⟩
 rintro m σ1 H1 ⟨w1,δ1,S1,le1,ok1,env1,h1⟩
 refine ⟨w1,δ1,S1,_,ok1,env1,turn m δ1 S1 h1,fun k S2 w2 H2 le2 ok2 q2 => ?_⟩
 cases k with
 | false=>exact nF (bk.nx δ1 S2 σ1 w2 H2 (le1.trans le2) ok2 (env1.le le2) (by simpa using q2))
 | true =>
  rw [yIp rfl] at q2
  obtain ⟨N,hN,q2⟩:=q2
  have lew:=le1.trans le2
  refine kr ⟨fun σ' H'=>∃ w3 δ3 S3,w.le w3∧Ok X.K w3 H' S3∧cR X.K w3 δ3 σ'∧N δ3 S3,?_,w2,δ1,S2,_,le0.trans lew,ok2,env1.le le2,q2,⟨?_,bk.rt.le lew,bk.nx.le lew,?_⟩⟩
  ·rintro σ' H' ⟨w3,δ3,S3,le3,ok3,env3,n3⟩
   obtain ⟨m',hm,h3⟩:=hN δ3 S3 n3
   exact ⟨m',hm,w3,δ3,S3,le3,ok3,env3,h3⟩
  ·exact fun δ4 S4 σ4 w4 H4 le4 ok4 env4 q4=>⟨w4,δ4,S4,lew.trans le4,ok4,env4,q4⟩
  ·exact fun δ4 S4 σ4 w4 H4 le4 ok4 env4 q4=>⟨w4,δ4,S4,lew.trans le4,ok4,env4,q4⟩⟩
def DW (bad:List D→aK→(D→Prop)→Prop) (S0:aK) (G:D→Prop) (t:AA):AE:=fun δ S _=>t δ S fun es S2=>bad es S2 G∧S2.take S0.length=S0∧∀ d,G d→cI d=true
theorem D9 {bad:List D→aK→(D→Prop)→Prop}{t:AA}{x:Str}{H0:Hp} (ok0:Ok X.K w0 H0 S0) (hx:Gw X CP C fn S0 w0 G) (Df:nM X.prog X.w X.K X.mg X.base k x ps (xJ X.K CP C fn bad)) (hr:bE k X.A) (hg:Gl X x) (ha:GA X (e::es) t)
  (hdb:(x==("__debug__" : Str))=false:=by decide +kernel) (hs:(e::es).all notStar=true:=by rfl):K6 X w0 (.Call (.Name x p) (e::es) [] pos) (DW bad S0 G t):=by
 obtain ⟨f,fd,F,hm,hk,hb⟩:=Df.ex
 have h2:=hs
 rw [zbZ,zbw] at h2
 refine ⟨mE (vm F hr hg hm hk hb .nil hx.pass ha.p hdb (aO es X.env h2.1) (b8 es h2.2)) ?_⟩
 rintro σ H Q ⟨w,δ,S,Qa,le,ok,env,q,bk⟩
 refine ⟨w,δ,S,_,ok,env,q,fun ds S2 vs w2 H2 le2 ok2 rep2 q2 => ?_⟩
 obtain ⟨q2,hS,hp⟩:=q2
 refine ⟨w2,ds,S2,G,ok2,by rw [zbB];exact rep2,q2,fun ev H' z => ?_⟩
 obtain ⟨w',H1,a,dx,T,v,d,g1,g2,g3,gd,g4⟩:=z
 obtain ⟨w3,l1,l2,l3⟩:=Al ok0 (le.trans (le2.trans g1)) g2 hS (hp d gd) g3
 exact ⟨w3,H1,a,dx,T,v,d,l1,l2,l3,gd,g4⟩
theorem Ea {tg iter:Expr}{body:List Stmt}{te:AE} (he:K6 X w0 iter te) (hs:∀ x,foldedSetIterable iter X.env x=pure x:=by intro _;rfl):GW1 X w0 (.For tg iter body [] pos) (fun _ δ S=>te δ S fun _ _=>False) :=
 ⟨mS (L2.BX he.p hs) fun D σ H ⟨w,δ,S,Da,le,ok,env,q,bk⟩=>⟨w,δ,S,_,le,ok,env,q,fun _ _ _ _ _ _ _ _ z=>z.elim⟩⟩
def vW (S0:aK) (G:D→Prop) (ae:AE):AS:=fun _ δ S=>ae δ S fun r S'=>G r.d∧(∃ ds,r.d = .lst ds)∧cI r.d=true∧S'.take S0.length=S0
theorem yf {x:Str}{ae:AE}{H0:Hp} (ok0:Ok X.K w0 H0 S0) (hx:Gw X CP C fn S0 w0 G) (Dx:CV X.prog X.w X.K X.mg X.base k x C ps (Eu X.K C fn)) (c:XCls X.K C) (sb:zcg X.K (.ref C) (.ref CP)=some true)
  (hr:bE (k+1) X.A) (hg:Gl X x) (he:GE X e ae) (hdb:(x==("__debug__" : Str))=false:=by decide +kernel) (hs:[e].all notStar=true:=by rfl) :
  GW1 X w0 (.Raise (some (.Call (.Name x p) [e] [] p1)) none pos) (vW S0 G ae):=by
 have ht:notStar e=true:=by rw [zbZ,zbw] at hs;exact hs.1
 refine ⟨mS (L2.zq (R:=fun a C' d0 H1=>∀ T,H1 T=none→T≠a→XG X.K CP C fn S0 w0 G (.ref a) none (upd (upd H1 a (XT C' d0 T a)) T (TB T))) hx.calm (fun pins σ H1 s1 a C' d0 I ex h=>hx.out pins σ H1 s1 a C' d0 I ex h) (zx Dx hr hg DB (L2.ay he.p L2.aa ht) hdb hs)) fun D σ H1 h => ?_⟩
 obtain ⟨w1,δ,S,Da,le,ok,env,q,bk⟩:=h
 refine ⟨w1,δ,S,_,ok,env,q,.go fun r S' v w2 H2 le2 ok2 rep hn => ?_⟩
 obtain ⟨gd,⟨ds,hd⟩,hp,hS⟩:=hn
 rw [hd] at rep gd hp
 simp only [Rep] at rep
 obtain ⟨a,xs,rfl,hB,hR⟩:=rep
 have hL:H2 a=some (.lst xs):=ok2.base _ _ hB
 refine ⟨by show 1≤1000;decide,fun x nx=>⟨x,a,xs,rfl,aE,cH.of (by rw [au (aH hL nx)];exact hL),fun H' l dx kp hx' hdx hl nl ndx hne=>⟨rfl,?_⟩⟩⟩
 have xl:l≠x:=fun z=>by rw [z,aE] at nl;cases nl
 have xd:dx≠x:=fun z=>by rw [z,aE] at ndx;cases ndx
 have nl':H2 l=none:=by rw [au xl] at nl;exact nl
 have ndx':H2 dx=none:=by rw [au xd] at ndx;exact ndx
 have ok3:=ok2.alloc (o:=.lst xs) nl'
 obtain ⟨w3,le3,ok4,rep4⟩:=freeze ok3 (ok2.fresh (m:=.lst ds) nl' ⟨xs,rfl,hR⟩)
 obtain ⟨w4,l1,l2,l3⟩:=Al ok0 (le.trans (le2.trans le3)) ok4 hS hp rep4
 refine ⟨x,C,some dx,rfl,hx',c,fun T' nT hT => ?_⟩
 have Td:T'≠dx:=fun z=>by rw [z] at nT;rw [hdx] at nT;cases nT
 have Tl:T'≠l:=fun z=>by rw [z] at nT;rw [hl] at nT;cases nT
 refine ⟨w4,upd H2 l (.lst xs),x,dx,T',.ref l,_,l1,l2,l3,gd,?_,?_,fun b o e => ?_,rfl,⟨?_,aE,?_,hT,xd,sb⟩⟩
 ·rw [au (Ne.symm xl)];exact nx
 ·rw [au (Ne.symm hne)];exact ndx'
 ·by_cases hb:b=l
  ·subst hb
   rw [aE] at e;cases e
   rw [au (Ne.symm Tl),au xl];exact hl
  ·rw [au hb] at e
   have b1:b≠x:=aH e nx
   have e2:H' b=some o:=kp b o (by rw [au b1];exact e) b1
   rw [au (aH e2 nT),au b1];exact e2
 ·rw [au (Ne.symm hT),aE]
 ·rw [au (Ne.symm Td),au xd];exact hdx
end
section
variable {P:yak}{w:yal}{K:yaH}{mg:Str→Option yaj}{base:Heap}{CP C:Addr}{fn:Str}{bad:List D→aK→(D→Prop)→Prop}
theorem KQ {x qual:Str}{st:Stmt}{f:Addr}{fd:yaq}{N ps:List Str}{k:Nat} (F:wA K x qual st f fd) (S:aJ N ps (ao st)) (len:∀ ds S G,bad ds S G→ds.length=ps.length)
  (hbody:∀ (cdv:yaj) (A:yam) (outer:List Env) (s:yai) (H:Hp) (w0:Wd) (S0:aK) (G:D→Prop),bE k (A.deeper (envOfC qual (ao st) s.heap.objs.size f cdv))→Ok K w0 H S0 →
   ∃ a,Dc (gp (x8 P w) P w K mg base N qual (ao st) f cdv A outer s H (XG K CP C fn S0 w0 G)) w0 (bA st) a∧∀ ds,bad ds S0 G→a { nx:=fun _ _=>False,rt:=fun _ _=>False } (aU N ds) S0):cJ P w K mg base (x8 P w) (k+1) f fd ps (xJ K CP C fn bad):=by
 have F0:cJ P w K mg base (x8 P w) (k+1) f fd ps (fun vs H _ E=>∃ w ds S G,Ok K w H S∧aq K w ds vs∧bad ds S G∧E=XG K CP C fn S w G) :=
  F.okR S (fun vs H Q E h=>by
   obtain ⟨w,ds,S,G,_,rep,q,_⟩:=h
   rw [rep.length];exact len ds S G q) fun cdv A outer s H vs Q E hr h=>by
   obtain ⟨w,ds,S,G,ok,rep,q,rfl⟩:=h
   obtain ⟨a,ha,hd⟩:=hbody cdv A outer s H w S G hr ok
   exact ⟨_,ha.p,w,aU N ds,S,_,.refl,ok,jR rep,hd ds q,⟨fun _ _ _ _ _ _ _ _ z=>z.elim,fun _ _ _ _ _ _ _ _ z=>z.elim,fun _ _ _ _ _ _ _ _ z=>z.elim,fun _ _ _ _ _ _ _ _ z=>z.elim⟩⟩
 refine ⟨fun vs H Q E h => ?_,fun A outer s H args us vs Q E hr e0 hb' r h => ?_⟩
 ·obtain ⟨w,ds,S,G,h1,h2,h3,_⟩:=h
  exact F0.len vs H (fun _ _=>False) _ ⟨w,ds,S,G,h1,h2,h3,rfl⟩
 ·obtain ⟨w,ds,S,G,h1,h2,h3,h4⟩:=h
  refine yay (F0.run A outer s H args us vs (fun _ _=>False) _ hr e0 hb' r ⟨w,ds,S,G,h1,h2,h3,rfl⟩) fun r s' q => ?_
  cases r with
  | ok fl =>
   cases fl with
   | ret u=>obtain ⟨_,_,_,_,_,_,_,z⟩:=q;exact False.elim z
   | next=>exact q
   | brk=>exact q
   | cont=>exact q
  | error e =>
   obtain ⟨H',g1,g2,g3,g4,g5⟩:=q
   exact ⟨H',g1,g2,g3,g4,h4 e H' g5⟩
def Hq (K:yaH) (CP C:Addr) (fn:Str) (sp:AN) (bad:List D→aK→(D→Prop)→Prop):Sp:=fun vs H Q E=>aD K sp vs H Q E∨xJ K CP C fn bad vs H Q E
theorem IF {x:Str}{st:Stmt}{N ps:List Str}{k:Nat}{sp:AN} (F:Src K mg x ps st) (S:aJ N ps (ao st)) (D0:∀ f fd,wA K x x st f fd→cJ P w K mg base oK (k+1) f fd ps (aD K sp)) (len:∀ ds S G,bad ds S G→ds.length=ps.length)
  (hbody:∀ (f:Addr) (cdv:yaj) (A:yam) (outer:List Env) (s:yai) (H:Hp) (w0:Wd) (S0:aK) (G:D→Prop),bE k (A.deeper (envOfC x (ao st) s.heap.objs.size f cdv))→Ok K w0 H S0 →
   ∃ a,Dc (gp (x8 P w) P w K mg base N x (ao st) f cdv A outer s H (XG K CP C fn S0 w0 G)) w0 (bA st) a∧∀ ds,bad ds S0 G→a { nx:=fun _ _=>False,rt:=fun _ _=>False } (aU N ds) S0) :
  Def P w K mg base (k+1) x ps (aD K sp)∧nM P w K mg base (k+1) x ps (xJ K CP C fn bad)∧nM P w K mg base (k+1) x ps (Hq K CP C fn sp bad):=by
 obtain ⟨f,fd,Fu,hm,hb⟩:=F.ex
 exact ⟨⟨f,fd,D0 f fd Fu,hm,Fu.kp,hb⟩,⟨f,fd,KQ Fu S len (hbody f),hm,Fu.kp,hb⟩,⟨f,fd,(D0 f fd Fu).x0.or (KQ Fu S len (hbody f)),hm,Fu.kp,hb⟩⟩
end
end M
namespace L2
open PySem PySem.Spec PyProof.Rows
def tH (K:yaH):List V→Hp→VK→Prop:=fun xs H Q=>∃ (x C:Addr) (d0:Option Addr) (tp:Addr) (cls:List Addr) (b:Bool),xs=[.ref x,.ref tp]∧H x=some (XO C d0 x)∧(d0=none∨∃ dx fs,d0=some dx∧H dx=some (rZ fs dx))∧Jz K C∧H tp=some (.tup (cls.map V.ref))∧PySem.W.kitAny K (.ref C) (cls.map Value.ref)=some b∧Q (.bl b) H
theorem CN {X:Cx}{K:yaH} (hK:X.K=K:=by rfl):b6 X (.builtin "isinstance") (tH K):=by
 subst hK
 intro pins s σ H xs us Q I r h
 obtain ⟨x,C,d0,tp,cls,b,rfl,ex,hd,xi,et,e,q⟩:=h
 obtain ⟨v,w',rfl,rx,rw'⟩:=vals2 r
 obtain rfl:v=Value.ref x:=rx
 obtain rfl:w'=Value.ref tp:=rw'
 obtain ⟨t0,a1,a2,a3,a4,a5,hx⟩:=XO.get I.hok ex
 obtain ⟨_,its,rv,o,h1,h2,n,h3⟩:=(show aQ X.prog X.w H s.heap tp (.tup (cls.map V.ref)) from I.hok tp _ et)
 obtain rfl:=nY rv
 have htp:s.heap.get? tp=some ⟨.type "tuple",o.dict,.seq (cls.map Value.ref).toArray n,o.slots⟩:=by
  rw [h1]
  obtain ⟨c0,d1,dt,sl⟩:=o
  cases h2;cases h3;rfl
 have fin:∀ od,PySem.W.InstAt s.heap x (PySem.W.bI C d0 #[.ref t0,a1,a2,a3,a4,a5]) C od→yas (model X.prog X.w) X.A (call (.builtin "isinstance") [.ref x,.ref tp]) (EP X pins σ Q) X.xe s:=fun od J =>
  PySem.W.kia_tup (PySem.W.qX xi.ov xi.ga xi.gn xi.sb xi.ca xi.cg xi.ct xi.mo) I.gj J htp e (fun z=>nomatch z) fun tk=>⟨.bl b,H,I.tok tk,rfl,q⟩
 rcases hd with rfl | ⟨dx,fs,rfl,ed⟩
 ·exact fin none ⟨hx,rfl,rfl,trivial⟩
 ·obtain ⟨_,mA,hn,_⟩:=rZ.get I.hok ed
  obtain ⟨od,ho,_⟩:=gT hn
  exact fin (some od) ⟨hx,rfl,rfl,ho⟩
theorem sS (k:Str):∀ {vs:List yaj}{ys:List Str} (j:Nat) (v:yaj),StrsAre vs ys→vs[j]? = some v→∃ y,ys[j]? = some y∧isStrOf k v=(y==k)
 | _,_,j,v,.nil,h=>by simp at h
 | _,_,0,v,.cons n t h,e=>by
  simp at e
  subst e
  exact ⟨n,by simp,rfl⟩
 | _,_,j+1,v,.cons n t h,e=>by
  obtain ⟨y,h1,h2⟩:=sS k j v h (by simpa using e)
  exact ⟨y,by simpa using h1,h2⟩
section
variable {X:Cx}
def vc (K:yaH):V→List V→Hp→VK→Prop:=fun x vs H Q=>∃ (a:Addr) (ys:List Str) (k:Str) (j:Nat),x = .ref a∧vs=[.str k]∧cH K H a (ys.map V.str)∧ys[j]? = some k∧(∀ m,m<j→ys[m]? ≠ some k)∧Q (.int (j:Nat)) H
theorem xg:ya X "list.index" (vc X.K):=by
 intro pins s σ H x vs v us Q I rx rv h
 obtain ⟨a,ys,k,j,rfl,rfl,ha,hj,hm,q⟩:=h
 obtain rfl:v=Value.ref a:=rx
 obtain ⟨u,rfl,ru⟩:=vals1 rv
 obtain ⟨t,rfl⟩:=ru
 obtain ⟨its,r,pl,hz⟩:=I.list ha
 have hlen:=r.length
 have hlt:j<ys.length:=(zac.mp hj).1
 rw [zbE] at hlen hz
 have Ip:j<its.length:=by lia
 obtain ⟨⟨cls,dd,data,sl⟩,ho,hc,n,hd⟩:=id pl.isList
 simp only at hc hd
 subst hc hd
 have hs:=fh r
 refine call_meets PySem.F.slot_list_index ⟨_,ho,rfl⟩ PySem.F.entry_list_index (PySem.F.args_list_index_2 _ _)
  (PySem.SeqAt.list_indexAt a its.toArray n dd sl (.str k t) (isStrOf k) j (by simpa using Ip) (by rw [yag] at hz;lia) ?_ ?_) ⟨ho,fun y hy=>(eq_isStrOf k t hs y (by simpa using hy)).at _ _,⟨.int _,H,I.tok _,⟨_,rfl⟩,q⟩⟩
 ·obtain ⟨y,h1,h2⟩:=sS k j its[j] hs (zah Ip)
  show isStrOf k its[j]=true
  rw [h2]
  rw [hj] at h1
  cases h1
  simp
 ·intro m hms hlm
  have hm2:m<its.length:=by simpa using hms
  obtain ⟨y,h1,h2⟩:=sS k m its[m] hs (zah hm2)
  show isStrOf k its[m]=false
  rw [h2]
  have:=hm m hlm
  rw [h1] at this
  simpa using fun z=>this (congrArg some z)
end
end L2
namespace M
open PySem PySem.Spec PyProof.Rows L2
def Gs:AM:=fun x ds S Q=>∃ (ys:List Str) (k:Str) (j:Nat),bf S x = .lst (ys.map D.str)∧ds=[.str k]∧ys[j]? = some k∧(∀ m,m<j→ys[m]? ≠ some k)∧Q (.dat (.int (j:Nat))) S
theorem pQ {X:Cx}:JC X "list.index" Gs:=⟨mM (X:=X) (t:=vc X.K) xg fun x xs H Q h=>by
 obtain ⟨w,d,ds,S,Qa,ok,r1,r2,⟨ys,k,j,z,rfl,hj,hm,q⟩,bk⟩:=h
 obtain ⟨v,rfl,r3⟩:=iV r2
 obtain ⟨a,zs,rfl,g1,g2⟩:=bw ok r1 z
 rw [cU g2] at g1
 exact ⟨a,ys,k,j,rfl,by rw [fk r3 rfl],cH.of g1,hj,hm,bk.dat .refl ok .int q⟩⟩
def DX (b:AS):AS:=fun D δ S=>∃ m ds,S[m]? = some (some (.lst ds))∧b D (δ.map (Option.map (sb m (.lst ds)))) (S.set m none)
section
variable {K:yaH}
theorem BC {w w':Wd}{m:Nat}{ds:List D} (le:w.le w') (f:∀ v,Rep K w (.loc m) v→Rep K w' (.lst ds) v) {d:D}{x:V} (h1:Rep K w d x):Rep K w' (sb m (.lst ds) d) x:=by
 cases d with
 | loc n =>
  show Rep K w' (if n=m then _ else _) x
  by_cases hn:n=m
  ·rw [yIp hn];subst hn;exact f x h1
  ·rw [yIn hn];exact h1.le le
 | _=>exact h1.le le
theorem EU {b:AS}:∀ D σ H,dU K (DX b) D σ H→dU K b D σ H:=by
 rintro D σ H ⟨w,δ,S,Da,ok,env,⟨m,ds,hS,q⟩,bk⟩
 obtain ⟨w2,le2,ok2,f⟩:=Kn ok hS
 refine ⟨w2,_,_,Da,ok2,⟨?_,fun i d e => ?_⟩,q,?_⟩
 ·rw [zbE];exact env.1
 ·rw [zbb] at e
  cases z:δ[i]? with
  | none=>rw [z] at e;cases e
  | some o =>
   rw [z] at e
   cases o with
   | none=>cases e
   | some d0 =>
    have e:sb m (.lst ds) d0=d:=by simpa using e
    subst e
    obtain ⟨v,h1,h2⟩:=env.2 i d0 z
    exact ⟨v,h1,BC le2 f h2⟩
 ·exact bk.le le2
end
theorem frs {X:Cx}{st:List Stmt}{t:AS} (h:uF X st t):uF X st (DX t):=⟨Ij h.p EU⟩
end M
namespace L2
open PySem
section
variable {K:yaH}{mg:Str→Option yaj}{C:Addr}
structure iK (K:yaH) (x:Str) (st:Stmt):Prop where
 ex:∃ f oc od kV doc pm an cdv ct osl,zcv K yar x=some (some (.ref f))∧K.lookup f=some ⟨oc,od,.func (zcu x x (cj st) (bA st) (ao st) .none kV doc pm an cdv ct),osl⟩∧zbU K cdv x=true∧zbS K (.ref f)=true
structure GZ (K:yaH) (C:Addr) (m q:Str) (st:Stmt):Prop where
 ex:∃ f oc od kV doc pm an cdv ct osl,zbR K (.ref C) m=some (some (.ref f))∧K.lookup f=some ⟨oc,od,.func (zcu m q (cj st) (bA st) (ao st) .none kV doc pm an cdv ct),osl⟩∧zbU K cdv q=true∧zbS K (.ref f)=true∧PySem.W.isFn K (.ref f)=true
theorem iK.of {x:Str}{st:Stmt}{f:Addr}{oc:yaj}{od an:Option Addr}{osl:Array (Option yaj)}{kV doc pm cdv ct:yaj} (a:zcv K yar x=some (some (.ref f))) (l:K.lookup f=some ⟨oc,od,.func (zcu x x (cj st) (bA st) (ao st) .none kV doc pm an cdv ct),osl⟩)
  (c:zbU K cdv x=true) (k:zbS K (.ref f)=true):iK K x st:=⟨_,_,_,_,_,_,_,_,_,_,a,l,c,k⟩
theorem GZ.of {m q:Str}{st:Stmt}{f:Addr}{oc:yaj}{od an:Option Addr}{osl:Array (Option yaj)}{kV doc pm cdv ct:yaj} (a:zbR K (.ref C) m=some (some (.ref f))) (l:K.lookup f=some ⟨oc,od,.func (zcu m q (cj st) (bA st) (ao st) .none kV doc pm an cdv ct),osl⟩)
  (c:zbU K cdv q=true) (k:zbS K (.ref f)=true) (i:PySem.W.isFn K (.ref f)=true):GZ K C m q st:=⟨_,_,_,_,_,_,_,_,_,_,a,l,c,k,i⟩
theorem iK.src {x:Str}{st:Stmt}{ps:List Str}{h:Heap} (e:iK K x st) (X:K.In h) (G:h.Ns yar mg)
  (b:∀ (kV doc pm:yaj) (an:Option Addr) (cdv ct:yaj) (us:List yaj),us.length=ps.length→yaA (zcu x x (cj st) (bA st) (ao st) .none kV doc pm an cdv ct) ⟨us,[]⟩=pure (ps.zip us)):Src K mg x ps st:=by
 obtain ⟨f,oc,od,kV,doc,pm,an,cdv,ct,osl,a,l,c,k⟩:=e.ex
 exact J.Et X G a l c k b
theorem GZ.src {m q:Str}{st:Stmt}{ps:List Str} (e:GZ K C m q st)
  (b:∀ (kV doc pm:yaj) (an:Option Addr) (cdv ct:yaj) (us:List yaj),us.length=ps.length→yaA (zcu m q (cj st) (bA st) (ao st) .none kV doc pm an cdv ct) ⟨us,[]⟩=pure (ps.zip us)):M.Jf K C m q ps st:=by
 obtain ⟨f,oc,od,kV,doc,pm,an,cdv,ct,osl,a,l,c,k,i⟩:=e.ex
 exact ⟨f,_,mP (st:=st) l c k,⟨a,i,k⟩,(mP (st:=st) l c k).binds b⟩
end
end L2
namespace L2
open PySem PySem.Spec PyProof.Rows M6
section
variable {X:Cx}
def uP (K:yaH) (ta:TE):TE:=fun σ H Q=>ta σ H fun x H1=>∃ (p:Addr) (ss:List Str),x = .ref p∧cH K H1 p (ss.map V.str)∧ss.length<4000 ∧
 ∀ ss':List Str,ss'.Nodup→(∀ y,y∈ss'↔y∈ss)→Q (.int ss'.length) H1
theorem jI {e:Expr}{ta:TE}{p p2 pos pos2:Pos} (hc:X.calm=true) (hg:Gl X "len") (hm:X.mg "len" = none) (hg2:Gl X "set") (hm2:X.mg "set" = none) (he:PE X e ta) (hs:notStar e=true:=by rfl) :
  PE X (.Call (.Name "len" p) [.Call (.Name "set" p2) [e] [] pos2] [] pos) (uP X.K ta):=by
 intro pins s σ H Q I h
 have hk:=I.ok.hd hc
 refine wpAny_Call_Name_kw (eE I hg hm (u:=.builtin "len") (by decide +kernel) ?_ (by decide +kernel) (by decide +kernel))
 refine PyProof.Rows.callWith_builtin1 (E:=X.xe) ?_ (aO [] X.env rfl) rfl
 rw [aO [] X.env rfl]
 refine zaZ ?_
 refine wpAny_Call_Name_kw (eE I hg2 hm2 (u:=.type "set") (by decide +kernel) ?_ (by decide +kernel) (by decide +kernel))
 refine PyProof.Rows.callWith_type1 (E:=X.xe) ?_ (aO [] X.env hs) rfl
 rw [aO [] X.env hs]
 refine zaZ (bJ (he pins s σ H _ I h) fun u s1 ⟨x,H1,I1,rx,a,ss,ex,hq,hl,q⟩ => ?_)
 subst ex
 obtain rfl:u=Value.ref a:=rx
 refine zbm ?_
 obtain ⟨its,r',pl,hz⟩:=I1.list hq
 refine M5.set_list (its:=its.toArray) (ss:=ss) hk pl.isList (by simpa using fh r') (by lia) fun h' tk tS kp => ?_
 refine zbm ?_
 obtain ⟨o,ho,es,ep,t,hex,hd,hel,hpm,hf,_⟩:=tS
 have hsz:es.size≤ss.length:=by
  have h1:=hpm.length_eq
  have h2:=M5.jo (fun i=>ss.getD i ⟨#[]⟩) ss.length
  rw [zbE,zaJ] at h1
  lia
 have hpm':=hpm.length_eq
 rw [zbE,zaJ] at hpm'
 refine PySem.call_len_set (s:={ s1 with heap:=h',toks:=tk }) ho hex hd hf (by lia) ⟨.int _,H1,?_,⟨_,by rw [hpm']⟩,q _ (M5.iE _ _) fun y=>M5.oi ss y⟩
 exact I1.kept (t':=tk+1+1) fun b o z=>kp b o (zcw z) z
end
end L2
namespace M
open PySem PySem.Spec PyProof.Rows L2 M6
noncomputable abbrev KW (k:Str×List D):D:=.tup (.str k.1::k.2)
def qf (a:AE):AE:=fun δ S Q=>a δ S fun r S1=>∃ ss:List Str,bf S1 r.d = .lst (ss.map D.str)∧ss.length<4000∧∀ ss':List Str,ss'.Nodup→(∀ y,y∈ss'↔y∈ss)→Q (.dat (.int ss'.length)) S1
section
variable {X:Cx}{K:yaH}
theorem yP {a:AE}:∀ σ H Q,aR K (qf a) σ H Q→uP K (aR K a) σ H Q:=by
 rintro σ H Q ⟨w,δ,S,Qa,ok,env,q,bk⟩
 refine ⟨w,δ,S,_,ok,env,q,.go fun r1 S1 v1 w1 H1 le1 ok1 rep1 ⟨ss,z,hl,q1⟩ => ?_⟩
 obtain ⟨a,xs,rfl,h1,h2⟩:=bw ok1 rep1 z
 rw [cU h2] at h1
 exact ⟨a,ss,rfl,cH.of h1,hl,fun ss' n1 n2=>bk.dat le1 ok1 .int (q1 ss' n1 n2)⟩
theorem jI {e:Expr}{ta:AE}{p p2 pos pos2:Pos} (hc:X.calm=true) (hg:Gl X "len") (hm:X.mg "len" = none) (hg2:Gl X "set") (hm2:X.mg "set" = none) (he:GE X e ta) (hs:notStar e=true:=by rfl) :
  GE X (.Call (.Name "len" p) [.Call (.Name "set" p2) [e] [] pos2] [] pos) (qf ta):=⟨mE (L2.jI hc hg hm hg2 hm2 he.p hs) yP⟩
end
end M
theorem L2.cW {N P:List PySem.Str}{sc:PySem.Scope} (h1:sc.kind = .function:=by rfl) (h2:sc.isCoroutine=false:=by rfl) (h3:sc.isGenerator=false:=by rfl) (h4:N.Nodup:=by decide +kernel) (h5:N.take P.length=P:=by rfl) (h6:∀ x∈P,sc.names.lookup x=some .local∨sc.names.lookup x=some .cell:=by decide +kernel) (h7:∀ y∈sc.names,y.2 ≠ .free:=by decide +kernel):L2.aJ N P sc:=⟨h1,h2,h3,h4,h5,h6,h7⟩
namespace M
open PySem L2
theorem ow {X:Cx}{e:Expr}{es:List Expr}{pos p:Pos}{k j:Nat}{ps:List Str}{sp:AN}{t:AA}{x:Str} (D:Def X.prog X.w X.K X.mg X.base k x ps (aD X.K sp)) (hr:bE j X.A) (ha:GA X (e::es) t) (hk:k≤j:=by decide) (hg:Gl X x:=by rfl) (hdb:(x==("__debug__" : Str))=false:=by decide +kernel) (hs:(e::es).all notStar=true:=by rfl):GE X (.Call (.Name x p) (e::es) [] pos) (aCall sp t):=M.cy D (hr.mono hk) hg ha hdb hs
end M
namespace K67
open PySem PySem.Spec L2 PyProof.Rows
noncomputable def top (i:Nat):Stmt:=PySem.Challenge.pw_pathask_k67_orders_and_rings.main.body.getD i (.Pass ⟨0,0,0,0⟩)
noncomputable abbrev yY:Stmt:=inClass (top 8) 0
noncomputable abbrev C9:List Str:=["self","ring"]
noncomputable abbrev jv:List Str:=["self","ring"]
theorem ED:aJ C9 jv (ao yY):=L2.cW
structure Txt (K:yaH) (mg:Str→Option yaj) (ec:Nat→Addr) (EP:Addr):Prop where
 len:mg "len" = none
 isinstance:mg "isinstance" = none
 tuple:mg "tuple" = none
 list:mg "list" = none
 range:mg "range" = none
 sorted:mg "sorted" = none
 set:mg "set" = none
 reversed:mg "reversed" = none
 ValueError:mg "ValueError" = none
 any:∃ t,mg "ANY" = some (.str "*" t)
 FO:∃ a,mg "LEAVES" = some (.ref a)∧∀ H:Hp,dQ K H a ((["stay","step","at","off"]:List Str).map V.str)
 at_PathError:mg "PathError" = some (.ref EP)
 base_PathError:DY K EP
 ex_PathError:excIn K EP=true
 sb_PathError:zcg K (.ref EP) (.type "BaseException")=some true
 g_NoKnot:mg "NoKnot" = some (.ref (ec 0))
 g_NoName:mg "NoName" = some (.ref (ec 1))
 g_Twice:mg "Twice" = some (.ref (ec 2))
 g_TooMany:mg "TooMany" = some (.ref (ec 3))
 g_NoTie:mg "NoTie" = some (.ref (ec 4))
 g_TooLong:mg "TooLong" = some (.ref (ec 5))
 g_GoesRound:mg "GoesRound" = some (.ref (ec 6))
 xi:Jz K (ec 6)
 kit:∀ j,j<7→zbT K (.ref (ec 6)) (.ref (ec j))=some (6==j)
 kitV:zbT K (.ref (ec 6)) (.type "ValueError")=some true
 sub:zcg K (.ref (ec 6)) (.ref EP)=some true
 fld:zbR K (.ref (ec 6)) "ring" = some none
section
variable {X:Cx}{pos:Pos}{mg:Str→Option yaj}{K:yaH}{ec:Nat→Addr}{EP:Addr}
theorem gx {x:Str}{c:Addr} (h:mg x=some (.ref c)) (hg:Gl X x:=by rfl) (hm:X.mg=mg:=by rfl) (hd:(x==("__debug__" : Str))=false:=by decide +kernel):PE X (.Name x pos) (tC (.ref c)):=iZ hg (by rw [hm];exact h) rfl hd
theorem Iv {x y:Str} (e:∃ t,mg x=some (.str y t)) (hg:Gl X x) (hm:X.mg=mg) (hd:(x==("__debug__" : Str))=false):M.GE X (.Name x pos) (M.aC (.str y)):=by
 obtain ⟨t,e⟩:=e
 exact M.iZ (v:=.str y) hg (by rw [hm];exact e) ⟨t,rfl⟩ (fun _=>.str) hd
theorem nW {w:M.Wd}:∀ ss:List Str,M.aq K w (ss.map M.D.str) (ss.map V.str)
 | []=>.nil
 | s::ss=>.cons .str (nW ss)
theorem Iu {x:Str}{ss:List Str} (e:∃ a,mg x=some (.ref a)∧∀ H:Hp,dQ K H a (ss.map V.str)) (hg:Gl X x) (hm:X.mg=mg) (hK:X.K=K) (hd:(x==("__debug__" : Str))=false):M.GE X (.Name x pos) (M.aC (.tup (ss.map M.D.str))):=by
 obtain ⟨a,e,h⟩:=e
 subst hK
 exact M.iZ (v:=.ref a) hg (by rw [hm];exact e) rfl (fun w=>by simp only [M.Rep];exact ⟨a,_,rfl,h _,nW ss⟩) hd
theorem Txt.zB (T:Txt K mg ec EP) (hg:Gl X "ANY" := by rfl) (hm:X.mg=mg:=by rfl):M.GE X (.Name "ANY" pos) (M.aC (.str "*")):=Iv T.any hg hm (by decide +kernel)
theorem Txt.jK (T:Txt K mg ec EP) (hg:Gl X "LEAVES" := by rfl) (hm:X.mg=mg:=by rfl) (hK:X.K=K:=by rfl):M.GE X (.Name "LEAVES" pos) (M.aC (.tup [.str "stay",.str "step",.str "at",.str "off"])):=Iu (ss:=["stay","step","at","off"]) T.FO hg hm hK (by decide +kernel)
end
structure Jc (K:yaH) (mg:Str→Option yaj) (x:Str) (C:Addr) (qual:Str) (ps:List Str) (st:Stmt):Prop where
 ex:∃ f fd,Ku K C f∧wA K "__init__" qual st f fd∧Binds K fd ps []
theorem Gg {P:yak}{w:yal}{K:yaH}{mg:Str→Option yaj}{base:Heap}{ec:Nat→Addr}{EP:Addr} (T:Txt K mg ec EP) (F:Jc K mg "GoesRound" (ec 6) "GoesRound.__init__" jv yY):CV P w K mg base 1 "GoesRound" (ec 6) jv (Eu K (ec 6) "ring"):=by
 obtain ⟨f,fd,Mx,F',hb⟩:=F.ex
 refine ⟨⟨f,fd,Mx,F'.ok ED (fun vs H Q E h => ?_) (fun cdv A outer s H vs Q E hr h => ?_),hb⟩,T.g_GoesRound⟩
 ·obtain ⟨x,a,xs,rfl,_⟩:=h;rfl
 ·obtain ⟨x,a,xs,rfl,hx,hL,q⟩:=h
  refine ⟨_,ah (cD (zy (by rfl) T.at_PathError T.base_PathError (L2.ay (pv 0) (L2.ay (L2.x9 rQ (by rfl) T.list (by decide +kernel) (L2.ay (pv 1) aa)) aa)))) (aj (zu (pv 0) (L2.x9 rQ (by rfl) T.list (by decide +kernel) (L2.ay (pv 1) aa)))),?_⟩
  refine ⟨_,rfl,_,rfl,a,xs,rfl,.inl hL,fun l1 n1 => ?_⟩
  have s1:dF H (upd H l1 (.lst xs)):=M.al n1
  refine ⟨x,[.ref l1],ec 6,none,rfl,(by show 1≤1000;decide),s1 _ _ hx,T.xi.ex,?_⟩
  refine ⟨_,rfl,a,xs,rfl,.inl (s1.seq hL),fun l2 n2 => ?_⟩
  have s2:dF H (upd (upd H l1 (.lst xs)) l2 (.lst xs)):=s1.trans (M.al n2)
  refine ⟨_,rfl,x,ec 6,rfl,s2 _ _ hx,T.xi.toXCls,T.fld,fun dx nd => ?_⟩
  have hx2:=s2 _ _ hx
  have hn2:H l2=none:=s1.free n2
  have hnd:H dx=none:=s2.free nd
  have xd:x≠dx:=aH hx2 nd
  have lx:l2≠x:=fun e=>by rw [e] at hn2;rw [hx] at hn2;cases hn2
  have ld:l2≠dx:=fun e=>by rw [← e,aE] at nd;cases nd
  exact q _ l2 dx (fun b o eb hbx=>by rw [au (aH eb hnd),au hbx];exact s2 _ _ eb) (by rw [au xd,aE]) aE (by rw [au ld,au lx,aE]) hn2 hnd ld
open PySem L2 M
noncomputable def DK (c:Nat):Bool:=decide (97≤c)&&decide (c≤122)
noncomputable def isName (x:D):Bool:=match x with
 | .str s=>decide (1≤s.length)&&decide (s.length≤8)&&s.cps.toList.all DK
 | _=>false
noncomputable def isWord (x:D):Bool:=GU x "*" || isName x
inductive Pt where
 | stay | step (b:Bool) (x:Str) | mk (b:Bool) (m:Str) | many (p:Pt) | seq (ps:List Pt) | alt (ps:List Pt)
noncomputable def side (b:Bool):Str:=if b then "on" else "back"
noncomputable def Jt (b:Bool):Str:=if b then "at" else "off"
mutual
noncomputable def tD:Pt→D
 | .stay=>.tup [.str "stay"]
 | .step b x=>.tup [.str "step",.str (side b),.str x]
 | .mk b m=>.tup [.str (Jt b),.str m]
 | .many p=>.tup [.str "many",tD p]
 | .seq ps=>.tup [.str "then",.tup (wH ps)]
 | .alt ps=>.tup [.str "either",.tup (wH ps)]
noncomputable def wH:List Pt→List D
 | []=>[]
 | p::ps=>tD p::wH ps
end
theorem bL:∀ ps,wH ps=ps.map tD
 | []=>rfl
 | p::ps=>by simp [wH,bL ps]
mutual
noncomputable def N:Pt→Nat
 | .stay | .step _ _ | .mk _ _=>1
 | .many p=>N p+1
 | .seq ps | .alt ps=>Ns ps+1
noncomputable def Ns:List Pt→Nat
 | []=>0
 | p::ps=>N p+Ns ps
end
mutual
noncomputable def dp:Pt→Nat
 | .stay | .step _ _ | .mk _ _=>0
 | .many p=>dp p+1
 | .seq ps | .alt ps=>iL ps+1
noncomputable def iL:List Pt→Nat
 | []=>0
 | p::ps=>max (dp p) (iL ps)
end
def Nm (y:Str):Prop:=isName (.str y)=true
def Wd (y:Str):Prop:=isWord (.str y)=true
mutual
def lq:Pt→Prop
 | .stay=>True
 | .step _ x=>Wd x
 | .mk _ m=>Nm m
 | .many p=>lq p
 | .seq ps | .alt ps=>jy ps
def jy:List Pt→Prop
 | []=>True
 | p::ps=>lq p∧jy ps
end
theorem cA:∀ {ps:List Pt},jy ps↔∀ p∈ps,lq p
 | []=>by simp [jy]
 | p::ps=>by simp [jy,cA (ps:=ps)]
theorem cX:∀ ps qs,Ns (ps++qs)=Ns ps+Ns qs
 | [],qs=>by simp [Ns]
 | p::ps,qs=>by simp [Ns,cX ps qs];lia
theorem iH:∀ ps qs,iL (ps++qs)=max (iL ps) (iL qs)
 | [],qs=>by simp [iL]
 | p::ps,qs=>by simp only [zbv,iL,iH ps qs];lia
theorem ji:∀ {ps:List Pt}{p:Pt},p∈ps→dp p≤iL ps
 | q::ps,p,h=>by
  rcases zbW.mp h with rfl | h
  ·simp only [iL];lia
  ·have:=ji h;simp only [iL];lia
theorem Ji:∀ p,1≤N p:=fun p=>by cases p <;> simp [N]
theorem gJ:∀ ps:List Pt,ps.length≤Ns ps
 | []=>zcy _
 | p::ps=>by have:=gJ ps;have:=Ji p;simp only [Ns,zbo];lia
theorem gb {y:Str} (h:Nm y):dB y=true:=by
 unfold Nm isName at h
 simp only [zbw,decide_eq_true_eq,zbr] at h
 unfold dB
 rw [zbw,zbr]
 refine ⟨fun c hc => ?_,yDt (by lia)⟩
 have:=h.2 c hc
 unfold DK at this
 simp only [zbw,decide_eq_true_eq] at this
 exact yDt (by lia)
theorem nN {y:Str} (h:Wd y):dB y=true:=by
 unfold Wd isWord at h
 rw [zbM] at h
 rcases h with h | h
 ·have e:y = "*" := of_decide_eq_true h
  subst e;decide +kernel
 ·exact gb h
theorem iP (b:Bool):dB (side b)=true:=by cases b <;> decide +kernel
theorem iF (b:Bool):dB (Jt b)=true:=by cases b <;> decide +kernel
theorem oM {n:Nat}{ds:List D} (hl:ds.length≤100) (h:∀ d∈ds,fK n d=true):fK (n+1) (.tup ds)=true:=by
 simp only [fK,zbw,zbr]
 exact ⟨yDt hl,h⟩
theorem ir {n:Nat}{x:Str} (h:dB x=true):fK n (.str x)=true:=by cases n <;> exact h
theorem jC {n:Nat}{x:Str}{d:D} (h:dB x=true) (g:fK n d=true):fK (n+1) (.tup [.str x,d])=true:=oM (by simp) fun e he=>by
 simp only [zbW,zbt,or_false] at he
 rcases he with rfl | rfl
 ·exact ir h
 ·exact g
theorem yi {x:Str} (h:dB x=true):fK 1 (.tup [.str x])=true:=oM (by simp) fun e he=>by
 simp only [zbW,zbt,or_false] at he
 subst he
 exact ir h
theorem qp {x y z:Str} (h:dB x=true) (h2:dB y=true) (h3:dB z=true):fK 1 (.tup [.str x,.str y,.str z])=true:=oM (by simp) fun e he=>by
 simp only [zbW,zbt,or_false] at he
 rcases he with rfl | rfl | rfl
 ·exact ir h
 ·exact ir h2
 ·exact ir h3
theorem sD:∀ {ps:List Pt}{q:Pt},q∈ps→N q≤Ns ps
 | a::r,q,hq=>by
  rcases zbW.mp hq with rfl | hq
  ·simp only [Ns];lia
  ·have:=sD hq;simp only [Ns];lia
theorem De:∀ (k:Nat) (p:Pt),dp p≤k→lq p→N p≤100→fK (2*k+1) (tD p)=true:=by
 have parts:∀ k:Nat,(∀ p:Pt,dp p≤k→lq p→N p≤100→fK (2*k+1) (tD p)=true)→∀ ps:List Pt,iL ps+1≤k+1→jy ps→Ns ps+1≤100→fK (2*k+2) (.tup (wH ps))=true:=fun k ih ps h1 h2 h3=>by
  refine oM (n:=2*k+1) (by rw [bL,zbE];have:=gJ ps;lia) fun d hd => ?_
  rw [bL] at hd
  obtain ⟨q,hq,rfl⟩:=zck.mp hd
  exact ih q (by have:=ji hq;lia) (cA.mp h2 q hq) (by have:=sD hq;lia)
 intro k
 induction k with
 | zero =>
  intro p hk ho hn
  cases p with
  | stay=>exact yi (by decide +kernel)
  | step b x=>exact qp (by decide +kernel) (iP b) (nN ho)
  | mk b m=>exact jC (iF b) (ir (gb ho))
  | many p=>simp [dp] at hk
  | seq ps=>simp [dp] at hk
  | alt ps=>simp [dp] at hk
 | succ k ih =>
  intro p hk ho hn
  cases p with
  | stay=>exact fT (yi (by decide +kernel)) (by lia)
  | step b x=>exact fT (qp (by decide +kernel) (iP b) (nN ho)) (by lia)
  | mk b m=>exact fT (jC (n:=0) (iF b) (ir (gb ho))) (by lia)
  | many p=>exact fT (n:=2*k+2) (jC (by decide +kernel) (ih p (by simp only [dp] at hk;lia) ho (by simp only [N] at hn;lia))) (by lia)
  | seq ps=>exact jC (n:=2*k+2) (by decide +kernel) (parts k ih ps (by simp only [dp] at hk;lia) ho (by simp only [N] at hn;lia))
  | alt ps=>exact jC (n:=2*k+2) (by decide +kernel) (parts k ih ps (by simp only [dp] at hk;lia) ho (by simp only [N] at hn;lia))
noncomputable def kid:Pt→List Pt
 | .many p=>[p]
 | .seq ps | .alt ps=>ps
 | _=>[]
theorem Jj (p:Pt):Ns (kid p)+1=N p:=by cases p <;> simp [kid,N,Ns]
noncomputable def bC:List Pt→List Pt
 | []=>[]
 | p::ps=>kid p++bC ps
theorem uD:∀ Ls:List Pt,Ns (bC Ls)+Ls.length=Ns Ls
 | []=>rfl
 | p::Ls=>by
  have:=uD Ls
  have:=Jj p
  simp only [bC,cX,Ns,zbo];lia
mutual
theorem ck:∀ p:Pt,cI (tD p)=true
 | .stay=>rfl
 | .step b x=>rfl
 | .mk b m=>rfl
 | .many p=>by simp only [tD,cI,cM,ck p,zce]
 | .seq ps=>by simp only [tD,cI,cM,gQ ps,zce]
 | .alt ps=>by simp only [tD,cI,cM,gQ ps,zce]
theorem gQ:∀ ps:List Pt,cM (wH ps)=true
 | []=>rfl
 | p::ps=>by simp only [wH,cM,ck p,gQ ps,zce]
end
theorem qM (ps:List Pt):cM (ps.map tD)=true:=by rw [← bL];exact gQ ps
theorem yr (p:Pt):zg (tD p)=true:=by cases p <;> rfl
mutual
noncomputable def sw:Pt→List Str
 | .stay | .mk _ _=>[]
 | .step _ x=>[x]
 | .many p=>sw p
 | .seq ps | .alt ps=>nu ps
noncomputable def nu:List Pt→List Str
 | []=>[]
 | p::ps=>sw p++nu ps
end
theorem iw:∀ ps qs,nu (ps++qs)=nu ps++nu qs
 | [],qs=>rfl
 | p::ps,qs=>by simp only [zbv,nu,iw ps qs,zbd]
mutual
theorem uS:∀ p,lq p→∀ x∈sw p,dB x=true
 | .stay,_,x,h=>by simp [sw] at h
 | .step _ y,ho,x,h=>by simp only [sw,zaP] at h;subst h;exact nN ho
 | .mk _ _,_,x,h=>by simp [sw] at h
 | .many p,ho,x,h=>uS p ho x h
 | .seq ps,ho,x,h=>sR ps ho x h
 | .alt ps,ho,x,h=>sR ps ho x h
theorem sR:∀ ps,jy ps→∀ x∈nu ps,dB x=true
 | [],_,x,h=>by simp [nu] at h
 | p::ps,ho,x,h=>by
  simp only [nu,zbA] at h
  rcases h with h | h
  ·exact uS p ho.1 x h
  ·exact sR ps ho.2 x h
end
noncomputable def own:Pt→List Str
 | .step _ x=>[x]
 | _=>[]
noncomputable def owns (ps:List Pt):List Str:=(ps.map own).flatten
theorem Ep (p:Pt):∀ x,x∈sw p↔x∈own p∨x∈nu (kid p):=fun x=>by
 cases p <;> simp [sw,own,kid,nu]
theorem uR:∀ (ps:List Pt) x,x∈nu ps↔x∈owns ps∨x∈nu (bC ps)
 | [],x=>by simp [nu,owns,bC]
 | p::ps,x=>by
  have h1:=Ep p x
  have h2:=uR ps x
  simp only [nu,bC,iw,owns,zbX,zbc,zbA] at h1 h2 ⊢
  rw [h1,h2]
  constructor
  ·rintro ((h | h) | (h | h)) <;> simp [h]
  ·rintro ((h | h) | (h | h)) <;> simp [h]
abbrev Ru:=List (Str×Pt)
noncomputable def rD (rs:Ru):D:=.lst (rs.map fun r=>.tup [.str r.1,tD r.2])
noncomputable def hds (rs:Ru):List Str:=rs.map (·.1)
def Ld (rs:Ru) (w o:Str):Prop:=o∈hds rs∧∃ p,(w,p)∈rs∧(o∈sw p∨("*" : Str)∈sw p)
def GL (rs:Ru) (ws:List Str):Prop:=(∀ w∈ws,w∈hds rs)∧∀ w∈ws,∃ o∈ws,Ld rs w o
def yc (rs:Ru):Prop:=∃ ws,ws≠[]∧GL rs ws
structure Ring (rs:Ru) (r:List Str):Prop where
 ne:r≠[]
 nd:r.Nodup
 hd:∀ x∈r,x∈hds rs
 nx:∀ (k:Nat) (x y:Str),r[k]? = some x→r[(k+1) % r.length]? = some y→Ld rs x y
structure KC (rs:Ru) (os:List Str):Prop where
 nd:os.Nodup
 hd:∀ x,x∈os↔x∈hds rs
 up:∀ (i:Nat) (w o:Str),os[i]? = some w→Ld rs w o→∃ j:Nat,j<i∧os[j]? = some o
structure sF (rs:Ru) (ld:List (Str×List Str)):Prop where
 nd:(ld.map (·.1)).Nodup
 ks:∀ w,w∈ld.map (·.1)↔w∈hds rs
 at_:∀ w l,(w,l)∈ld→∀ o,o∈l↔Ld rs w o
 ln:∀ w l,(w,l)∈ld→l.length≤100
structure gB (rs:Ru):Prop where
 ln:rs.length≤4
 nm:∀ r∈rs,Nm r.1
 ok:∀ r∈rs,lq r.2∧N r.2≤8∧dp r.2≤3
noncomputable def bD (ld:List (Str×List Str)):MO:=.dct (ld.map fun p=>Sum.inr p.1) (ld.map fun p=>.lst (p.2.map D.str))
theorem gm {ld:List (Str×List Str)}{w:Str} (hn:(ld.map (·.1)).Nodup) {l:List Str} (h:(w,l)∈ld):fz (ld.map fun p=>Sum.inr p.1) (ld.map fun p=>D.lst (p.2.map D.str)) (.inr w)=some (.lst (l.map D.str)):=by
 unfold fz
 induction ld with
 | nil=>simp at h
 | cons p r ih =>
  rw [zbX,zbC] at hn
  rw [zbX,zbX,zaQ,zbF]
  by_cases e:p.1=w
  ·have:p=(w,l):=by
    rcases zbW.mp h with z | z
    ·exact z.symm
    ·exact absurd (zck.mpr ⟨_,z,rfl⟩) (by rw [e] at hn;exact hn.1)
   subst this
   simp
  ·have e2 : ¬ (Sum.inr p.1:Key)=Sum.inr w:=fun z=>e (by injection z)
   simp only [e2,decide_false]
   rcases zbW.mp h with z | z
   ·exact absurd (by rw [← z]) e
   ·exact ih hn.2 z
theorem zX (ld:List (Str×List Str)) (w:Str):Ak (ld.map fun p=>Sum.inr p.1) (.inr w)=decide (w∈ld.map (·.1)):=by
 unfold Ak
 induction ld with
 | nil=>simp
 | cons p r ih =>
  rw [zbX,zbY,ih]
  by_cases e:p.1=w
  ·subst e;simp
  ·have e2 : ¬ (Sum.inr p.1:Key)=Sum.inr w:=fun z=>e (by injection z)
   rw [yDf e2,zcd]
   by_cases h:w∈r.map (·.1)
   ·rw [yDt h,yDt (by rw [zbX];exact zax _ h)]
   ·rw [yDf h,yDf]
    rw [zbX]
    intro z
    rcases zbW.mp z with z | z
    ·exact e z.symm
    ·exact h z
theorem bx {α:Type} [DecidableEq α]:∀ {l m:List α},l.Nodup→(∀ x∈l,x∈m)→l.length≤m.length
 | [],m,_,_=>zcz _
 | a::l,m,hn,h=>by
  have ha:=h a zaL
  have:=bx (l:=l) (m:=m.erase a) (zbC.mp hn).2 fun x hx=>(List.mem_erase_of_ne (fun e=>by subst e;exact (zbC.mp hn).1 hx)).mpr (h x (zax _ hx))
  rw [List.length_erase_of_mem ha] at this
  have hp:0<m.length:=List.length_pos_of_mem ha
  simp only [zbo];lia
open PySem L2 M
noncomputable def lV (ld:List (Str×List Str)) (w:Str) (l:List Str):List (Str×List Str):=if (ld.any fun p=>decide (p.1=w))=true then ld.map (fun p=>if p.1=w then (w,l) else p) else ld++[(w,l)]
theorem k9 (ld:List (Str×List Str)) (w:Str):((ld.any fun p=>decide (p.1=w))=true)↔w∈ld.map (·.1):=by
 rw [List.any_eq_true,zck]
 exact ⟨fun ⟨p,h1,h2⟩=>⟨p,h1,of_decide_eq_true h2⟩,fun ⟨p,h1,h2⟩=>⟨p,h1,yDt h2⟩⟩
theorem zm (ld:List (Str×List Str)) (w:Str) (l:List Str):pV (ld.map fun p=>Sum.inr p.1) (ld.map fun p=>D.lst (p.2.map D.str)) (.inr w) (.lst (l.map D.str))=bD (lV ld w l):=by
 have e:((ld.map fun p=>(Sum.inr p.1:Key)).any fun j=>decide (j=Sum.inr w))=(ld.any fun p=>decide (p.1=w)):=by
  rw [zcj]
  refine congrArg (fun f=>ld.any f) (funext fun p => ?_)
  show decide ((Sum.inr p.1:Key)=Sum.inr w)=decide (p.1=w)
  by_cases h:p.1=w
  ·subst h;simp
  ·rw [yDf h,yDf];exact fun z=>h (by injection z)
 unfold pV lV bD
 rw [e]
 by_cases h:(ld.any fun p=>decide (p.1=w))=true
 ·rw [yIp h,yIp h]
  have e1:(ld.map fun p=>if p.1=w then (w,l) else p).map (fun p=>(Sum.inr p.1:Key))=ld.map fun p=>Sum.inr p.1:=by
   rw [zcl]
   refine zaI fun p _ => ?_
   show (Sum.inr (if p.1=w then (w,l) else p).1:Key)=_
   split
   ·rename_i z;rw [z]
   ·rfl
  have e2:((ld.map fun p=>(Sum.inr p.1:Key)).zip (ld.map fun p=>D.lst (p.2.map D.str))).map (fun p=>if p.1=Sum.inr w then D.lst (l.map D.str) else p.2)=(ld.map fun p=>if p.1=w then (w,l) else p).map fun p=>D.lst (p.2.map D.str):=by
   clear e h e1
   induction ld with
   | nil=>rfl
   | cons p r ih =>
    simp only [zbX,zaQ,zcD.injEq]
    refine ⟨?_,ih⟩
    by_cases h:p.1=w
    ·rw [yIp (by rw [h]),yIp h]
    ·rw [yIn (fun z=>h (by injection z)),yIn h]
  rw [e1,e2]
 ·rw [yIn h,yIn h,zbI,zbI];rfl
theorem kR {ld:List (Str×List Str)}{w:Str}{l:List Str} (x:Str) (m:List Str):(x,m)∈lV ld w l→(x=w∧m=l)∨(x≠w∧(x,m)∈ld):=by
 unfold lV
 split
 ·intro h
  obtain ⟨p,hp,e⟩:=zck.mp h
  by_cases hw:p.1=w
  ·rw [yIp hw] at e;cases e;exact .inl ⟨rfl,rfl⟩
  ·rw [yIn hw] at e;subst e;exact .inr ⟨hw,hp⟩
 ·rename_i hn
  intro h
  rcases zbA.mp h with g | g
  ·refine .inr ⟨fun e=>hn ((k9 ld w).mpr ?_),g⟩
   subst e;exact zck.mpr ⟨(x,m),g,rfl⟩
  ·cases zaP.mp g;exact .inl ⟨rfl,rfl⟩
theorem zl {ld:List (Str×List Str)}{w:Str}{l:List Str} (hn:(ld.map (·.1)).Nodup):((lV ld w l).map (·.1)).Nodup∧∀ x,x∈(lV ld w l).map (·.1)↔x=w∨x∈ld.map (·.1):=by
 unfold lV
 by_cases h:(ld.any fun p=>decide (p.1=w))=true
 ·rw [yIp h]
  have e1:(ld.map fun p=>if p.1=w then (w,l) else p).map (·.1)=ld.map (·.1):=by
   rw [zcl]
   refine zaI fun p _ => ?_
   show (if p.1=w then (w,l) else p).1=_
   split
   ·rename_i z;exact z.symm
   ·rfl
  rw [e1]
  refine ⟨hn,fun x=>⟨.inr,fun z => ?_⟩⟩
  rcases z with rfl | z
  ·exact (k9 ld x).mp h
  ·exact z
 ·rw [yIn h,zbI]
  refine ⟨zbg.mpr ⟨hn,by simp,fun a ha b hb e=>h ((k9 ld w).mpr ?_)⟩,fun x => ?_⟩
  ·have:b=w:=by simpa using hb
   rw [← this,← e];exact ha
  ·rw [zbA]
   exact ⟨fun z=>z.elim .inr fun z=>.inl (by simpa using z),fun z=>z.elim (fun z=>.inr (by simp [z])) .inl⟩
theorem get_none {ld:List (Str×List Str)}{w:Str} (h:w ∉ ld.map (·.1)):fz (ld.map fun p=>Sum.inr p.1) (ld.map fun p=>D.lst (p.2.map D.str)) (.inr w)=none:=by
 unfold fz
 induction ld with
 | nil=>rfl
 | cons p r ih =>
  rw [zbX] at h
  rw [zbX,zbX,zaQ,zbF]
  have e2 : ¬ (Sum.inr p.1:Key)=Sum.inr w:=fun z=>h (by injection z with z;rw [← z];exact zaL)
  simp only [e2,decide_false]
  exact ih fun z=>h (zax _ z)
structure Part (rs r1:Ru) (ld:List (Str×List Str)):Prop where
 nd:(ld.map (·.1)).Nodup
 ks:∀ w,w∈ld.map (·.1)↔w∈hds r1
 at_:∀ w l,(w,l)∈ld→∀ o,o∈l↔o∈hds rs∧∃ p,(w,p)∈r1∧(o∈sw p∨("*" : Str)∈sw p)
 ln:∀ w l,(w,l)∈ld→l.length≤r1.length*rs.length
theorem Part.all {rs:Ru}{ld:List (Str×List Str)} (h:Part rs rs ld) (hl:rs.length≤4):sF rs ld :=
 ⟨h.nd,h.ks,h.at_,fun w l hm=>by have:=h.ln w l hm;have:rs.length*rs.length≤4*4:=Nat.mul_le_mul hl hl;lia⟩
theorem AD (ld:List (Str×List Str)) (k:Nat):gZ k (bD ld)=true:=by
 show gY k (ld.map fun p=>D.lst (p.2.map D.str))=true
 refine dg k _ ?_
 induction ld with
 | nil=>rfl
 | cons p r ih =>
  simp only [zbX,cM,zbw]
  refine ⟨?_,ih⟩
  show cM (p.2.map D.str)=true
  induction p.2 with
  | nil=>rfl
  | cons a l ih=>simp only [zbX,cM,cI,ih,zce]
open PySem L2 M
noncomputable def kZ (rs:Ru) (ls:List Str) (w:Str):Bool:=@decide (∀ o∈ls,¬ Ld rs w o) (Classical.propDecidable _)
theorem jd {rs:Ru}{ls:List Str}{w:Str}:kZ rs ls w=true↔∀ o∈ls,¬ Ld rs w o:=by
 unfold kZ
 exact ⟨fun h=>@of_decide_eq_true _ (Classical.propDecidable _) h,fun h=>@yDt _ (Classical.propDecidable _) h⟩
structure OI (rs:Ru) (os ls:List Str):Prop where
 nd:(os++ls).Nodup
 hd:∀ x,(x∈os∨x∈ls)↔x∈hds rs
 up:∀ (i:Nat) (w o:Str),os[i]? = some w→Ld rs w o→∃ j:Nat,j<i∧os[j]? = some o
theorem OI.len {rs:Ru}{os ls:List Str} (h:OI rs os ls):os.length+ls.length≤rs.length:=by
 have:=bx h.nd (m:=hds rs) fun x hx=>(h.hd x).mp (zbA.mp hx)
 simpa [hds] using this
theorem OI.step {rs:Ru}{os ls:List Str} (h:OI rs os ls):OI rs (os++ls.filter (kZ rs ls)) (ls.filter fun x => !decide (x∈ls.filter (kZ rs ls))):=by
 have hn:=zbg.mp h.nd
 refine ⟨?_,fun x => ?_,fun i w o hi hl => ?_⟩
 ·rw [zbd]
  refine zbg.mpr ⟨hn.1,zbg.mpr ⟨hn.2.1.filter _,hn.2.1.filter _,fun a ha b hb e => ?_⟩,fun a ha b hb e => ?_⟩
  ·subst e
   have:=(zbz.mp hb).2
   simp only [zbj,decide_eq_false_iff_not] at this
   exact this ha
  ·subst e
   rcases zbA.mp hb with hb | hb
   ·exact hn.2.2 a ha a (zbz.mp hb).1 rfl
   ·exact hn.2.2 a ha a (zbz.mp hb).1 rfl
 ·rw [← h.hd x,zbA]
  constructor
  ·rintro ((z | z) | z)
   ·exact .inl z
   ·exact .inr (zbz.mp z).1
   ·exact .inr (zbz.mp z).1
  ·rintro (z | z)
   ·exact .inl (.inl z)
   ·by_cases hf:x∈ls.filter (kZ rs ls)
    ·exact .inl (.inr hf)
    ·exact .inr (zbz.mpr ⟨z,by simp only [zbj,decide_eq_false_iff_not];exact hf⟩)
 ·by_cases hlt:i<os.length
  ·rw [zad hlt] at hi
   obtain ⟨j,hj,e⟩:=h.up i w o hi hl
   exact ⟨j,hj,by rw [zad (by lia)];exact e⟩
  ·rw [zab (by lia)] at hi
   have hm:=zaA hi
   have hfr:=jd.mp (zbz.mp hm).2
   have ho:o∈os:=by
    rcases (h.hd o).mpr hl.1 with z | z
    ·exact z
    ·exact absurd hl (hfr o z)
   obtain ⟨j,hj,e⟩:=List.getElem_of_mem ho
   exact ⟨j,by lia,by rw [zad hj,zah hj,e]⟩
theorem OI.KY {rs:Ru}{os ls:List Str} (h:OI rs os ls) (e:ls.filter (kZ rs ls)=[]):GL rs ls:=by
 refine ⟨fun x hx=>(h.hd x).mp (.inr hx),fun x hx => ?_⟩
 apply Classical.byContradiction
 intro hn
 have:x∈ls.filter (kZ rs ls):=zbz.mpr ⟨hx,jd.mpr fun o ho hl=>hn ⟨o,ho,hl⟩⟩
 rw [e] at this;simp at this
theorem Aq {rs:Ru}{ls qs:List Str} (hq:GL rs qs) (hs:∀ x∈qs,x∈ls):∀ x∈qs,x∈ls.filter fun x => !decide (x∈ls.filter (kZ rs ls)):=fun x hx=>by
 refine zbz.mpr ⟨hs x hx,?_⟩
 simp only [zbj,decide_eq_false_iff_not]
 intro hf
 obtain ⟨o,ho,hl⟩:=hq.2 x hx
 exact jd.mp (zbz.mp hf).2 o (hs o ho) hl
theorem less {ls:List Str}{c:Str→Bool} (h:ls.filter c≠[]):(ls.filter fun x => !decide (x∈ls.filter c)).length<ls.length:=by
 obtain ⟨x,hx⟩:=zaf _ h
 have hx2:=(zbz.mp hx).1
 refine Nat.lt_of_le_of_ne (zat _ _) fun e => ?_
 have:=List.length_filter_eq_length_iff.mp e x hx2
 simp only [zbj,decide_eq_false_iff_not] at this
 exact this hx
open PySem L2 M
noncomputable abbrev yZ:Stmt:=top 30
noncomputable abbrev wo:List Str:=["_law_script"]
noncomputable abbrev jw:List Str:=["_law_script"]
theorem EE:aJ wo jw (ao yZ):=L2.cW
noncomputable abbrev y9:Stmt:=top 31
noncomputable abbrev wu:List Str:=["_law_feed_here","_law_many","_law_found","_law_at","_law_cell","_law_number"]
noncomputable abbrev c7:List Str:=["_law_feed_here","_law_many"]
theorem iz:aJ wu c7 (ao y9):=L2.cW
noncomputable abbrev s9:Stmt:=top 32
noncomputable abbrev sr:List Str:=["_law_feed_here","_law_many","_law_some","_law_names_here","_law_at"]
noncomputable abbrev gE:List Str:=["_law_feed_here","_law_many"]
theorem kN:aJ sr gE (ao s9):=L2.cW
noncomputable abbrev tE:Stmt:=top 33
noncomputable abbrev sy:List Str:=["_law_feed_here","_law_words","_law_marks","_law_way"]
noncomputable abbrev e8:List Str:=["_law_feed_here","_law_words","_law_marks"]
theorem u5:aJ sy e8 (ao tE):=L2.cW
theorem sz {n:Nat} (h:decide (n≤100)=true):n≤yah:=by rw [yag];have:=of_decide_eq_true h;lia
noncomputable def rj:List Key:=[.inr "cells",.inr "at",.inr "left"]
def Fd (n:Nat) (o:MO):Prop:=∃ (ns:List Int) (a:Nat) (l:Int),o = .dct rj [.lst (ns.map D.int),.int a,.int l]∧a≤n∧0≤l
theorem jG:∀ ns:List Int,cM (ns.map D.int)=true
 | []=>rfl
 | n::ns=>by simp only [zbX,cM,cI,jG ns,zce]
theorem bO:∀ ns:List Str,cM (ns.map D.str)=true
 | []=>rfl
 | n::ns=>by simp only [zbX,cM,cI,bO ns,zce]
theorem Fd.fN {n:Nat}{o:MO} (h:Fd n o) (k:Nat):gZ k o=true:=by
 obtain ⟨ns,a,l,rfl,_⟩:=h
 simp only [gZ,gY,M.fN,Bool.and_true]
 exact dg k _ (jG ns)
theorem Fd.mono {n m:Nat}{o:MO} (h:Fd n o) (e:n≤m):Fd m o:=by
 obtain ⟨ns,a,l,rfl,h1,h2⟩:=h
 exact ⟨ns,a,l,rfl,by lia,h2⟩
theorem iy {S:aK}{p:Nat}{o o':MO} (h:S[p]? = some (some o)):(S.set p (some o'))[p]? = some (some o'):=by
 have hl:p<S.length:=by
  rcases zcr p S.length with z | z
  ·exact z
  ·rw [zas z] at h;cases h
 rw [zbe,yIp rfl,yIp hl]
theorem pY {S:aK}{p:Nat}{o:MO} (h:gZ S.length o=true):chg S (S.set p (some o)):=fun k o' hk e=>by
 by_cases hkp:p=k
 ·subst hkp
  rw [zbe,yIp rfl,yIp hk] at e
  have e:o=o':=by simpa using e
  subst e
  exact .inr h
 ·rw [zaz hkp] at e
  exact .inl e
theorem eV {S:aK}{p n:Nat}{o:MO}{d:D}{Q:AK} (h:cI d=true) (ho:Fd n o) (q:Q (.dat d) (S.set p (some o))):ret S (S.set p (some o)) (.dat d) Q :=
 ⟨_,d7 h,pY (ho.fN _),by rw [zak (by simp)];exact q⟩
theorem pq {S:aK}{o:MO}{Q:AK} (h:gZ S.length o=true) (q:Q (.new o) S):ret S (S++[some o]) (.dat (.loc S.length)) Q:=by
 refine ⟨.new o,?_,fun k o' hk e=>.inl ?_,?_⟩
 ·simp only [out]
  rw [yIn (zcc _),show (S++[some o])[S.length]? = some (some o) by simp]
  show (if _ then _ else _)=_
  rw [yIp h]
 ·rw [zad hk] at e;exact e
 ·rw [show (S++[some o]).take S.length=S by simp]
  exact q
theorem zH {i j:Int}{S:aK}{Q:AK}:qb (.int i) (.int j) S Q=(Bh i j∧Q (.dat (.int (i*j))) S):=rfl
theorem lay_ints:∀ ns:List Int,PyData.canLayAll0 (dW (ns.map D.int))=true∧PyData.depthAll (dW (ns.map D.int))=0
 | []=>⟨rfl,rfl⟩
 | n::ns=>by
  obtain ⟨h1,h2⟩:=lay_ints ns
  simp only [zbX,dW,py,PyData.canLayAll0,PyData.canLay0,PyData.depthAll,PyData.depth,h1,h2]
  exact ⟨rfl,rfl⟩
theorem z9 (ns:List Int):fit (.lst (ns.map D.int))=true:=by
 obtain ⟨h1,h2⟩:=lay_ints ns
 unfold fit PySem.SeqAt.shaped
 simp only [cI,jG,py,PyData.canLay0,PyData.depth,h1,h2]
 rfl
theorem kO {n a k:Nat} (h:k≤n):HT.b7 n a (some (k:Int))=k:=by
 rw [HT.kO];lia
theorem jk {α:Type}{xs:List α}{k:Nat} (h:k≤xs.length):cutD xs (some (k:Int)) none=xs.drop k:=by
 unfold M.cutD
 rw [kO h]
 show (xs.drop k).take (xs.length - k)=_
 rw [zak (by simp)]
theorem pW {α:Type}{xs:List α}{k:Nat} (h:k≤xs.length):cutD xs none (some (k:Int))=xs.take k:=by
 unfold M.cutD
 rw [kO h]
 show (xs.drop 0).take (k - 0)=_
 rw [List.drop_zero,Nat.sub_zero]
theorem u9 {S S':aK}{p n:Nat}{o:MO}{r:R}{Q:AK} (h:out S.length S' r=some r) (ho:Fd n o) (ht:S'.take S.length=S.set p (some o)) (q:Q r (S.set p (some o))):ret S S' r Q:=by
 refine ⟨r,h,fun k o' hk e => ?_,by rw [ht];exact q⟩
 have e2:(S'.take S.length)[k]? = some (some o'):=by rw [zaO,yIp hk];exact e
 rw [ht] at e2
 exact pY (ho.fN _) k o' hk e2
theorem pK {n:Nat}{S:aK}{ds:List D} (h:cM ds=true):out n S (.new (.lst ds))=some (.new (.lst ds)):=by
 simp only [out]
 rw [yIp (show gZ n (.lst ds)=true from dg n ds h)]
theorem DV {ds:List D}{z:Nat} (h:z<ds.length):∃ e,kg ds (z:Int)=some e∧e∈ds:=⟨ds[z],c6 (zah h),List.getElem_mem h⟩
theorem pick {ds:List D}{z:Nat}{S:aK}{Q:AK} (h:z<ds.length) (k:∀ e∈ds,Q (.dat e) S):qm (.lst ds) (.int z) S Q:=by
 obtain ⟨e,h1,h2⟩:=DV h
 exact ⟨e,h1,k e h2⟩
theorem qu {ys:List Str} (h:∀ y∈ys,dB y=true) (hl:ys.length≤100):fK 1 (.lst (ys.map D.str))=true∧fK 1 (.tup (ys.map D.str))=true:=by
 have:(ys.map D.str).all (fK 0)=true:=by rw [List.all_map,zbr];exact h
 simp only [fK,this,zbE,yDt hl]
 exact ⟨rfl,rfl⟩
local macro_rules
 | `(tactic| push_cast [$xs,*]) => `(tactic| simp only [$xs,*,rX,rW,m9,AL,rY,aCall,cB,fF,aX,aC,fQ,Ja,aB,kG,Gu,fB,nK,m5,uB,AQ,kH,bG,kj,m8,Gq,mZ,fE,ko,rV,qc,aY,fZ,d8,i9,i8,m6,gz,gy,jh,ee,lC,iO,iN,true_and,xO,xN,fX,fU,iR,fW,eT,eU,fV,zaj,zai,zaR,zaS,zcB.injEq,exists_eq_left',zcD.injEq,and_true,D.ty.injEq,D.bl.injEq,D.int.injEq,D.str.injEq,and_assoc,exists_and_left,exists_eq_left,exists_and_right,iA,iT,zaX,if_true,if_false,zcf,zbP])
section
variable {P:yak}{w:yal}{K:yaH}{mg:Str→Option yaj}{base:Heap}{ec:Nat→Addr}{EP:Addr}
def yG:AN:=fun ds S Q=>∃ ns:List Int,ds=[.fG ns]∧∀ o,Fd 0 o→Q (.new o) S
theorem Gh (T:Txt K mg ec EP) (F:Src K mg "_law_feed" jw yZ):Def P w K mg base 1 "_law_feed" jw (aD K yG):=by
 refine dS F EE (fun ds S Q h => ?_) (fun f cdv A outer s H E hr => ?_)
 ·obtain ⟨ns,rfl,_⟩:=h;rfl
 ·refine ⟨_,(M.aj (M.aF (M.pJ (M.f6 (M.x9 M.qR (by rfl) T.list (by decide +kernel) (M.ay (M.bW M.i6 (M.pv 0) M.cO (M.cN M.ai)) M.aa)) (M.f6 M.ai (M.f6 M.ai M.pF)))))),fun ds S Q h => ?_⟩
  obtain ⟨ns,rfl,q⟩:=h
  have e0:aU wo [.fG ns]=[some (.fG ns)]:=rfl
  rw [e0]
  push_cast [AU,qa,p9,qd]
  have hx:(S++[some (MO.dct [] [])])[S.length]? = some (some (MO.dct [] [])):=by simp
  refine ⟨hx,?_⟩
  have e1:zcE (S++[some (MO.dct [] [])]) S.length (some (MO.dct (List.map Sum.inr ["cells","at","left"]) [.lst (List.map D.int (cutD ns none (some 63))),.int 0,.int 0]))=S++[some (MO.dct rj [.lst ((cutD ns none (some 63)).map D.int),.int (0:Nat),.int 0])]:=by
   rw [zau _ _ (zcy _),zcs];rfl
  rw [e1]
  have fd:Fd 0 (.dct rj [.lst ((cutD ns none (some 63)).map D.int),.int (0:Nat),.int 0]):=⟨_,0,0,rfl,zcy _,Int.le_refl _⟩
  exact pq (fd.fN _) (q _ fd)
def eu:AN:=fun ds S Q=>∃ (p n:Nat) (m:Int) (o:MO),ds=[.loc p,.int m]∧S[p]? = some (some o)∧Fd n o∧n<1000000000000∧0<m∧m<1000∧∀ (z:Nat) (o':MO),(z:Int)<m→Fd (n+1) o'→Q (.dat (.int z)) (S.set p (some o'))
theorem Gi (T:Txt K mg ec EP) (F:Src K mg "_law_draw" c7 y9):Def P w K mg base 1 "_law_draw" c7 (aD K eu):=by
 refine dS F iz (fun ds S Q h => ?_) (fun f cdv A outer s H E hr => ?_)
 ·obtain ⟨p,n,m,o,rfl,_⟩:=h;rfl
 ·refine ⟨_,(M.ah (M.bu (M.aA M.FG (M.cZ (c9 hr) (M.pv 0) M.av (fun _ _=>rfl)) M.ai (aN _))
    (M.ah (M.az (i:=2) iz.nd rfl (Or.inl rfl) (M.aW M.g8 (M.cZ (c9 hr) (M.pv 0) M.av (fun _ _=>rfl)) (M.pv 1)))
    (M.ah (M.gR (c9 hr) (M.pv 0) M.av (M.aW M.tR (M.cZ (c9 hr) (M.pv 0) M.av (fun _ _=>rfl)) (M.pv 1)) rfl)
    (M.aj (M.aF (M.pv 2)))))
    M.aL)
   (M.ah (M.az (i:=3) iz.nd rfl (Or.inl rfl) (M.cZ (c9 hr) (M.pv 0) M.av (fun _ _=>rfl)))
   (M.ah (M.gR (c9 hr) (M.pv 0) M.av (M.aW M.bY (M.pv 3) M.ai) rfl)
   (M.ah (M.az (i:=4) iz.nd rfl (Or.inl rfl) (M.pv 3))
   (M.ah (M.bu (M.aA (M.pM hr) (M.cZ (c9 hr) (M.pv 0) M.av (fun _ _=>rfl)) (M.aS M.aa) (aN _))
    (M.aj (M.az (i:=4) iz.nd rfl (Or.inl rfl) (M.aM M.bq (M.cZ (c9 hr) (M.pv 0) M.av (fun _ _=>rfl)) (M.aW M.g8 (M.pv 3) (M.n5 M.f9 (by rfl) T.len (by decide +kernel) (M.ay (M.cZ (c9 hr) (M.pv 0) M.av (fun _ _=>rfl)) M.aa))) (fun _ _=>rfl))))
    M.aL)
   (M.ah (M.bu (M.aA M.J8 (M.pv 4) (M.aW M.Ic M.ai M.ai) (aN _))
    (M.ah (M.gR (c9 hr) (M.pv 0) M.av (M.aW M.tR (M.pv 4) (M.pv 1)) rfl)
    (M.aj (M.aF (M.aW M.g8 (M.pv 4) (M.pv 1)))))
    M.aL)
   (M.ah (M.az (i:=5) iz.nd rfl (Or.inl rfl) (M.aW M.g8 (M.aW M.n8 (M.aW M.bY (M.aW M.bY (M.aW M.bY (M.aW M.g8 (M.pv 4) M.ai) (M.aW M.n8 (M.aW M.n8 M.ai (M.pv 3)) (M.pv 3))) (M.aW M.n8 M.ai (M.pv 3))) M.ai) M.ai) M.ai))
   (M.ah (M.az (i:=5) iz.nd rfl (Or.inl rfl) (M.aW M.g8 (M.aW M.n8 (M.aW M.bY (M.aW M.n8 (M.pv 5) (M.pv 5)) (M.pv 3)) M.ai) M.ai))
   (M.aj (M.aF (M.aW M.g8 (M.aW M.tR (M.pv 5) M.ai) (M.pv 1)))))))))))),fun ds S Q h => ?_⟩
  obtain ⟨p,n,m,o,rfl,hS,⟨ns,a,l,rfl,ha,hl⟩,hn,m0,m1,q⟩:=h
  have e0:aU wu [.loc p,.int m]=[some (.loc p),some (.int m),none,none,none,none]:=rfl
  rw [e0]
  have s1:bf S (.loc p) = .dct rj [.lst (ns.map D.int),.int a,.int l]:=by simp only [bf,hS];rfl
  have g1:∀ x y z,fz rj [x,y,z] (.inr "left")=some z:=fun x y z=>rfl
  have g2:∀ x y z,fz rj [x,y,z] (.inr "at")=some y:=fun x y z=>rfl
  have g3:∀ x y z,fz rj [x,y,z] (.inr "cells")=some x:=fun x y z=>rfl
  have p1:∀ x y z d,pV rj [x,y,z] (.inr "left") d = .dct rj [x,y,d]:=fun x y z d=>rfl
  have p2:∀ x y z d,pV rj [x,y,z] (.inr "at") d = .dct rj [x,d,z]:=fun x y z d=>rfl
  push_cast [AW,AV,s1,D.dct.injEq]
  refine ⟨_,g1 _ _ _,?_⟩
  push_cast [true_and]
  refine eF (fun h => ?_) (fun h => ?_)
  ·have hl0:0<l:=by simpa using h
   refine ⟨_,_,s1,_,g1 _ _ _,?_⟩
   push_cast [true_and]
   refine ⟨m0,_,_,s1,_,g1 _ _ _,?_⟩
   push_cast [true_and]
   refine ⟨⟨m0,by lia⟩,p,rfl,_,_,hS,by simp,?_⟩
   rw [p1]
   have h0:=zbL l (show m≠0 by lia)
   have h1:=zaV l m0
   obtain ⟨y,hy⟩:∃ y:Nat,l % m=y:=⟨(l % m).toNat,by lia⟩
   rw [hy] at h1 ⊢
   have fd:Fd (n+1) (.dct rj [.lst (ns.map D.int),.int a,.int (l / m)]):=⟨ns,a,_,rfl,by lia,Int.ediv_nonneg hl (by lia)⟩
   exact eV rfl fd (q y _ h1 fd)
  ·refine ⟨_,_,s1,_,g2 _ _ _,?_⟩
   push_cast [true_and]
   refine ⟨p,rfl,_,_,hS,by simp,?_⟩
   rw [p2]
   have e1:(a:Int)+1=((a+1:Nat):Int):=by lia
   rw [e1]
   have fd:Fd (n+1) (.dct rj [.lst (ns.map D.int),.int ((a+1:Nat):Int),.int l]):=⟨ns,a+1,_,rfl,by lia,hl⟩
   have hS1:=iy (o':=.dct rj [.lst (ns.map D.int),.int ((a+1:Nat):Int),.int l]) hS
   generalize hSS:S.set p (some (.dct rj [.lst (ns.map D.int),.int ((a+1:Nat):Int),.int l]))=S1 at hS1 ⊢
   have s2:bf S1 (.loc p) = .dct rj [.lst (ns.map D.int),.int ((a+1:Nat):Int),.int l]:=by simp only [bf,hS1];rfl
   refine ⟨_,_,s2,_,g3 _ _ _,zcz _,?_⟩
   have tail:∀ c:Int,GN 10 18∧if decide (10 ^ Int.toNat 18≤c)=true then Dd c m∧∃ n,D.loc p=D.loc n∧∃ x x_1,S1[n]? = some (some (MO.dct x x_1))∧x_1.length<1000∧0<m∧M.ret S (zcE S1 n (some (pV x x_1 (Sum.inr "left") (D.int (c / m))))) (R.dat (D.int (c % m))) Q
      else
       (0:Int)<1000003 ∧
        qb (D.int 7) (D.int a) S1 fun x S1 =>
         qb x.d (D.int a) S1 fun y S2 =>
          nL (D.int (c % 1000003)) y.d S2 fun x S1 =>
           qb (D.int 31) (D.int a) S1 fun y S2 =>
            nL x.d y.d S2 fun x S1 =>
             nL x.d (D.int 1) S1 fun x S1 =>
              qb x.d (D.int 48271) S1 fun x S1 =>
               aI (fun x j=>0<j) (fun i j=>D.int (i % j)) x.d (D.int 999983) S1 fun r S1 =>
                qb r.d r.d S1 fun x S1 =>
                 nL x.d (D.int a) S1 fun x S1 =>
                  qb x.d (D.int 30269) S1 fun x S1 =>
                   aI (fun x j=>0<j) (fun i j=>D.int (i % j)) x.d (D.int 2147483629) S1
                    fun r S1 =>
                    aI Dd (fun i j=>D.int (i / j)) r.d (D.int 7) S1 fun x S1 =>
                     aI (fun x j=>0<j) (fun i j=>D.int (i % j)) x.d (D.int m) S1 fun r S' =>
                      M.ret S S' r Q:=by
    intro c
    refine ⟨⟨by decide,by decide,by decide⟩,eF (fun h => ?_) (fun h => ?_)⟩
    ·have hc:(10:Int) ^ Int.toNat 18≤c:=of_decide_eq_true h
     have hc0:0≤c:=Int.le_trans (by decide) hc
     refine ⟨⟨m0,by lia⟩,p,rfl,_,_,hS1,by simp,m0,?_⟩
     rw [p1,← hSS,zcm]
     have h0:=zbL c (show m≠0 by lia)
     have h1:=zaV c m0
     obtain ⟨y,hy⟩:∃ y:Nat,c % m=y:=⟨(c % m).toNat,by lia⟩
     rw [hy] at h1 ⊢
     have fd2:Fd (n+1) (.dct rj [.lst (ns.map D.int),.int ((a+1:Nat):Int),.int (c / m)]):=⟨ns,a+1,_,rfl,by lia,Int.ediv_nonneg hc0 (by lia)⟩
     exact eV rfl fd2 (q y _ h1 fd2)
    ·push_cast [zH]
     have b0:=zbL c (show (1000003:Int)≠0 by decide)
     have b1:=zaV c (show (0:Int)<1000003 by decide)
     refine ⟨by decide,.inl ⟨by decide,by decide⟩,.inr ⟨by lia,by lia⟩,.inl ⟨by decide,by decide⟩,.inr ⟨by decide,by decide⟩,by decide,?_⟩
     generalize (c % 1000003+7*(a:Int)*(a:Int)+31*(a:Int)+1)*48271=u
     have c0:=zbL u (show (999983:Int)≠0 by decide)
     have c1:=zaV u (show (0:Int)<999983 by decide)
     generalize u % 999983=v at c0 c1 ⊢
     refine ⟨.inl ⟨by lia,by lia⟩,.inr ⟨by decide,by decide⟩,by decide,⟨by decide,by decide⟩,m0,?_⟩
     generalize (v*v+(a:Int))*30269 % 2147483629 / 7=t
     have h0:=zbL t (show m≠0 by lia)
     have h1:=zaV t m0
     obtain ⟨y,hy⟩:∃ y:Nat,t % m=y:=⟨(t % m).toNat,by lia⟩
     rw [hy] at h1 ⊢
     rw [← hSS]
     exact eV rfl fd (q y _ h1 fd)
   show fit (.lst (ns.map D.int))=true∧fit (.lst [])=true∧_
   refine ⟨z9 ns,rfl,_,rfl,eF (fun h => ?_) (fun h => ?_)⟩
   ·have hne:ns≠[]:=by
     intro e
     subst e
     exact absurd h (by show ¬ ((!PyData.eqv (.list []) (.list []))=true);decide)
    have hpos:0<ns.length:=List.length_pos_iff.mpr hne
    refine ⟨_,_,s2,_,g3 _ _ _,_,_,s2,_,g3 _ _ _,ns.length,by simp [fy,bf],by lia,?_⟩
    have hm:a % ns.length<ns.length:=Nat.mod_lt _ hpos
    have e2:((a:Int) % (ns.length:Int))=((a % ns.length:Nat):Int):=by simp
    rw [e2]
    refine ⟨.int ns[a % ns.length],c6 (by simp [hm]),?_⟩
    push_cast [true_and]
    exact tail _
   ·exact tail _
theorem c5 {S:aK}{p n:Nat}{m:Int}{o:MO}{Q:AK} (hS:S[p]? = some (some o)) (ho:Fd n o) (hn:n<1000000000000) (h0:0<m) (h1:m<1000) (k:∀ (z:Nat) (o':MO),(z:Int)<m→Fd (n+1) o'→Q (.dat (.int z)) (S.set p (some o'))):eu [.loc p,.int m] S Q :=
 ⟨p,n,m,o,rfl,hS,ho,hn,h0,h1,k⟩
noncomputable def NA:List Str:=["a","ab","abc","b","ba","bab","c"]
noncomputable def NB:List Str:=["on","back","at","stay","many","then","tie"]
noncomputable def NC:List Str:=["k","w","xxxxxxxx","xxxxxxx","m","q","z"]
theorem Ii (l:List Str) (h:l=NA∨l=NB∨l=NC):l.length=7∧∀ y∈l,Nm y:=by
 have key:∀ l:List Str,(decide (l.length=7)&&l.all fun y=>isName (.str y))=true→l.length=7∧∀ y∈l,Nm y:=fun l h=>by
  rw [zbw,zbr] at h
  exact ⟨of_decide_eq_true h.1,h.2⟩
 rcases h with rfl | rfl | rfl
 ·exact key _ (by decide +kernel)
 ·exact key _ (by decide +kernel)
 ·exact key _ (by decide +kernel)
def uV:AN:=fun ds S Q=>∃ (p n m:Nat) (o:MO),ds=[.loc p,.int m]∧S[p]? = some (some o)∧Fd n o∧n+2<1000000000000∧m≤7∧∀ (ys:List Str) (o':MO),ys.length=m→(∀ y∈ys,Nm y)→Fd (n+2) o'→Q (.new (.lst (ys.map D.str))) (S.set p (some o'))
theorem CF (T:Txt K mg ec EP) (F:Src K mg "_law_names" gE s9) (D_law_draw:Def P w K mg base 1 "_law_draw" c7 (aD K eu)):Def P w K mg base 2 "_law_names" gE (aD K uV):=by
 refine dS F kN (fun ds S Q h => ?_) (fun f cdv A outer s H E hr => ?_)
 ·obtain ⟨p,n,m,o,rfl,_⟩:=h;rfl
 ·refine ⟨_,(M.ah (M.az (i:=2) kN.nd rfl (Or.inl rfl) (M.oG (M.aS (M.ay (M.aS (M.ay M.av (M.ay M.av (M.ay M.av (M.ay M.av (M.ay M.av (M.ay M.av (M.ay M.av M.aa)))))))) (M.ay (M.aS (M.ay M.av (M.ay M.av (M.ay M.av (M.ay M.av (M.ay M.av (M.ay M.av (M.ay M.av M.aa)))))))) M.aa)))))
   (M.ah (M.cD (M.dZ PySem.F.plainAttrs_list PySem.F.slot_list_append PySem.F.type_list_append M.gf (M.pv 2) (M.ay (M.aS (M.ay M.av (M.ay M.av (M.ay M.av (M.ay M.av (M.ay M.av (M.ay M.av (M.ay M.av M.aa)))))))) M.aa)))
   (M.ah (M.az (i:=3) kN.nd rfl (Or.inl rfl) (M.aM M.bq (M.pv 2) (M.ow D_law_draw hr (M.ay (M.pv 0) (M.ay M.ai M.aa))) (fun _ _=>rfl)))
   (M.ah (M.az (i:=4) kN.nd rfl (Or.inl rfl) (M.ow D_law_draw hr (M.ay (M.pv 0) (M.ay M.ai M.aa))))
   (M.aj (M.aF (M.bW M.i6 (M.aW M.bY (M.bW M.i6 (M.pv 3) (M.cN (M.pv 4)) M.cO) (M.bW M.i6 (M.pv 3) M.cO (M.cN (M.pv 4)))) M.cO (M.cN (M.pv 1))))))))),fun ds S Q h => ?_⟩
  obtain ⟨p,n,m,o,rfl,hS,ho,hn,hm,q⟩:=h
  have e0:aU sr [.loc p,.int m]=[some (.loc p),some (.int m),none,none,none]:=rfl
  rw [e0]
  push_cast [bQ,xP,ku,vZ]
  have hp:p<S.length:=by
   rcases zcr p S.length with z | z
   ·exact z
   ·rw [zas z] at hS;cases hS
  have hat:∀ (S:aK) (o:MO),(S++[some o])[S.length]? = some (some o):=fun S o=>by simp
  refine ⟨sz rfl,sz rfl,sz rfl,by simp [bf,MO.d],sz rfl,S.length,rfl,_,hat _ _,by rw [yag];decide,?_⟩
  have e1:∀ x y:MO,zcE (S++[some x]) S.length (some y)=S++[some y]:=fun x y=>by rw [zau _ _ (zcy _),zcs];rfl
  rw [e1]
  refine c5 (o:=o) (by rw [zad hp];exact hS) ho (by lia) (by decide) (by decide) fun z1 o1 hz1 ho1 => ?_
  rw [zaB _ _ hp]
  have hl1:(S.set p (some o1)).length=S.length:=zbG ..
  have JO:∀ (S1:aK) (L:List D),S1.length=S.length→bf (S1++[some (.lst L)]) (.loc S.length) = .lst L:=fun S1 L h=>by
   simp only [bf]
   rw [← h,hat];rfl
  show qm (.loc S.length) (.int z1) _ _
  unfold qm
  rw [JO _ _ hl1]
  show ∃ e,_
  obtain ⟨e,he,hm1⟩:=DV (ds:=[D.lst (NA.map D.str),D.lst (NB.map D.str),D.lst (NC.map D.str)]) (z:=z1) (by show z1<3;lia)
  refine ⟨e,he,?_⟩
  obtain ⟨l,rfl,hl⟩:∃ l:List Str,e = .lst (l.map D.str)∧(l=NA∨l=NB∨l=NC):=by
   simp only [zbW,zbt,or_false] at hm1
   rcases hm1 with rfl | rfl | rfl
   ·exact ⟨_,rfl,.inl rfl⟩
   ·exact ⟨_,rfl,.inr (.inl rfl)⟩
   ·exact ⟨_,rfl,.inr (.inr rfl)⟩
  obtain ⟨l7,hnm⟩:=Ii l hl
  have hpp:p<(S.set p (some o1)).length:=by rw [hl1];exact hp
  refine c5 (o:=o1) (by rw [zad hpp];exact iy hS) ho1 (by lia) (by decide) (by decide) fun z2 o2 hz2 ho2 => ?_
  rw [zaB _ _ hpp,zcm]
  refine ⟨z2,rfl,?_⟩
  have hz:z2≤(l.map D.str).length:=by rw [zbE];lia
  show p9 (.lst (l.map D.str)) _ _ _ _
  unfold p9
  push_cast [true_and]
  rw [jk hz,pW hz]
  refine ⟨by rw [zbp,zbn,zbE,yag];lia,?_⟩
  have e4:(l.map D.str).drop z2++(l.map D.str).take z2=(l.drop z2++l.take z2).map D.str:=by rw [zbI,zcb,zca]
  have hlen:(l.drop z2++l.take z2).length=7:=by rw [zaM,zbp,zbn];lia
  rw [e4,pW (by rw [zbE];lia),← zca]
  refine u9 (pK (bO _)) ho2 (by rw [zbK (by rw [zbG])]) (q _ o2 (by rw [zbn];lia) (fun y hy => ?_) ho2)
  have hy:=zaC hy
  rcases zbA.mp hy with hy | hy
  ·exact hnm y (zaD hy)
  ·exact hnm y (zaC hy)
def kL:AN:=fun ds S Q=>∃ (p n:Nat) (ws ms:List Str) (o:MO),ds=[.loc p,.lst (ws.map D.str),.lst (ms.map D.str)]∧(∀ y∈ws,Nm y)∧(∀ y∈ms,Nm y)∧ws.length≤7∧ms.length≤7∧S[p]? = some (some o)∧Fd n o∧n+2<1000000000000 ∧
 ∀ (x:Pt) (o':MO),dp x=0→N x=1→lq x→Fd (n+2) o'→Q (.dat (tD x)) (S.set p (some o'))
theorem CH (T:Txt K mg ec EP) (F:Src K mg "_law_leaf" e8 tE) (D_law_draw:Def P w K mg base 1 "_law_draw" c7 (aD K eu)):Def P w K mg base 2 "_law_leaf" e8 (aD K kL):=by
 refine dS F u5 (fun ds S Q h => ?_) (fun f cdv A outer s H E hr => ?_)
 ·obtain ⟨p,n,ws,ms,o,rfl,_⟩:=h;rfl
 ·refine ⟨_,(M.ah (M.az (i:=3) u5.nd rfl (Or.inl rfl) (M.ow D_law_draw hr (M.ay (M.pv 0) (M.ay M.ai M.aa))))
   (M.ah (M.bu (M.aA (M.dR hr) (M.pv 3) M.ai (aN _))
    (M.aj (M.aF (M.br (M.ay M.av M.aa))))
    M.aL)
   (M.ah (M.bu (M.pw_pt (M.pw_and (M.aA M.FF (M.pv 3) M.ai (aN _)) (M.pw_and1 (M.aA (M.pM hr) (M.pv 2) (M.aS M.aa) (aN _)))))
    (M.aj (M.aF (M.br (M.ay (M.aM M.bq (M.aS (M.ay M.av (M.ay M.av M.aa))) (M.aW M.vo (M.pv 3) M.ai) (fun _ _=>rfl)) (M.ay (M.aM M.bq (M.pv 2) (M.ow D_law_draw hr (M.ay (M.pv 0) (M.ay (M.n5 M.f9 (by rfl) T.len (by decide +kernel) (M.ay (M.pv 2) M.aa)) M.aa))) (fun _ _=>rfl)) M.aa)))))
    M.aL)
   (M.aj (M.aF (M.br (M.ay M.av (M.ay (M.aM M.bq (M.aS (M.ay M.av (M.ay M.av (M.ay M.av M.aa)))) (M.aW M.g8 (M.pv 3) M.ai) (fun _ _=>rfl)) (M.ay (M.aM M.bq (M.aW M.bY (M.pv 1) (M.aS (M.ay M.av M.aa))) (M.ow D_law_draw hr (M.ay (M.pv 0) (M.ay (M.aW M.bY (M.n5 M.f9 (by rfl) T.len (by decide +kernel) (M.ay (M.pv 1) M.aa)) M.ai) M.aa))) (fun _ _=>rfl)) M.aa))))))))),fun ds S Q h => ?_⟩
  obtain ⟨p,n,ws,ms,o,rfl,hw,hm,lw,lm,hS,ho,hn,q⟩:=h
  have e0:aU sy [.loc p,.lst (ws.map D.str),.lst (ms.map D.str)]=[some (.loc p),some (.lst (ws.map D.str)),some (.lst (ms.map D.str)),none]:=rfl
  rw [e0]
  push_cast [true_and]
  refine c5 hS ho (by lia) (by decide) (by decide) fun y o1 hy ho1 => ?_
  push_cast [true_and]
  have hS1:=iy (o':=o1) hS
  have step:∀ S1,S1=S.set p (some o1)→qm (D.lst [D.str "on",D.str "on",D.str "back"]) (D.int ((y:Int) % 3)) S1 (fun x S1 =>
      [D.str "*"].length≤yah∧(List.map D.str ws).length+[D.str "*"].length≤yah∧∃ x_1,fy (D.lst (List.map D.str ws))=some x_1 ∧
          eu [D.loc p,D.int ((x_1:Int)+1)] S1 fun y S2=>qm (D.lst (List.map D.str ws++[D.str "*"])) y.d S2 fun x_2 S1 =>
            [D.str "step",x.d,x_2.d].length≤yah∧M.ret S S1 (R.dat (D.tup [D.str "step",x.d,x_2.d])) Q):=by
   rintro S1 rfl
   have e3:(y:Int) % 3=((y % 3:Nat):Int):=by lia
   rw [e3]
   refine pick (by show y % 3<3;lia) fun e he => ?_
   obtain ⟨b,rfl⟩:∃ b,e = .str (side b):=by
    simp only [zbW,zbt,or_false] at he
    rcases he with rfl | rfl | rfl
    ·exact ⟨true,rfl⟩
    ·exact ⟨true,rfl⟩
    ·exact ⟨false,rfl⟩
   refine ⟨sz rfl,by rw [zbE,yag];show ws.length+1≤_;lia,ws.length,by simp [fy],?_⟩
   refine c5 hS1 ho1 (by lia) (by lia) (by lia) fun z o2 hz ho2 => ?_
   rw [zcm]
   refine pick (by rw [zaM,zbE];show z<ws.length+1;lia) fun e he => ?_
   obtain ⟨x,rfl,hx⟩:∃ x,e = .str x∧Wd x:=by
    rcases zbA.mp he with he | he
    ·obtain ⟨x,hx,rfl⟩:=zck.mp he
     exact ⟨x,rfl,by unfold Wd isWord;rw [show isName (.str x)=true from hw x hx,zct]⟩
    ·simp only [zaP] at he
     exact ⟨_,he,show isWord (.str "*")=true by decide +kernel⟩
   exact ⟨sz rfl,eV (by rfl) ho2 (q (.step b x) o2 rfl rfl hx ho2)⟩
  refine eF (fun h => ?_) (fun h=>eF (fun h3 => ?_) (fun h3 => ?_))
  ·exact ⟨sz rfl,eV rfl ho1 (q .stay o1 rfl rfl trivial (ho1.mono (by lia)))⟩
  ·have hy0 : ¬ ((y:Int)=0):=by simpa using h
   have hy3:(y:Int)<3:=by simpa using h3
   refine ⟨zcz _,?_⟩
   show fit (.lst (ms.map D.str))=true∧fit (.lst [])=true∧_
   refine ⟨iu (qu (fun y hy=>gb (hm y hy)) (by lia)).1 (by decide),rfl,_,rfl,eF (fun hb => ?_) (fun hb=>⟨sz rfl,by decide,step _ rfl⟩)⟩
   have hpos:0<ms.length:=by
    cases ms with
    | nil=>exact absurd hb (by show ¬ ((!PyData.eqv (.list []) (.list []))=true);decide)
    | cons a r=>simp
   refine ⟨sz rfl,?_⟩
   have e3:(y:Int) - 1=((y - 1:Nat):Int):=by lia
   rw [e3]
   refine pick (by show y - 1<2;lia) fun e he => ?_
   obtain ⟨b,rfl⟩:∃ b,e = .str (Jt b):=by
    simp only [zbW,zbt,or_false] at he
    rcases he with rfl | rfl
    ·exact ⟨true,rfl⟩
    ·exact ⟨false,rfl⟩
   refine ⟨ms.length,by simp [fy],?_⟩
   refine c5 hS1 ho1 (by lia) (by lia) (by lia) fun z o2 hz ho2 => ?_
   rw [zcm]
   refine pick (by rw [zbE];lia) fun e he => ?_
   obtain ⟨x,hx,rfl⟩:=zck.mp he
   exact ⟨sz rfl,eV (by rfl) ho2 (q (.mk b x) o2 rfl rfl (hm x hx) ho2)⟩
  ·exact ⟨sz rfl,by decide,step _ rfl⟩
end
open PySem L2 M
noncomputable abbrev qC:Stmt:=top 34
noncomputable abbrev wm:List Str:=["_law_feed_here","_law_words","_law_marks","_law_bag","_law_deep","_law_way","_law_some","_law_k"]
noncomputable abbrev cQ:List Str:=["_law_feed_here","_law_words","_law_marks","_law_bag","_law_deep"]
theorem lN:aJ wm cQ (ao qC):=L2.cW
noncomputable def nv:Nat→Nat
 | 0=>3
 | k+1=>3+4*nv k
theorem Ko (k:Nat):3≤nv k:=by cases k <;> simp [nv] <;> lia
theorem yh {p:Pt} (k:Nat) (h:dp p≤k) (ho:lq p) (hn:N p≤100):cI (tD p)=true:=sP (De k p h ho hn)
theorem Ez {S:aK}{p q:Nat}{o:Option MO}{x:Option (Option MO)} (h:p≠q) (e:S[q]? = x):(S.set p o)[q]? = x:=by rw [zaz h];exact e
theorem lP {S S':aK}{p q n:Nat}{o o2:MO}{r:R}{Q:AK} (h:out S.length S' r=some r) (ho:Fd n o) (ho2:gZ S.length o2=true) (ht:S'.take S.length=(S.set p (some o)).set q (some o2)) (hq:Q r ((S.set p (some o)).set q (some o2))):ret S S' r Q:=by
 refine ⟨r,h,fun k o' hk e => ?_,by rw [ht];exact hq⟩
 have e2:(S'.take S.length)[k]? = some (some o'):=by rw [zaO,yIp hk];exact e
 rw [ht] at e2
 by_cases hkq:q=k
 ·subst hkq
  rw [zbe,yIp rfl] at e2
  split at e2
  ·have e2:o2=o':=by simpa using e2
   subst e2
   exact .inr ho2
  ·cases e2
 ·rw [zaz hkq] at e2
  exact pY (ho.fN _) k o' hk e2
noncomputable def T2 (S:aK) (p q:Nat) (o:MO) (c:Nat):aK:=(S.set p (some o)).set q (some (.lst [.int c]))
theorem gg {S:aK}{p:Nat}{o:MO} (h:S[p]? = some (some o)):p<S.length:=by
 rcases zcr p S.length with z | z
 ·exact z
 ·rw [zas z] at h;cases h
theorem Je {S:aK}{p q:Nat}{o:MO}{c:Nat}:(T2 S p q o c).length=S.length:=by simp [T2]
theorem Ky {S:aK}{p q:Nat}{o:MO}{c:Nat} (h:q<S.length):(T2 S p q o c)[q]? = some (some (.lst [.int c])):=by
 unfold T2
 rw [zbe,yIp rfl,yIp (by simpa using h)]
theorem JB {S:aK}{p q:Nat}{o:MO}{c:Nat} (h:p<S.length) (hpq:p≠q):(T2 S p q o c)[p]? = some (some o):=by
 unfold T2
 rw [zaz (fun e=>hpq e.symm),zbe,yIp rfl,yIp h]
theorem CY {S:aK}{p q:Nat}{o o':MO}{c:Nat} (hpq:p≠q):(T2 S p q o c).set p (some o')=T2 S p q o' c:=by
 unfold T2
 rw [List.set_comm _ _ (fun e=>hpq e.symm),zcm]
theorem Jd {S:aK}{p q:Nat}{o:MO}{c c':Nat}:(T2 S p q o c).set q (some (.lst [.int c']))=T2 S p q o c':=by
 unfold T2
 rw [zcm]
theorem Ac:∀ {ps:List Pt}{j:Nat},(∀ x∈ps,dp x≤j)→iL ps≤j
 | [],j,_=>zcz _
 | p::ps,j,h=>by
  have h1:=h p zaL
  have h2:=Ac (ps:=ps) fun x hx=>h x (zax _ hx)
  simp only [iL];lia
section
variable {P:yak}{w:yal}{K:yaH}{mg:Str→Option yaj}{base:Heap}{ec:Nat→Addr}{EP:Addr}
def lJ (k:Nat):AN:=fun ds S Q=>∃ (p q n b:Nat) (ws ms:List Str) (o:MO),ds=[.loc p,.lst (ws.map D.str),.lst (ms.map D.str),.loc q,.int k]∧(∀ y∈ws,Nm y)∧(∀ y∈ms,Nm y)∧ws.length≤7∧ms.length≤7∧p≠q∧S[p]? = some (some o)∧S[q]? = some (some (.lst [.int b]))∧1≤b∧b≤8∧Fd n o∧n+nv k<1000000000000 ∧
 ∀ (x:Pt) (o':MO) (c:Nat),dp x≤k→N x+c=b→lq x→Fd (n+nv k) o'→Q (.dat (tD x)) ((S.set p (some o')).set q (some (.lst [.int c])))
theorem vL (T:Txt K mg ec EP) (F:Src K mg "_law_pattern" cQ qC) (D_law_draw:Def P w K mg base 1 "_law_draw" c7 (aD K eu)) (dN:Def P w K mg base 2 "_law_leaf" e8 (aD K kL)) (k:Nat) (hk:k≤4) (D_law_pattern:Def P w K mg base (k+2) "_law_pattern" cQ (aD K (fun ds S Q=>∃ j,j+1=k∧lJ j ds S Q))) :
  Def P w K mg base (k+3) "_law_pattern" cQ (aD K (lJ k)):=by
 refine dS F lN (fun ds S Q h => ?_) (fun f cdv A outer s H E hr => ?_)
 ·obtain ⟨p,q,n,b,ws,ms,o,rfl,_⟩:=h;rfl
 ·refine ⟨_,(M.ah (M.BW (M.pv 3) M.ai (M.aW M.vo (M.aM M.bq (M.pv 3) M.ai (fun _ _=>rfl)) M.ai))
   (M.ah (M.az (i:=5) lN.nd rfl (Or.inl rfl) (M.cy D_law_draw (hr.mono (by lia)) (by rfl) (M.ay (M.pv 0) (M.ay M.ai M.aa))))
   (M.ah (M.bu (M.pw_pt (M.pw_or (M.aA M.FF (M.pv 5) M.ai (aN _)) (M.pw_or (M.aA M.FF (M.aM M.bq (M.pv 3) M.ai (fun _ _=>rfl)) M.ai (aN _)) (M.pw_or1 (M.aA (M.dR hr) (M.pv 4) M.ai (aN _))))))
    (M.aj (M.aF (M.cy dN (hr.mono (by lia)) (by rfl) (M.ay (M.pv 0) (M.ay (M.pv 1) (M.ay (M.pv 2) M.aa))))))
    M.aL)
   (M.ah (M.bu (M.aA (M.dR hr) (M.pv 5) M.ai (aN _))
    (M.aj (M.aF (M.br (M.ay M.av (M.ay (M.cy D_law_pattern (hr.mono (by lia)) (by rfl) (M.ay (M.pv 0) (M.ay (M.pv 1) (M.ay (M.pv 2) (M.ay (M.pv 3) (M.ay (M.aW M.vo (M.pv 4) M.ai) M.aa)))))) M.aa)))))
    M.aL)
   (M.ah (M.az (i:=6) lN.nd rfl (Or.inl rfl) (M.oG (M.aS M.aa)))
   (M.ah (M.cV PassesOwn.never rfl (M.dG (by rfl) T.range (M.ay (M.aM M.bq (M.aS (M.ay M.ai (M.ay M.ai (M.ay M.ai (M.ay M.ai (M.ay M.ai (M.ay M.ai (M.ay M.ai (M.ay M.ai M.aa))))))))) (M.cy D_law_draw (hr.mono (by lia)) (by rfl) (M.ay (M.pv 0) (M.ay M.ai M.aa))) (fun _ _=>rfl)) M.aa)) (M.aG (i:=7) lN.nd rfl (Or.inl rfl))
    (M.aj (M.bu (M.aA M.FG (M.aM M.bq (M.pv 3) M.ai (fun _ _=>rfl)) M.ai (aN _))
     (M.aj (M.cD (M.dZ PySem.F.plainAttrs_list PySem.F.slot_list_append PySem.F.type_list_append M.gf (M.pv 6) (M.ay (M.cy D_law_pattern (hr.mono (by lia)) (by rfl) (M.ay (M.pv 0) (M.ay (M.pv 1) (M.ay (M.pv 2) (M.ay (M.pv 3) (M.ay (M.aW M.vo (M.pv 4) M.ai) M.aa)))))) M.aa))))
     M.aL)))
   (M.aj (M.aF (M.br (M.ay (M.aM M.bq (M.aS (M.ay M.av (M.ay M.av M.aa))) (M.aW M.g8 (M.pv 5) M.ai) (fun _ _=>rfl)) (M.ay (M.x9 M.jL (by rfl) T.tuple (by decide +kernel) (M.ay (M.pv 6) M.aa)) M.aa))))))))))),fun ds S Q h => ?_⟩
  obtain ⟨p,q,n,b,ws,ms,o,rfl,hw,hm_,lw,lm,hpq,hS,hB,hb1,hb8,ho,hn,hq⟩:=h
  have e0:aU wm [.loc p,.lst (ws.map D.str),.lst (ms.map D.str),.loc q,.int k]=[some (.loc p),some (.lst (ws.map D.str)),some (.lst (ms.map D.str)),some (.loc q),some (.int k),none,none,none]:=rfl
  rw [e0]
  have d3:=Ko k
  have sb:bf S (.loc q) = .lst [.int b]:=by simp only [bf,hB];rfl
  have ix0:∀ (S:aK) (c:Int),S[q]? = some (some (.lst [.int c]))→∀ Q:AK,Q (.dat (.int c)) S→qm (.loc q) (.int 0) S Q:=fun S c h Q hq=>by
   unfold qm
   rw [show bf S (.loc q) = .lst [.int c] by simp only [bf,h];rfl]
   exact ⟨_,rfl,hq⟩
  push_cast [AR]
  refine ix0 S b hB _ ?_
  push_cast [true_and]
  refine ⟨q,rfl,_,hB,0,rfl,?_⟩
  obtain ⟨c,rfl⟩:∃ c,b=c+1:=⟨b - 1,by lia⟩
  have ec:[D.int ((c+1:Nat):Int)].set 0 (D.int (((c+1:Nat):Int) - 1))=[D.int c]:=by
   show [D.int (((c+1:Nat):Int) - 1)]=_
   rw [show (((c+1:Nat):Int) - 1)=(c:Int) by lia]
  rw [ec]
  refine c5 (o:=o) (Ez (fun e=>hpq e.symm) hS) ho (by lia) (by decide) (by decide) fun z o1 hz ho1 => ?_
  have hp:p<S.length:=gg hS
  have hq':q<S.length:=gg hB
  rw [show (S.set q (some (.lst [.int c]))).set p (some o1)=T2 S p q o1 c from List.set_comm _ _ (fun e=>hpq e.symm)]
  have leaf:∀ r':Nat,kL [D.loc p,D.lst (ws.map D.str),D.lst (ms.map D.str)] (T2 S p q o1 c) fun r S'=>M.ret S S' r Q:=fun _=>by
   refine ⟨p,n+1,ws,ms,o1,rfl,hw,hm_,lw,lm,JB hp hpq,ho1,by lia,fun x o' h0 h1 hok ho' => ?_⟩
   rw [CY hpq]
   exact lP (d7 (yh 0 (by lia) hok (by lia))) ho' rfl (zak (by simp [T2])) (hq x o' c (by lia) (by lia) hok (ho'.mono (by lia)))
  push_cast [true_and]
  refine eF (fun _=>leaf 0) (fun _ => ?_)
  refine ix0 _ c (Ky hq') _ ?_
  push_cast [true_and]
  refine eF (fun _=>leaf 0) (fun hc1 => ?_)
  have hc1 : ¬ ((c:Int)<1):=by simpa using hc1
  refine eF (fun _=>leaf 0) (fun hk0 => ?_)
  have hk0 : ¬ ((k:Int)=0):=by simpa using hk0
  obtain ⟨j,rfl⟩:∃ j,k=j+1:=⟨k - 1,by lia⟩
  have ej:((j+1:Nat):Int) - 1=(j:Int):=by lia
  have ed:nv (j+1)=3+4*nv j:=rfl
  rw [ed] at hn hq
  refine eF (fun _ => ?_) (fun _ => ?_)
  ·rw [ej]
   refine ⟨j,rfl,p,q,n+1,c,ws,ms,o1,rfl,hw,hm_,lw,lm,hpq,JB hp hpq,Ky hq',by lia,by lia,ho1,by lia,fun x o' c' hd hN hok ho'=>⟨sz rfl,?_⟩⟩
   rw [CY hpq,Jd]
   have hN2:N (.many x)+c'=c+1:=by simp only [N];lia
   exact lP (d7 (yh (p:=.many x) (j+1) (by simp only [dp];lia) hok (by lia))) ho' rfl (zak (by simp [T2])) (hq (.many x) o' c' (by simp only [dp];lia) hN2 hok (ho'.mono (by lia)))
  ·push_cast [bQ,qc,fF,iJ,xw]
   refine ⟨zcz _,sz rfl,?_⟩
   have hl1:(T2 S p q o1 c).length=S.length:=Je
   rw [hl1]
   refine c5 (o:=o1) (by rw [zad (by rw [hl1];exact hp)];exact JB hp hpq) ho1 (by lia) (by decide) (by decide) fun y o2 hy ho2 => ?_
   rw [zaB _ _ (by rw [hl1];exact hp),CY hpq]
   refine pick (by show y<8;lia) fun m hm => ?_
   obtain ⟨mm,rfl,hmm⟩:∃ mm:Nat,m = .int mm∧mm≤4:=by
    simp only [zbW,zbt,or_false] at hm
    rcases hm with rfl | rfl | rfl | rfl | rfl | rfl | rfl | rfl
    ·exact ⟨2,rfl,by decide⟩
    ·exact ⟨3,rfl,by decide⟩
    ·exact ⟨0,rfl,by decide⟩
    ·exact ⟨1,rfl,by decide⟩
    ·exact ⟨2,rfl,by decide⟩
    ·exact ⟨2,rfl,by decide⟩
    ·exact ⟨4,rfl,by decide⟩
    ·exact ⟨3,rfl,by decide⟩
   refine ⟨mm,rfl,by lia,by lia,?_⟩
   have hmd:mm*nv j≤4*nv j:=Nat.mul_le_mul_right _ hmm
   refine cE (fun rest δ S'=>∃ (n2 c2:Nat) (o3:MO) (ps:List Pt) (v7:Option D),δ=[some (.loc p),some (.lst (ws.map D.str)),some (.lst (ms.map D.str)),some (.loc q),some (.int ((j+1:Nat):Int)),some (.int z),some (.loc S.length),v7] ∧
     S'=T2 S p q o3 c2++[some (.lst (ps.map tD))]∧Fd n2 o3∧n2+rest.length*nv j≤n+2+mm*nv j∧Ns ps+c2=c∧(∀ x∈ps,dp x≤j)∧jy ps∧ps.length+rest.length≤mm) ?_ ?_ _ _ _
    ⟨n+2,c,o2,[],none,rfl,rfl,ho2,by simp [fH],by simp [Ns],by simp,trivial,by simp [fH]⟩
   ·rintro δ S' ⟨n2,c2,o3,ps,v7,rfl,rfl,ho3,hn2,hNs,hdp,hok,hlen⟩
    refine ⟨trivial,?_⟩
    push_cast [gA]
    have hl3:(T2 S p q o3 c2).length=S.length:=Je
    have ez:((z:Int) % 2)=((z % 2:Nat):Int):=by lia
    rw [ez]
    refine ⟨sz rfl,by decide,pick (by show z % 2<2;lia) fun a ha => ?_⟩
    have hlp:ps.length≤4:=by lia
    have es:bf (T2 S p q o3 c2++[some (.lst (ps.map tD))]) (.loc S.length) = .lst (ps.map tD):=by
     simp only [bf];rw [← hl3];simp [MO.d]
    rw [es]
    push_cast [true_and]
    have dj:iL ps≤j:=Ac hdp
    have fin:∀ x:Pt,tD x = .tup [a,.tup (ps.map tD)]→dp x=iL ps+1→N x=Ns ps+1→lq x→[a,D.tup (ps.map tD)].length≤yah∧M.ret S (T2 S p q o3 c2++[some (.lst (ps.map tD))]) (.dat (.tup [a,.tup (ps.map tD)])) Q:=fun x e1 e2 e3 e4=>by
     rw [← e1]
     exact ⟨sz rfl,lP (d7 (yh (j+1) (by lia) e4 (by lia))) ho3 rfl (by rw [zbK hl3];rfl) (hq x o3 c2 (by lia) (by lia) e4 (ho3.mono (by simp at hn2;lia)))⟩
    simp only [zbW,zbt,or_false] at ha
    rcases ha with rfl | rfl
    ·exact fin (.seq ps) (by simp only [tD,bL]) rfl rfl hok
    ·exact fin (.alt ps) (by simp only [tD,bL]) rfl rfl hok
   ·rintro t rest δ S' N' ⟨n2,c2,o3,ps,v7,rfl,rfl,ho3,hn2,hNs,hdp,hok,hlen⟩ hN'
    have hl3:(T2 S p q o3 c2).length=S.length:=Je
    refine ⟨trivial,?_⟩
    push_cast [true_and]
    have hB3:∀ x:Option MO,(T2 S p q o3 c2++[x])[q]? = some (some (.lst [.int c2])):=fun x=>by rw [zad (by rw [hl3];exact hq')];exact Ky hq'
    have hS3:∀ x:Option MO,(T2 S p q o3 c2++[x])[p]? = some (some o3):=fun x=>by rw [zad (by rw [hl3];exact hp)];exact JB hp hpq
    have hrest:(rest.length+1)*nv j=rest.length*nv j+nv j:=by rw [Nat.add_mul,Nat.one_mul]
    have hlen:ps.length+(rest.length+1)≤mm:=by simpa using hlen
    have hn2:n2+(rest.length+1)*nv j≤n+2+mm*nv j:=by simpa using hn2
    rw [hrest] at hn2
    refine ix0 _ c2 (hB3 _) _ ?_
    push_cast [true_and]
    refine eF (fun hc => ?_) (fun hc => ?_)
    ·have hc:(0:Int)<c2:=by simpa using hc
     have es:bf (T2 S p q o3 c2++[some (.lst (ps.map tD))]) (.loc S.length) = .lst (ps.map tD):=by
      simp only [bf];rw [← hl3];simp [MO.d]
     push_cast [xP,ku,es]
     rw [ej]
     refine ⟨j,rfl,p,q,n2,c2,ws,ms,o3,rfl,hw,hm_,lw,lm,hpq,hS3 _,hB3 _,by lia,by lia,ho3,by lia,fun x o' c' hd hN hok' ho' => ?_⟩
     rw [zaB _ _ (by rw [hl3];exact hp),CY hpq,zaB _ _ (by rw [Je];exact hq'),Jd]
     have hl4:(T2 S p q o' c').length=S.length:=Je
     refine ⟨S.length,_,_,rfl,rfl,by rw [← hl4];simp;rfl,by rw [zbE,yag];lia,?_⟩
     rw [zau _ _ (by rw [hl4];exact zcy _),hl4,zcs]
     refine hN' _ _ ⟨n2+nv j,c',o',ps++[x],_,rfl,by rw [zbI];rfl,ho',by lia,by rw [cX];simp only [Ns];lia,fun y hy => ?_,cA.mpr fun y hy => ?_,by rw [zaM];show ps.length+1+_≤_;lia⟩
     ·rcases zbA.mp hy with hy | hy
      ·exact hdp y hy
      ·rw [zaP.mp hy];exact hd
     ·rcases zbA.mp hy with hy | hy
      ·exact cA.mp hok y hy
      ·rw [zaP.mp hy];exact hok'
    ·exact hN' _ _ ⟨n2,c2,o3,ps,_,rfl,rfl,ho3,by lia,hNs,hdp,hok,by lia⟩
theorem F8 {k:Nat}{sp:AN} (F:Src K mg "_law_pattern" cQ qC) (h:∀ ds S Q,¬ sp ds S Q):Def P w K mg base (k+1) "_law_pattern" cQ (aD K sp) :=
 F.def lN (fun vs H Q E z=>by obtain ⟨_,_,_,_,_,_,q,_⟩:=z;exact (h _ _ _ q).elim) fun f cdv A outer s H vs Q E hr z=>by obtain ⟨_,_,_,_,_,_,q,_⟩:=z;exact (h _ _ _ q).elim
theorem uh (T:Txt K mg ec EP) (F:Src K mg "_law_pattern" cQ qC) (D_law_draw:Def P w K mg base 1 "_law_draw" c7 (aD K eu)) (dN:Def P w K mg base 2 "_law_leaf" e8 (aD K kL)):∀ k,k≤4→Def P w K mg base (k+3) "_law_pattern" cQ (aD K (lJ k))
 | 0,h=>vL T F D_law_draw dN 0 h (F8 F fun ds S Q ⟨j,e,_⟩=>by lia)
 | k+1,h=>vL T F D_law_draw dN (k+1) h ((uh T F D_law_draw dN k (by lia)).imp fun vs H Q E z=>by
   obtain ⟨w,ds,S,Qa,ok,rep,⟨j,e,q⟩,bk⟩:=z
   obtain rfl:j=k:=by lia
   exact ⟨w,ds,S,Qa,ok,rep,q,bk⟩)
end
open PySem L2 M
noncomputable abbrev pe:Stmt:=top 12
noncomputable abbrev oJ:List Str:=["pattern"]
noncomputable abbrev eZ:List Str:=["pattern"]
theorem yM:aJ oJ eZ (ao pe):=L2.cW
noncomputable abbrev tF:Stmt:=top 13
noncomputable abbrev sA:List Str:=["layer","found","pattern"]
noncomputable abbrev gG:List Str:=["layer"]
theorem oX:aJ sA gG (ao tF):=L2.cW
noncomputable abbrev zb:Stmt:=top 14
noncomputable abbrev wz:List Str:=["pattern","found","layer"]
noncomputable abbrev jx:List Str:=["pattern"]
theorem oY:aJ wz jx (ao zb):=L2.cW
noncomputable abbrev E2:Stmt:=top 15
noncomputable abbrev A9:List Str:=["pattern"]
noncomputable abbrev nc:List Str:=["pattern"]
theorem Hs:aJ A9 nc (ao E2):=L2.cW
noncomputable abbrev sY:Stmt:=top 17
noncomputable abbrev sj:List Str:=["side"]
noncomputable abbrev e7:List Str:=["side"]
theorem BB:aJ sj e7 (ao sY):=L2.cW
noncomputable abbrev HL:Stmt:=top 19
noncomputable abbrev D4:List Str:=["pattern","parts"]
noncomputable abbrev ig:List Str:=["pattern"]
theorem EF:aJ D4 ig (ao HL):=L2.cW
noncomputable abbrev E3:Stmt:=top 28
noncomputable abbrev Bb:List Str:=["patterns"]
noncomputable abbrev jV:List Str:=["patterns"]
theorem Ht:aJ Bb jV (ao E3):=L2.cW
theorem aV {ds:List D}{i:Int}{S:aK}{Q:AK}:qm (.tup ds) (.int i) S Q=∃ e,kg ds i=some e∧Q (.dat e) S:=rfl
theorem mJ {ds:List D}{i:Int}{S:aK}{Q:AK}:qm (.lst ds) (.int i) S Q=∃ e,kg ds i=some e∧Q (.dat e) S:=rfl
theorem fO {α:Type}{a:α}{r:List α}:kg (a::r) (0:Int)=some a:=(c6 (j:=0) rfl:kg (a::r) ((0:Nat):Int)=some a)
theorem iM {α:Type}{a b:α}{r:List α}:kg (a::b::r) (1:Int)=some b:=(c6 (j:=1) rfl:kg (a::b::r) ((1:Nat):Int)=some b)
theorem at2 {α:Type}{a b c:α}{r:List α}:kg (a::b::c::r) (2:Int)=some c:=(c6 (j:=2) rfl:kg (a::b::c::r) ((2:Nat):Int)=some c)
theorem dw {x:Str}{S:aK}{Q:AK} (hx:dB x=true) (q:Q (.dat (.bl (DL (.str x) ["stay","step","at","off"]))) S):vX false (.str x) (.tup [.str "stay",.str "step",.str "at",.str "off"]) S Q :=
 qZ (n:=0) (ss:=["stay","step","at","off"]) hx (by decide) (by decide +kernel) (by rw [zbQ];exact q)
theorem vA {x:Str}{S:aK}{Q:AK} (hx:dB x=true) (q:Q (.dat (.bl (DL (.str x) ["then","either"]))) S):vX false (.str x) (.tup [.str "then",.str "either"]) S Q :=
 qZ (n:=0) (ss:=["then","either"]) hx (by decide) (by decide +kernel) (by rw [zbQ];exact q)
theorem bg {α:Type}{P:aK→Prop}{gt:AG}{t:AT}{e:AE}{Q:List D→aK→Prop}{S:aK} (g:α→D) (c:α→Bool) (f:α→D) (en:α→bU) (D0:bU→Prop) (hP:P S) (hD:∀ a,D0 (en a)):∀ (as:List α) (acc:List D) (δ:bU),D0 δ →
  (∀ a∈as,∀ δ,D0 δ→∀ Q:bU→aK→Prop,Q (en a) S→gt (g a) δ S Q)→(∀ a∈as,∀ Q:Bool→aK→Prop,Q (c a) S→t (en a) S Q)→(∀ a∈as,c a=true→∀ Q:AK,Q (.dat (f a)) S→e (en a) S Q)→acc.length+as.length≤yah→Q (acc++(as.filter c).map f) S →
  ic P gt t e (as.map g) acc δ S Q
 | [],acc,δ,_,_,_,_,_,q=>⟨hP,by simpa using q⟩
 | a::as,acc,δ,hd,hg,ht,he,hl,q=>by
  refine ⟨hP,hg a (by simp) δ hd _ (ht a (by simp) _ ?_)⟩
  simp only [zbo] at hl
  cases hc:c a with
  | true =>
   rw [yIp rfl]
   refine he a (by simp) hc _ ⟨by lia,?_⟩
   refine bg g c f en D0 hP hD as _ _ (hD a) (fun x hx=>hg x (by simp [hx])) (fun x hx=>ht x (by simp [hx])) (fun x hx=>he x (by simp [hx])) (by simp;lia) ?_
   rw [List.filter_cons,hc,yIp rfl,zbX] at q
   simpa [R.d,zbd] using q
  | false =>
   rw [yIn (by decide)]
   refine bg g c f en D0 hP hD as _ _ (hD a) (fun x hx=>hg x (by simp [hx])) (fun x hx=>ht x (by simp [hx])) (fun x hx=>he x (by simp [hx])) (by lia) ?_
   rw [List.filter_cons,hc,yIn (by decide)] at q
   exact q
section
variable {P:yak}{w:yal}{K:yaH}{mg:Str→Option yaj}{base:Heap}{ec:Nat→Addr}{EP:Addr}
def qx:AN:=fun ds S Q=>∃ p,ds=[tD p]∧Q (.dat (.tup ((kid p).map tD))) S
theorem Ah (T:Txt K mg ec EP) (F:Src K mg "right_within" eZ pe):Def P w K mg base 1 "right_within" eZ (aD K qx):=by
 refine dS F yM (fun ds S Q h => ?_) (fun f cdv A outer s H E hr => ?_)
 ·obtain ⟨p,rfl,_⟩:=h;rfl
 ·refine ⟨_,(M.ah (M.bu (M.aA (M.l9 hr) (M.aM M.bq (M.pv 0) M.ai (fun _ _=>rfl)) T.jK rfl)
    (M.aj (M.aF (M.br M.aa)))
    M.aL)
   (M.aj (M.aF (M.f7 (M.aA (M.dR hr) (M.aM M.bq (M.pv 0) M.ai (fun _ _=>rfl)) M.av (aN _)) (M.br (M.ay (M.aM M.bq (M.pv 0) M.ai (fun _ _=>rfl)) M.aa)) (M.aM M.bq (M.pv 0) M.ai (fun _ _=>rfl)))))),fun ds S Q h => ?_⟩
  obtain ⟨p,rfl,q⟩:=h
  have e0:aU oJ [tD p]=[some (tD p)]:=rfl
  rw [e0]
  push_cast [true_and]
  cases p with
  | stay =>
   push_cast [tD,aV,fO,iM,at2]
   refine dw (by decide +kernel) ⟨_,rfl,?_⟩
   rw [yIp (by decide)]
   exact ⟨zcz _,aT rfl q⟩
  | step b x =>
   push_cast [tD,aV,fO,iM,at2]
   refine dw (by decide +kernel) ⟨_,rfl,?_⟩
   rw [yIp (by decide)]
   exact ⟨zcz _,aT rfl q⟩
  | mk b m =>
   push_cast [tD,aV,fO,iM,at2]
   refine dw (iF b) ⟨_,rfl,?_⟩
   rw [yIp (by cases b <;> decide)]
   exact ⟨zcz _,aT rfl q⟩
  | many p =>
   push_cast [tD,aV,fO,iM,at2]
   refine dw (by decide +kernel) ⟨_,rfl,?_⟩
   rw [yIn (by decide),yIp (by decide)]
   exact ⟨sz rfl,aT (by simp only [cI,cM,ck,zce]) q⟩
  | seq ps =>
   push_cast [tD,aV,fO,iM,at2]
   refine dw (by decide +kernel) ⟨_,rfl,?_⟩
   rw [yIn (by decide),yIn (by decide)]
   exact aT (gQ ps) (by rw [bL];exact q)
  | alt ps =>
   push_cast [tD,aV,fO,iM,at2]
   refine dw (by decide +kernel) ⟨_,rfl,?_⟩
   rw [yIn (by decide),yIn (by decide)]
   exact aT (gQ ps) (by rw [bL];exact q)
def uX:AN:=fun ds S Q=>∃ L:List Pt,ds=[.lst (L.map tD)]∧Ns L≤1000∧Q (.new (.lst ((bC L).map tD))) S
theorem CI (T:Txt K mg ec EP) (F:Src K mg "layer_below" gG tF) (D_right_within:Def P w K mg base 1 "right_within" eZ (aD K qx)):Def P w K mg base 2 "layer_below" gG (aD K uX):=by
 refine dS F oX (fun ds S Q h => ?_) (fun f cdv A outer s H E hr => ?_)
 ·obtain ⟨L,rfl,_⟩:=h;rfl
 ·refine ⟨_,(M.ah (M.az (i:=1) oX.nd rfl (Or.inl rfl) (M.oG (M.aS M.aa)))
   (M.ah (M.cV PassesOwn.never rfl (M.bB (M.pv 0)) (M.aG (i:=2) oX.nd rfl (Or.inl rfl))
    (M.aj (M.cD (M.dZ PySem.F.plainAttrs_list PySem.F.slot_list_extend PySem.F.type_list_extend M.i7 (M.pv 1) (M.ay (M.ow D_right_within hr (M.ay (M.pv 2) M.aa)) M.aa)))))
   (M.aj (M.aF (M.pv 1))))),fun ds S Q h => ?_⟩
  obtain ⟨L,rfl,hl,q⟩:=h
  have e0:aU sA [.lst (L.map tD)]=[some (.lst (L.map tD)),none,none]:=rfl
  rw [e0]
  push_cast [bQ,iJ,cT,bT]
  refine ⟨zcz _,cE (fun rest δ S'=>∃ (l1 l2:List Pt) (v2:Option D),rest=l2.map tD∧l1++l2=L∧δ=[some (.lst (L.map tD)),some (.loc S.length),v2]∧S'=S++[some (.lst ((bC l1).map tD))]) ?_ ?_ _ _ _ ⟨[],L,none,rfl,rfl,rfl,rfl⟩⟩
  ·rintro δ S' ⟨l1,l2,v2,hr,he,rfl,rfl⟩
   obtain rfl:l2=[]:=by cases l2 with
    | nil=>rfl
    | cons _ _=>simp at hr
   rw [zbB] at he
   subst he
   exact ⟨trivial,_,rfl,pA (zcy _) (qM _) (by simp) (by simp) q⟩
  ·rintro x xs δ S' N' ⟨l1,l2,v2,hr,he,rfl,rfl⟩ hN
   cases l2 with
   | nil=>simp at hr
   | cons r l2 =>
    rw [zbX] at hr
    injection hr with h1 h2
    subst h1;subst h2
    refine ⟨trivial,?_⟩
    have ak:∀ a b:List Pt,bC (a++b)=bC a++bC b:=fun a b=>by
     induction a with
     | nil=>rfl
     | cons x a ih=>simp only [zbv,bC,ih,zbd]
    have hk:=uD L
    have hk2:=gJ (bC L)
    have hk3:(bC L).length=(bC l1).length+((kid r).length+(bC l2).length):=by rw [← he,ak];simp only [bC,zaM]
    have e3:(S++[some (MO.lst ((bC l1).map tD))])[S.length]? = some (some (.lst ((bC l1).map tD))):=by simp
    have e4:bf (S++[some (MO.lst ((bC l1).map tD))]) (.loc S.length) = .lst ((bC l1).map tD):=by simp only [bf,e3,MO.d]
    push_cast [xP,e4,ku,true_and]
    refine ⟨r,rfl,S.length,_,_,_,rfl,rfl,e3,.inr rfl,by rw [zbE,zbE,yag];lia,?_⟩
    refine hN _ _ ⟨l1++[r],l2,some (tD r),rfl,by rw [zbd];exact he,rfl,?_⟩
    rw [ak]
    simp [bC]
def yI:AN:=fun ds S Q=>∃ p,ds=[tD p]∧N p≤100∧∀ A:List Pt,(∀ x,x∈owns A↔x∈sw p)→A.length≤N p→Q (.new (.lst (A.map tD))) S
theorem Gj (T:Txt K mg ec EP) (F:Src K mg "all_within" jx zb) (D_layer_below:Def P w K mg base 2 "layer_below" gG (aD K uX)):Def P w K mg base 3 "all_within" jx (aD K yI):=by
 refine dS F oY (fun ds S Q h => ?_) (fun f cdv A outer s H E hr => ?_)
 ·obtain ⟨p,rfl,_⟩:=h;rfl
 ·refine ⟨_,(M.ah (M.az (i:=1) oY.nd rfl (Or.inl rfl) (M.oG (M.aS M.aa)))
   (M.ah (M.az (i:=2) oY.nd rfl (Or.inl rfl) (M.aS (M.ay (M.pv 0) M.aa)))
   (M.ah (M.dI PassesOwn.never (M.cu (M.pv 2))
    (M.ah (M.cD (M.dZ PySem.F.plainAttrs_list PySem.F.slot_list_extend PySem.F.type_list_extend M.i7 (M.pv 1) (M.ay (M.pv 2) M.aa)))
    (M.aj (M.az (i:=2) oY.nd rfl (Or.inl rfl) (M.ow D_layer_below hr (M.ay (M.pv 2) M.aa))))))
   (M.aj (M.aF (M.pv 1)))))),fun ds S Q h => ?_⟩
  obtain ⟨p,rfl,hn,q⟩:=h
  have e0:aU wz [tD p]=[some (tD p),none,none]:=rfl
  rw [e0]
  push_cast [bQ]
  refine ⟨zcz _,sz rfl,?_⟩
  have ow:∀ a b:List Pt,owns (a++b)=owns a++owns b:=fun a b=>by simp [owns]
  refine ⟨fun m δ S'=>∃ (A L:List Pt),m=Ns L∧δ=[some (tD p),some (.loc S.length),some (.lst (L.map tD))]∧S'=S++[some (.lst (A.map tD))]∧A.length+Ns L=N p∧∀ x,x∈sw p↔x∈owns A∨x∈nu L,⟨N p,[],[p],by simp [Ns],rfl,rfl,by simp [Ns],fun x=>by simp [owns,nu]⟩,?_⟩
  rintro m δ S' ⟨A,L,rfl,rfl,rfl,hl,hw⟩
  push_cast [true_and]
  have hle:=gJ L
  cases L with
  | nil =>
   rw [yIn (by decide)]
   refine pA (zcy _) (qM _) (by simp) (by simp) (q A (fun x => ?_) (by simp [Ns] at hl;lia))
   have:=hw x
   simp only [nu,zbt,or_false] at this
   exact this.symm
  | cons a r =>
   rw [yIp (by rfl)]
   have hk:=uD (a::r)
   have e3:(S++[some (MO.lst (A.map tD))])[S.length]? = some (some (.lst (A.map tD))):=by simp
   have e4:bf (S++[some (MO.lst (A.map tD))]) (.loc S.length) = .lst (A.map tD):=by simp only [bf,e3,MO.d]
   refine ⟨fun δ' S2=>δ'=[some (tD p),some (.loc S.length),some (.lst ((bC (a::r)).map tD))]∧S2=S++[some (.lst ((A++a::r).map tD))],?_,?_⟩
   ·rintro δ' S2 ⟨rfl,rfl⟩
    refine ⟨Ns (bC (a::r)),by simp only [zbo] at hk;lia,A++a::r,bC (a::r),rfl,rfl,rfl,by rw [zaM];lia,fun x => ?_⟩
    rw [hw x,uR (a::r) x,ow,zbA]
    constructor
    ·rintro (h | h | h) <;> simp [h]
    ·rintro ((h | h) | h) <;> simp [h]
   ·push_cast [xP,e4,ku,true_and]
    refine ⟨S.length,_,_,_,rfl,rfl,e3,.inl rfl,by rw [zbE,zbE,yag];lia,?_⟩
    refine ⟨a::r,rfl,by lia,?_⟩
    simp [fZ,d8]
def Dr:AN:=fun ds S Q=>∃ p,ds=[tD p]∧N p≤50∧∀ W:List Str,(∀ x,x∈W↔x∈sw p)→W.length≤50→Q (.new (.lst (W.map D.str))) S
theorem II (T:Txt K mg ec EP) (F:Src K mg "words_of_steps" nc E2) (D_all_within:Def P w K mg base 3 "all_within" jx (aD K yI)):Def P w K mg base 4 "words_of_steps" nc (aD K Dr):=by
 refine dS F Hs (fun ds S Q h => ?_) (fun f cdv A outer s H E hr => ?_)
 ·obtain ⟨p,rfl,_⟩:=h;rfl
 ·refine ⟨_,(M.aj (M.aF (M.fq rfl (by rfl) T.sorted (by rfl) T.set (M.bF (N:=["part"]) (caps:=[none]) (cG (by decide +kernel)) (by rfl) (by rfl) rfl (M.bB (M.ow D_all_within hr (M.ay (M.pv 0) M.aa))) (fun _ _ _ _=>(M.aG (i:=0) (by decide +kernel:List.Nodup (["part"]:List Str)) rfl (Or.inl rfl))) (fun _ _ _ _=>(M.bM (M.aA (M.dR hr) (M.aM M.bq (M.pv 0) M.ai (fun _ _=>rfl)) M.av (aN _)))) (fun _ _ _ _=>(M.aM M.bq (M.pv 0) M.ai (fun _ _=>rfl))))))),fun ds S Q h => ?_⟩
  obtain ⟨p,rfl,hn,q⟩:=h
  have e0:aU A9 [tD p]=[some (tD p)]:=rfl
  rw [e0]
  push_cast [jq,bZ,cT]
  refine ⟨p,rfl,by lia,fun A hA hl => ?_⟩
  push_cast [bT]
  let stp:Pt→Bool:=fun p=>match p with | .step _ _=>true | _=>false
  let wd:Pt→Str:=fun p=>match p with | .step _ x=>x | _ => ""
  have eo:(A.filter stp).map wd=owns A:=by
   clear hA hl
   unfold owns
   induction A with
   | nil=>rfl
   | cons a A ih=>cases a <;> simp [stp,wd,own,ih]
  refine bg (g:=tD) (c:=stp) (f:=fun p=>D.str (wd p)) (en:=fun p=>[some (tD p)]) (D0:=fun δ=>∃ v,δ=[v]) trivial (fun a=>⟨_,rfl⟩) A [] _ ⟨none,rfl⟩ ?_ ?_ ?_ (by rw [yag];simp;lia) ?_
  ·rintro a _ δ ⟨v,rfl⟩ Q' q'
   exact q'
  ·intro a _ Q' q'
   simp only [aB,fQ,aX,aC,zaj,zcB.injEq,exists_eq_left',aY]
   cases a <;> simp only [tD,aV,fO,zcB.injEq,exists_eq_left',aY,ee,D.bl.injEq] <;> try exact q'
   rename_i b m _
   have:decide (Jt b = "step")=false:=by cases b <;> decide
   rw [this];exact q'
  ·intro a _ hc Q' q'
   cases a <;> simp only [stp] at hc <;> try (exact absurd hc (by decide))
   simp only [fQ,aX,aC,zaj,zcB.injEq,exists_eq_left',aY,tD,aV,at2]
   exact q'
  ·have em:(A.filter stp).map (fun p=>D.str (wd p))=(owns A).map D.str:=by rw [← eo,zcl];rfl
   rw [zbH,em]
   have ol:(owns A).length≤A.length:=by rw [← eo,zbE];exact zat _ _
   refine ⟨owns A,.inr rfl,by lia,fun W hWn hW hs => ?_⟩
   refine kP (bO _) (q W (fun x=>(hW x).trans (hA x)) ?_)
   have:=bx hWn fun x hx=>(hW x).mp hx
   lia
def oU:AN:=fun ds S Q=>∃ b,ds=[.str (side b)]∧Q (.dat (.str (side (!b)))) S
theorem CC (T:Txt K mg ec EP) (F:Src K mg "other_side" e7 sY):Def P w K mg base 1 "other_side" e7 (aD K oU):=by
 refine dS F BB (fun ds S Q h => ?_) (fun f cdv A outer s H E hr => ?_)
 ·obtain ⟨b,rfl,_⟩:=h;rfl
 ·refine ⟨_,(M.aj (M.aF (M.f7 (M.aA (M.dR hr) (M.pv 0) M.av (aN _)) M.av M.av))),fun ds S Q h => ?_⟩
  obtain ⟨b,rfl,q⟩:=h
  have e0:aU sj [.str (side b)]=[some (.str (side b))]:=rfl
  rw [e0]
  push_cast [true_and]
  cases b
  ·rw [yIn (by decide)]
   exact aT rfl q
  ·rw [yIp (by decide)]
   exact aT rfl q
def yH (k:Nat):AN:=fun ds S Q=>∃ p:Pt,ds=[tD p]∧dp p≤k∧N p≤50∧lq p∧∀ q:Pt,dp q≤dp p→N q=N p→lq q→Q (.dat (tD q)) S
theorem eX {P:aK→Prop}{e:AE}{Q:List D→aK→Prop}{δ:bU}{S:aK}{R:Pt→Pt→Prop} (hP:P S):∀ (as acc:List Pt) (δ':bU),δ'.set 0 none=δ.set 0 none →
  (∀ a∈as,∀ Q:AK,(∀ b,R a b→Q (.dat (tD b)) S)→e (δ.set 0 (some (tD a))) S Q)→acc.length+as.length≤yah→(∀ bs:List Pt,Paired R as bs→Q ((acc++bs).map tD) S) →
  ic P (bG 0) xM e (as.map tD) (acc.map tD) δ' S Q
 | [],acc,δ',_,_,_,q=>⟨hP,by simpa using q [] .nil⟩
 | a::as,acc,δ',hd,h,hl,q=>by
  simp only [zbo] at hl
  refine ⟨hP,?_⟩
  have e1:δ'.set 0 (some (tD a))=δ.set 0 (some (tD a)):=by
   have:=congrArg (fun l=>l.set 0 (some (tD a))) hd
   simpa [zcm] using this
  show bG 0 (tD a) δ' S _
  simp only [bG,xM,if_true]
  rw [e1]
  refine h a (by simp) _ fun b hb=>⟨by rw [zbE];lia,?_⟩
  have:=eX (e:=e) (Q:=Q) (δ:=δ) hP as (acc++[b]) (δ.set 0 (some (tD a))) (by simp [zcm]) (fun x hx=>h x (by simp [hx])) (by simp;lia) (fun bs hbs=>by rw [zbd];exact q (b::bs) (.cons hb hbs))
  simpa [aY] using this
theorem n6:∀ {as bs:List Pt},Paired (fun a b=>dp b≤dp a∧N b=N a∧lq b) as bs→iL bs≤iL as∧Ns bs=Ns as∧jy bs
 | [],_,h=>by cases h;exact ⟨zcy _,rfl,trivial⟩
 | a::as,_,h=>by
  cases h with
  | cons r t =>
   obtain ⟨h1,h2,h3⟩:=n6 t
   simp only [iL,Ns,jy]
   exact ⟨by lia,by lia,r.2.2,h3⟩
theorem DT (T:Txt K mg ec EP) (F:Src K mg "backwards" ig HL) (D_other_side:Def P w K mg base 1 "other_side" e7 (aD K oU)) (k:Nat) (hk:k≤4) (D_backwards:Def P w K mg base (k+2) "backwards" ig (aD K (fun ds S Q=>∃ j,j+1=k∧yH j ds S Q))):Def P w K mg base (k+3) "backwards" ig (aD K (yH k)):=by
 refine dS F EF (fun ds S Q h => ?_) (fun f cdv A outer s H E hr => ?_)
 ·obtain ⟨p,rfl,_⟩:=h;rfl
 ·refine ⟨_,(M.ah (M.bu (M.aA (M.dR hr) (M.aM M.bq (M.pv 0) M.ai (fun _ _=>rfl)) M.av (aN _))
    (M.aj (M.aF (M.br (M.ay M.av (M.ay (M.cy D_other_side (hr.mono (by lia)) (by rfl) (M.ay (M.aM M.bq (M.pv 0) M.ai (fun _ _=>rfl)) M.aa)) (M.ay (M.aM M.bq (M.pv 0) M.ai (fun _ _=>rfl)) M.aa))))))
    M.aL)
   (M.ah (M.bu (M.aA (M.l9 hr) (M.aM M.bq (M.pv 0) M.ai (fun _ _=>rfl)) T.jK rfl)
    (M.aj (M.aF (M.pv 0)))
    M.aL)
   (M.ah (M.bu (M.aA (M.dR hr) (M.aM M.bq (M.pv 0) M.ai (fun _ _=>rfl)) M.av (aN _))
    (M.aj (M.aF (M.br (M.ay M.av (M.ay (M.cy D_backwards (hr.mono (by lia)) (by rfl) (M.ay (M.aM M.bq (M.pv 0) M.ai (fun _ _=>rfl)) M.aa)) M.aa)))))
    M.aL)
   (M.ah (M.dJ (i:=1) EF.nd rfl rfl (N:=["part"]) (caps:=[none]) (cG (by decide +kernel)) (by rfl) (by rfl) rfl (M.bB (M.aM M.bq (M.pv 0) M.ai (fun _ _=>rfl))) (fun _ _ _ _=>(M.aG (i:=0) (by decide +kernel:List.Nodup (["part"]:List Str)) rfl (Or.inl rfl))) (fun _ _ _ _=>M.dX) (fun _ _ _ _=>(M.cy D_backwards (hr.mono (by lia)) (by rfl) (M.ay (M.pv 0) M.aa))))
   (M.aj (M.aF (M.br (M.ay (M.aM M.bq (M.pv 0) M.ai (fun _ _=>rfl)) (M.ay (M.jH rfl (by rfl) T.tuple (by rfl) T.reversed (M.pv 1)) M.aa))))))))),fun ds S Q h => ?_⟩
  obtain ⟨p,rfl,hd,hn,ho,q⟩:=h
  have e0:aU D4 [tD p]=[some (tD p),none]:=rfl
  rw [e0]
  push_cast [true_and]
  have parts:∀ (ps:List Pt) (j:Nat) (δ:bU) (Q':List D→aK→Prop),iL ps≤j→k=j+1→Ns ps≤50→jy ps→(∀ bs:List Pt,iL bs≤iL ps→Ns bs=Ns ps→bs.length=ps.length→jy bs→Q' (bs.map tD) S) →
    ic (fun _=>True) (bG 0) xM (aCall (fun ds S Q=>∃ j,j+1=k∧yH j ds S Q) (cB (aX 0) fF)) (wH ps) [] (dM [none] δ) S Q':=fun ps j δ Q' hj hk hN hos q'=>by
   rw [bL]
   have hlen:=gJ ps
   refine eX (R:=fun a b=>dp b≤dp a∧N b=N a∧lq b) (δ:=dM [none] δ) trivial ps [] _ rfl (fun a ha Q2 q2 => ?_) (by rw [yag];simp;lia) (fun bs hbs => ?_)
   ·simp only [aCall,cB,fF,aX,dM,zbX,zci,zaR,zaj,zcB.injEq,exists_eq_left',aY]
    exact ⟨j,hk.symm,a,rfl,by have:=ji ha;lia,by have:=sD ha;lia,cA.mp hos a ha,fun b h1 h2 h3=>q2 b ⟨h1,h2,h3⟩⟩
   ·obtain ⟨h1,h2,h3⟩:=n6 hbs
    exact q' bs h1 h2 (Paired.length hbs).symm h3
  cases p with
  | stay =>
   push_cast [tD,aV,fO,iM,at2]
   rw [yIn (by decide)]
   refine dw (by decide +kernel) ⟨_,rfl,?_⟩
   rw [yIp (by decide)]
   exact aT rfl (q .stay (zcy _) rfl trivial)
  | step b x =>
   push_cast [tD,aV,fO,iM,at2]
   rw [yIp (by decide)]
   exact ⟨b,rfl,sz rfl,aT rfl (q (.step (!b) x) (zcy _) rfl ho)⟩
  | mk b m =>
   push_cast [tD,aV,fO,iM,at2]
   rw [yIn (by cases b <;> decide)]
   refine dw (iF b) ⟨_,rfl,?_⟩
   rw [yIp (by cases b <;> decide)]
   exact aT rfl (q (.mk b m) (zcy _) rfl ho)
  | many p =>
   obtain ⟨j,rfl⟩:∃ j,k=j+1:=⟨k - 1,by simp only [dp] at hd;lia⟩
   simp only [dp,N] at hd hn q
   push_cast [tD,aV,fO,iM,at2]
   rw [yIn (by decide)]
   refine dw (by decide +kernel) ⟨_,rfl,?_⟩
   rw [yIn (by decide),yIp (by decide)]
   refine ⟨j,rfl,p,rfl,by lia,by lia,ho,fun b h1 h2 h3=>⟨sz rfl,?_⟩⟩
   exact aT (ck (.many b)) (q (.many b) (by simp only [dp];lia) (by simp only [N];lia) h3)
  | seq ps =>
   obtain ⟨j,rfl⟩:∃ j,k=j+1:=⟨k - 1,by simp only [dp] at hd;lia⟩
   simp only [dp,N] at hd hn q
   push_cast [tD,aV,fO,iM,at2,bZ,cT,bT,lg]
   rw [yIn (by decide)]
   refine dw (by decide +kernel) ⟨_,rfl,?_⟩
   rw [yIn (by decide),yIn (by decide)]
   have hlen:=gJ ps
   refine parts ps j _ _ (by lia) rfl (by lia) ho fun bs h1 h2 h3 h4=>⟨_,rfl,by rw [zbE];lia,sz rfl,?_⟩
   have e:D.tup [.str "then",.tup (bs.map tD).reverse]=tD (.seq bs.reverse):=by simp only [tD,bL,List.map_reverse]
   rw [e]
   have rv:∀ l:List Pt,Ns l.reverse=Ns l∧iL l.reverse=iL l:=fun l=>by
    induction l with
    | nil=>exact ⟨rfl,rfl⟩
    | cons a l ih=>rw [zbf,cX,iH,ih.1,ih.2];simp only [Ns,iL];lia
   exact aT (ck _) (q (.seq bs.reverse) (by simp only [dp,(rv bs).2];lia) (by simp only [N,(rv bs).1];lia) (cA.mpr fun y hy=>cA.mp h4 y (List.mem_reverse.mp hy)))
  | alt ps =>
   obtain ⟨j,rfl⟩:∃ j,k=j+1:=⟨k - 1,by simp only [dp] at hd;lia⟩
   simp only [dp,N] at hd hn q
   push_cast [tD,aV,fO,iM,at2,bZ,cT,bT,lg]
   rw [yIn (by decide)]
   refine dw (by decide +kernel) ⟨_,rfl,?_⟩
   rw [yIn (by decide),yIn (by decide)]
   have hlen:=gJ ps
   refine parts ps j _ _ (by lia) rfl (by lia) ho fun bs h1 h2 h3 h4=>⟨_,rfl,by rw [zbE];lia,sz rfl,?_⟩
   have e:D.tup [.str "either",.tup (bs.map tD).reverse]=tD (.alt bs.reverse):=by simp only [tD,bL,List.map_reverse]
   rw [e]
   have rv:∀ l:List Pt,Ns l.reverse=Ns l∧iL l.reverse=iL l:=fun l=>by
    induction l with
    | nil=>exact ⟨rfl,rfl⟩
    | cons a l ih=>rw [zbf,cX,iH,ih.1,ih.2];simp only [Ns,iL];lia
   exact aT (ck _) (q (.alt bs.reverse) (by simp only [dp,(rv bs).2];lia) (by simp only [N,(rv bs).1];lia) (cA.mpr fun y hy=>cA.mp h4 y (List.mem_reverse.mp hy)))
theorem CA {k:Nat}{sp:AN} (F:Src K mg "backwards" ig HL) (h:∀ ds S Q,¬ sp ds S Q):Def P w K mg base (k+1) "backwards" ig (aD K sp) :=
 F.def EF (fun vs H Q E z=>by obtain ⟨_,_,_,_,_,_,q,_⟩:=z;exact (h _ _ _ q).elim) fun f cdv A outer s H vs Q E hr z=>by obtain ⟨_,_,_,_,_,_,q,_⟩:=z;exact (h _ _ _ q).elim
theorem IM (T:Txt K mg ec EP) (F:Src K mg "backwards" ig HL) (D_other_side:Def P w K mg base 1 "other_side" e7 (aD K oU)):∀ k,k≤4→Def P w K mg base (k+3) "backwards" ig (aD K (yH k))
 | 0,h=>DT T F D_other_side 0 h (CA F fun ds S Q ⟨j,e,_⟩=>by lia)
 | k+1,h=>DT T F D_other_side (k+1) h ((IM T F D_other_side k (by lia)).imp fun vs H Q E z=>by
   obtain ⟨w,ds,S,Qa,ok,rep,⟨j,e,q⟩,bk⟩:=z
   obtain rfl:j=k:=by lia
   exact ⟨w,ds,S,Qa,ok,rep,q,bk⟩)
def uU:AN:=fun ds S Q=>∃ ps:List Pt,ds=[.lst (ps.map tD)]∧ps.length≤1000∧∀ q:Pt,Q (.dat (tD q)) S
theorem IK (T:Txt K mg ec EP) (F:Src K mg "one_of" jV E3):Def P w K mg base 1 "one_of" jV (aD K uU):=by
 refine dS F Ht (fun ds S Q h => ?_) (fun f cdv A outer s H E hr => ?_)
 ·obtain ⟨ps,rfl,_⟩:=h;rfl
 ·refine ⟨_,(M.aj (M.aF (M.f7 (M.aA (M.dR hr) (M.n5 M.f9 (by rfl) T.len (by decide +kernel) (M.ay (M.pv 0) M.aa)) M.ai (aN _)) (M.aM M.bq (M.pv 0) M.ai (fun _ _=>rfl)) (M.br (M.ay M.av (M.ay (M.x9 M.jL (by rfl) T.tuple (by decide +kernel) (M.ay (M.pv 0) M.aa)) M.aa)))))),fun ds S Q h => ?_⟩
  obtain ⟨ps,rfl,hl,q⟩:=h
  have e0:aU Bb [.lst (ps.map tD)]=[some (.lst (ps.map tD))]:=rfl
  rw [e0]
  push_cast [gA]
  refine ⟨ps.length,by simp [fy],?_⟩
  refine eF (fun h => ?_) (fun h => ?_)
  ·have h:(ps.length:Int)=1:=by simpa using h
   match ps,h with
   | [a],_=>exact ⟨tD a,fO,aT (ck a) (q a)⟩
   | [],h=>simp at h
   | a::b::r,h=>simp at h;lia
  ·refine ⟨sz rfl,?_⟩
   have e:D.tup [.str "either",.tup (ps.map tD)]=tD (.alt ps):=by simp only [tD,bL]
   rw [e]
   exact aT (ck _) (q _)
end
open PySem L2 M
noncomputable abbrev tu:Stmt:=top 22
noncomputable abbrev su:List Str:=["rules","leads","word","pattern","words","led"]
noncomputable abbrev gF:List Str:=["rules"]
theorem gO:aJ su gF (ao tu):=L2.cW
noncomputable abbrev yW:Stmt:=top 23
noncomputable abbrev wj:List Str:=["leads","word","words"]
noncomputable abbrev gW:List Str:=["leads","word","words"]
theorem EC:aJ wj gW (ao yW):=L2.cW
noncomputable abbrev sX:Stmt:=top 24
noncomputable abbrev sf:List Str:=["leads","words","trail","word"]
noncomputable abbrev gD:List Str:=["leads","words"]
theorem kM:aJ sf gD (ao sX):=L2.cW
noncomputable abbrev sZ:Stmt:=top 21
noncomputable abbrev nj:List Str:=["rules","leads","order","left","free"]
noncomputable abbrev cP:List Str:=["rules"]
theorem cC:aJ nj cP (ao sZ):=L2.cW
theorem Cm {m:Str}{l:List Str}:DL (.str m) l=decide (m∈l):=by
 simp only [DL,GU]
 by_cases h:m∈l
 ·rw [yDt h,List.any_eq_true]
  exact ⟨m,h,yDt rfl⟩
 ·rw [yDf h,List.any_eq_false]
  intro s hs z
  exact h (by rw [of_decide_eq_true z];exact hs)
theorem dD {x:Str}{l:List Str}{neg:Bool}{S:aK}{Q:AK} (hx:dB x=true) (hl:∀ y∈l,dB y=true) (h:l.length≤100) (q:Q (.dat (.bl (neg != decide (x∈l)))) S):vX neg (.str x) (.lst (l.map D.str)) S Q :=
 xu (n:=0) hx (by decide) (zbr.mpr hl) (by rw [Cm];exact q) h
section
variable {P:yak}{w:yal}{K:yaH}{mg:Str→Option yaj}{base:Heap}{ec:Nat→Addr}{EP:Addr}
def kK:AN:=fun ds S Q=>∃ rs:Ru,ds=[rD rs]∧gB rs∧∀ ld,sF rs ld→Q (.new (bD ld)) S
theorem CG (T:Txt K mg ec EP) (F:Src K mg "leads_of" gF tu) (D_words_of_steps:Def P w K mg base 4 "words_of_steps" nc (aD K Dr)):Def P w K mg base 5 "leads_of" gF (aD K kK):=by
 refine dS F gO (fun ds S Q h => ?_) (fun f cdv A outer s H E hr => ?_)
 ·obtain ⟨rs,rfl,_⟩:=h;rfl
 ·refine ⟨_,(M.ah (M.az (i:=1) gO.nd rfl (Or.inl rfl) (M.oG M.i0))
   (M.ah (M.cV PassesOwn.never rfl (M.bB (M.pv 0)) (M.iC (n:=2) rfl (M.bP (M.aG (i:=2) gO.nd rfl (Or.inl rfl)) (M.bP (M.aG (i:=3) gO.nd rfl (Or.inl rfl)) M.fm)))
    (M.ah (M.az (i:=4) gO.nd rfl (Or.inr rfl) (M.ow D_words_of_steps hr (M.ay (M.pv 3) M.aa)))
    (M.ah (M.dJ (i:=5) gO.nd rfl rfl (N:=["other","part","words"]) (caps:=[none,none,some 4]) (cG (by decide +kernel)) (by rfl) (by rfl) rfl (M.bB (M.pv 0)) (fun _ _ _ _=>(M.iC (n:=2) rfl (M.bP (M.aG (i:=0) (by decide +kernel:List.Nodup (["other","part","words"]:List Str)) rfl (Or.inl rfl)) (M.bP (M.aG (i:=1) (by decide +kernel:List.Nodup (["other","part","words"]:List Str)) rfl (Or.inl rfl)) M.fm)))) (fun _ _ _ _=>(M.bM (M.pw_pt (M.pw_or (M.aA (M.l9 hr) (M.pv 0) (M.pv 2) rfl) (M.pw_or1 (M.aA (M.l9 hr) T.zB (M.pv 2) rfl)))))) (fun _ _ _ _=>(M.pv 0)))
    (M.aj (M.qN (c9 hr) (M.pv 1) (M.pv 2) (M.aW M.bY (M.l6 (c9 hr) (M.pv 1) (M.pv 2) (M.aS M.aa) ⟨rfl,rfl,rfl,rfl⟩) (M.pv 5)) rfl)))))
   (M.aj (M.aF (M.pv 1))))),fun ds S Q h => ?_⟩
  obtain ⟨rs,rfl,hR,q⟩:=h
  have e0:aU su [rD rs]=[some (rD rs),none,none,none,none,none]:=rfl
  rw [e0]
  push_cast [bQ,qh,iJ,cT,rD,bT]
  have hok:∀ r∈rs,dB r.1=true:=fun r hr=>gb (hR.nm r hr)
  refine cE (fun rest δ S'=>∃ (r1 r2:Ru) (ld:List (Str×List Str)) (v2 v3 v4 v5:Option D),rest=r2.map (fun r=>D.tup [D.str r.1,tD r.2])∧r1++r2=rs∧δ=[some (rD rs),some (.loc S.length),v2,v3,v4,v5]∧S'=S++[some (bD ld)]∧Part rs r1 ld) ?_ ?_ _ _ _
   ⟨[],rs,[],none,none,none,none,rfl,rfl,rfl,rfl,⟨by simp,fun w=>by simp [hds],fun w l h=>by simp at h,fun w l h=>by simp at h⟩⟩
  ·rintro δ S' ⟨r1,r2,ld,v2,v3,v4,v5,hr,he,rfl,rfl,hp⟩
   obtain rfl:r2=[]:=by cases r2 with
    | nil=>rfl
    | cons _ _=>simp at hr
   rw [zbB] at he
   subst he
   exact ⟨trivial,_,rfl,pq (AD ld _) (q ld (hp.all hR.ln))⟩
  ·rintro x xs δ S' N' ⟨r1,r2,ld,v2,v3,v4,v5,hr,he,rfl,rfl,hp⟩ hN
   cases r2 with
   | nil=>simp at hr
   | cons r r2 =>
    rw [zbX] at hr
    injection hr with h1 h2
    subst h1;subst h2
    obtain ⟨wd,p⟩:=r
    have hm:(wd,p)∈rs:=by rw [← he];simp
    obtain ⟨hop,hnp,hdp⟩:lq p∧N p≤8∧dp p≤3:=hR.ok _ hm
    refine ⟨trivial,?_⟩
    have e3:(S++[some (bD ld)])[S.length]? = some (some (bD ld)):=by simp
    have e4:bf (S++[some (bD ld)]) (.loc S.length) = .dct (ld.map fun p=>Sum.inr p.1) (ld.map fun p=>.lst (p.2.map D.str)):=by simp only [bf,e3];rfl
    push_cast [kh,gu,ki,bZ,cT,rD]
    refine ⟨_,rfl,rfl,_,_,rfl,_,_,rfl,rfl,?_⟩
    refine ⟨p,rfl,by lia,fun W hW hWl => ?_⟩
    push_cast [bT]
    have hWo:∀ y∈W,dB y=true:=fun y hy=>uS p hop y ((hW y).mp hy)
    let c:Str×Pt→Bool:=fun a=>decide (a.1∈W)||decide (("*" : Str)∈W)
    refine bg (g:=fun r:Str×Pt=>D.tup [D.str r.1,tD r.2]) (c:=c) (f:=fun r=>D.str r.1) (en:=fun r=>[some (.str r.1),some (tD r.2),some (.lst (W.map D.str))]) (D0:=fun δ=>∃ a b,δ=[a,b,some (.lst (W.map D.str))]) trivial (fun a=>⟨_,_,rfl⟩) rs [] _ ⟨none,none,rfl⟩ ?_ ?_ ?_ (by rw [yag];have:=hR.ln;simp;lia) ?_
    ·rintro a _ δ ⟨x,y,rfl⟩ Q' q'
     push_cast [kh,gu,ki]
     exact ⟨_,rfl,rfl,_,_,rfl,_,_,rfl,rfl,q'⟩
    ·intro a ha Q' q'
     simp only [AQ,aB,fQ,aX,aC,zaj,zai,zcB.injEq,exists_eq_left',aY]
     refine dD (hok a ha) hWo (by lia) ⟨_,rfl,?_⟩
     rw [zbQ]
     have hc:c a=(decide (a.1∈W)||decide (("*" : Str)∈W)):=rfl
     refine eF (fun h => ?_) (fun h => ?_)
     ·rw [hc,h,Bool.true_or] at q';exact q'
     ·have h:decide (a.1∈W)=false:=by simpa using h
      refine dD (by decide +kernel) hWo (by lia) ⟨_,rfl,?_⟩
      rw [hc,h,zcd] at q'
      rw [zbQ];exact q'
    ·intro a ha _ Q' q'
     simp only [aX,zaj,zcB.injEq,exists_eq_left',aY]
     exact q'
    ·rw [zbH]
     have em:(rs.filter c).map (fun r=>D.str r.1)=((rs.filter c).map (·.1)).map D.str:=by rw [zcl];rfl
     rw [em]
     generalize hL:(rs.filter c).map (·.1)=L
     have hLm:∀ o,o∈L↔o∈hds rs∧(o∈sw p∨("*" : Str)∈sw p):=fun o=>by
      rw [← hL,zck]
      constructor
      ·rintro ⟨a,ha,rfl⟩
       obtain ⟨h1,h2⟩:=zbz.mp ha
       refine ⟨zck.mpr ⟨a,h1,rfl⟩,?_⟩
       have h2:(decide (a.1∈W)||decide (("*" : Str)∈W))=true:=h2
       rw [zbM,decide_eq_true_eq,decide_eq_true_eq,hW,hW] at h2
       exact h2
      ·rintro ⟨h1,h2⟩
       obtain ⟨a,ha,rfl⟩:=zck.mp h1
       refine ⟨a,zbz.mpr ⟨ha,?_⟩,rfl⟩
       show (decide (a.1∈W)||decide (("*" : Str)∈W))=true
       rw [zbM,decide_eq_true_eq,decide_eq_true_eq,hW,hW]
       exact h2
     have hLl:L.length≤rs.length:=by rw [← hL,zbE];exact zat _ _
     push_cast [qg,uA,qc,fF,e4]
     refine ⟨⟨_,_,rfl⟩,zcz _,_,_,rfl,by rw [zbE,zbE],_,rfl,?_⟩
     obtain ⟨old,hg,hold,hol⟩:∃ old:List Str,((fz (ld.map fun p=>Sum.inr p.1) (ld.map fun p=>.lst (p.2.map D.str)) (.inr wd)).getD (.lst [])) = .lst (old.map D.str)∧(∀ o,o∈old↔o∈hds rs∧∃ q,(wd,q)∈r1∧(o∈sw q∨("*" : Str)∈sw q))∧old.length≤r1.length*rs.length:=by
      by_cases hw:wd∈ld.map (·.1)
      ·obtain ⟨⟨w',l⟩,hl,rfl⟩:=zck.mp hw
       exact ⟨l,by rw [gm hp.nd hl];rfl,hp.at_ _ l hl,hp.ln _ l hl⟩
      ·refine ⟨[],by rw [get_none hw];rfl,fun o=>⟨fun h=>by simp at h,fun ⟨_,q,hq,_⟩ => ?_⟩,zcz _⟩
       exact absurd ((hp.ks wd).mpr (zck.mpr ⟨_,hq,rfl⟩)) hw
     rw [hg]
     have hr1:r1.length+(r2.length+1)=rs.length:=by rw [← he,zaM];rfl
     have hmul:r1.length*rs.length≤4*4:=Nat.mul_le_mul (by have:=hR.ln;lia) hR.ln
     have hln:=hR.ln
     show (old.map D.str).length+(L.map D.str).length≤yah∧_
     refine ⟨by rw [zbE,zbE,yag];lia,S.length,rfl,_,_,_,rfl,e3,?_,?_⟩
     ·rw [zbE]
      have:=bx hp.nd (m:=hds rs) fun x hx=>by
       have:=(hp.ks x).mp hx
       rw [← he];simp only [hds,zbI,zbA];exact .inl this
      simp only [hds,zbE] at this
      lia
     ·simp only [aY,fZ,d8]
      rw [← zbI,zm,zau _ _ (zcy _),zcs]
      obtain ⟨k1,k2⟩:=zl (w:=wd) (l:=old++L) hp.nd
      refine hN _ _ ⟨r1++[(wd,p)],r2,lV ld wd (old++L),_,_,_,_,rfl,by rw [zbd];exact he,rfl,rfl,⟨k1,fun x => ?_,fun x l hx o => ?_,fun x l hx => ?_⟩⟩
      ·rw [k2,hp.ks]
       simp only [hds,zbI,zbX,zci,zbA,zaP]
       exact or_comm
      ·rcases kR x l hx with ⟨rfl,rfl⟩ | ⟨hne,hx⟩
       ·rw [zbA,hold,hLm]
        constructor
        ·rintro (⟨h1,q',h2,h3⟩ | ⟨h1,h2⟩)
         ·exact ⟨h1,q',zay _ h2,h3⟩
         ·exact ⟨h1,p,zaq _ (by simp),h2⟩
        ·rintro ⟨h1,q',h2,h3⟩
         rcases zbA.mp h2 with h2 | h2
         ·exact .inl ⟨h1,q',h2,h3⟩
         ·cases zaP.mp h2;exact .inr ⟨h1,h3⟩
       ·rw [hp.at_ x l hx o]
        refine and_congr_right fun _=>exists_congr fun q'=>and_congr_left fun _ => ?_
        rw [zbA]
        exact ⟨.inl,fun z=>z.elim id fun z=>absurd (by cases zaP.mp z;rfl) hne⟩
      ·rw [zaM,zar,Nat.add_mul,Nat.one_mul]
       rcases kR x l hx with ⟨rfl,rfl⟩ | ⟨hne,hx⟩
       ·rw [zaM];lia
       ·have:=hp.ln x l hx;lia
def lH:AN:=fun ds S Q=>∃ (rs:Ru) (n:Nat) (ld:List (Str×List Str)) (wd:Str) (ws:List Str),ds=[.loc n,.str wd,.lst (ws.map D.str)]∧S[n]? = some (some (bD ld))∧sF rs ld∧gB rs∧wd∈hds rs∧(∀ x∈ws,x∈hds rs)∧ws.length≤100∧∀ F:List Str,(∀ o,o∈F↔Ld rs wd o∧o∈ws)→F.length≤1000→Q (.new (.lst (F.map D.str))) S
theorem dm {rs:Ru} (h:gB rs):∀ x∈hds rs,dB x=true:=fun x hx=>by
 obtain ⟨r,hr,rfl⟩:=zck.mp hx
 exact gb (h.nm r hr)
theorem jE {S:aK}{n:Nat}{ld:List (Str×List Str)} (h:S[n]? = some (some (bD ld))):bf S (.loc n) = .dct (ld.map fun p=>Sum.inr p.1) (ld.map fun p=>.lst (p.2.map D.str)):=by simp only [bf,h];rfl
theorem Gd (T:Txt K mg ec EP) (F:Src K mg "led_within" gW yW):Def P w K mg base 1 "led_within" gW (aD K lH):=by
 refine dS F EC (fun ds S Q h => ?_) (fun f cdv A outer s H E hr => ?_)
 ·obtain ⟨rs,n,ld,wd,ws,rfl,_⟩:=h;rfl
 ·refine ⟨_,(M.aj (M.aF (M.bF (N:=["other","words"]) (caps:=[none,some 2]) (cG (by decide +kernel)) (by rfl) (by rfl) rfl (M.bB (M.l5 (c9 hr) (M.pv 0) (M.pv 1) (fun _ _=>rfl))) (fun _ _ _ _=>(M.aG (i:=0) (by decide +kernel:List.Nodup (["other","words"]:List Str)) rfl (Or.inl rfl))) (fun _ _ _ _=>(M.bM (M.aA (M.l9 hr) (M.pv 0) (M.pv 1) rfl))) (fun _ _ _ _=>(M.pv 0))))),fun ds S Q h => ?_⟩
  obtain ⟨rs,n,ld,wd,ws,rfl,hS,hB,hR,hw,hws,hl,q⟩:=h
  have e0:aU wj [.loc n,.str wd,.lst (ws.map D.str)]=[some (.loc n),some (.str wd),some (.lst (ws.map D.str))]:=rfl
  rw [e0]
  obtain ⟨⟨w',l⟩,hm,rfl⟩:=zck.mp ((hB.ks wd).mpr hw)
  push_cast [bZ,cT,m7,jE hS]
  refine ⟨_,_,rfl,_,rfl,_,gm hB.nd hm,?_⟩
  push_cast [bT]
  have hlo:∀ o∈l,dB o=true:=fun o ho=>dm hR o ((hB.at_ _ l hm o).mp ho).1
  have hln:=hB.ln _ l hm
  refine bg (g:=D.str) (c:=fun o=>decide (o∈ws)) (f:=D.str) (en:=fun o=>[some (.str o),some (.lst (ws.map D.str))]) (D0:=fun δ=>∃ a,δ=[a,some (.lst (ws.map D.str))]) trivial (fun a=>⟨_,rfl⟩) l [] _ ⟨none,rfl⟩ ?_ ?_ ?_ (by rw [yag];simp;lia) ?_
  ·rintro a _ δ ⟨x,rfl⟩ Q' q'
   exact q'
  ·intro a ha Q' q'
   simp only [aB,fQ,aX,zaj,zai,zcB.injEq,exists_eq_left',aY]
   refine dD (hlo a ha) (fun y hy=>dm hR y (hws y hy)) hl ⟨_,rfl,?_⟩
   rw [zbQ];exact q'
  ·intro a _ _ Q' q'
   simp only [aX,zaj,zcB.injEq,exists_eq_left',aY]
   exact q'
  ·rw [zbH]
   refine kP (bO _) (q _ (fun o => ?_) (by have:=zat (fun o=>decide (o∈ws)) l;lia))
   rw [zbz,hB.at_ _ l hm o,decide_eq_true_eq]
theorem ud {l:List Str}{x:Str} (h:x∈l):∃ i,i<l.length∧l[i]? = some x∧∀ j,j<i→l[j]? ≠ some x:=by
 induction l with
 | nil=>simp at h
 | cons a l ih =>
  by_cases e:a=x
  ·exact ⟨0,by simp,by simp [e],fun j hj=>by lia⟩
  ·rcases zbW.mp h with z | z
   ·exact absurd z.symm e
   ·obtain ⟨i,h1,h2,h3⟩:=ih z
    refine ⟨i+1,by simp;lia,by simpa using h2,fun j hj => ?_⟩
    cases j with
    | zero=>simpa using e
    | succ j=>simpa using h3 j (by lia)
def uT:AN:=fun ds S Q=>∃ (rs:Ru) (n:Nat) (ld:List (Str×List Str)) (ws:List Str),ds=[.loc n,.lst (ws.map D.str)]∧S[n]? = some (some (bD ld))∧sF rs ld∧gB rs∧ws≠[]∧GL rs ws∧ws.length≤100∧∀ r:List Str,Ring rs r→Q (.new (.lst (r.map D.str))) S
theorem CB (T:Txt K mg ec EP) (F:Src K mg "ring_within" gD sX) (D_led_within:Def P w K mg base 1 "led_within" gW (aD K lH)):Def P w K mg base 2 "ring_within" gD (aD K uT):=by
 refine dS F kM (fun ds S Q h => ?_) (fun f cdv A outer s H E hr => ?_)
 ·obtain ⟨rs,n,ld,ws,rfl,_⟩:=h;rfl
 ·refine ⟨_,(M.ah (M.az (i:=2) kM.nd rfl (Or.inl rfl) (M.oG (M.aS M.aa)))
   (M.ah (M.az (i:=3) kM.nd rfl (Or.inl rfl) (M.aM M.bq (M.pv 1) M.ai (fun _ _=>rfl)))
   (M.ah (M.dI PassesOwn.never (M.aA (M.kX hr) (M.pv 3) (M.pv 2) rfl)
    (M.ah (M.cD (M.dZ PySem.F.plainAttrs_list PySem.F.slot_list_append PySem.F.type_list_append M.gf (M.pv 2) (M.ay (M.pv 3) M.aa)))
    (M.aj (M.az (i:=3) kM.nd rfl (Or.inl rfl) (M.aM M.bq (M.ow D_led_within hr (M.ay (M.pv 0) (M.ay (M.pv 3) (M.ay (M.pv 1) M.aa)))) M.ai (fun _ _=>rfl))))))
   (M.aj (M.aF (M.bW M.i6 (M.pv 2) (M.cN (M.dZ PySem.F.plainAttrs_list PySem.F.slot_list_index PySem.F.type_list_index M.pQ (M.pv 2) (M.ay (M.pv 3) M.aa))) M.cO)))))),fun ds S Q h => ?_⟩
  obtain ⟨rs,n,ld,ws,rfl,hS,hB,hR,hne,⟨hc1,hc2⟩,hl,q⟩:=h
  have e0:aU sf [.loc n,.lst (ws.map D.str)]=[some (.loc n),some (.lst (ws.map D.str)),none,none]:=rfl
  rw [e0]
  have hn:n<S.length:=gg hS
  obtain ⟨w0,wr,rfl⟩:∃ a r,ws=a::r:=by cases ws with
   | nil=>exact absurd rfl hne
   | cons a r=>exact ⟨a,r,rfl⟩
  push_cast [bQ,mJ,zbX,fO]
  refine ⟨zcz _,?_⟩
  generalize hws:w0::wr=ws at *
  have hw0:w0∈ws:=by rw [← hws];simp
  have ems:D.str w0::wr.map D.str=ws.map D.str:=by rw [← hws];rfl
  rw [ems]
  refine ⟨fun m δ S'=>∃ (t:List Str) (x:Str),m=100 - t.length∧δ=[some (.loc n),some (.lst (ws.map D.str)),some (.loc S.length),some (.str x)]∧S'=S++[some (.lst (t.map D.str))]∧t.Nodup∧(∀ y∈t,y∈ws)∧x∈ws∧(∀ (k:Nat) (a b:Str),t[k]? = some a→(t++[x])[k+1]? = some b→Ld rs a b),⟨100,[],w0,rfl,rfl,rfl,by simp,by simp,hw0,by simp⟩,?_⟩
  rintro m δ S' ⟨t,x,rfl,rfl,rfl,hnd,hsub,hx,hch⟩
  have e3:(S++[some (MO.lst (t.map D.str))])[S.length]? = some (some (.lst (t.map D.str))):=by simp
  have e4:bf (S++[some (MO.lst (t.map D.str))]) (.loc S.length) = .lst (t.map D.str):=by simp only [bf,e3,MO.d]
  have htl:=bx hnd hsub
  have hwo:∀ y∈ws,dB y=true:=fun y hy=>dm hR y (hc1 y hy)
  have hin:∀ (neg:Bool) (Q':AK),Q' (.dat (.bl (neg != decide (x∈t)))) (S++[some (.lst (t.map D.str))])→vX neg (.str x) (.loc S.length) (S++[some (.lst (t.map D.str))]) Q':=fun neg Q' q'=>by
   have:=dD (S:=S++[some (.lst (t.map D.str))]) (neg:=neg) (Q:=Q') (hwo x hx) (fun y hy=>hwo y (hsub y hy)) (by lia) q'
   unfold vX at this ⊢
   rw [e4];exact this
  push_cast [true_and]
  refine hin true _ ⟨_,rfl,?_⟩
  refine eF (fun h => ?_) (fun h => ?_)
  ·have hxt:x ∉ t:=by simpa using h
   have Co:(t++[x]).Nodup:=zbg.mpr ⟨hnd,by simp,fun a ha b hb e=>hxt (by rw [← zaP.mp hb,← e];exact ha)⟩
   have hsub2:∀ y∈t++[x],y∈ws:=fun y hy=>by
    rcases zbA.mp hy with hy | hy
    ·exact hsub y hy
    ·rw [zaP.mp hy];exact hx
   have Kf:=bx Co hsub2
   rw [zaM,zar] at Kf
   refine ⟨fun δ' S2=>∃ y,y∈ws∧Ld rs x y∧δ'=[some (.loc n),some (.lst (ws.map D.str)),some (.loc S.length),some (.str y)]∧S2=S++[some (.lst ((t++[x]).map D.str))],?_,?_⟩
   ·rintro δ' S2 ⟨y,hy,hld,rfl,rfl⟩
    refine ⟨_,?_,t++[x],rfl,y,rfl,rfl,Co,hsub2,hy,fun k a b ha hb => ?_⟩
    ·rw [zaM,zar];lia
    ·by_cases hk:k<t.length
     ·rw [zad hk] at ha
      rw [zad (by rw [zaM,zar];lia)] at hb
      exact hch k a b ha hb
     ·have hk2:k=t.length:=by
       have:=(zac.mp ha).1
       rw [zaM,zar] at this;lia
      subst hk2
      rw [zab (zcy _),zcs] at ha
      rw [zab (by rw [zaM,zar];lia)] at hb
      simp at ha hb
      rw [← ha,← hb];exact hld
   ·push_cast [xP,e4,ku,true_and]
    refine ⟨S.length,_,_,rfl,rfl,e3,by rw [zbE,yag];lia,?_⟩
    rw [zau _ _ (zcy _),zcs]
    have hSn:(S++[some (MO.lst ((t++[x]).map D.str))])[n]? = some (some (bD ld)):=by rw [zad hn];exact hS
    have eS:S++[some (MO.lst (t.map D.str++[D.str x]))]=S++[some (MO.lst ((t++[x]).map D.str))]:=by rw [zbI];rfl
    show lH _ (S++[some (MO.lst (t.map D.str++[D.str x]))]) _
    rw [eS]
    refine ⟨rs,n,ld,x,ws,rfl,hSn,hB,hR,hc1 x hx,hc1,hl,fun F hF hFl => ?_⟩
    obtain ⟨o,ho,hlo⟩:=hc2 x hx
    have hoF:=(hF o).mpr ⟨hlo,ho⟩
    cases F with
    | nil=>simp at hoF
    | cons y F =>
     simp only [fZ,d8,zbX,mJ,fO,zcB.injEq,exists_eq_left',aY]
     obtain ⟨h1,h2⟩:=(hF y).mp zaL
     exact ⟨y,h2,h1,rfl,trivial⟩
  ·have hxt:x∈t:=by simpa using h
   obtain ⟨i,hi,hat,hmin⟩:=ud hxt
   push_cast [xP,e4,ku,true_and]
   refine ⟨t,x,i,e4,rfl,hat,hmin,(i:Int),rfl,?_⟩
   unfold p9
   rw [e4]
   push_cast [true_and]
   rw [jk (by rw [zbE];lia),← zcb]
   refine ⟨_,pK (bO _),fun k o hk e=>.inl (by rw [zad hk] at e;exact e),?_⟩
   rw [zbK rfl]
   have hdl:(t.drop i).length=t.length - i:=zbp
   refine q _ ⟨fun e => ?_,hnd.sublist (List.drop_sublist i t),fun y hy=>hc1 y (hsub y (zaD hy)),fun k a b ha hb => ?_⟩
   ·have:=congrArg List.length e
    rw [hdl] at this;simp at this;lia
   ·have hk:k<t.length - i:=by rw [← hdl];exact (zac.mp ha).1
    rw [hdl,List.getElem?_drop] at hb
    rw [List.getElem?_drop] at ha
    refine hch (i+k) a b ha ?_
    by_cases hk2:k+1<t.length - i
    ·rw [Nat.mod_eq_of_lt hk2] at hb
     rw [zad (by lia)]
     rw [show i+k+1=i+(k+1) by lia];exact hb
    ·have e1:k+1=t.length - i:=by lia
     rw [e1,Nat.mod_self,Nat.add_zero,hat] at hb
     rw [show i+k+1=t.length by lia,zab (zcy _),zcs]
     simpa using hb
end
open PySem L2 M
section
variable {P:yak}{w:yal}{K:yaH}{mg:Str→Option yaj}{base:Heap}{ec:Nat→Addr}{EP:Addr}
noncomputable def ST (S:aK) (ld:List (Str×List Str)) (os:List Str):aK:=S++[some (bD ld)]++[some (.lst (os.map D.str))]
theorem C6 {S:aK}{ld:List (Str×List Str)}{os:List Str}:(ST S ld os)[S.length]? = some (some (bD ld)):=by simp [ST]
theorem GC {S:aK}{ld:List (Str×List Str)}{os:List Str}:(ST S ld os)[S.length+1]? = some (some (.lst (os.map D.str))):=by simp [ST]
theorem GB {S:aK}{ld:List (Str×List Str)}{os os':List Str}:(ST S ld os).set (S.length+1) (some (.lst (os'.map D.str)))=ST S ld os':=by simp [ST]
theorem qQ {rs:Ru}{ld:List (Str×List Str)}{S:aK}{rai:AS}{D0:nq} (hB:sF rs ld) (hR:gB rs) (I:List Str→List Str→Prop) (hI:∀ os ls,I os ls→OI rs os ls) (h0:I [] (ld.map (·.1)))
  (hend:∀ os v,I os []→D0.nx [some (rD rs),some (.loc S.length),some (.loc (S.length+1)),some (.lst []),v] (ST S ld os)) (hstuck:∀ os ls D1,I os ls→ls≠[]→ls.filter (kZ rs ls)=[]→rai D1 [some (rD rs),some (.loc S.length),some (.loc (S.length+1)),some (.lst (ls.map D.str)),some (.lst [])] (ST S ld os))
  (hgo:∀ os ls,I os ls→ls.filter (kZ rs ls)≠[]→I (os++ls.filter (kZ rs ls)) (ls.filter fun x => !decide (x∈ls.filter (kZ rs ls)))) :
  p7 (kG (aX 3)) (fB (kH (bZ [none,some 1,some 3] (cT (aX 3)) (bG 0) (m5 (kG (aCall lH (cB (aX 1) (cB (aX 0) (cB (aX 2) fF)))))) (aX 0)) (bG 4))
   (fB (nK (m5 (kG (aX 4))) rai kj) (fB (ko (xP "list" vY (aX 2) (cB (aX 4) fF))) (kH (bZ [none,some 4] (cT (aX 3)) (bG 0) (aB (fQ (vX true) (aX 0) (aX 1))) (aX 0)) (bG 3)))))
   D0 [some (rD rs),some (.loc S.length),some (.loc (S.length+1)),some (.lst ((ld.map (·.1)).map D.str)),none] (ST S ld []):=by
 refine ⟨fun m δ S'=>∃ os ls v,m=ls.length∧I os ls∧S'=ST S ld os∧δ=[some (rD rs),some (.loc S.length),some (.loc (S.length+1)),some (.lst (ls.map D.str)),v],⟨_,[],ld.map (·.1),none,rfl,h0,rfl,rfl⟩,?_⟩
 rintro m δ S' ⟨os,ls,v,rfl,hi,rfl,rfl⟩
 have hoi:=hI os ls hi
 have hlen:=hoi.len
 have h4:=hR.ln
 have hlo:∀ y∈ls,dB y=true:=fun y hy=>dm hR y ((hoi.hd y).mp (.inr hy))
 push_cast [true_and]
 cases ls with
 | nil =>
  rw [yIn (by decide)]
  exact hend os v hi
 | cons l0 lr =>
  rw [yIp (by rfl)]
  have hne:l0::lr≠[]:=by simp
  generalize l0::lr=ls at *
  refine ⟨fun δ' S2=>ls.filter (kZ rs ls)≠[]∧S2=ST S ld (os++ls.filter (kZ rs ls))∧∃ v,δ'=[some (rD rs),some (.loc S.length),some (.loc (S.length+1)),some (.lst ((ls.filter fun x => !decide (x∈ls.filter (kZ rs ls))).map D.str)),v],?_,?_⟩
  ·rintro δ' S2 ⟨hf,rfl,v',rfl⟩
   exact ⟨_,less hf,_,_,rfl,hgo os ls hi hf,rfl,v',rfl⟩
  ·push_cast [bZ,cT,bT]
   refine bg (g:=D.str) (c:=kZ rs ls) (f:=D.str) (en:=fun o=>[some (.str o),some (.loc S.length),some (.lst (ls.map D.str))]) (D0:=fun δ=>∃ a,δ=[a,some (.loc S.length),some (.lst (ls.map D.str))]) trivial (fun a=>⟨_,rfl⟩) ls [] _ ⟨none,rfl⟩ ?_ ?_ ?_ (by rw [yag];simp;lia) ?_
   ·rintro a _ δ ⟨x,rfl⟩ Q' q'
    exact q'
   ·intro a ha Q' q'
    push_cast [true_and]
    refine ⟨rs,S.length,ld,a,ls,rfl,C6,hB,hR,(hoi.hd a).mp (.inr ha),fun x hx=>(hoi.hd x).mp (.inr hx),by lia,fun F hF hFl => ?_⟩
    push_cast [true_and]
    cases hc:kZ rs ls a with
    | true =>
     rw [hc] at q'
     have:F=[]:=by
      cases F with
      | nil=>rfl
      | cons y F =>
       obtain ⟨h1,h2⟩:=(hF y).mp zaL
       exact absurd h1 (jd.mp hc y h2)
     subst this
     exact q'
    | false =>
     rw [hc] at q'
     cases F with
     | nil =>
      have:kZ rs ls a=true:=jd.mpr fun o ho hl=>by have:=(hF o).mpr ⟨hl,ho⟩;simp at this
      rw [hc] at this;cases this
     | cons y F=>exact q'
   ·intro a _ _ Q' q'
    simp only [aX,zaj,zcB.injEq,exists_eq_left',aY]
    exact q'
   ·rw [zbH]
    cases hf:ls.filter (kZ rs ls) with
    | nil =>
     rw [yIp (by rfl)]
     exact hstuck os ls _ hi hne hf
    | cons f0 fr =>
     rw [yIn (by simp)]
     have hfs:f0::fr=ls.filter (kZ rs ls):=hf.symm
     have hfl:=zat (kZ rs ls) ls
     rw [hfs]
     have e4:bf (ST S ld os) (.loc (S.length+1)) = .lst (os.map D.str):=by simp only [bf,GC];rfl
     push_cast [xP,e4,ku,true_and]
     refine ⟨S.length+1,_,_,_,rfl,rfl,GC,.inl rfl,by rw [zbE,zbE,yag];lia,?_⟩
     rw [← zbI,GB]
     refine bg (g:=D.str) (c:=fun x => !decide (x∈ls.filter (kZ rs ls))) (f:=D.str) (en:=fun o=>[some (.str o),some (.lst ((ls.filter (kZ rs ls)).map D.str))]) (D0:=fun δ=>∃ a,δ=[a,some (.lst ((ls.filter (kZ rs ls)).map D.str))]) trivial (fun a=>⟨_,rfl⟩) ls [] _ ⟨none,rfl⟩ ?_ ?_ ?_ (by rw [yag];simp;lia) ?_
     ·rintro a _ δ ⟨x,rfl⟩ Q' q'
      exact q'
     ·intro a ha Q' q'
      simp only [aB,fQ,aX,zaj,zai,zcB.injEq,exists_eq_left',aY]
      refine dD (hlo a ha) (fun y hy=>hlo y (zbz.mp hy).1) (by lia) ⟨_,rfl,?_⟩
      rw [Bool.true_bne];exact q'
     ·intro a _ _ Q' q'
      simp only [aX,zaj,zcB.injEq,exists_eq_left',aY]
      exact q'
     ·rw [zbH]
      exact ⟨by rw [← hfs];simp,rfl,rfl,_,rfl⟩
theorem OI.init {rs:Ru}{ld:List (Str×List Str)} (hB:sF rs ld):OI rs [] (ld.map (·.1)) :=
 ⟨by simpa using hB.nd,fun x=>by simpa using hB.ks x,fun i w o h=>by simp at h⟩
theorem pR (ld:List (Str×List Str)):(ld.map fun p=>(Sum.inr p.1:Key)).map kD=(ld.map (·.1)).map D.str:=by rw [zcl,zcl];rfl
def kJ:AN:=fun ds S Q=>∃ rs:Ru,ds=[rD rs]∧gB rs ∧ ¬ yc rs∧∀ os,KC rs os→Q (.new (.lst (os.map D.str))) S
def sd (rs:Ru) (d:D):Prop:=∃ r,d = .lst (r.map D.str)∧Ring rs r
def jn:List D→aK→(D→Prop)→Prop:=fun ds _ G=>∃ rs:Ru,ds=[rD rs]∧gB rs∧yc rs∧G=sd rs
theorem CD (T:Txt K mg ec EP) (F:Src K mg "order_of" cP sZ) (D_leads_of:Def P w K mg base 5 "leads_of" gF (aD K kK)) (D_led_within:Def P w K mg base 1 "led_within" gW (aD K lH)) (D_ring_within:Def P w K mg base 2 "ring_within" gD (aD K uT)) (D_GoesRound:CV P w K mg base 1 "GoesRound" (ec 6) jv (Eu K (ec 6) "ring")) :
  Def P w K mg base 6 "order_of" cP (aD K kJ)∧nM P w K mg base 6 "order_of" cP (xJ K EP (ec 6) "ring" jn)∧nM P w K mg base 6 "order_of" cP (Hq K EP (ec 6) "ring" kJ jn):=by
 refine IF F cC (fun f fd Fu => ?_) (fun ds S G h => ?_) (fun f cdv A outer s H w0 S0 G hr ok0 => ?_)
 ·refine J7 Fu cC (fun ds S Q h => ?_) (fun f cdv A outer s H E hr => ?_)
  ·obtain ⟨rs,rfl,_⟩:=h;rfl
  ·refine ⟨_,(M.ah (M.az (i:=1) cC.nd rfl (Or.inr rfl) (M.oG (M.ow D_leads_of hr (M.ay (M.pv 0) M.aa))))
   (M.ah (M.az (i:=2) cC.nd rfl (Or.inl rfl) (M.oG (M.aS M.aa)))
   (M.ah (M.az (i:=3) cC.nd rfl (Or.inr rfl) (M.x9 (M.pN hr) (by rfl) T.list (by decide +kernel) (M.ay (M.pv 1) M.aa)))
   (M.ah (M.dI PassesOwn.never (M.cu (M.pv 3))
    (M.ah (M.az (i:=4) cC.nd rfl (Or.inr rfl) (M.bF (N:=["word","leads","left"]) (caps:=[none,some 1,some 3]) (cG (by decide +kernel)) (by rfl) (by rfl) rfl (M.bB (M.pv 3)) (fun _ _ _ _=>(M.aG (i:=0) (by decide +kernel:List.Nodup (["word","leads","left"]:List Str)) rfl (Or.inl rfl))) (fun _ _ _ _=>(M.bM (M.eB (M.cu (M.ow D_led_within hr (M.ay (M.pv 1) (M.ay (M.pv 0) (M.ay (M.pv 2) M.aa)))))))) (fun _ _ _ _=>(M.pv 0))))
    (M.ah (M.bu (M.eB (M.cu (M.pv 4)))
     (M.aj M.lW)
     M.aL)
    (M.ah (M.cD (M.dZ PySem.F.plainAttrs_list PySem.F.slot_list_extend PySem.F.type_list_extend M.i7 (M.pv 2) (M.ay (M.pv 4) M.aa)))
    (M.aj (M.az (i:=3) cC.nd rfl (Or.inr rfl) (M.bF (N:=["word","free"]) (caps:=[none,some 4]) (cG (by decide +kernel)) (by rfl) (by rfl) rfl (M.bB (M.pv 3)) (fun _ _ _ _=>(M.aG (i:=0) (by decide +kernel:List.Nodup (["word","free"]:List Str)) rfl (Or.inl rfl))) (fun _ _ _ _=>(M.bM (M.aA (M.kX hr) (M.pv 0) (M.pv 1) rfl))) (fun _ _ _ _=>(M.pv 0)))))))))
   (M.aj (M.aF (M.pv 2))))))),fun ds S Q h => ?_⟩
   obtain ⟨rs,rfl,hR,hC,q⟩:=h
   have e0:aU nj [rD rs]=[some (rD rs),none,none,none,none]:=rfl
   rw [e0]
   push_cast [bQ,qe]
   refine ⟨rs,rfl,hR,fun ld hB => ?_⟩
   refine ⟨zcz _,_,⟨_,by rw [show S++[some (bD ld)]++[some (MO.lst [])]=ST S ld [] from rfl];exact jE C6⟩,?_⟩
   rw [pR,show (S++[some (bD ld)]).length=S.length+1 by simp]
   refine qQ hB hR (OI rs) (fun _ _ h=>h) (OI.init hB) (fun os v hi => ?_) (fun os ls D1 hi hne hf=>absurd ⟨ls,hne,hi.KY hf⟩ hC) (fun os ls hi _=>hi.step)
   push_cast [true_and]
   refine pA (by lia) (bO _) GC (by simp [ST]) (q os ⟨by simpa using hi.nd,fun x=>by have:=hi.hd x;simpa using this,hi.up⟩)
 ·obtain ⟨rs,rfl,_⟩:=h;rfl
 ·refine ⟨_,(M.ff (M.GS.w (M.az (i:=1) cC.nd rfl (Or.inr rfl) (M.oG (M.ow D_leads_of hr (M.ay (M.pv 0) M.aa)))))
   (M.ff (M.GS.w (M.az (i:=2) cC.nd rfl (Or.inl rfl) (M.oG (M.aS M.aa))))
   (M.ff (M.GS.w (M.az (i:=3) cC.nd rfl (Or.inr rfl) (M.x9 (M.pN hr) (by rfl) T.list (by decide +kernel) (M.ay (M.pv 1) M.aa))))
   (M.ff (M.Br J4 (M.cu (M.pv 3))
    (M.ff (M.GS.w (M.az (i:=4) cC.nd rfl (Or.inr rfl) (M.bF (N:=["word","leads","left"]) (caps:=[none,some 1,some 3]) (cG (by decide +kernel)) (by rfl) (by rfl) rfl (M.bB (M.pv 3)) (fun _ _ _ _=>(M.aG (i:=0) (by decide +kernel:List.Nodup (["word","leads","left"]:List Str)) rfl (Or.inl rfl))) (fun _ _ _ _=>(M.bM (M.eB (M.cu (M.ow D_led_within hr (M.ay (M.pv 1) (M.ay (M.pv 0) (M.ay (M.pv 2) M.aa)))))))) (fun _ _ _ _=>(M.pv 0)))))
    (M.ff (M.JK (M.eB (M.cu (M.pv 4))) (M.uH (M.yf ok0 G0 D_GoesRound T.xi.toXCls T.sub (hr.mono (by decide)) (by rfl) (M.ow D_ring_within hr (M.ay (M.pv 1) (M.ay (M.pv 3) M.aa))))) (M.uF.w M.aL))
    (M.ff (M.GS.w (M.cD (M.dZ PySem.F.plainAttrs_list PySem.F.slot_list_extend PySem.F.type_list_extend M.i7 (M.pv 2) (M.ay (M.pv 4) M.aa))))
    (M.uH (M.GS.w (M.az (i:=3) cC.nd rfl (Or.inr rfl) (M.bF (N:=["word","free"]) (caps:=[none,some 4]) (cG (by decide +kernel)) (by rfl) (by rfl) rfl (M.bB (M.pv 3)) (fun _ _ _ _=>(M.aG (i:=0) (by decide +kernel:List.Nodup (["word","free"]:List Str)) rfl (Or.inl rfl))) (fun _ _ _ _=>(M.bM (M.aA (M.kX hr) (M.pv 0) (M.pv 1) rfl))) (fun _ _ _ _=>(M.pv 0))))))))))
   (M.uH (M.GS.w (M.aF (M.pv 2)))))))),fun ds h => ?_⟩
  obtain ⟨rs,rfl,hR,hC,rfl⟩:=h
  have e0:aU nj [rD rs]=[some (rD rs),none,none,none,none]:=rfl
  rw [e0]
  push_cast [bQ,qe]
  obtain ⟨qs,qne,hq⟩:=hC
  refine ⟨rs,rfl,hR,fun ld hB => ?_⟩
  refine ⟨zcz _,_,⟨_,by rw [show S0++[some (bD ld)]++[some (MO.lst [])]=ST S0 ld [] from rfl];exact jE C6⟩,?_⟩
  rw [pR,show (S0++[some (bD ld)]).length=S0.length+1 by simp]
  refine qQ hB hR (fun os ls=>OI rs os ls∧∀ x∈qs,x∈ls) (fun _ _ h=>h.1) ⟨OI.init hB,fun x hx=>(hB.ks x).mpr (hq.1 x hx)⟩ (fun os v hi => ?_) (fun os ls D1 hi hne hf => ?_) (fun os ls hi _=>⟨hi.1.step,Aq hq hi.2⟩)
  ·obtain ⟨x,hx⟩:=zaf _ qne
   have:=hi.2 x hx
   simp at this
  ·have hl:=hi.1.len
   have h4:=hR.ln
   push_cast [vW]
   refine ⟨rs,S0.length,ld,ls,rfl,C6,hB,hR,hne,hi.1.KY hf,by lia,fun r hr'=>⟨⟨r,rfl,hr'⟩,⟨_,rfl⟩,bO r,by simp [ST]⟩⟩
end
open PySem L2 M M6
noncomputable abbrev yT:Stmt:=top 27
noncomputable abbrev we:List Str:=["step","meant"]
noncomputable abbrev gV:List Str:=["step","meant"]
theorem EA:aJ we gV (ao yT):=L2.cW
noncomputable abbrev yV:Stmt:=top 26
noncomputable abbrev Ba:List Str:=["pattern","meant"]
noncomputable abbrev eK:List Str:=["pattern","meant"]
theorem Du:aJ Ba eK (ao yV):=L2.cW
noncomputable abbrev BN:Stmt:=top 25
noncomputable abbrev ql:List Str:=["pattern","rules","meant","word","parts"]
noncomputable abbrev ng:List Str:=["pattern","rules"]
theorem nU:aJ ql ng (ao BN):=L2.cW
theorem set_same {S:aK}{p:Nat}{o:MO} (h:S[p]? = some (some o)):S.set p (some o)=S:=by
 have hl:=gg h
 rw [zah hl] at h
 have h:S[p]=some o:=by simpa using h
 rw [← h];simp
noncomputable def kW (b:Bool) (x:Str):D:=.tup [.str (side b),.str x]
theorem kY {b:Bool}{x:Str} (h:dB x=true):gK (kW b x):=by
 have e:py (kW b x) = .tuple [.str (side b),.str x]:=by simp [kW,py,dW]
 refine ⟨by simp [kW,cI,cM],?_,?_,_,rfl⟩
 ·rw [e];simp [cS,di,PyData.canLay0,bX h,bX (iP b)]
 ·rw [e];simp [PyData.depth,PyData.depthAll]
structure yb (ks vs:List D):Prop where
 ln:ks.length=vs.length
 ks:∀ k∈ks,∃ b x,k=kW b x∧dB x=true
 vs:∀ v∈vs,∃ q,v=tD q
theorem yb.good {ks vs:List D} (h:yb ks vs):∀ k∈ks,gK k:=fun k hk=>by
 obtain ⟨b,x,rfl,hx⟩:=h.ks k hk
 exact kY hx
theorem yb.put {ks vs:List D}{b:Bool}{x:Str} (h:yb ks vs) (hx:dB x=true) (q:Pt):yb (dH ks vs (kW b x) (tD q)).1 (dH ks vs (kW b x) (tD q)).2∧(dH ks vs (kW b x) (tD q)).1.length≤ks.length+1:=by
 unfold dH
 split
 ·refine ⟨⟨by show ks.length=(List.map _ (ks.zip vs)).length;rw [zbE,zbJ,← h.ln];lia,h.ks,fun v hv => ?_⟩,zcA _⟩
  obtain ⟨p,hp,rfl⟩:=zck.mp hv
  split
  ·exact ⟨q,rfl⟩
  ·exact h.vs _ (zbD hp).2
 ·refine ⟨⟨by simp [h.ln],fun k hk => ?_,fun v hv => ?_⟩,by simp⟩
  ·rcases zbA.mp hk with hk | hk
   ·exact h.ks k hk
   ·exact ⟨b,x,zaP.mp hk,hx⟩
  ·rcases zbA.mp hv with hv | hv
   ·exact h.vs v hv
   ·exact ⟨q,zaP.mp hv⟩
theorem yb.get {ks vs:List D} (h:yb ks vs) {k:D} (hk:k∈ks):∃ q,dc ks vs k=some (tD q):=by
 have:∀ {ks vs:List D},ks.length=vs.length→k∈ks→∃ v∈vs,dc ks vs k=some v:=fun {ks}=>by
  induction ks with
  | nil=>intro vs _ hk;simp at hk
  | cons x ks ih =>
   intro vs hl hk
   cases vs with
   | nil=>simp at hl
   | cons v vs =>
    unfold dc at ih ⊢
    rw [zaQ,zbF]
    by_cases e:py x=py k
    ·exact ⟨v,by simp,by simp [e]⟩
    ·rcases zbW.mp hk with z | z
     ·exact absurd (by rw [z]) e
     ·obtain ⟨u,h1,h2⟩:=ih (by simpa using hl) z
      exact ⟨u,by simp [h1],by simp only [e,decide_false];exact h2⟩
 obtain ⟨v,h1,h2⟩:=this h.ln hk
 obtain ⟨q,rfl⟩:=h.vs v h1
 exact ⟨q,h2⟩
theorem yb.Km {ks vs:List D} (h:yb ks vs) (k:D) (p:Pt):∃ q,(dc ks vs k).getD (tD p)=tD q:=by
 cases z:dc ks vs k with
 | none=>exact ⟨p,rfl⟩
 | some v =>
  unfold dc at z
  obtain ⟨y,hy,rfl⟩:=zam.mp z
  obtain ⟨q,e⟩:=h.vs y.2 (zbD (List.mem_of_find?_eq_some hy)).2
  exact ⟨q,by rw [e];rfl⟩
section
variable {P:yak}{w:yal}{K:yaH}{mg:Str→Option yaj}{base:Heap}{ec:Nat→Addr}{EP:Addr}
def sU (W:yal):AN:=fun ds S Q=>∃ (b:Bool) (x:Str) (n:Nat) (ks vs:List D),ds=[tD (.step b x),.loc n]∧dB x=true∧S[n]? = some (some (vO W none ks vs))∧yb ks vs∧ks.length≤100∧∀ q:Pt,Q (.dat (tD q)) S
theorem Ga (T:Txt K mg ec EP) (F:Src K mg "step_meant" gV yT) (D_one_of:Def P w K mg base 1 "one_of" jV (aD K uU)):Def P w K mg base 2 "step_meant" gV (aD K (sU w)):=by
 refine dS F EA (fun ds S Q h => ?_) (fun f cdv A outer s H E hr => ?_)
 ·obtain ⟨b,x,n,ks,vs,rfl,_⟩:=h;rfl
 ·refine ⟨_,(M.ah (M.bu (M.aA (M.dR hr) (M.aM M.bq (M.pv 0) M.ai (fun _ _=>rfl)) T.zB (aN _))
    (M.aj (M.aF (M.ow D_one_of hr (M.ay (M.aW M.bY (M.aS (M.ay (M.pv 0) M.aa)) (M.tN (M.bF (N:=["kind","meant","step"]) (caps:=[none,some 1,some 0]) (cG (by decide +kernel)) (by rfl) (by rfl) rfl (M.HV (M.pv 1)) (fun _ _ _ _=>(M.aG (i:=0) (by decide +kernel:List.Nodup (["kind","meant","step"]:List Str)) rfl (Or.inl rfl))) (fun _ _ _ _=>(M.bM (M.aA (M.dR hr) (M.aM M.bq (M.pv 0) M.ai (fun _ _=>rfl)) (M.aM M.bq (M.pv 2) M.ai (fun _ _=>rfl)) (aN _)))) (fun _ _ _ _=>(M.pG (W:=w) hr (M.pv 1) (M.pv 0) (fun _ _=>rfl)))))) M.aa))))
    M.aL)
   (M.aj (M.aF (M.lY hr (M.pv 1) (M.br (M.ay (M.aM M.bq (M.pv 0) M.ai (fun _ _=>rfl)) (M.ay (M.aM M.bq (M.pv 0) M.ai (fun _ _=>rfl)) M.aa))) (M.pv 0) ⟨rfl,rfl,rfl,rfl⟩)))),fun ds S Q h => ?_⟩
  obtain ⟨b,x,n,ks,vs,rfl,hx,hS,hM,hl,q⟩:=h
  have e0:aU we [tD (.step b x),.loc n]=[some (tD (.step b x)),some (.loc n)]:=rfl
  rw [e0]
  push_cast [tD,aV,fO,iM,at2]
  refine eF (fun h => ?_) (fun h => ?_)
  ·refine ⟨sz rfl,?_⟩
   show CT w (bZ [none,some 1,some 0] (Jw w (aX 1)) (bG 0) (aB (fQ Gv (fQ qm (aX 0) (aC (D.int 0))) (fQ qm (aX 2) (aC (D.int 1))))) (rT w (aX 1) (aX 0))) _ _ _
   push_cast [CT,bZ,Jw]
   refine ⟨n,rfl,ks,vs,hS,hM.ln,fun o => ?_⟩
   have hS1:=iy (o':=vO w (some o) ks vs) hS
   let c:D→Bool:=fun k=>match k with | .tup (.str s::_)=>decide (s=side b) | _=>false
   let fv:D→D:=fun k=>(dc ks vs k).getD .bh
   have hid:ks=ks.map id:=(List.map_id ks).symm
   have:=bg (P:=fun S=>S[n]? = some (some (vO w (some o) ks vs))) (gt:=bG 0) (t:=aB (fQ Gv (fQ qm (aX 0) (aC (D.int 0))) (fQ qm (aX 2) (aC (D.int 1))))) (e:=rT w (aX 1) (aX 0)) (S:=S.set n (some (vO w (some o) ks vs)))
    (Q:=fun ds' S2=>∃ n_1 o ks_1 vs_1,S2[n_1]? = some (some (vO w (some o) ks_1 vs_1))∧ks_1.length=vs_1.length∧nL (D.lst [D.tup [D.str "step",D.str (side b),D.str x]]) (R.new (.lst ds')).d (S2.set n_1 (some (vO w none ks_1 vs_1))) fun x S1=>uU [x.d] S1 fun r S'=>M.ret S S' r Q)
    (g:=id) (c:=c) (f:=fv) (en:=fun k=>[some k,some (.loc n),some (D.tup [D.str "step",D.str (side b),D.str x])]) (D0:=fun δ=>∃ a,δ=[a,some (.loc n),some (D.tup [D.str "step",D.str (side b),D.str x])]) hS1 (fun a=>⟨_,rfl⟩) ks [] [none,some (.loc n),some (D.tup [D.str "step",D.str (side b),D.str x])] ⟨none,rfl⟩ ?_ ?_ ?_ (by rw [yag];simp;lia) ?_
   ·rw [← hid] at this
    exact this
   ·rintro a _ δ ⟨y,rfl⟩ Q' q'
    exact q'
   ·intro a ha Q' q'
    obtain ⟨b',x',rfl,hx'⟩:=hM.ks a ha
    simp only [aB,fQ,aX,aC,zaj,zai,zcB.injEq,exists_eq_left',aY,kW,aV,fO,iM,ee,D.bl.injEq]
    exact q'
   ·intro a ha hc Q' q'
    obtain ⟨p,hp⟩:=hM.get ha
    have hf:fv a=tD p:=by show (dc ks vs a).getD .bh=_;rw [hp];rfl
    rw [hf] at q'
    simp only [rT,aX,zaj,zai,zcB.injEq,exists_eq_left',aY]
    exact ⟨n,some o,ks,vs,tD p,rfl,hS1,hM.ln,hM.good a ha,hM.good,hp,q'⟩
   ·rw [zbH]
    obtain ⟨ps,hps⟩:∃ ps:List Pt,(ks.filter c).map fv=ps.map tD:=by
     have hall:∀ k∈ks.filter c,∃ p,fv k=tD p:=fun k hk=>by
      obtain ⟨p,hp⟩:=hM.get (zbz.mp hk).1
      exact ⟨p,by show (dc ks vs k).getD .bh=_;rw [hp];rfl⟩
     generalize ks.filter c=l at hall
     induction l with
     | nil=>exact ⟨[],rfl⟩
     | cons k l ih =>
      obtain ⟨p,hp⟩:=hall k (by simp)
      obtain ⟨ps,hps⟩:=ih fun k hk=>hall k (by simp [hk])
      exact ⟨p::ps,by simp [hp,hps]⟩
    have hpl:ps.length≤100:=by
     have:=congrArg List.length hps
     rw [zbE,zbE] at this
     have:=zat c ks
     lia
    refine ⟨n,o,ks,vs,hS1,hM.ln,?_⟩
    rw [zcm,hps,set_same hS]
    have e:[D.tup [D.str "step",D.str (side b),D.str x]]++ps.map tD=(Pt.step b x::ps).map tD:=rfl
    show [D.tup [D.str "step",D.str (side b),D.str x]].length+(ps.map tD).length≤yah∧_
    refine ⟨by rw [zbE,yag];show 1+_≤_;lia,?_⟩
    exact ⟨Pt.step b x::ps,rfl,by simp;lia,fun q'=>aT (ck _) (q q')⟩
  ·show p8 w (aX 1) (rV (cB (fQ qm (aX 0) (aC (D.int 1))) (cB (fQ qm (aX 0) (aC (D.int 2))) fF))) (aX 0) _ _ _
   push_cast [p8,aV,fO,iM,at2]
   refine ⟨n,rfl,none,ks,vs,hS,hM.ln,sz rfl,none,ks,vs,hS,hM.ln,kY (b:=b) hx,hM.good,?_⟩
   obtain ⟨q',hq'⟩:=hM.Km (.tup [.str (side b),.str x]) (.step b x)
   have hq2:((dc ks vs (.tup [.str (side b),.str x])).getD (.tup [.str "step",.str (side b),.str x]))=tD q':=hq'
   rw [hq2]
   exact aT (ck _) (q q')
def qz (W:yal) (k:Nat):AN:=fun ds S Q=>∃ (p:Pt) (n:Nat) (ks vs:List D),ds=[tD p,.loc n]∧dp p≤k∧N p≤50∧lq p∧S[n]? = some (some (vO W none ks vs))∧yb ks vs∧ks.length≤100∧∀ q:Pt,Q (.dat (tD q)) S
theorem Aj (T:Txt K mg ec EP) (F:Src K mg "put_in" eK yV) (D_step_meant:Def P w K mg base 2 "step_meant" gV (aD K (sU w))) (k:Nat) (hk:k≤4) (D_put_in:Def P w K mg base (k+2) "put_in" eK (aD K (fun ds S Q=>∃ j,j+1=k∧qz w j ds S Q))):Def P w K mg base (k+3) "put_in" eK (aD K (qz w k)):=by
 refine dS F Du (fun ds S Q h => ?_) (fun f cdv A outer s H E hr => ?_)
 ·obtain ⟨p,n,ks,vs,rfl,_⟩:=h;rfl
 ·refine ⟨_,(M.ah (M.bu (M.aA (M.dR hr) (M.aM M.bq (M.pv 0) M.ai (fun _ _=>rfl)) M.av (aN _))
    (M.aj (M.aF (M.cy D_step_meant (hr.mono (by lia)) (by rfl) (M.ay (M.pv 0) (M.ay (M.pv 1) M.aa)))))
    M.aL)
   (M.ah (M.bu (M.aA (M.l9 hr) (M.aM M.bq (M.pv 0) M.ai (fun _ _=>rfl)) T.jK rfl)
    (M.aj (M.aF (M.pv 0)))
    M.aL)
   (M.ah (M.bu (M.aA (M.dR hr) (M.aM M.bq (M.pv 0) M.ai (fun _ _=>rfl)) M.av (aN _))
    (M.aj (M.aF (M.br (M.ay M.av (M.ay (M.cy D_put_in (hr.mono (by lia)) (by rfl) (M.ay (M.aM M.bq (M.pv 0) M.ai (fun _ _=>rfl)) (M.ay (M.pv 1) M.aa))) M.aa)))))
    M.aL)
   (M.aj (M.aF (M.br (M.ay (M.aM M.bq (M.pv 0) M.ai (fun _ _=>rfl)) (M.ay (M.x9 M.jL (by rfl) T.tuple (by decide +kernel) (M.ay (M.bF (N:=["part","meant"]) (caps:=[none,some 1]) (cG (by decide +kernel)) (by rfl) (by rfl) rfl (M.bB (M.aM M.bq (M.pv 0) M.ai (fun _ _=>rfl))) (fun _ _ _ _=>(M.aG (i:=0) (by decide +kernel:List.Nodup (["part","meant"]:List Str)) rfl (Or.inl rfl))) (fun _ _ _ _=>M.dX) (fun _ _ _ _=>(M.cy D_put_in (hr.mono (by lia)) (by rfl) (M.ay (M.pv 0) (M.ay (M.pv 1) M.aa))))) M.aa)) M.aa)))))))),fun ds S Q h => ?_⟩
  obtain ⟨p,n,ks,vs,rfl,hd,hn,ho,hS,hM,hl,q⟩:=h
  have e0:aU Ba [tD p,.loc n]=[some (tD p),some (.loc n)]:=rfl
  rw [e0]
  push_cast [true_and]
  have parts:∀ (ps:List Pt) (j:Nat) (P0:D) (Q':List D→aK→Prop),iL ps≤j→k=j+1→Ns ps≤50→jy ps→(∀ bs:List Pt,bs.length=ps.length→Q' (bs.map tD) S) →
    ic (fun _=>True) (bG 0) xM (aCall (fun ds S Q=>∃ j,j+1=k∧qz w j ds S Q) (cB (aX 0) (cB (aX 1) fF))) (wH ps) [] (dM [none,some 1] [some P0,some (.loc n)]) S Q':=fun ps j P0 Q' hj hk hN hos q'=>by
   rw [bL]
   have hlen:=gJ ps
   refine eX (R:=fun _ _=>True) (δ:=dM [none,some 1] [some P0,some (.loc n)]) trivial ps [] _ rfl (fun a ha Q2 q2 => ?_) (by rw [yag];simp;lia) (fun bs hbs=>q' bs (Paired.length hbs).symm)
   simp only [aCall,cB,fF,aX,dM,zbX,zci,Option.bind_none,zby,zai,zbx,zaR,zaj,zcB.injEq,exists_eq_left',aY]
   exact ⟨j,hk.symm,a,n,ks,vs,rfl,by have:=ji ha;lia,by have:=sD ha;lia,cA.mp hos a ha,hS,hM,hl,fun b=>q2 b trivial⟩
  cases p with
  | stay =>
   push_cast [tD,aV,fO,iM,at2]
   rw [yIn (by decide)]
   refine dw (by decide +kernel) ⟨_,rfl,?_⟩
   rw [yIp (by decide)]
   exact aT rfl (q .stay)
  | step b x =>
   push_cast [tD,aV,fO,iM,at2]
   rw [yIp (by decide)]
   exact ⟨b,x,n,ks,vs,rfl,nN ho,hS,hM,hl,fun q'=>aT (ck _) (q q')⟩
  | mk b m =>
   push_cast [tD,aV,fO,iM,at2]
   rw [yIn (by cases b <;> decide)]
   refine dw (iF b) ⟨_,rfl,?_⟩
   rw [yIp (by cases b <;> decide)]
   exact aT rfl (q (.mk b m))
  | many p =>
   obtain ⟨j,rfl⟩:∃ j,k=j+1:=⟨k - 1,by simp only [dp] at hd;lia⟩
   simp only [dp,N] at hd hn
   push_cast [tD,aV,fO,iM,at2]
   rw [yIn (by decide)]
   refine dw (by decide +kernel) ⟨_,rfl,?_⟩
   rw [yIn (by decide),yIp (by decide)]
   exact ⟨j,rfl,p,n,ks,vs,rfl,by lia,by lia,ho,hS,hM,hl,fun b=>⟨sz rfl,aT (ck (.many b)) (q (.many b))⟩⟩
  | seq ps =>
   obtain ⟨j,rfl⟩:∃ j,k=j+1:=⟨k - 1,by simp only [dp] at hd;lia⟩
   simp only [dp,N] at hd hn
   push_cast [tD,aV,fO,iM,at2,bZ,cT,bT,gA]
   rw [yIn (by decide)]
   refine dw (by decide +kernel) ⟨_,rfl,?_⟩
   rw [yIn (by decide),yIn (by decide)]
   refine parts ps j _ _ (by lia) rfl (by lia) ho fun bs hbl=>⟨sz rfl,?_⟩
   have e:D.tup [.str "then",.tup (bs.map tD)]=tD (.seq bs):=by simp only [tD,bL]
   rw [e]
   exact aT (ck _) (q _)
  | alt ps =>
   obtain ⟨j,rfl⟩:∃ j,k=j+1:=⟨k - 1,by simp only [dp] at hd;lia⟩
   simp only [dp,N] at hd hn
   push_cast [tD,aV,fO,iM,at2,bZ,cT,bT,gA]
   rw [yIn (by decide)]
   refine dw (by decide +kernel) ⟨_,rfl,?_⟩
   rw [yIn (by decide),yIn (by decide)]
   refine parts ps j _ _ (by lia) rfl (by lia) ho fun bs hbl=>⟨sz rfl,?_⟩
   have e:D.tup [.str "either",.tup (bs.map tD)]=tD (.alt bs):=by simp only [tD,bL]
   rw [e]
   exact aT (ck _) (q _)
theorem Cz {k:Nat}{sp:AN} (F:Src K mg "put_in" eK yV) (h:∀ ds S Q,¬ sp ds S Q):Def P w K mg base (k+1) "put_in" eK (aD K sp) :=
 F.def Du (fun vs H Q E z=>by obtain ⟨_,_,_,_,_,_,q,_⟩:=z;exact (h _ _ _ q).elim) fun f cdv A outer s H vs Q E hr z=>by obtain ⟨_,_,_,_,_,_,q,_⟩:=z;exact (h _ _ _ q).elim
theorem DS (T:Txt K mg ec EP) (F:Src K mg "put_in" eK yV) (D_step_meant:Def P w K mg base 2 "step_meant" gV (aD K (sU w))):∀ k,k≤4→Def P w K mg base (k+3) "put_in" eK (aD K (qz w k))
 | 0,h=>Aj T F D_step_meant 0 h (Cz F fun ds S Q ⟨j,e,_⟩=>by lia)
 | k+1,h=>Aj T F D_step_meant (k+1) h ((DS T F D_step_meant k (by lia)).imp fun vs H Q E z=>by
   obtain ⟨w,ds,S,Qa,ok,rep,⟨j,e,q⟩,bk⟩:=z
   obtain rfl:j=k:=by lia
   exact ⟨w,ds,S,Qa,ok,rep,q,bk⟩)
def Ds:AN:=fun ds S Q=>∃ (p:Pt) (rs:Ru),ds=[tD p,rD rs]∧gB rs ∧ ¬ yc rs∧lq p∧dp p≤3∧N p≤50∧∀ q:Pt,Q (.dat (tD q)) S
def AB:List D→aK→(D→Prop)→Prop:=fun ds _ G=>∃ (p:Pt) (rs:Ru),ds=[tD p,rD rs]∧gB rs∧yc rs∧G=sd rs
theorem IJ (T:Txt K mg ec EP) (F:Src K mg "unfolded" ng BN) (D_order_of:Def P w K mg base 6 "order_of" cP (aD K kJ)) (DX_order_of:nM P w K mg base 6 "order_of" cP (xJ K EP (ec 6) "ring" jn)) (D_one_of:Def P w K mg base 1 "one_of" jV (aD K uU)) (D_put_in:Def P w K mg base 6 "put_in" eK (aD K (qz w 3))) (D_backwards:Def P w K mg base 6 "backwards" ig (aD K (yH 3))) :
  nM P w K mg base 7 "unfolded" ng (Hq K EP (ec 6) "ring" Ds AB):=by
 refine (IF F nU (fun f fd Fu => ?_) (fun ds S G h => ?_) (fun f cdv A outer s H w0 S0 G hr ok0 => ?_)).2.2
 ·refine J7 Fu nU (fun ds S Q h => ?_) (fun f cdv A outer s H E hr => ?_)
  ·obtain ⟨p,rs,rfl,_⟩:=h;rfl
  ·refine ⟨_,(M.ah (M.az (i:=2) nU.nd rfl (Or.inr rfl) (M.oG M.kU))
   (M.ah (M.cV PassesOwn.never rfl (M.bB (M.ow D_order_of hr (M.ay (M.pv 1) M.aa))) (M.aG (i:=3) nU.nd rfl (Or.inr rfl))
    (M.ah (M.dJ (i:=4) nU.nd rfl rfl (N:=["other","part","word"]) (caps:=[none,none,some 3]) (cG (by decide +kernel)) (by rfl) (by rfl) rfl (M.bB (M.pv 1)) (fun _ _ _ _=>(M.iC (n:=2) rfl (M.bP (M.aG (i:=0) (by decide +kernel:List.Nodup (["other","part","word"]:List Str)) rfl (Or.inl rfl)) (M.bP (M.aG (i:=1) (by decide +kernel:List.Nodup (["other","part","word"]:List Str)) rfl (Or.inl rfl)) M.fm)))) (fun _ _ _ _=>(M.bM (M.aA (M.dR hr) (M.pv 0) (M.pv 2) (aN _)))) (fun _ _ _ _=>(M.pv 1)))
    (M.ah (M.kT hr (M.pv 2) (M.br (M.ay M.av (M.ay (M.pv 3) M.aa))) (M.ow D_one_of hr (M.ay (M.bF (N:=["part","meant"]) (caps:=[none,some 2]) (cG (by decide +kernel)) (by rfl) (by rfl) rfl (M.bB (M.pv 4)) (fun _ _ _ _=>(M.aG (i:=0) (by decide +kernel:List.Nodup (["part","meant"]:List Str)) rfl (Or.inl rfl))) (fun _ _ _ _=>M.dX) (fun _ _ _ _=>(M.ow D_put_in hr (M.ay (M.pv 0) (M.ay (M.pv 1) M.aa))))) M.aa)) rfl)
    (M.aj (M.kT hr (M.pv 2) (M.br (M.ay M.av (M.ay (M.pv 3) M.aa))) (M.ow D_one_of hr (M.ay (M.bF (N:=["part","meant"]) (caps:=[none,some 2]) (cG (by decide +kernel)) (by rfl) (by rfl) rfl (M.bB (M.pv 4)) (fun _ _ _ _=>(M.aG (i:=0) (by decide +kernel:List.Nodup (["part","meant"]:List Str)) rfl (Or.inl rfl))) (fun _ _ _ _=>M.dX) (fun _ _ _ _=>(M.ow D_put_in hr (M.ay (M.ow D_backwards hr (M.ay (M.pv 0) M.aa)) (M.ay (M.pv 1) M.aa))))) M.aa)) rfl)))))
   (M.aj (M.aF (M.ow D_put_in hr (M.ay (M.pv 0) (M.ay (M.pv 2) M.aa))))))),fun ds S Q h => ?_⟩
   obtain ⟨p,rs,rfl,hR,hC,ho,hd,hn,q⟩:=h
   have e0:aU ql [tD p,rD rs]=[some (tD p),some (rD rs),none,none,none]:=rfl
   rw [e0]
   push_cast [bQ,vS]
   have hln:=hR.ln
   have hwe:(gp oK P w K mg base ql "unfolded" (ao BN) f cdv A outer s H E).w=w:=rfl
   rw [hwe]
   push_cast [iJ,cT,bT]
   refine ⟨rs,rfl,hR,hC,fun os hos => ?_⟩
   push_cast [true_and]
   have hol:os.length≤4:=by
    have:=bx hos.nd (m:=hds rs) fun x hx=>(hos.hd x).mp hx
    simp only [hds,zbE] at this;lia
   refine cE (fun rest δ S'=>∃ (o1 o2:List Str) (ks vs:List D) (v3 v4:Option D),rest=o2.map D.str∧o1++o2=os∧δ=[some (tD p),some (rD rs),some (.loc S.length),v3,v4]∧S'=S++[some (vO w none ks vs)]∧yb ks vs∧ks.length≤2*o1.length) ?_ ?_ _ _ _
    ⟨[],os,[],[],none,none,rfl,rfl,rfl,rfl,⟨rfl,by simp,by simp⟩,by simp⟩
   ·rintro δ S' ⟨o1,o2,ks,vs,v3,v4,hr,he,rfl,rfl,hM,hk⟩
    have h1:o1.length≤os.length:=by rw [← he,zaM];lia
    refine ⟨trivial,?_⟩
    push_cast [true_and]
    refine ⟨p,S.length,ks,vs,rfl,hd,hn,ho,by simp,hM,by lia,fun q' => ?_⟩
    refine ⟨_,d7 (ck q'),fun k o hk e=>.inl (by rw [zad hk] at e;exact e),?_⟩
    rw [zbK rfl]
    exact q q'
   ·rintro x xs δ S' N' ⟨o1,o2,ks,vs,v3,v4,hr,he,rfl,rfl,hM,hk⟩ hN
    cases o2 with
    | nil=>simp at hr
    | cons wd o2 =>
     rw [zbX] at hr
     injection hr with h1 h2
     subst h1;subst h2
     have hwm:wd∈hds rs:=(hos.hd wd).mp (by rw [← he];simp)
     have hwo:=dm hR wd hwm
     have hlo:o1.length+(o2.length+1)=os.length:=by rw [← he,zaM];rfl
     refine ⟨trivial,?_⟩
     push_cast [bZ,cT,rD,bT]
     refine bg (g:=fun r:Str×Pt=>D.tup [D.str r.1,tD r.2]) (c:=fun r=>decide (r.1=wd)) (f:=fun r=>tD r.2) (en:=fun r=>[some (.str r.1),some (tD r.2),some (.str wd)]) (D0:=fun δ=>∃ a b,δ=[a,b,some (.str wd)]) trivial (fun a=>⟨_,_,rfl⟩) rs [] _ ⟨none,none,rfl⟩ ?_ ?_ ?_ (by rw [yag];simp;lia) ?_
     ·rintro a _ δ ⟨x,y,rfl⟩ Q' q'
      push_cast [kh,gu,ki]
      exact ⟨_,rfl,rfl,_,_,rfl,_,_,rfl,rfl,q'⟩
     ·intro a ha Q' q'
      simp only [aB,fQ,aX,zaj,zai,zcB.injEq,exists_eq_left',aY,ee,D.bl.injEq]
      exact q'
     ·intro a ha _ Q' q'
      simp only [aX,zaj,zai,zcB.injEq,exists_eq_left',aY]
      exact q'
     ·rw [zbH]
      have em:(rs.filter fun r=>decide (r.1=wd)).map (fun r=>tD r.2)=((rs.filter fun r=>decide (r.1=wd)).map (·.2)).map tD:=by rw [zcl];rfl
      rw [em]
      have hps:∀ p∈(rs.filter fun r=>decide (r.1=wd)).map (·.2),lq p∧N p≤8∧dp p≤3:=fun p hp=>by
       obtain ⟨r,hr,rfl⟩:=zck.mp hp
       exact hR.ok r (zbz.mp hr).1
      have hpl:((rs.filter fun r=>decide (r.1=wd)).map (·.2)).length≤4:=by
       rw [zbE]
       have:=zat (fun r:Str×Pt=>decide (r.1=wd)) rs
       lia
      generalize (rs.filter fun r=>decide (r.1=wd)).map (·.2)=ps at hps hpl
      have at_:∀ (ks vs:List D),(S++[some (vO w none ks vs)])[S.length]? = some (some (vO w none ks vs)):=fun ks vs=>by simp
      push_cast [AH,bZ,cT,bT]
      refine eX (R:=fun _ _=>True) (δ:=dM [none,some 2] [some (tD p),some (D.lst (rs.map fun r=>D.tup [D.str r.1,tD r.2])),some (D.loc S.length),some (D.str wd),some (D.lst (ps.map tD))]) trivial ps [] _ rfl (fun a ha Q2 q2 => ?_) (by rw [yag];simp;lia) (fun bs hbs => ?_)
      ·simp only [aCall,cB,fF,aX,dM,zbX,zci,Option.bind_none,zby,zai,zbx,zaR,zaj,zcB.injEq,exists_eq_left',aY]
       obtain ⟨a1,a2,a3⟩:=hps a ha
       exact ⟨a,S.length,ks,vs,rfl,a3,by lia,a1,at_ ks vs,hM,by lia,fun b=>q2 b trivial⟩
      ·have hbl:=Paired.length hbs
       rw [zbH]
       refine ⟨bs,rfl,by lia,fun m1=>⟨sz rfl,yr m1,S.length,rfl,ks,vs,at_ ks vs,hM.ln,kY (b:=true) hwo,hM.good,by lia,?_⟩⟩
       obtain ⟨hM2,hl2⟩:=hM.put (b:=true) hwo m1
       rw [zau _ _ (zcy _),zcs]
       show ic _ _ _ _ _ _ _ (S++[some (vO w none (dH ks vs (kW true wd) (tD m1)).1 (dH ks vs (kW true wd) (tD m1)).2)]) _
       generalize (dH ks vs (kW true wd) (tD m1)).1=ks2 at hM2 hl2 ⊢
       generalize (dH ks vs (kW true wd) (tD m1)).2=vs2 at hM2 ⊢
       refine eX (R:=fun _ _=>True) (δ:=dM [none,some 2] [some (tD p),some (D.lst (rs.map fun r=>D.tup [D.str r.1,tD r.2])),some (D.loc S.length),some (D.str wd),some (D.lst (ps.map tD))]) trivial ps [] _ rfl (fun a ha Q2 q2 => ?_) (by rw [yag];simp;lia) (fun bs hbs => ?_)
       ·simp only [aCall,cB,fF,aX,dM,zbX,zci,Option.bind_none,zby,zai,zbx,zaR,zaj,zcB.injEq,exists_eq_left',aY]
        obtain ⟨a1,a2,a3⟩:=hps a ha
        exact ⟨a,rfl,a3,by lia,a1,fun b d1 d2 d3=>⟨b,S.length,ks2,vs2,rfl,by lia,by lia,d3,at_ ks2 vs2,hM2,by lia,fun b=>q2 b trivial⟩⟩
       ·have hbl:=Paired.length hbs
        rw [zbH]
        refine ⟨bs,rfl,by lia,fun m2=>⟨sz rfl,yr m2,S.length,rfl,ks2,vs2,at_ ks2 vs2,hM2.ln,kY (b:=false) hwo,hM2.good,by lia,?_⟩⟩
        obtain ⟨hM3,hl3⟩:=hM2.put (b:=false) hwo m2
        rw [zau _ _ (zcy _),zcs]
        exact hN _ _ ⟨o1++[wd],o2,_,_,_,_,rfl,by rw [zbd];exact he,rfl,rfl,hM3,by rw [zaM,zar];show (dH ks2 vs2 (kW false wd) (tD m2)).1.length≤_;lia⟩
 ·obtain ⟨p,rs,rfl,_⟩:=h;rfl
 ·refine ⟨_,(M.ff (M.GS.w (M.az (i:=2) nU.nd rfl (Or.inr rfl) (M.oG M.kU)))
   (M.ff (M.Ea (M.D9 ok0 G0 DX_order_of (hr.mono (by decide)) (by rfl) (M.ay (M.pv 1) M.aa)))
   (M.uH (M.GS.w (M.aF (M.ow D_put_in hr (M.ay (M.pv 0) (M.ay (M.pv 2) M.aa)))))))),fun ds h => ?_⟩
  obtain ⟨p,rs,rfl,hR,hC,rfl⟩:=h
  have e0:aU ql [tD p,rD rs]=[some (tD p),some (rD rs),none,none,none]:=rfl
  rw [e0]
  push_cast [bQ,vS,DW]
  exact ⟨⟨rs,rfl,hR,hC,rfl⟩,by simp,fun d ⟨r,e,_⟩=>by rw [e];exact bO r⟩
end
open PySem L2 M M6
noncomputable abbrev yS:Stmt:=top 35
noncomputable abbrev A8:List Str:=["_law_pattern_here","_law_found","_law_one"]
noncomputable abbrev eG:List Str:=["_law_pattern_here"]
theorem qB:aJ A8 eG (ao yS):=L2.cW
noncomputable abbrev E4:Stmt:=top 36
noncomputable abbrev Bc:List Str:=["_law_rules","_law_heads","_law_led_here","_law_word","_law_some","_law_head","_law_pattern_here"]
noncomputable abbrev nh:List Str:=["_law_rules"]
theorem jY:aJ Bc nh (ao E4):=L2.cW
noncomputable abbrev JT:Stmt:=top 37
noncomputable abbrev D3:List Str:=["_law_led_here","_law_left","_law_again","_law_word"]
noncomputable abbrev se:List Str:=["_law_led_here"]
theorem sW:aJ D3 se (ao JT):=L2.cW
noncomputable abbrev yU:Stmt:=top 38
noncomputable abbrev wg:List Str:=["_law_led_here","_law_ring_here"]
noncomputable abbrev jt:List Str:=["_law_led_here","_law_ring_here"]
theorem EB:aJ wg jt (ao yU):=L2.cW
theorem vE (l:List Str):PyData.eqv (.list (dW (l.map D.str))) (.list [])=decide (l=[]):=by
 cases l with
 | nil=>rfl
 | cons a l=>rfl
theorem je {l:List Str} (h:∀ y∈l,dB y=true) (hl:l.length≤100):fit (.lst (l.map D.str))=true:=iu (qu h hl).1 (by decide)
theorem eq_nil {l:List Str}{S:aK}{Q:AK} (h:∀ y∈l,dB y=true) (hl:l.length≤100) (q:Q (.dat (.bl (decide (l=[])))) S):Gv (.lst (l.map D.str)) (.lst []) S Q:=by
 show fit (.lst (l.map D.str))=true∧fit (.lst [])=true∧Q (.dat (.bl (PyData.eqv (.list (dW (l.map D.str))) (.list [])))) S
 rw [vE]
 exact ⟨je h hl,rfl,q⟩
theorem ne_nil {l:List Str}{S:aK}{Q:AK} (h:∀ y∈l,dB y=true) (hl:l.length≤100) (q:Q (.dat (.bl (!decide (l=[])))) S):GY (.lst (l.map D.str)) (.lst []) S Q:=by
 show fit (.lst (l.map D.str))=true∧fit (.lst [])=true∧Q (.dat (.bl (!PyData.eqv (.list (dW (l.map D.str))) (.list [])))) S
 rw [vE]
 exact ⟨je h hl,rfl,q⟩
section
variable {P:yak}{w:yal}{K:yaH}{mg:Str→Option yaj}{base:Heap}{ec:Nat→Addr}{EP:Addr}
def qy (k:Nat):AN:=fun ds S Q=>∃ p:Pt,ds=[tD p]∧dp p≤k∧N p≤50∧∀ (W:List Str) (r:R),(∀ x,x∈W↔x∈sw p)→W.length≤N p→(r = .dat (.lst (W.map D.str))∨r = .new (.lst (W.map D.str)))→Q r S
theorem Ai (T:Txt K mg ec EP) (F:Src K mg "_law_words_in" eG yS) (k:Nat) (hk:k≤4) (D_law_words_in:Def P w K mg base (k+2) "_law_words_in" eG (aD K (fun ds S Q=>∃ j,j+1=k∧qy j ds S Q))):Def P w K mg base (k+3) "_law_words_in" eG (aD K (qy k)):=by
 refine dS F qB (fun ds S Q h => ?_) (fun f cdv A outer s H E hr => ?_)
 ·obtain ⟨p,rfl,_⟩:=h;rfl
 ·refine ⟨_,(M.ah (M.bu (M.aA (M.dR hr) (M.aM M.bq (M.pv 0) M.ai (fun _ _=>rfl)) M.av (aN _))
    (M.aj (M.aF (M.aS (M.ay (M.aM M.bq (M.pv 0) M.ai (fun _ _=>rfl)) M.aa))))
    M.aL)
   (M.ah (M.az (i:=1) qB.nd rfl (Or.inl rfl) (M.aS M.aa))
   (M.ah (M.bu (M.aA (M.dR hr) (M.aM M.bq (M.pv 0) M.ai (fun _ _=>rfl)) M.av (aN _))
    (M.aj (M.aF (M.cy D_law_words_in (hr.mono (by lia)) (by rfl) (M.ay (M.aM M.bq (M.pv 0) M.ai (fun _ _=>rfl)) M.aa))))
    M.aL)
   (M.ah (M.bu (M.aA (M.l9 hr) (M.aM M.bq (M.pv 0) M.ai (fun _ _=>rfl)) (M.br (M.ay M.av (M.ay M.av M.aa))) rfl)
    (M.aj (M.cV PassesOwn.never rfl (M.bB (M.aM M.bq (M.pv 0) M.ai (fun _ _=>rfl))) (M.aG (i:=2) qB.nd rfl (Or.inl rfl))
     (M.aj (M.az (i:=1) qB.nd rfl (Or.inl rfl) (M.aW M.bY (M.pv 1) (M.cy D_law_words_in (hr.mono (by lia)) (by rfl) (M.ay (M.pv 2) M.aa)))))))
    M.aL)
   (M.aj (M.aF (M.pv 1))))))),fun ds S Q h => ?_⟩
  obtain ⟨p,rfl,hd,hn,q⟩:=h
  have e0:aU A8 [tD p]=[some (tD p),none,none]:=rfl
  rw [e0]
  push_cast [true_and]
  have loop:∀ (ps:List Pt) (P0:D) (j:Nat),k=j+1→iL ps≤j→Ns ps≤50→(∀ (W:List Str),(∀ x,x∈W↔x∈nu ps)→W.length≤Ns ps→Q (.dat (.lst (W.map D.str))) S) →
    mq (fun x=>True) (bG 2) (kH (fQ nL (aX 1) (aCall (fun ds S Q=>∃ j,j+1=k∧qy j ds S Q) (cB (aX 2) fF))) (bG 1)) (wH ps)
     { nx:=rX (aX 1) { nx:=fun x S'=>M.ret S S' (R.dat D.bh) Q,rt:=fun r S'=>M.ret S S' r Q },rt:=fun r S'=>M.ret S S' r Q } [some P0,some (.lst []),none] S:=by
   rintro ps P0 j rfl hj hN q'
   refine cE (fun rest δ S'=>∃ (qs rs:List Pt) (W:List Str) (v:Option D),rest=rs.map tD∧qs++rs=ps∧S'=S∧(∀ x,x∈W↔x∈nu qs)∧W.length≤Ns qs∧δ=[some P0,some (.lst (W.map D.str)),v]) ?_ ?_ _ _ _ ⟨[],ps,[],none,bL ps,rfl,rfl,fun x=>by simp [nu],zcy _,rfl⟩
   ·rintro δ S' ⟨qs,rs,W,v,hr,he,rfl,hW,hWl,rfl⟩
    obtain rfl:rs=[]:=by cases rs with
     | nil=>rfl
     | cons _ _=>simp at hr
    rw [zbB] at he
    subst he
    exact ⟨trivial,_,rfl,aT (bO W) (q' W hW hWl)⟩
   ·rintro x rest δ S' N' ⟨qs,rs,W,v,hr,he,rfl,hW,hWl,rfl⟩ hN'
    cases rs with
    | nil=>simp at hr
    | cons r rs =>
     rw [zbX] at hr
     injection hr with h1 h2
     subst h1;subst h2
     have hm:r∈ps:=by rw [← he];simp
     have hnr:=sD hm
     have hsum:Ns qs+N r≤Ns ps:=by rw [← he,cX];simp only [Ns];lia
     refine ⟨trivial,?_⟩
     push_cast [true_and]
     refine ⟨j,rfl,r,rfl,by have:=ji hm;lia,by lia,fun W2 rr hW2 hl2 hr2 => ?_⟩
     have fin:(W.map D.str).length+(W2.map D.str).length≤yah∧N' [some P0,some (.lst (W.map D.str++W2.map D.str)),some (tD r)] S':=by
      refine ⟨by rw [zbE,zbE,yag];lia,?_⟩
      rw [← zbI]
      refine hN' _ _ ⟨qs++[r],rs,W++W2,some (tD r),rfl,by rw [zbd];exact he,rfl,fun x => ?_,by rw [zaM,cX];simp only [Ns];lia,rfl⟩
      rw [zbA,hW,hW2,iw,zbA]
      simp [nu]
     rcases hr2 with rfl | rfl
     ·simpa only [rX,rW,m9,AL,rY,aCall,cB,fF,aX,aC,fQ,Ja,aB,kG,Gu,fB,nK,m5,uB,AQ,kH,bG,kj,m8,Gq,mZ,fE,ko,rV,qc,aY,fZ,d8,i9,i8,m6,gz,gy,jh,ee,lC,iO,iN,true_and,xO,xN,fX,fU,iR,fW,eT,eU,fV,zaj,zai,zaR,zaS,zcB.injEq,exists_eq_left',zcD.injEq,and_true,D.ty.injEq,D.bl.injEq,D.int.injEq,D.str.injEq,and_assoc,exists_and_left,exists_eq_left,exists_and_right,iA,iT,zaX,if_true,if_false,zcf,zbP] using fin
     ·simpa only [rX,rW,m9,AL,rY,aCall,cB,fF,aX,aC,fQ,Ja,aB,kG,Gu,fB,nK,m5,uB,AQ,kH,bG,kj,m8,Gq,mZ,fE,ko,rV,qc,aY,fZ,d8,i9,i8,m6,gz,gy,jh,ee,lC,iO,iN,true_and,xO,xN,fX,fU,iR,fW,eT,eU,fV,zaj,zai,zaR,zaS,zcB.injEq,exists_eq_left',zcD.injEq,and_true,D.ty.injEq,D.bl.injEq,D.int.injEq,D.str.injEq,and_assoc,exists_and_left,exists_eq_left,exists_and_right,iA,iT,zaX,if_true,if_false,zcf,zbP] using fin
  cases p with
  | stay =>
   push_cast [tD,aV,fO,iM,at2]
   rw [yIn (by decide)]
   refine ⟨zcz _,?_⟩
   rw [yIn (by decide)]
   refine ⟨sz rfl,vA (by decide +kernel) ⟨_,rfl,?_⟩⟩
   rw [yIn (by decide)]
   exact aT rfl (q [] _ (fun x=>by simp [sw]) (zcz _) (.inl rfl))
  | step b x =>
   push_cast [tD,aV,fO,iM,at2]
   rw [yIp (by decide)]
   exact ⟨sz rfl,kP rfl (q [x] _ (fun y=>by simp [sw]) (zcy _) (.inr rfl))⟩
  | mk b m =>
   push_cast [tD,aV,fO,iM,at2]
   rw [yIn (by cases b <;> decide)]
   refine ⟨zcz _,?_⟩
   rw [yIn (by cases b <;> decide)]
   refine ⟨sz rfl,vA (iF b) ⟨_,rfl,?_⟩⟩
   rw [yIn (by cases b <;> decide)]
   exact aT rfl (q [] _ (fun x=>by simp [sw]) (zcz _) (.inl rfl))
  | many p =>
   obtain ⟨j,rfl⟩:∃ j,k=j+1:=⟨k - 1,by simp only [dp] at hd;lia⟩
   simp only [dp,N] at hd hn q
   push_cast [tD,aV,fO,iM,at2]
   rw [yIn (by decide)]
   refine ⟨zcz _,?_⟩
   rw [yIp (by decide)]
   refine ⟨j,rfl,p,rfl,by lia,by lia,fun W r hW hl hr2 => ?_⟩
   rcases hr2 with rfl | rfl
   ·exact aT (bO W) (q W _ hW (by lia) (.inl rfl))
   ·exact kP (bO W) (q W _ hW (by lia) (.inr rfl))
  | seq ps =>
   obtain ⟨j,rfl⟩:∃ j,k=j+1:=⟨k - 1,by simp only [dp] at hd;lia⟩
   simp only [dp,N] at hd hn q
   push_cast [tD,aV,fO,iM,at2]
   rw [yIn (by decide)]
   refine ⟨zcz _,?_⟩
   rw [yIn (by decide)]
   refine ⟨sz rfl,vA (by decide +kernel) ⟨_,rfl,?_⟩⟩
   rw [yIp (by decide)]
   push_cast [iJ,cT,aV,iM,bT]
   exact loop ps _ j rfl (by lia) (by lia) fun W hW hl=>q W _ hW (by lia) (.inl rfl)
  | alt ps =>
   obtain ⟨j,rfl⟩:∃ j,k=j+1:=⟨k - 1,by simp only [dp] at hd;lia⟩
   simp only [dp,N] at hd hn q
   push_cast [tD,aV,fO,iM,at2]
   rw [yIn (by decide)]
   refine ⟨zcz _,?_⟩
   rw [yIn (by decide)]
   refine ⟨sz rfl,vA (by decide +kernel) ⟨_,rfl,?_⟩⟩
   rw [yIp (by decide)]
   push_cast [iJ,cT,aV,iM,bT]
   exact loop ps _ j rfl (by lia) (by lia) fun W hW hl=>q W _ hW (by lia) (.inl rfl)
theorem Cy {k:Nat}{sp:AN} (F:Src K mg "_law_words_in" eG yS) (h:∀ ds S Q,¬ sp ds S Q):Def P w K mg base (k+1) "_law_words_in" eG (aD K sp) :=
 F.def qB (fun vs H Q E z=>by obtain ⟨_,_,_,_,_,_,q,_⟩:=z;exact (h _ _ _ q).elim) fun f cdv A outer s H vs Q E hr z=>by obtain ⟨_,_,_,_,_,_,q,_⟩:=z;exact (h _ _ _ q).elim
theorem DR (T:Txt K mg ec EP) (F:Src K mg "_law_words_in" eG yS):∀ k,k≤4→Def P w K mg base (k+3) "_law_words_in" eG (aD K (qy k))
 | 0,h=>Ai T F 0 h (Cy F fun ds S Q ⟨j,e,_⟩=>by lia)
 | k+1,h=>Ai T F (k+1) h ((DR T F k (by lia)).imp fun vs H Q E z=>by
   obtain ⟨w,ds,S,Qa,ok,rep,⟨j,e,q⟩,bk⟩:=z
   obtain rfl:j=k:=by lia
   exact ⟨w,ds,S,Qa,ok,rep,q,bk⟩)
theorem IL (T:Txt K mg ec EP) (F:Src K mg "_law_led" nh E4) (D_law_words_in:Def P w K mg base 6 "_law_words_in" eG (aD K (qy 3))):Def P w K mg base 7 "_law_led" nh (aD K kK):=by
 refine dS F jY (fun ds S Q h => ?_) (fun f cdv A outer s H E hr => ?_)
 ·obtain ⟨rs,rfl,_⟩:=h;rfl
 ·refine ⟨_,(M.ah (M.az (i:=1) jY.nd rfl (Or.inl rfl) (M.fq rfl (by rfl) T.sorted (by rfl) T.set (M.bF (N:=["_law_rule"]) (caps:=[none]) (cG (by decide +kernel)) (by rfl) (by rfl) rfl (M.bB (M.pv 0)) (fun _ _ _ _=>(M.aG (i:=0) (by decide +kernel:List.Nodup (["_law_rule"]:List Str)) rfl (Or.inl rfl))) (fun _ _ _ _=>M.dX) (fun _ _ _ _=>(M.aM M.bq (M.pv 0) M.ai (fun _ _=>rfl))))))
   (M.ah (M.az (i:=2) jY.nd rfl (Or.inl rfl) (M.oG M.i0))
   (M.ah (M.cV PassesOwn.never rfl (M.bB (M.pv 1)) (M.aG (i:=3) jY.nd rfl (Or.inl rfl))
    (M.ah (M.az (i:=4) jY.nd rfl (Or.inr rfl) (M.aS M.aa))
    (M.ah (M.cV PassesOwn.never rfl (M.bB (M.pv 0)) (M.iC (n:=2) rfl (M.bP (M.aG (i:=5) jY.nd rfl (Or.inl rfl)) (M.bP (M.aG (i:=6) jY.nd rfl (Or.inl rfl)) M.fm)))
     (M.aj (M.bu (M.aA (M.dR hr) (M.pv 5) (M.pv 3) (aN _))
      (M.aj (M.az (i:=4) jY.nd rfl (Or.inr rfl) (M.aW M.bY (M.pv 4) (M.ow D_law_words_in hr (M.ay (M.pv 6) M.aa)))))
      M.aL)))
    (M.aj (M.qN (c9 hr) (M.pv 2) (M.pv 3) (M.bF (N:=["_law_one","_law_some"]) (caps:=[none,some 4]) (cG (by decide +kernel)) (by rfl) (by rfl) rfl (M.bB (M.pv 1)) (fun _ _ _ _=>(M.aG (i:=0) (by decide +kernel:List.Nodup (["_law_one","_law_some"]:List Str)) rfl (Or.inl rfl))) (fun _ _ _ _=>(M.bM (M.pw_pt (M.pw_or (M.aA (M.l9 hr) (M.pv 0) (M.pv 1) rfl) (M.pw_or1 (M.aA (M.l9 hr) M.av (M.pv 1) rfl)))))) (fun _ _ _ _=>(M.pv 0))) rfl)))))
   (M.aj (M.aF (M.pv 2)))))),fun ds S Q h => ?_⟩
  obtain ⟨rs,rfl,hR,q⟩:=h
  have e0:aU Bc [rD rs]=[some (rD rs),none,none,none,none,none,none]:=rfl
  rw [e0]
  push_cast [bQ,qh,jq,bZ,cT,rD,bT]
  have hln:=hR.ln
  refine bg (g:=fun r:Str×Pt=>D.tup [D.str r.1,tD r.2]) (c:=fun _=>true) (f:=fun r=>D.str r.1) (en:=fun r=>[some (D.tup [D.str r.1,tD r.2])]) (D0:=fun δ=>∃ a,δ=[a]) trivial (fun a=>⟨_,rfl⟩) rs [] _ ⟨none,rfl⟩ ?_ (fun a _ Q' q'=>q') ?_ (by rw [yag];simp;lia) ?_
  ·rintro a _ δ ⟨x,rfl⟩ Q' q'
   exact q'
  ·intro a ha _ Q' q'
   simp only [fQ,aX,aC,zaj,zcB.injEq,exists_eq_left',aY,aV,fO]
   exact q'
  ·have em:(rs.filter fun _=>true).map (fun r=>D.str r.1)=(hds rs).map D.str:=by rw [List.filter_eq_self.mpr (by simp),hds,zcl];rfl
   rw [zbH,em]
   refine ⟨hds rs,.inr rfl,by simp only [hds,zbE];lia,fun hs hnd hmem _ => ?_⟩
   have hsl:hs.length≤4:=by
    have:=bx hnd (m:=hds rs) fun x hx=>(hmem x).mp hx
    simp only [hds,zbE] at this;lia
   have hso:∀ x∈hs,dB x=true:=fun x hx=>dm hR x ((hmem x).mp hx)
   push_cast [iJ,cT,bT]
   refine cE (fun rest δ S'=>∃ (h1 h2:List Str) (ld:List (Str×List Str)) (v3 v4 v5 v6:Option D),rest=h2.map D.str∧h1++h2=hs∧δ=[some (rD rs),some (.lst (hs.map D.str)),some (.loc S.length),v3,v4,v5,v6]∧S'=S++[some (bD ld)]∧ld.map (·.1)=h1∧(∀ w l,(w,l)∈ld→∀ o,o∈l↔Ld rs w o)∧∀ w l,(w,l)∈ld→l.length≤100) ?_ ?_ _ _ _
    ⟨[],hs,[],none,none,none,none,rfl,rfl,rfl,rfl,rfl,by simp,by simp⟩
   ·rintro δ S' ⟨h1,h2,ld,v3,v4,v5,v6,hr,he,rfl,rfl,hk,ha,hl⟩
    obtain rfl:h2=[]:=by cases h2 with
     | nil=>rfl
     | cons _ _=>simp at hr
    rw [zbB] at he
    refine ⟨trivial,_,rfl,pq (AD ld _) (q ld ⟨by rw [hk,he];exact hnd,fun x=>by rw [hk,he];exact hmem x,ha,hl⟩)⟩
   ·rintro x xs δ S' N' ⟨h1,h2,ld,v3,v4,v5,v6,hr,he,rfl,rfl,hk,ha,hl⟩ hN
    cases h2 with
    | nil=>simp at hr
    | cons wd h2 =>
     rw [zbX] at hr
     injection hr with e1 e2
     subst e1;subst e2
     have hwm:wd∈hs:=by rw [← he];simp
     refine ⟨trivial,?_⟩
     push_cast [iJ,cT,rD,bT]
     refine ⟨zcz _,?_⟩
     refine cE (fun rest δ S'=>∃ (r1 r2:Ru) (W:List Str) (v5 v6:Option D),rest=r2.map (fun r=>D.tup [D.str r.1,tD r.2])∧r1++r2=rs∧δ=[some (rD rs),some (.lst (hs.map D.str)),some (.loc S.length),some (.str wd),some (.lst (W.map D.str)),v5,v6]∧S'=S++[some (bD ld)]∧(∀ x,x∈W↔∃ p,(wd,p)∈r1∧x∈sw p)∧W.length≤8*r1.length) ?_ ?_ _ _ _
      ⟨[],rs,[],v5,v6,rfl,rfl,rfl,rfl,by simp,zcy _⟩
     ·rintro δ S' ⟨r1,r2,W,v5',v6',hr,her,rfl,rfl,hW,hWl⟩
      obtain rfl:r2=[]:=by cases r2 with
       | nil=>rfl
       | cons _ _=>simp at hr
      rw [zbB] at her
      subst her
      refine ⟨trivial,?_⟩
      have hWo:∀ y∈W,dB y=true:=fun y hy=>by
       obtain ⟨p,h1,h2⟩:=(hW y).mp hy
       exact uS p (hR.ok _ h1).1 y h2
      have e3:(S++[some (bD ld)])[S.length]? = some (some (bD ld)):=by simp
      push_cast [qg,bZ,cT,bT]
      refine bg (g:=D.str) (c:=fun o=>decide (o∈W)||decide (("*" : Str)∈W)) (f:=D.str) (en:=fun o=>[some (.str o),some (.lst (W.map D.str))]) (D0:=fun δ=>∃ a,δ=[a,some (.lst (W.map D.str))]) trivial (fun a=>⟨_,rfl⟩) hs [] _ ⟨none,rfl⟩ ?_ ?_ ?_ (by rw [yag];simp;lia) ?_
      ·rintro a _ δ ⟨x,rfl⟩ Q' q'
       exact q'
      ·intro a ha2 Q' q'
       simp only [AQ,aB,fQ,aX,aC,zaj,zai,zcB.injEq,exists_eq_left',aY]
       refine dD (hso a ha2) hWo (by lia) ⟨_,rfl,?_⟩
       rw [zbQ]
       refine eF (fun h => ?_) (fun h => ?_)
       ·rw [h,Bool.true_or] at q';exact q'
       ·have h:decide (a∈W)=false:=by simpa using h
        refine dD (by decide +kernel) hWo (by lia) ⟨_,rfl,?_⟩
        rw [h,zcd] at q'
        rw [zbQ];exact q'
      ·intro a _ _ Q' q'
       simp only [aX,zaj,zcB.injEq,exists_eq_left',aY]
       exact q'
      ·rw [zbH]
       generalize hL:hs.filter (fun o=>decide (o∈W)||decide (("*" : Str)∈W))=L
       have hLl:L.length≤4:=by
        rw [← hL]
        have:=zat (fun o=>decide (o∈W)||decide (("*" : Str)∈W)) hs
        lia
       have hwn:wd ∉ ld.map (·.1):=by
        rw [hk]
        intro z
        have:=zbg.mp (by rw [he];exact hnd:(h1++wd::h2).Nodup)
        exact this.2.2 wd z wd zaL rfl
       refine ⟨S.length,rfl,_,_,_,rfl,e3,?_,?_⟩
       ·rw [zbE]
        have:ld.length=h1.length:=by rw [← hk,zbE]
        have h5:h1.length+(h2.length+1)=hs.length:=by rw [← he,zaM];rfl
        lia
       ·rw [zm,zau _ _ (zcy _),zcs]
        have ep:lV ld wd L=ld++[(wd,L)]:=by
         unfold lV
         rw [yIn (fun z=>hwn ((k9 ld wd).mp z))]
        refine hN _ _ ⟨h1++[wd],h2,lV ld wd L,_,_,_,_,rfl,by rw [zbd];exact he,rfl,rfl,by rw [ep,zbI,hk];rfl,fun x l hx o => ?_,fun x l hx => ?_⟩
        ·rcases kR x l hx with ⟨rfl,rfl⟩ | ⟨_,hx⟩
         ·rw [← hL,zbz,hmem,zbM,decide_eq_true_eq,decide_eq_true_eq,hW,hW]
          unfold Ld
          refine and_congr_right fun _=>⟨?_,?_⟩
          ·rintro (⟨p,h1,h2⟩ | ⟨p,h1,h2⟩)
           ·exact ⟨p,h1,.inl h2⟩
           ·exact ⟨p,h1,.inr h2⟩
          ·rintro ⟨p,h1,h2 | h2⟩
           ·exact .inl ⟨p,h1,h2⟩
           ·exact .inr ⟨p,h1,h2⟩
         ·exact ha x l hx o
        ·rcases kR x l hx with ⟨rfl,rfl⟩ | ⟨_,hx⟩
         ·lia
         ·exact hl x l hx
     ·rintro y ys δ S' N2 ⟨r1,r2,W,v5',v6',hr,her,rfl,rfl,hW,hWl⟩ hN2
      cases r2 with
      | nil=>simp at hr
      | cons r r2 =>
       rw [zbX] at hr
       injection hr with e1 e2
       subst e1;subst e2
       obtain ⟨hd0,p⟩:=r
       have hm:(hd0,p)∈rs:=by rw [← her];simp
       obtain ⟨hop,hnp,hdp⟩:lq p∧N p≤8∧dp p≤3:=hR.ok _ hm
       have hr5:r1.length+(r2.length+1)=rs.length:=by rw [← her,zaM];rfl
       refine ⟨trivial,?_⟩
       push_cast [kh,gu,ki]
       refine ⟨_,rfl,rfl,_,_,rfl,_,_,rfl,rfl,?_⟩
       push_cast [true_and]
       refine eF (fun h => ?_) (fun h => ?_)
       ·have h:hd0=wd:=by simpa using h
        subst h
        refine ⟨p,rfl,hdp,by lia,fun W2 rr hW2 hl2 hr2 => ?_⟩
        have fin:(W.map D.str).length+(W2.map D.str).length≤yah∧N2 [some (rD rs),some (.lst (hs.map D.str)),some (.loc S.length),some (.str hd0),some (.lst (W.map D.str++W2.map D.str)),some (.str hd0),some (tD p)] (S++[some (bD ld)]):=by
         refine ⟨by rw [zbE,zbE,yag];lia,?_⟩
         rw [← zbI]
         refine hN2 _ _ ⟨r1++[(hd0,p)],r2,W++W2,_,_,rfl,by rw [zbd];exact her,rfl,rfl,fun x => ?_,by simp only [zaM,zar];lia⟩
         rw [zbA,hW,hW2]
         constructor
         ·rintro (⟨p',h1,h2⟩ | h2)
          ·exact ⟨p',zay _ h1,h2⟩
          ·exact ⟨p,zaq _ (by simp),h2⟩
         ·rintro ⟨p',h1,h2⟩
          rcases zbA.mp h1 with h1 | h1
          ·exact .inl ⟨p',h1,h2⟩
          ·cases zaP.mp h1;exact .inr h2
        rcases hr2 with rfl | rfl
        ·simpa only [rX,rW,m9,AL,rY,aCall,cB,fF,aX,aC,fQ,Ja,aB,kG,Gu,fB,nK,m5,uB,AQ,kH,bG,kj,m8,Gq,mZ,fE,ko,rV,qc,aY,fZ,d8,i9,i8,m6,gz,gy,jh,ee,lC,iO,iN,true_and,xO,xN,fX,fU,iR,fW,eT,eU,fV,zaj,zai,zaR,zaS,zcB.injEq,exists_eq_left',zcD.injEq,and_true,D.ty.injEq,D.bl.injEq,D.int.injEq,D.str.injEq,and_assoc,exists_and_left,exists_eq_left,exists_and_right,iA,iT,zaX,if_true,if_false,zcf,zbP] using fin
        ·simpa only [rX,rW,m9,AL,rY,aCall,cB,fF,aX,aC,fQ,Ja,aB,kG,Gu,fB,nK,m5,uB,AQ,kH,bG,kj,m8,Gq,mZ,fE,ko,rV,qc,aY,fZ,d8,i9,i8,m6,gz,gy,jh,ee,lC,iO,iN,true_and,xO,xN,fX,fU,iR,fW,eT,eU,fV,zaj,zai,zaR,zaS,zcB.injEq,exists_eq_left',zcD.injEq,and_true,D.ty.injEq,D.bl.injEq,D.int.injEq,D.str.injEq,and_assoc,exists_and_left,exists_eq_left,exists_and_right,iA,iT,zaX,if_true,if_false,zcf,zbP] using fin
       ·have h:hd0≠wd:=by simpa using h
        refine hN2 _ _ ⟨r1++[(hd0,p)],r2,W,_,_,rfl,by rw [zbd];exact her,rfl,rfl,fun x => ?_,by rw [zaM,zar];lia⟩
        rw [hW]
        refine exists_congr fun p'=>and_congr_left fun _ => ?_
        rw [zbA]
        exact ⟨.inl,fun z=>z.elim id fun z=>absurd (by cases zaP.mp z;rfl) h⟩
end
open PySem L2 M M6
structure LI (rs:Ru) (ls:List Str):Prop where
 nd:ls.Nodup
 hd:∀ x∈ls,x∈hds rs
 cl:∀ qs,GL rs qs→∀ x∈qs,x∈ls
theorem LI.len {rs:Ru}{ls:List Str} (h:LI rs ls):ls.length≤rs.length:=by
 have:=bx h.nd h.hd
 simpa [hds] using this
theorem LI.drop {rs:Ru}{ls:List Str}{x:Str} (h:LI rs ls) (hx:∀ o∈ls,¬ Ld rs x o):LI rs (ls.filter fun y => !decide (y=x)):=by
 refine ⟨h.nd.filter _,fun y hy=>h.hd y (zbz.mp hy).1,fun qs hq y hy=>zbz.mpr ⟨h.cl qs hq y hy,?_⟩⟩
 simp only [zbj,decide_eq_false_iff_not]
 rintro rfl
 obtain ⟨o,ho,hl⟩:=hq.2 y hy
 exact hx o (h.cl qs hq o ho) hl
section
variable {P:yak}{w:yal}{K:yaH}{mg:Str→Option yaj}{base:Heap}{ec:Nat→Addr}{EP:Addr}
def Ho:AN:=fun ds S Q=>∃ (rs:Ru) (n:Nat) (ld:List (Str×List Str)),ds=[.loc n]∧S[n]? = some (some (bD ld))∧sF rs ld∧gB rs∧∀ b:Bool,(b=true↔yc rs)→Q (.dat (.bl b)) S
theorem Kq (T:Txt K mg ec EP) (F:Src K mg "_law_goes_round" se JT):Def P w K mg base 1 "_law_goes_round" se (aD K Ho):=by
 refine dS F sW (fun ds S Q h => ?_) (fun f cdv A outer s H E hr => ?_)
 ·obtain ⟨rs,n,ld,rfl,_⟩:=h;rfl
 ·refine ⟨_,(M.ah (M.az (i:=1) sW.nd rfl (Or.inr rfl) (M.x9 (M.pN hr) (by rfl) T.list (by decide +kernel) (M.ay (M.pv 0) M.aa)))
   (M.ah (M.az (i:=2) sW.nd rfl (Or.inl rfl) M.eW)
   (M.ah (M.dI PassesOwn.never (M.cu (M.pv 2))
    (M.ah (M.az (i:=2) sW.nd rfl (Or.inl rfl) M.eW)
    (M.aj (M.cV PassesOwn.never rfl (M.bB (M.pv 1)) (M.aG (i:=3) sW.nd rfl (Or.inr rfl))
     (M.aj (M.bu (M.aA (M.dR hr) (M.bF (N:=["_law_one","_law_left"]) (caps:=[none,some 1]) (cG (by decide +kernel)) (by rfl) (by rfl) rfl (M.bB (M.l5 (c9 hr) (M.pv 0) (M.pv 3) (fun _ _=>rfl))) (fun _ _ _ _=>(M.aG (i:=0) (by decide +kernel:List.Nodup (["_law_one","_law_left"]:List Str)) rfl (Or.inl rfl))) (fun _ _ _ _=>(M.bM (M.aA (M.l9 hr) (M.pv 0) (M.pv 1) rfl))) (fun _ _ _ _=>(M.pv 0))) (M.aS M.aa) (aN _))
      (M.ah (M.az (i:=1) sW.nd rfl (Or.inr rfl) (M.bF (N:=["_law_one","_law_word"]) (caps:=[none,some 3]) (cG (by decide +kernel)) (by rfl) (by rfl) rfl (M.bB (M.pv 1)) (fun _ _ _ _=>(M.aG (i:=0) (by decide +kernel:List.Nodup (["_law_one","_law_word"]:List Str)) rfl (Or.inl rfl))) (fun _ _ _ _=>(M.bM (M.aA (M.pM hr) (M.pv 0) (M.pv 1) (aN _)))) (fun _ _ _ _=>(M.pv 0))))
      (M.aj (M.az (i:=2) sW.nd rfl (Or.inl rfl) M.eW)))
      M.aL))))))
   (M.aj (M.aF (M.dY (M.pM hr) (M.pv 1) (M.aS M.aa) (aN _))))))),fun ds S Q h => ?_⟩
  obtain ⟨rs,n,ld,rfl,hS,hB,hR,q⟩:=h
  have e0:aU D3 [.loc n]=[some (.loc n),none,none,none]:=rfl
  rw [e0]
  have hln:=hR.ln
  have zT:=jE hS
  push_cast [qe,zT]
  refine ⟨_,⟨_,rfl⟩,?_⟩
  rw [pR]
  obtain ⟨W,hW⟩:∃ W:Nat→bU→aK→Prop,W=fun m δ S'=>∃ (ls:List Str) (b:Bool) (v:Option D),m=ls.length+b.toNat∧LI rs ls∧(b=false→GL rs ls)∧S'=S∧δ=[some (.loc n),some (.lst (ls.map D.str)),some (.bl b),v]:=⟨_,rfl⟩
  refine ⟨W,⟨_,by rw [hW];exact ⟨ld.map fun p=>p.1,true,none,rfl,⟨hB.nd,fun x hx=>(hB.ks x).mp hx,fun qs hq x hx=>(hB.ks x).mpr (hq.1 x hx)⟩,(fun z=>by cases z),rfl,rfl⟩⟩,?_⟩
  intro m δ S' hw
  rw [hW] at hw
  obtain ⟨ls,b,v,rfl,hi,hc,rfl,rfl⟩:=hw
  have hlen:=hi.len
  have hlo:∀ y∈ls,dB y=true:=fun y hy=>dm hR y (hi.hd y hy)
  push_cast [true_and]
  cases b with
  | false =>
   rw [yIn (by decide)]
   refine ⟨zcz _,ne_nil hlo (by lia) ?_⟩
   rw [iA]
   refine q _ ⟨fun h=>⟨ls,by simpa using h,hc rfl⟩,fun ⟨qs,hne,hq⟩ => ?_⟩
   obtain ⟨x,hx⟩:=zaf _ hne
   have:=hi.cl qs hq x hx
   simp only [zbj,decide_eq_false_iff_not]
   intro e
   rw [e] at this;simp at this
  | true =>
   rw [yIp rfl]
   obtain ⟨N0,hN0⟩:∃ N:bU→aK→Prop,N=fun δ' S2=>∃ (cur:List Str) (b:Bool) (v:Option D),LI rs cur∧(b=true→cur.length<ls.length)∧(b=false→cur=ls∧GL rs ls)∧S2=S'∧δ'=[some (.loc n),some (.lst (cur.map D.str)),some (.bl b),v]:=⟨_,rfl⟩
   refine ⟨N0,?_,?_⟩
   ·intro δ' S2 h
    rw [hN0] at h
    obtain ⟨cur,b,v,h1,h2,h3,rfl,rfl⟩:=h
    refine ⟨cur.length+b.toNat,?_,?_⟩
    ·cases b with
     | true=>have:=h2 rfl;simp;lia
     | false=>rw [(h3 rfl).1];simp
    ·rw [hW]
     exact ⟨cur,b,v,rfl,h1,fun z=>by rw [(h3 z).1];exact (h3 z).2,rfl,rfl⟩
   ·clear hW
    push_cast [iJ,cT,bT]
    refine cE (fun rest δ S2=>∃ (d1 d2 cur:List Str) (b:Bool) (v:Option D),rest=d2.map D.str∧d1++d2=ls∧LI rs cur∧(∀ x∈d2,x∈cur)∧(b=true→cur.length<ls.length)∧(b=false→cur=ls∧∀ x∈d1,∃ o∈ls,Ld rs x o)∧S2=S'∧δ=[some (.loc n),some (.lst (cur.map D.str)),some (.bl b),v]) ?_ ?_ _ _ _
     ⟨[],ls,ls,false,v,rfl,rfl,hi,fun x hx=>hx,(fun z=>by cases z),fun _=>⟨rfl,by simp⟩,rfl,rfl⟩
    ·rintro δ S2 ⟨d1,d2,cur,b,v,hr,he,h1,h2,h3,h4,rfl,rfl⟩
     obtain rfl:d2=[]:=by cases d2 with
      | nil=>rfl
      | cons _ _=>simp at hr
     rw [zbB] at he
     subst he
     exact ⟨trivial,by show N0 _ _;rw [hN0];exact ⟨cur,b,v,h1,h3,fun z=>⟨(h4 z).1,hi.hd,(h4 z).2⟩,rfl,rfl⟩⟩
    ·rintro x xs δ S2 N' ⟨d1,d2,cur,b,v,hr,he,h1,h2,h3,h4,rfl,rfl⟩ hN
     cases d2 with
     | nil=>simp at hr
     | cons wd d2 =>
      rw [zbX] at hr
      injection hr with e1 e2
      subst e1;subst e2
      have hwc:=h2 wd (by simp)
      have hwh:=h1.hd wd hwc
      have hcl:=h1.len
      have hcle:cur.length≤ls.length:=by
       cases b with
       | true=>have:=h3 rfl;lia
       | false=>rw [(h4 rfl).1];exact zcy _
      have hco:∀ y∈cur,dB y=true:=fun y hy=>dm hR y (h1.hd y hy)
      obtain ⟨⟨w',l⟩,hm,rfl⟩:=zck.mp ((hB.ks wd).mpr hwh)
      have Iq:∀ o∈l,dB o=true:=fun o ho=>dm hR o ((hB.at_ _ l hm o).mp ho).1
      have hl1:=hB.ln _ l hm
      refine ⟨trivial,?_⟩
      push_cast [bZ,cT,m7,zT]
      refine ⟨_,_,rfl,_,rfl,_,gm hB.nd hm,?_⟩
      push_cast [bT]
      refine bg (g:=D.str) (c:=fun o=>decide (o∈cur)) (f:=D.str) (en:=fun o=>[some (.str o),some (.lst (cur.map D.str))]) (D0:=fun δ=>∃ a,δ=[a,some (.lst (cur.map D.str))]) trivial (fun a=>⟨_,rfl⟩) l [] _ ⟨none,rfl⟩ ?_ ?_ ?_ (by rw [yag];simp;lia) ?_
      ·rintro a _ δ ⟨x,rfl⟩ Q' q'
       exact q'
      ·intro a ha Q' q'
       simp only [aB,fQ,aX,zaj,zai,zcB.injEq,exists_eq_left',aY]
       refine dD (Iq a ha) hco (by lia) ⟨_,rfl,?_⟩
       rw [zbQ];exact q'
      ·intro a _ _ Q' q'
       simp only [aX,zaj,zcB.injEq,exists_eq_left',aY]
       exact q'
      ·rw [zbH]
       have hfe:l.filter (fun o=>decide (o∈cur))=[]↔∀ o∈cur,¬ Ld rs w' o:=by
        rw [List.filter_eq_nil_iff]
        constructor
        ·intro h o ho hl
         exact h o ((hB.at_ _ l hm o).mpr hl) (yDt ho)
        ·intro h o ho z
         exact h o (of_decide_eq_true z) ((hB.at_ _ l hm o).mp ho)
       have hfl:(l.filter fun o=>decide (o∈cur)).length≤100:=by
        have:=zat (fun o=>decide (o∈cur)) l
        lia
       refine ⟨zcz _,eq_nil (fun y hy=>Iq y (zbz.mp hy).1) hfl ⟨_,rfl,?_⟩⟩
       refine eF (fun h => ?_) (fun h => ?_)
       ·have hno:=hfe.mp (of_decide_eq_true h)
        refine bg (g:=D.str) (c:=fun y => !decide (y=w')) (f:=D.str) (en:=fun o=>[some (.str o),some (.str w')]) (D0:=fun δ=>∃ a,δ=[a,some (.str w')]) trivial (fun a=>⟨_,rfl⟩) cur [] _ ⟨none,rfl⟩ ?_ ?_ ?_ (by rw [yag];simp;lia) ?_
        ·rintro a _ δ ⟨x,rfl⟩ Q' q'
         exact q'
        ·intro a ha Q' q'
         simp only [aB,fQ,aX,zaj,zai,zcB.injEq,exists_eq_left',aY]
         exact ⟨_,rfl,q'⟩
        ·intro a _ _ Q' q'
         simp only [aX,zaj,zcB.injEq,exists_eq_left',aY]
         exact q'
        ·rw [zbH]
         have hsh:(cur.filter fun y => !decide (y=w')).length<cur.length:=by
          refine Nat.lt_of_le_of_ne (zat _ _) fun e => ?_
          have:=List.length_filter_eq_length_iff.mp e w' hwc
          simp at this
         have Co:(d1++w'::d2).Nodup:=by rw [he];exact hi.nd
         have hn3:=(zbC.mp (zbg.mp Co).2.1).1
         refine hN _ _ ⟨d1++[w'],d2,_,true,_,rfl,by rw [zbd];exact he,h1.drop hno,fun x hx=>zbz.mpr ⟨h2 x (by simp [hx]),?_⟩,fun _=>by lia,(fun z=>by cases z),rfl,rfl⟩
         simp only [zbj,decide_eq_false_iff_not]
         rintro rfl
         exact hn3 hx
       ·refine hN _ _ ⟨d1++[w'],d2,cur,b,_,rfl,by rw [zbd];exact he,h1,fun x hx=>h2 x (by simp [hx]),h3,fun z=>⟨(h4 z).1,fun x hx => ?_⟩,rfl,rfl⟩
        rcases zbA.mp hx with hx | hx
        ·exact (h4 z).2 x hx
        ·rw [zaP.mp hx]
         apply Classical.byContradiction
         intro hne
         refine h (yDt (hfe.mpr fun o ho hl=>hne ⟨o,?_,hl⟩))
         rw [← (h4 z).1];exact ho
def yD:AN:=fun ds S Q=>∃ (rs:Ru) (n:Nat) (ld:List (Str×List Str)) (r:List Str),ds=[.loc n,.lst (r.map D.str)]∧S[n]? = some (some (bD ld))∧sF rs ld∧gB rs∧Ring rs r∧Q (.dat (.bl true)) S
theorem Gb (T:Txt K mg ec EP) (F:Src K mg "_law_ring" jt yU):Def P w K mg base 1 "_law_ring" jt (aD K yD):=by
 refine dS F EB (fun ds S Q h => ?_) (fun f cdv A outer s H E hr => ?_)
 ·obtain ⟨rs,n,ld,r,rfl,_⟩:=h;rfl
 ·refine ⟨_,(M.ah (M.bu (M.pw_pt (M.pw_or (M.eB (M.cu (M.n5 M.DF (by rfl) T.isinstance (by decide +kernel) (M.ay (M.pv 1) (M.ay (M.qO "list" (by rfl) T.list (by decide +kernel)) M.aa))))) (M.pw_or (M.aA (M.dR hr) (M.pv 1) (M.aS M.aa) (aN _)) (M.pw_or1 (M.aA (M.pM hr) (M.jI rfl (by rfl) T.len (by rfl) T.set (M.pv 1)) (M.n5 M.f9 (by rfl) T.len (by decide +kernel) (M.ay (M.pv 1) M.aa)) (aN _))))))
    (M.aj (M.aF M.eW))
    M.aL)
   (M.ah (M.bu (M.aA (M.pM hr) (M.bF (N:=["_law_word","_law_led_here"]) (caps:=[none,some 0]) (cG (by decide +kernel)) (by rfl) (by rfl) rfl (M.bB (M.pv 1)) (fun _ _ _ _=>(M.aG (i:=0) (by decide +kernel:List.Nodup (["_law_word","_law_led_here"]:List Str)) rfl (Or.inl rfl))) (fun _ _ _ _=>(M.bM (M.aA (M.zE hr) (M.pv 0) (M.pv 1) rfl))) (fun _ _ _ _=>(M.pv 0))) (M.aS M.aa) (aN _))
    (M.aj (M.aF M.eW))
    M.aL)
   (M.aj (M.aF (M.dY (M.kX hr) M.eW (M.bF (N:=["_law_k","_law_ring_here","_law_led_here"]) (caps:=[none,some 1,some 0]) (cG (by decide +kernel)) (by rfl) (by rfl) rfl (M.dG (by rfl) T.range (M.ay (M.n5 M.f9 (by rfl) T.len (by decide +kernel) (M.ay (M.pv 1) M.aa)) M.aa)) (fun _ _ _ _=>(M.aG (i:=0) (by decide +kernel:List.Nodup (["_law_k","_law_ring_here","_law_led_here"]:List Str)) rfl (Or.inl rfl))) (fun _ _ _ _=>M.dX) (fun _ _ _ _=>(M.dY (M.l9 hr) (M.aM M.bq (M.pv 1) (M.aW M.g8 (M.aW M.bY (M.pv 0) M.ai) (M.n5 M.f9 (by rfl) T.len (by decide +kernel) (M.ay (M.pv 1) M.aa))) (fun _ _=>rfl)) (M.l5 (c9 hr) (M.pv 2) (M.aM M.bq (M.pv 1) (M.pv 0) (fun _ _=>rfl)) (fun _ _=>rfl)) rfl))) rfl))))),fun ds S Q h => ?_⟩
  obtain ⟨rs,n,ld,r,rfl,hS,hB,hR,hr0,q⟩:=h
  have e0:aU wg [.loc n,.lst (r.map D.str)]=[some (.loc n),some (.lst (r.map D.str))]:=rfl
  rw [e0]
  have hln:=hR.ln
  have zT:=jE hS
  have hrl:r.length≤4:=by
   have:=bx hr0.nd hr0.hd
   simp only [hds,zbE] at this;lia
  have hro:∀ y∈r,dB y=true:=fun y hy=>dm hR y (hr0.hd y hy)
  push_cast [qf]
  refine ⟨true,rfl,?_⟩
  rw [yIn (by decide)]
  refine ⟨zcz _,eq_nil hro (by lia) ⟨_,rfl,?_⟩⟩
  rw [yIn (by simpa using hr0.ne)]
  refine ⟨r,rfl,by lia,fun ss hsn hsm => ?_⟩
  have hse:ss.length=r.length:=Nat.le_antisymm (bx hsn fun x hx=>(hsm x).mp hx) (bx hr0.nd fun x hx=>(hsm x).mpr hx)
  refine ⟨r.length,by simp [fy],?_⟩
  refine ⟨false,?_,?_⟩
  ·show D.bl (!decide ((ss.length:Int)=(r.length:Int)))=_
   rw [hse];simp
  rw [yIn (by decide)]
  push_cast [bZ,cT,bT]
  refine bg (g:=D.str) (c:=fun _=>false) (f:=D.str) (en:=fun o=>[some (.str o),some (.loc n)]) (D0:=fun δ=>∃ a,δ=[a,some (.loc n)]) trivial (fun a=>⟨_,rfl⟩) r [] _ ⟨none,rfl⟩ ?_ ?_ ?_ (by rw [yag];simp;lia) ?_
  ·rintro a _ δ ⟨x,rfl⟩ Q' q'
   exact q'
  ·intro a ha Q' q'
   simp only [aB,fQ,aX,zaj,zai,zcB.injEq,exists_eq_left',aY,CU,zT]
   refine ⟨_,rfl,_,rfl,?_⟩
   rw [zX,yDt ((hB.ks a).mpr (hr0.hd a ha))]
   exact q'
  ·intro a _ hc
   exact absurd hc (by decide)
  rw [zbH,List.filter_eq_nil_iff.mpr (by simp)]
  refine ⟨zcz _,ne_nil (l:=[]) (by simp) (by simp) ⟨_,rfl,?_⟩⟩
  rw [yIn (by decide)]
  push_cast [xw]
  have hpos:0<r.length:=List.length_pos_iff.mpr hr0.ne
  refine ⟨r.length,by simp [fy],by lia,by lia,?_⟩
  have hid:fH 0 ((r.length:Int)).toNat=(zcC r.length).map fun k:Nat=>D.int (k:Int):=by simp [fH]
  rw [hid]
  refine bg (g:=fun k:Nat=>D.int (k:Int)) (c:=fun _=>true) (f:=fun _=>D.bl true) (en:=fun k=>[some (.int (k:Int)),some (.lst (r.map D.str)),some (.loc n)]) (D0:=fun δ=>∃ a,δ=[a,some (.lst (r.map D.str)),some (.loc n)]) trivial (fun a=>⟨_,rfl⟩) (zcC r.length) [] _ ⟨none,rfl⟩ ?_ (fun a _ Q' q'=>q') ?_ (by rw [yag];simp;lia) ?_
  ·rintro a _ δ ⟨x,rfl⟩ Q' q'
   exact q'
  ·intro k hk _ Q' q'
   have hk:k<r.length:=List.mem_range.mp hk
   have hm:(k+1) % r.length<r.length:=Nat.mod_lt _ hpos
   have hx:r[k]? = some r[k]:=zah hk
   have hy:r[(k+1) % r.length]? = some r[(k+1) % r.length]:=zah hm
   have hld:=hr0.nx k _ _ hx hy
   generalize r[k]=x at hx hld
   generalize r[(k+1) % r.length]=y at hy hld
   obtain ⟨⟨w',l⟩,hml,rfl⟩:=zck.mp ((hB.ks x).mpr (hr0.hd x (zaA hx)))
   have hyl:y∈l:=(hB.at_ _ l hml y).mpr hld
   have hl1:=hB.ln _ l hml
   push_cast [fQ,aX,m7,zT,mJ]
   refine ⟨r.length,by simp [fy],by lia,?_⟩
   have e1:((k:Int)+1) % (r.length:Int)=(((k+1) % r.length:Nat):Int):=by simp
   rw [e1]
   refine ⟨.str y,c6 (by rw [zbb,hy];rfl),.str w',c6 (by rw [zbb,hx];rfl),_,_,rfl,_,rfl,_,gm hB.nd hml,?_⟩
   refine dD (hro y (zaA hy)) (fun o ho=>dm hR o ((hB.at_ _ l hml o).mp ho).1) hl1 ?_
   rw [yDt hyl]
   exact q'
  rw [zbH,List.filter_eq_self.mpr (by simp)]
  have er:(zcC r.length).map (fun _=>D.bl true)=zbO r.length (D.bl true):=by
   rw [List.map_const',List.length_range]
  rw [er]
  generalize r.length=m at hrl
  show fit (.bl false)=true∧fit (.lst (zbO m (D.bl true)))=true∧M.ret S S (.dat (.bl (true != inD (.bl false) (zbO m (D.bl true))))) Q
  rw [iA]
  have hc:∀ m,m≤4→fit (.lst (zbO m (D.bl true)))=true∧inD (.bl false) (zbO m (D.bl true))=false:=by decide
  obtain ⟨c1,c2⟩:=hc m hrl
  rw [c2]
  exact ⟨rfl,c1,q⟩
end
open PySem PySem.Spec L2 M M6 PyProof.Rows
noncomputable abbrev E7:Stmt:=top 39
noncomputable abbrev GJ:List Str:=["_law_way","_law_rules","_law_pattern_here","_law_told","_law_ring_here","_law_alone","e"]
noncomputable abbrev ni:List Str:=["_law_way","_law_rules","_law_pattern_here"]
theorem iS:aJ GJ ni (ao E7):=L2.cW
theorem Bx {a b:TS}{D:Ends}{σ:L2.St}{H:Hp} (h:∀ N:L2.St→Hp→Prop,(∀ σ' H',b D σ' H'→N σ' H')→a { D with nx:=N } σ H):yo a b D σ H:=h _ fun _ _ h=>h
section
variable {P:yak}{w:yal}{K:yaH}{mg:Str→Option yaj}{base:Heap}{ec:Nat→Addr}{EP:Addr}
def Dt:AN:=fun ds S Q=>∃ (i:Int) (rs:Ru) (p:Pt),ds=[.int i,rD rs,tD p]∧(i=0∨i=1)∧gB rs∧lq p∧dp p≤3∧N p≤50∧(yc rs→∀ r,Ring rs r→Q (.dat (.tup [.bh,.lst (r.map D.str),.bl true])) S) ∧
 (¬ yc rs→i=0→∀ os,KC rs os→Q (.dat (.tup [.lst (os.map D.str),.bh,.bl true])) S)∧(¬ yc rs→i=1→∀ q:Pt,Q (.dat (.tup [tD q,.bh,.bl true])) S)
theorem IQ (T:Txt K mg ec EP) (F:Src K mg "_law_asked" ni E7) (jA:nM P w K mg base 6 "order_of" cP (Hq K EP (ec 6) "ring" kJ jn)) (Be:nM P w K mg base 7 "unfolded" ng (Hq K EP (ec 6) "ring" Ds AB)):Def P w K mg base 8 "_law_asked" ni (aD K Dt):=by
 refine F.def iS (fun vs H Q E h => ?_) (fun f cdv A outer s H vs Q E hr h => ?_)
 ·obtain ⟨w,ds,S,Qa,_,r,⟨i,rs,p,rfl,_⟩,_⟩:=h;rw [r.length];rfl
 ·obtain ⟨w1,ds,S,Qa,ok,rep,⟨i,rs,p,rfl,hi,hR,ho,hd,hn,q1,q2,q3⟩,bk⟩:=h
  refine ⟨_,L2.ah (L2.az (i:=3) iS.nd rfl (Or.inl rfl) L2.iD) (L2.ah (L2.az (i:=4) iS.nd rfl (Or.inl rfl) L2.iD) (L2.ah (L2.az (i:=5) iS.nd rfl (Or.inl rfl) L2.eW) (L2.ah (BV (i:=6) rfl rfl
   (HU rfl (L2.aA DE (L2.pv 0) L2.ai (aN _)) (vf (j:=3) rfl jA (hr.mono (by decide)) (by rfl) (L2.ay (L2.pv 1) L2.aa) iS.nd rfl rfl) (vf (j:=3) rfl Be (hr.mono (by decide)) (by rfl) (L2.ay (L2.pv 2) (L2.ay (L2.pv 1) L2.aa)) iS.nd rfl rfl))
   (by rfl) T.at_PathError T.ex_PathError T.sb_PathError iS.nd rfl rfl (fun a =>
    L2.ah (L2.az (i:=5) iS.nd rfl (Or.inl rfl) (L2.jJ (L2.n5 Az (by rfl) T.isinstance (by decide +kernel) (L2.ay (L2.pv 6) (L2.ay (L2.qO "ValueError" (by rfl) T.ValueError (by decide +kernel)) L2.aa)))
      (L2.pI (L2.Fj (L2.n5 CN (by rfl) T.isinstance (by decide +kernel) (L2.ay (L2.pv 6) (L2.ay (L2.br (L2.ay (gx T.g_NoKnot) (L2.ay (gx T.g_NoName) (L2.ay (gx T.g_NoTie) (L2.ay (gx T.g_TooLong) (L2.ay (gx T.g_TooMany) (L2.ay (gx T.g_Twice) L2.aa))))))) L2.aa)))))))
     (L2.aj (L2.bu (L2.cu (L2.n5 Az (by rfl) T.isinstance (by decide +kernel) (L2.ay (L2.pv 6) (L2.ay (gx T.g_GoesRound) L2.aa)))) (L2.aj (L2.az (i:=4) iS.nd rfl (Or.inl rfl) (B0 (L2.pv 6)))) L2.aL))))
   (L2.aj (L2.aF (L2.br (L2.ay (L2.pv 3) (L2.ay (L2.pv 4) (L2.ay (L2.pv 5) L2.aa)))))))) ),?_⟩
  simp only [aq] at rep
  obtain ⟨v1,_,rfl,r1,v2,_,rfl,r2,v3,_,rfl,r3,rfl⟩:=rep
  have e1:v1 = .int i:=bR r1 rfl
  subst e1
  refine Bx fun N1 hN1=>hN1 _ _ ?_
  clear hN1
  refine Bx fun N2 hN2=>hN2 _ _ ?_
  clear hN2
  refine Bx fun N3 hN3=>hN3 _ _ ?_
  clear hN3
  refine Bx fun N4 hN4 => ?_
  have fin:∀ (wX:M.Wd) (H':Hp) (d1 d2:D) (u1 u2:V),w1.le wX→Ok K wX H' S→Rep K wX d1 u1→Rep K wX d2 u2→Qa (.dat (.tup [d1,d2,.bl true])) S→N4 [some (.int i),some v2,some v3,some u1,some u2,some (.bl true),none] H':=fun wX H' d1 d2 u1 u2 le okX p1 p2 qq=>by
   refine hN4 _ _ ⟨_,rfl,_,rfl,_,rfl,ySz 3,fun p np => ?_⟩
   obtain ⟨w3,le3,ok3,rep3⟩:=okX.jM (ds:=[d1,d2,.bl true]) np (.cons p1 (.cons p2 (.cons .bl .nil)))
   exact bk.dat (le.trans le3) ok3 rep3 qq
  clear hN4
  have hand:∀ (H3:Hp) (a dx:Addr) (v:V) (w':M.Wd) (r:List Str),H3 a=some (XO (ec 6) (some dx) a)→H3 dx=some (rZ [("ring",v)] dx)→w1.le w'→Ok K w' H3 S→Rep K w' (.lst (r.map D.str)) v→Qa (.dat (.tup [.bh,.lst (r.map D.str),.bl true])) S →
    yo (oO (uQ (yz (qI K) (bN (lF 6) (bN (tC (V.ty "ValueError")) nB))) (yp (yz (tH K) (bN (lF 6) (bN (Bt (bN (tC (V.ref (ec 0))) (bN (tC (V.ref (ec 1))) (bN (tC (V.ref (ec 4))) (bN (tC (V.ref (ec 5))) (bN (tC (V.ref (ec 3))) (bN (tC (V.ref (ec 2))) nB))))))) nB))))) (j4 5))
     (Bu (tB (yz (qI K) (bN (lF 6) (bN (tC (V.ref (ec 6))) nB)))) (oO (yq K (lF 6) "ring") (j4 4)) uO)
     { nx:=fun σ' H'=>(∃ v,σ'[6]? = some (some v))∧N4 (zcE σ' 6 none) H',rt:=fun x x_1=>False } [some (.int i),some v2,some v3,some .bh,some .bh,some (.bl true),some (.ref a)] H3:=fun H3 a dx v w' r hx hdx le okX rv qq=>by
   refine ⟨_,rfl,a,ec 6,some dx,_,_,_,rfl,hx,.inr ⟨dx,_,rfl,hdx⟩,T.xi,qG.1,qG.2,T.kitV,_,rfl,kr ?_⟩
   refine ⟨_,rfl,ySz 6,fun p np => ?_⟩
   have s1:dF H3 (upd H3 p (.tup [V.ref (ec 0),.ref (ec 1),.ref (ec 4),.ref (ec 5),.ref (ec 3),.ref (ec 2)])):=al np
   refine ⟨a,ec 6,some dx,p,[ec 0,ec 1,ec 4,ec 5,ec 3,ec 2],false,rfl,s1 _ _ hx,.inr ⟨dx,_,rfl,s1 _ _ hdx⟩,T.xi,aE,?_,_,rfl,?_⟩
   ·simp only [zbX,zci,PySem.W.kitAny,T.kit 0 (by decide),T.kit 1 (by decide),T.kit 4 (by decide),T.kit 5 (by decide),T.kit 3 (by decide),T.kit 2 (by decide)]
    rfl
   ·refine ⟨_,rfl,a,ec 6,some dx,_,_,_,rfl,s1 _ _ hx,.inr ⟨dx,_,rfl,s1 _ _ hdx⟩,T.xi,zf.1,zf.2,T.kit 6 (by decide),_,rfl,kr ?_⟩
    refine ⟨_,rfl,a,ec 6,dx,_,v,rfl,s1 _ _ hx,s1 _ _ hdx,T.xi.toXCls,T.fld,by simp [zcx],⟨_,rfl⟩,?_⟩
    exact fin w' _ .bh _ .bh v le (vn okX s1) (by simp [Rep]) rv qq
  have Au:∀ (ev:yaj) (H':Hp),XG K EP (ec 6) "ring" S w1 (sd rs) ev none H'→yc rs→∃ a C dx T fs,ev=Value.ref a∧Kz K EP H' a C dx T fs∧∀ (H3:Hp),H3 a=some (XO C (some dx) a)→(∀ (b:Addr) (o:HO),H' b=some o→b≠a→H3 b=some o) →
    yo (oO (uQ (yz (qI K) (bN (lF 6) (bN (tC (V.ty "ValueError")) nB))) (yp (yz (tH K) (bN (lF 6) (bN (Bt (bN (tC (V.ref (ec 0))) (bN (tC (V.ref (ec 1))) (bN (tC (V.ref (ec 4))) (bN (tC (V.ref (ec 5))) (bN (tC (V.ref (ec 3))) (bN (tC (V.ref (ec 2))) nB))))))) nB))))) (j4 5))
     (Bu (tB (yz (qI K) (bN (lF 6) (bN (tC (V.ref (ec 6))) nB)))) (oO (yq K (lF 6) "ring") (j4 4)) uO)
     { nx:=fun σ' H'=>(∃ v,σ'[6]? = some (some v))∧N4 (zcE σ' 6 none) H',rt:=fun x x_1=>False } [some (.int i),some v2,some v3,some .bh,some .bh,some (.bl true),some (.ref a)] H3:=fun ev H' h hC=>by
   obtain ⟨w',H0,a,dx,T',v,d,le,ok0,rv,⟨r,rfl,hr⟩,na,nd,sm,eva,R⟩:=h
   refine ⟨a,ec 6,dx,T',_,eva,R,fun H3 h3 hk => ?_⟩
   have s3:dF H0 H3:=fun b o e=>hk b o (sm b o e) (aH e na)
   exact hand H3 a dx v w' r h3 (hk _ _ R.d R.n2) le (vn ok0 s3) rv (q1 hC r hr)
  refine ⟨.int i,rfl,rfl,_,rfl,?_⟩
  rcases hi with rfl | rfl
  ·refine kr ⟨_,rfl,?_⟩
   by_cases hC:yc rs
   ·exact .inr ⟨w1,[rD rs],S,sd rs,ok,.cons r2 .nil,⟨rs,rfl,hR,hC,rfl⟩,fun ev H' h=>Au ev H' h hC⟩
   ·refine .inl ⟨w1,[rD rs],S,fun r S'=>(∃ os,KC rs os∧r = .new (.lst (os.map D.str)))∧S'=S,ok,.cons r2 .nil,⟨rs,rfl,hR,hC,fun os hos=>⟨⟨os,hos,rfl⟩,rfl⟩⟩,fun r S' v w' H' le ok' rep' q' => ?_⟩
    obtain ⟨⟨os,hos,rfl⟩,rfl⟩:=q'
    obtain ⟨w2,le2,ok2,rep2⟩:=freeze ok' rep'
    exact fin w2 H' (.lst (os.map D.str)) .bh v .bh (le.trans le2) ok2 rep2 (by simp [Rep]) (q2 hC rfl os hos)
  ·refine nF ⟨_,rfl,_,rfl,?_⟩
   by_cases hC:yc rs
   ·exact .inr ⟨w1,[tD p,rD rs],S,sd rs,ok,.cons r3 (.cons r2 .nil),⟨p,rs,rfl,hR,hC,rfl⟩,fun ev H' h=>Au ev H' h hC⟩
   ·refine .inl ⟨w1,[tD p,rD rs],S,fun r S'=>(∃ q,r = .dat (tD q))∧S'=S,ok,.cons r3 (.cons r2 .nil),⟨p,rs,rfl,hR,hC,ho,hd,hn,fun q=>⟨⟨q,rfl⟩,rfl⟩⟩,fun r S' v w' H' le ok' rep' q' => ?_⟩
    obtain ⟨⟨q,rfl⟩,rfl⟩:=q'
    exact fin w' H' (tD q) .bh v .bh le ok' rep' (by simp [Rep]) (q3 hC rfl q)
end
open PySem L2 M
noncomputable abbrev yX:Stmt:=top 40
noncomputable abbrev wk:List Str:=["_law_feed_here","_law_heads","_law_line","_law_rules","_law_k","_law_at"]
noncomputable abbrev ju:List Str:=["_law_feed_here","_law_heads"]
theorem jF:aJ wk ju (ao yX):=L2.cW
theorem dh {a b:AS}{D0:nq}{δ:bU}{S:aK} (h:∀ N:bU→aK→Prop,(∀ δ' S',b D0 δ' S'→N δ' S')→a { D0 with nx:=N } δ S):fB a b D0 δ S:=h _ fun _ _ h=>h
section
variable {P:yak}{w:yal}{K:yaH}{mg:Str→Option yaj}{base:Heap}{ec:Nat→Addr}{EP:Addr}
def yE:AN:=fun ds S Q=>∃ (p n:Nat) (hs:List Str) (o:MO),ds=[.loc p,.lst (hs.map D.str)]∧(∀ y∈hs,Nm y)∧1≤hs.length∧hs.length≤4∧S[p]? = some (some o)∧Fd n o∧n+3<1000000000000∧∀ (rs:Ru) (o':MO),gB rs→Fd (n+3) o'→Q (.new (.lst (rs.map fun r=>.tup [.str r.1,tD r.2]))) (S.set p (some o'))
theorem Ge (T:Txt K mg ec EP) (F:Src K mg "_law_lead_in" ju yX) (D_law_draw:Def P w K mg base 1 "_law_draw" c7 (aD K eu)):Def P w K mg base 2 "_law_lead_in" ju (aD K yE):=by
 refine dS F jF (fun ds S Q h => ?_) (fun f cdv A outer s H E hr => ?_)
 ·obtain ⟨p,n,hs,o,rfl,_⟩:=h;rfl
 ·refine ⟨_,(M.ah (M.bu (M.aA (M.dR hr) (M.ow D_law_draw hr (M.ay (M.pv 0) (M.ay M.ai M.aa))) M.ai (aN _))
    (M.aj (M.az (i:=1) jF.nd rfl (Or.inl rfl) (M.pH (M.pv 1))))
    M.aL)
   (M.ah (M.az (i:=2) jF.nd rfl (Or.inl rfl) (M.aW M.bY (M.pv 1) (M.aS (M.ay (M.aM M.bq (M.pv 1) (M.ow D_law_draw hr (M.ay (M.pv 0) (M.ay (M.n5 M.f9 (by rfl) T.len (by decide +kernel) (M.ay (M.pv 1) M.aa)) M.aa))) (fun _ _=>rfl)) M.aa))))
   (M.ah (M.az (i:=3) jF.nd rfl (Or.inl rfl) (M.oG (M.aS M.aa)))
   (M.ah (M.cV PassesOwn.never rfl (M.dG (by rfl) T.range (M.ay (M.n5 M.f9 (by rfl) T.len (by decide +kernel) (M.ay (M.pv 1) M.aa)) M.aa)) (M.aG (i:=4) jF.nd rfl (Or.inl rfl))
    (M.aj (M.cD (M.dZ PySem.F.plainAttrs_list PySem.F.slot_list_append PySem.F.type_list_append M.gf (M.pv 3) (M.ay (M.br (M.ay (M.aM M.bq (M.pv 1) (M.pv 4) (fun _ _=>rfl)) (M.ay (M.br (M.ay M.av (M.ay (M.br (M.ay (M.br (M.ay M.av (M.ay M.av (M.ay (M.aM M.bq (M.pv 2) (M.aW M.bY (M.pv 4) M.ai) (fun _ _=>rfl)) M.aa)))) (M.ay (M.br (M.ay M.av M.aa)) M.aa))) M.aa))) M.aa))) M.aa)))))
   (M.ah (M.az (i:=5) jF.nd rfl (Or.inl rfl) (M.ow D_law_draw hr (M.ay (M.pv 0) (M.ay (M.n5 M.f9 (by rfl) T.len (by decide +kernel) (M.ay (M.pv 3) M.aa)) M.aa))))
   (M.aj (M.aF (M.aW M.bY (M.bW M.i6 (M.pv 3) (M.cN (M.pv 5)) M.cO) (M.bW M.i6 (M.pv 3) M.cO (M.cN (M.pv 5))))))))))),fun ds S Q h => ?_⟩
  obtain ⟨p,n,hs,o,rfl,hnm,h1,h4,hS,ho,hn,q⟩:=h
  have e0:aU wk [.loc p,.lst (hs.map D.str)]=[some (.loc p),some (.lst (hs.map D.str)),none,none,none,none]:=rfl
  rw [e0]
  have hp:=gg hS
  refine dh fun N0 hN0 => ?_
  have tail:∀ (ls:List Str) (o1:MO),(∀ y∈ls,Nm y)→ls.length=hs.length→Fd (n+1) o1→N0 [some (.loc p),some (.lst (ls.map D.str)),none,none,none,none] (S.set p (some o1)):=by
   intro ls o1 hls hll ho1
   refine hN0 _ _ ?_
   clear hN0
   have hS1:=iy (o':=o1) hS
   push_cast [bQ]
   refine ⟨ls.length,by simp [fy],c5 hS1 ho1 (by lia) (by lia) (by lia) fun z o2 hz ho2 => ?_⟩
   rw [zcm]
   refine pick (by rw [zbE];lia) fun e he => ?_
   obtain ⟨y,hy,rfl⟩:=zck.mp he
   have hlen:(ls.map D.str++[D.str y])=(ls++[y]).map D.str:=by rw [zbI];rfl
   push_cast [true_and]
   refine ⟨sz rfl,by rw [zbE,yag];show _+1≤_;lia,zcz _,?_⟩
   rw [hlen]
   have hline:∀ x∈ls++[y],Nm x:=fun x hx=>by
    rcases zbA.mp hx with hx | hx
    ·exact hls x hx
    ·rw [zaP.mp hx];exact hls y hy
   have hl1:(S.set p (some o2)).length=S.length:=zbG ..
   rw [hl1]
   push_cast [iJ,xw]
   refine ⟨ls.length,by simp [fy],by lia,by lia,?_⟩
   refine cE (fun rest δ S'=>∃ (k:Nat) (rs:Ru) (v4:Option D),k+rest.length=ls.length∧rest=((zcC ls.length).drop k).map (fun k:Nat=>D.int (0+(k:Int)))∧rs.length=k∧(∀ r∈rs,Nm r.1∧lq r.2∧N r.2≤8∧dp r.2≤3)∧S'=S.set p (some o2)++[some (.lst (rs.map fun r=>D.tup [D.str r.1,tD r.2]))]∧δ=[some (.loc p),some (.lst (ls.map D.str)),some (.lst ((ls++[y]).map D.str)),some (.loc S.length),v4,none]) ?_ ?_ _ _ _
    ⟨0,[],none,by simp [fH],by simp [fH],rfl,by simp,rfl,rfl⟩
   ·rintro δ S' ⟨k,rs,v4,hk,hrest,hrl,hrs,rfl,rfl⟩
    have hk:k=ls.length:=by simpa using hk
    refine ⟨trivial,?_⟩
    have e3:∀ o3:MO,(S.set p (some o3)++[some (MO.lst (rs.map fun r=>D.tup [D.str r.1,tD r.2]))])[S.length]? = some (some (.lst (rs.map fun r=>D.tup [D.str r.1,tD r.2]))):=fun o3=>by rw [zab (by rw [zbG];exact zcy _),zbG,zcs];rfl
    have e4:∀ o3:MO,bf (S.set p (some o3)++[some (MO.lst (rs.map fun r=>D.tup [D.str r.1,tD r.2]))]) (.loc S.length) = .lst (rs.map fun r=>D.tup [D.str r.1,tD r.2]):=fun o3=>by simp only [bf,e3,MO.d]
    push_cast [e4]
    have hpp:∀ o3:MO,p<(S.set p (some o3)).length:=fun o3=>by rw [zbG];exact hp
    refine ⟨rs.length,by simp [fy],c5 (o:=o2) (by rw [zad (hpp o2)];exact iy hS) ho2 (by lia) (by lia) (by lia) fun z2 o3 hz2 ho3 => ?_⟩
    rw [zaB _ _ (hpp o2),zcm]
    push_cast [p9,e4]
    have hz:z2≤(rs.map fun r=>D.tup [D.str r.1,tD r.2]).length:=by rw [zbE];lia
    rw [jk hz,pW hz]
    have em:(rs.map fun r=>D.tup [D.str r.1,tD r.2]).drop z2++(rs.map fun r=>D.tup [D.str r.1,tD r.2]).take z2=(rs.drop z2++rs.take z2).map fun r=>D.tup [D.str r.1,tD r.2]:=by rw [zbI,zcb,zca]
    refine ⟨by rw [zbp,zbn,zbE,yag];lia,?_⟩
    rw [em]
    have hpu:∀ l:Ru,cM (l.map fun r=>D.tup [D.str r.1,tD r.2])=true:=fun l=>by
     induction l with
     | nil=>rfl
     | cons r l ih=>simp only [zbX,cM,cI,ck,ih,zce]
    have hmem:∀ r∈rs.drop z2++rs.take z2,r∈rs:=fun r hr=>by
     rcases zbA.mp hr with hr | hr
     ·exact zaD hr
     ·exact zaC hr
    refine u9 (pK (hpu _)) ho3 (by rw [zbK (by rw [zbG])]) (q _ o3 ⟨?_,fun r hr=>(hrs r (hmem r hr)).1,fun r hr=>(hrs r (hmem r hr)).2⟩ ho3)
    rw [zaM,zbp,zbn];lia
   ·rintro x xs δ S' N' ⟨k,rs,v4,hk,hrest,hrl,hrs,rfl,rfl⟩ hN
    have hkl:k<ls.length:=by simp only [zbo] at hk;lia
    rw [zae (by simpa using hkl),zbX,List.getElem_range] at hrest
    injection hrest with e1 e2
    subst e1
    have e3:(S.set p (some o2)++[some (MO.lst (rs.map fun r=>D.tup [D.str r.1,tD r.2]))])[S.length]? = some (some (.lst (rs.map fun r=>D.tup [D.str r.1,tD r.2]))):=by rw [zab (by rw [zbG];exact zcy _),zbG,zcs];rfl
    have e4:bf (S.set p (some o2)++[some (MO.lst (rs.map fun r=>D.tup [D.str r.1,tD r.2]))]) (.loc S.length) = .lst (rs.map fun r=>D.tup [D.str r.1,tD r.2]):=by simp only [bf,e3,MO.d]
    refine ⟨trivial,?_⟩
    push_cast [xP,ku,e4,Int.zero_add]
    have hx:ls[k]? = some ls[k]:=zah hkl
    have hk1:k+1<(ls++[y]).length:=by rw [zaM,zar];lia
    have hy2:(ls++[y])[k+1]? = some (ls++[y])[k+1]:=zah hk1
    have hxm:=hls _ (zaA hx)
    have hym:=hline _ (zaA hy2)
    generalize ls[k]=x1 at hx hxm
    generalize (ls++[y])[k+1]=y1 at hy2 hym
    simp only [mJ]
    refine ⟨.str x1,c6 (by rw [zbb,hx];rfl),.str y1,?_,?_⟩
    ·rw [show (k:Int)+1=((k+1:Nat):Int) by lia]
     exact c6 (by rw [zbb,hy2];rfl)
    refine ⟨sz rfl,sz rfl,sz rfl,sz rfl,sz rfl,S.length,_,_,rfl,rfl,e3,by rw [zbE,yag];lia,?_⟩
    rw [zau _ _ (by rw [zbG];exact zcy _),zbG,zcs]
    refine hN _ _ ⟨k+1,rs++[(x1,.seq [.step true y1,.stay])],_,by simp only [zbo] at hk;lia,e2,by rw [zaM,zar,hrl],fun r hr => ?_,by rw [zbI];rfl,rfl⟩
    rcases zbA.mp hr with hr | hr
    ·exact hrs r hr
    ·rw [zaP.mp hr]
     refine ⟨hxm,⟨?_,trivial,trivial⟩,by show N (.seq [.step true y1,.stay])≤8;simp [N,Ns],by show dp (.seq [.step true y1,.stay])≤3;simp [dp,iL]⟩
     show isWord (.str y1)=true
     unfold isWord
     rw [show isName (.str y1)=true from hym,zct]
  push_cast [true_and]
  refine c5 hS ho (by lia) (by decide) (by decide) fun z o1 hz ho1 => ?_
  push_cast [AJ]
  refine eF (fun _ => ?_) (fun _=>tail hs o1 hnm rfl ho1)
  refine ⟨_,rfl,?_⟩
  rw [← List.map_reverse]
  exact tail hs.reverse o1 (fun y hy=>hnm y (List.mem_reverse.mp hy)) zaH ho1
end
open PySem L2 M
noncomputable abbrev tw:Stmt:=top 41
noncomputable abbrev Bd:List Str:=["_law_script","_law_feed_here","_law_heads","_law_marks","_law_rules","_law_onward","_law_k","_law_at","_law_words","_law_pattern_here","_law_led_here","_law_handed","_law_told","_law_ring_here","_law_alone","_law_again","_law_word"]
noncomputable abbrev qk:List Str:=["_law_script"]
theorem cF:aJ Bd qk (ao tw):=L2.cW
noncomputable def rL (rs:Ru):List D:=rs.map fun r=>.tup [.str r.1,tD r.2]
theorem j6 {o:MO}{T:aK}{n:Nat}{m:Int}{Q:AK} (ho:Fd n o) (hn:n<1000000000000) (h0:0<m) (h1:m<1000) (k:∀ (z:Nat) (o':MO),(z:Int)<m→Fd (n+1) o'→Q (.dat (.int z)) (some o'::T)):eu [.loc 0,.int m] (some o::T) Q :=
 ⟨0,n,m,o,rfl,rfl,ho,hn,h0,h1,k⟩
open M6 in
mutual
theorem tQ:∀ p:Pt,lq p→cS (py (tD p))=true
 | .stay,_=>by decide +kernel
 | .step b x,h=>by
  have:=bX (nN h)
  have:=bX (iP b)
  have e:dB "step" = true:=by decide +kernel
  simp only [tD,py,dW,cS,di,PyData.canLay0,bX (nN h),bX (iP b),bX e,zce]
 | .mk b m,h=>by simp only [tD,py,dW,cS,di,PyData.canLay0,bX (gb h),bX (iF b),zce]
 | .many p,h=>by
  have e:dB "many" = true:=by decide +kernel
  simp only [tD,py,dW,cS,di,PyData.canLay0,bX e,tQ p h,zce]
 | .seq ps,h=>by
  have e:dB "then" = true:=by decide +kernel
  simp only [tD,py,dW,cS,di,PyData.canLay0,bX e,pL ps h,zce]
 | .alt ps,h=>by
  have e:dB "either" = true:=by decide +kernel
  simp only [tD,py,dW,cS,di,PyData.canLay0,bX e,pL ps h,zce]
theorem pL:∀ ps:List Pt,jy ps→di (dW (wH ps))=true
 | [],_=>rfl
 | p::ps,h=>by simp only [wH,dW,di,tQ p h.1,pL ps h.2,zce]
end
open M6 in
theorem F6 {rs:Ru} (h:gB rs):PyData.eqv (.list (dW (rL rs))) (.list (dW (rL rs)))=true:=by
 have hk:di (dW (rL rs))=true:=by
  have h1:=h.nm
  have h2:=h.ok
  clear h
  unfold rL
  induction rs with
  | nil=>rfl
  | cons r rs ih =>
   have:=bX (gb (h1 r (by simp)))
   simp only [zbX,dW,py,cS,di,PyData.canLay0,bX (gb (h1 r (by simp))),tQ r.2 (h2 r (by simp)).1,zce,Bool.true_and]
   exact ih (fun x hx=>h1 x (by simp [hx])) (fun x hx=>h2 x (by simp [hx]))
 simp only [PyData.eqv]
 rw [jg _ _ hk hk]
 exact yDt rfl
theorem zZ {rs:Ru} (h:gB rs):fit (.lst (rL rs))=true:=by
 refine iu (n:=9) ?_ (by decide)
 simp only [fK,zbw,zbr]
 refine ⟨yDt (by rw [rL,zbE];have:=h.ln;lia),fun d hd => ?_⟩
 obtain ⟨r,hr,rfl⟩:=zck.mp hd
 obtain ⟨h1,h2,h3⟩:=h.ok r hr
 exact jC (n:=7) (gb (h.nm r hr)) (fT (De 3 r.2 h3 h1 (by lia)) (by lia))
abbrev C7 (a b:Str):Prop:=a.cps.toList<b.cps.toList
theorem oV (a:Str) : ¬ C7 a a:=List.lt_irrefl _
theorem Ew {a b:Str} (h : ¬ C7 a b) (g : ¬ C7 b a):a=b:=by
 have e:a.cps.toList=b.cps.toList:=List.le_antisymm (List.not_lt.mp g) (List.not_lt.mp h)
 obtain ⟨a⟩:=a
 obtain ⟨b⟩:=b
 have e:a.toList=b.toList:=e
 rw [Array.toList_inj.mp e]
def SU (l:List Str):Prop:=l.Pairwise C7
theorem u7:∀ (l:List Str) (p:Str),PyProof.Rows.risingS p l=true→(p::l).Pairwise fun a b => ¬ C7 b a
 | [],p,_=>List.pairwise_singleton ..
 | x::r,p,h=>by
  have h:(!PySem.Spec.ltCps x.cps.toList p.cps.toList&&PyProof.Rows.risingS x r)=true:=h
  rw [zbw] at h
  have ih:=u7 r x h.2
  have hx : ¬ C7 x p:=by
   have:=h.1
   rw [PyProof.Rows.ltCps_eq] at this
   simpa using this
  refine zaT.mpr ⟨fun y hy => ?_,ih⟩
  rcases zbW.mp hy with rfl | hy
  ·exact hx
  ·intro hlt
   have h2 : ¬ C7 y x:=(zaT.mp ih).1 y hy
   exact hx (List.lt_of_le_of_lt (List.not_lt.mp h2) hlt)
theorem wJ {l:List Str} (h:PyProof.Rows.sortedS l=true):l.Pairwise fun a b => ¬ C7 b a:=by
 cases l with
 | nil=>exact .nil
 | cons x r=>exact u7 r x h
theorem Dp {l:List Str} (hn:l.Nodup) (h:PyProof.Rows.sortedS l=true):SU l:=by
 have h2:l.Pairwise fun a b=>a≠b:=hn
 refine ((wJ h).and h2).imp fun {a b} ⟨h1,h2⟩ => ?_
 by_cases c:C7 a b
 ·exact c
 ·exact absurd (Ew c h1) h2
theorem Dq:∀ {l m:List Str},SU l→SU m→(∀ y,y∈l↔y∈m)→l=m
 | [],[],_,_,_=>rfl
 | [],y::m,_,_,h=>by have:=(h y).mpr (by simp);simp at this
 | x::l,[],_,_,h=>by have:=(h x).mp (by simp);simp at this
 | x::l,y::m,hl,hm,h=>by
  have h1:=zaT.mp hl
  have h2:=zaT.mp hm
  have e:x=y:=by
   have a:=(h x).mp (by simp)
   have b:=(h y).mpr (by simp)
   rcases zbW.mp a with a | a
   ·exact a
   ·rcases zbW.mp b with b | b
    ·exact b.symm
    ·exact absurd (List.lt_trans (h1.1 y b) (h2.1 x a)) (oV x)
  subst e
  rw [Dq (m:=m) h1.2 h2.2 fun z => ?_]
  have:=h z
  simp only [zbW] at this
  constructor
  ·intro hz
   rcases this.mp (.inr hz) with e | e
   ·subst e;exact absurd (h1.1 z hz) (oV z)
   ·exact e
  ·intro hz
   rcases this.mpr (.inr hz) with e | e
   ·subst e;exact absurd (h2.1 z hz) (oV z)
   ·exact e
open M6 in
theorem ne_self {l:List Str}{S:aK}{Q:AK} (h:∀ y∈l,dB y=true) (hl:l.length≤100) (q:Q (.dat (.bl false)) S):GY (.lst (l.map D.str)) (.lst (l.map D.str)) S Q:=by
 show fit (.lst (l.map D.str))=true∧fit (.lst (l.map D.str))=true∧Q (.dat (.bl (!PyData.eqv (.list (dW (l.map D.str))) (.list (dW (l.map D.str)))))) S
 have hk:di (dW (l.map D.str))=true:=by
  clear hl q
  induction l with
  | nil=>rfl
  | cons a l ih =>
   simp only [zbX,dW,py,cS,di,PyData.canLay0,bX (h a (by simp)),Bool.true_and]
   exact ih fun y hy=>h y (by simp [hy])
 have e:PyData.eqv (.list (dW (l.map D.str))) (.list (dW (l.map D.str)))=true:=by
  simp only [PyData.eqv]
  rw [jg _ _ hk hk]
  exact yDt rfl
 rw [e]
 exact ⟨je h hl,je h hl,q⟩
theorem nV {S':aK}{b:Bool}{Q:AK} (q:Q (.dat (.bl b)) []):M.ret [] S' (.dat (.bl b)) Q :=
 ⟨_,d7 rfl,fun k o hk e=>absurd hk (Nat.not_lt_zero _),by show Q _ (S'.take 0);exact q⟩
section
variable {P:yak}{w:yal}{K:yaH}{mg:Str→Option yaj}{base:Heap}{ec:Nat→Addr}{EP:Addr}
def yF:AN:=fun ds S Q=>∃ ns:List Int,ds=[.fG ns]∧S=[]∧Q (.dat (.bl true)) []
theorem Gf {f:Addr}{fd:yaq} (T:Txt K mg ec EP) (F:wA K "law" "law" tw f fd) (D_law_feed:Def P w K mg base 1 "_law_feed" jw (aD K yG)) (D_law_draw:Def P w K mg base 1 "_law_draw" c7 (aD K eu)) (D_law_names:Def P w K mg base 2 "_law_names" gE (aD K uV))
  (D_law_pattern:Def P w K mg base 6 "_law_pattern" cQ (aD K (lJ 3))) (D_law_pattern2:Def P w K mg base 5 "_law_pattern" cQ (aD K (lJ 2))) (D_law_led:Def P w K mg base 7 "_law_led" nh (aD K kK)) (D_law_goes_round:Def P w K mg base 1 "_law_goes_round" se (aD K Ho)) (D_law_ring:Def P w K mg base 1 "_law_ring" jt (aD K yD)) (D_law_asked:Def P w K mg base 8 "_law_asked" ni (aD K Dt)) (D_law_lead_in:Def P w K mg base 2 "_law_lead_in" ju (aD K yE)) :
  cJ P w K mg base oK 9 f fd qk (aD K yF):=by
 refine J7 F cF (fun ds S Q h => ?_) (fun f cdv A outer s H E hr => ?_)
 ·obtain ⟨ns,rfl,_⟩:=h;rfl
 ·refine ⟨_,(M.ah (M.az (i:=1) cF.nd rfl (Or.inl rfl) (M.oG (M.ow D_law_feed hr (M.ay (M.pv 0) M.aa))))
   (M.ah (M.az (i:=2) cF.nd rfl (Or.inl rfl) (M.ow D_law_names hr (M.ay (M.pv 1) (M.ay (M.aW M.bY M.ai (M.ow D_law_draw hr (M.ay (M.pv 1) (M.ay M.ai M.aa)))) M.aa))))
   (M.ah (M.az (i:=3) cF.nd rfl (Or.inl rfl) (M.bW M.i6 (M.aS (M.ay M.av M.aa)) M.cO (M.cN (M.ow D_law_draw hr (M.ay (M.pv 1) (M.ay M.ai M.aa))))))
   (M.ah (M.az (i:=4) cF.nd rfl (Or.inl rfl) (M.oG (M.aS M.aa)))
   (M.ah (M.az (i:=5) cF.nd rfl (Or.inl rfl) (M.dY (M.dR hr) (M.ow D_law_draw hr (M.ay (M.pv 1) (M.ay M.ai M.aa))) M.ai (aN _)))
   (M.ah (M.cV PassesOwn.never rfl (M.dG (by rfl) T.range (M.ay (M.ow D_law_draw hr (M.ay (M.pv 1) (M.ay M.ai M.aa))) M.aa)) (M.aG (i:=6) cF.nd rfl (Or.inl rfl))
    (M.ah (M.az (i:=7) cF.nd rfl (Or.inl rfl) (M.ow D_law_draw hr (M.ay (M.pv 1) (M.ay (M.n5 M.f9 (by rfl) T.len (by decide +kernel) (M.ay (M.pv 2) M.aa)) M.aa))))
    (M.ah (M.az (i:=8) cF.nd rfl (Or.inl rfl) (M.aW M.bY (M.pv 2) (M.aS (M.ay M.av (M.ay M.av M.aa)))))
    (M.ah (M.bu (M.cu (M.pv 5))
     (M.aj (M.az (i:=8) cF.nd rfl (Or.inl rfl) (M.aW M.bY (M.bW M.i6 (M.pv 2) (M.cN (M.aW M.bY (M.pv 7) M.ai)) M.cO) (M.aS (M.ay M.av (M.ay M.av M.aa))))))
     M.aL)
    (M.ah (M.az (i:=9) cF.nd rfl (Or.inl rfl) (M.ow D_law_pattern hr (M.ay (M.pv 1) (M.ay (M.pv 8) (M.ay (M.pv 3) (M.ay (M.oG (M.aS (M.ay (M.aW M.bY M.ai (M.ow D_law_draw hr (M.ay (M.pv 1) (M.ay M.ai M.aa)))) M.aa))) (M.ay M.ai M.aa)))))))
    (M.aj (M.cD (M.dZ PySem.F.plainAttrs_list PySem.F.slot_list_append PySem.F.type_list_append M.gf (M.pv 4) (M.ay (M.br (M.ay (M.aM M.bq (M.pv 2) (M.pv 7) (fun _ _=>rfl)) (M.ay (M.pv 9) M.aa))) M.aa)))))))))
   (M.ah (M.bu (M.aA (M.dR hr) (M.ow D_law_draw hr (M.ay (M.pv 1) (M.ay M.ai M.aa))) M.ai (aN _))
    (M.aj (M.az (i:=4) cF.nd rfl (Or.inl rfl) (M.oG (M.ow D_law_lead_in hr (M.ay (M.pv 1) (M.ay (M.pv 2) M.aa))))))
    M.aL)
   (M.frs (M.ah (M.az (i:=10) cF.nd rfl (Or.inl rfl) (M.oG (M.ow D_law_led hr (M.ay (M.pv 4) M.aa))))
   (M.ah (M.az (i:=9) cF.nd rfl (Or.inl rfl) (M.ow D_law_pattern2 hr (M.ay (M.pv 1) (M.ay (M.aW M.bY (M.pv 2) (M.aS (M.ay M.av M.aa))) (M.ay (M.pv 3) (M.ay (M.oG (M.aS (M.ay (M.aW M.bY M.ai (M.ow D_law_draw hr (M.ay (M.pv 1) (M.ay M.ai M.aa)))) M.aa))) (M.ay M.ai M.aa)))))))
   (M.ah (M.az (i:=11) cF.nd rfl (Or.inl rfl) (M.x9 M.qR (by rfl) T.list (by decide +kernel) (M.ay (M.pv 4) M.aa)))
   (M.ah (M.pD (M.ow D_law_asked hr (M.ay M.ai (M.ay (M.pv 11) (M.ay (M.pv 9) M.aa)))) (M.iC (n:=3) rfl (M.bP (M.aG (i:=12) cF.nd rfl (Or.inr rfl)) (M.bP (M.aG (i:=13) cF.nd rfl (Or.inl rfl)) (M.bP (M.aG (i:=14) cF.nd rfl (Or.inl rfl)) M.fm)))))
   (M.ah (M.az (i:=15) cF.nd rfl (Or.inl rfl) (M.ow D_law_asked hr (M.ay M.ai (M.ay (M.pv 11) (M.ay (M.pv 9) M.aa)))))
   (M.ah (M.bu (M.pw_pt (M.pw_or (M.aA (M.pM hr) (M.pv 11) (M.pv 4) (aN _)) (M.pw_or (M.eB (M.cu (M.pv 14))) (M.pw_or1 (M.eB (M.cu (M.aM M.bq (M.pv 15) M.ai (fun _ _=>rfl))))))))
    (M.aj (M.aF M.eW))
    M.aL)
   (M.ah (M.bu (M.cu (M.ow D_law_goes_round hr (M.ay (M.pv 10) M.aa)))
    (M.aj (M.aF (M.jJ (M.dY M.zF (M.pv 12) M.iD (aN _)) (M.jJ (M.ow D_law_ring hr (M.ay (M.pv 10) (M.ay (M.pv 13) M.aa))) (M.jJ (M.dY M.zF (M.aM M.bq (M.pv 15) M.ai (fun _ _=>rfl)) M.iD (aN _)) (M.pI (M.ow D_law_ring hr (M.ay (M.pv 10) (M.ay (M.aM M.bq (M.pv 15) M.ai (fun _ _=>rfl)) M.aa)))))))))
    M.aL)
   (M.ah (M.bu (M.pw_pt (M.pw_or (M.eB (M.cu (M.n5 M.DF (by rfl) T.isinstance (by decide +kernel) (M.ay (M.pv 12) (M.ay (M.qO "list" (by rfl) T.list (by decide +kernel)) M.aa))))) (M.pw_or (M.aA (M.pM hr) (M.n5 M.zC (by rfl) T.sorted (by decide +kernel) (M.ay (M.pv 12) M.aa)) (M.n5 (M.zD hr) (by rfl) T.sorted (by decide +kernel) (M.ay (M.pv 10) M.aa)) (aN _)) (M.pw_or1 (M.aA M.zF (M.aM M.bq (M.pv 15) M.ai (fun _ _=>rfl)) M.iD (aN _))))))
    (M.aj (M.aF M.eW))
    M.aL)
   (M.ah (M.cV PassesOwn.never rfl (M.Fg (M.pv 10)) (M.aG (i:=16) cF.nd rfl (Or.inr rfl))
    (M.aj (M.bu (M.aA (M.pM hr) (M.bF (N:=["_law_one","_law_word","_law_told"]) (caps:=[none,some 16,some 12]) (cG (by decide +kernel)) (by rfl) (by rfl) rfl (M.bB (M.lZ (M.pv 10) (M.pv 16) (fun _ _=>rfl))) (fun _ _ _ _=>(M.aG (i:=0) (by decide +kernel:List.Nodup (["_law_one","_law_word","_law_told"]:List Str)) rfl (Or.inl rfl))) (fun _ _ _ _=>(M.bM (M.aA M.FG (M.dZ PySem.F.plainAttrs_list PySem.F.slot_list_index PySem.F.type_list_index M.pQ (M.pv 2) (M.ay (M.pv 0) M.aa)) (M.dZ PySem.F.plainAttrs_list PySem.F.slot_list_index PySem.F.type_list_index M.pQ (M.pv 2) (M.ay (M.pv 1) M.aa)) (aN _)))) (fun _ _ _ _=>(M.pv 0))) (M.aS M.aa) (aN _))
     (M.aj (M.aF M.eW))
     M.aL)))
   (M.aj (M.aF M.eW))))))))))))))))))),fun ds S Q h => ?_⟩
  obtain ⟨ns,rfl,rfl,q⟩:=h
  have e0:aU Bd [.fG ns]=[some (.fG ns),none,none,none,none,none,none,none,none,none,none,none,none,none,none,none,none]:=rfl
  rw [e0]
  refine dh fun N1 hN1 => ?_
  push_cast [bQ]
  refine ⟨ns,rfl,fun o1 h1=>hN1 _ _ ?_⟩
  clear hN1
  show fB _ _ _ [some (.fG ns),some (.loc 0),none,none,none,none,none,none,none,none,none,none,none,none,none,none,none] [some o1]
  refine dh fun N1 hN1 => ?_
  push_cast [true_and]
  refine j6 h1 (by decide) (by decide) (by decide) fun z1 o2 hz1 h2 => ?_
  push_cast [true_and]
  rw [show (1:Int)+(z1:Int)=((1+z1:Nat):Int) by lia]
  refine ⟨0,_,1+z1,o2,rfl,rfl,h2,by lia,by lia,fun hs o3 lh hh h3=>hN1 _ _ ?_⟩
  clear hN1
  show fB _ _ _ [some (.fG ns),some (.loc 0),some (.lst (hs.map D.str)),none,none,none,none,none,none,none,none,none,none,none,none,none,none] [some o3]
  refine dh fun N1 hN1 => ?_
  push_cast [true_and]
  refine ⟨sz rfl,j6 h3 (by lia) (by decide) (by decide) fun z2 o4 hz2 h4 => ?_⟩
  refine ⟨(z2:Int),rfl,?_⟩
  have hz2':z2≤[D.str "m"].length:=by show z2≤1;lia
  push_cast [p9]
  rw [pW hz2',show [D.str "m"].take z2=((["m"]:List Str).take z2).map D.str by rw [zca];rfl]
  have hms:∀ y∈(["m"]:List Str).take z2,Nm y:=fun y hy=>by
   have:=zaC hy
   simp only [zaP] at this
   subst this
   show isName (.str "m")=true
   decide +kernel
  have lm:((["m"]:List Str).take z2).length≤7:=by rw [zbn];lia
  generalize (["m"]:List Str).take z2=ms at hms lm
  refine hN1 _ _ ?_
  clear hN1
  refine dh fun N1 hN1 => ?_
  push_cast [bQ]
  refine ⟨zcz _,hN1 _ _ ?_⟩
  clear hN1
  show fB _ _ _ _ [some o4,some (.lst [])]
  refine dh fun N1 hN1 => ?_
  push_cast [true_and]
  refine j6 h4 (by lia) (by decide) (by decide) fun z3 o5 hz3 h5 => ?_
  push_cast [true_and]
  refine hN1 _ _ ?_
  clear hN1
  generalize decide ((z3:Int)=1)=onw
  have hsl:hs.length≤4:=by lia
  have hho:∀ y∈hs,dB y=true:=fun y hy=>gb (hh y hy)
  have hu:Nm "u" ∧ Nm "uu" := ⟨show isName (.str "u")=true by decide +kernel,show isName (.str "uu")=true by decide +kernel⟩
  show fB _ _ _ [some (.fG ns),some (.loc 0),some (.lst (hs.map D.str)),some (.lst (ms.map D.str)),some (.loc 1),some (.bl onw),none,none,none,none,none,none,none,none,none,none,none] [some o5,some (.lst [])]
  refine dh fun N1 hN1 => ?_
  have tail:∀ (n2:Nat) (o:MO) (rs:Ru) (ext:aK) (v6 v7 v8 v9:Option D),Fd n2 o→n2≤10000→gB rs→N1 [some (.fG ns),some (.loc 0),some (.lst (hs.map D.str)),some (.lst (ms.map D.str)),some (.loc 1),some (.bl onw),v6,v7,v8,v9,none,none,none,none,none,none,none] (some o::some (.lst (rL rs))::ext):=by
   intro n2 o rs ext v6 v7 v8 v9 ho hn2 hR
   refine hN1 _ _ ?_
   clear hN1
   refine dh fun N2 hN2 => ?_
   have t2:∀ (n3 m:Nat) (o:MO) (rs:Ru) (S:aK),S[0]? = some (some o)→m≠0→S[m]? = some (some (.lst (rL rs)))→Fd n3 o→n3≤20000→gB rs→N2 [some (.fG ns),some (.loc 0),some (.lst (hs.map D.str)),some (.lst (ms.map D.str)),some (.loc m),some (.bl onw),v6,v7,v8,v9,none,none,none,none,none,none,none] S:=by
    intro n3 m o rs S hS0 hm hSm ho hn3 hR
    refine hN2 _ _ ⟨m,rL rs,hSm,?_⟩
    clear hN2
    obtain ⟨U,hU⟩:∃ U,S.set m none=some o::U:=by
     cases S with
     | nil=>simp at hS0
     | cons a S =>
      cases m with
      | zero=>exact absurd rfl hm
      | succ m =>
       simp at hS0
       subst hS0
       exact ⟨S.set m none,rfl⟩
    rw [hU]
    have eδ:List.map (Option.map (sb m (.lst (rL rs)))) [some (.fG ns),some (.loc 0),some (.lst (hs.map D.str)),some (.lst (ms.map D.str)),some (.loc m),some (.bl onw),v6,v7,v8,v9,none,none,none,none,none,none,none]=[some (.fG ns),some (.loc 0),some (.lst (hs.map D.str)),some (.lst (ms.map D.str)),some (rD rs),some (.bl onw),v6.map (sb m (.lst (rL rs))),v7.map (sb m (.lst (rL rs))),v8.map (sb m (.lst (rL rs))),v9.map (sb m (.lst (rL rs))),none,none,none,none,none,none,none]:=by
     simp [sb,Ne.symm hm];rfl
    rw [eδ]
    generalize v6.map (sb m (.lst (rL rs)))=v6
    generalize v7.map (sb m (.lst (rL rs)))=v7
    generalize v8.map (sb m (.lst (rL rs)))=v8
    generalize v9.map (sb m (.lst (rL rs)))=v9
    refine dh fun N3 hN3 => ?_
    push_cast [bQ]
    refine ⟨rs,rfl,hR,fun ld hB=>hN3 _ _ ?_⟩
    clear hN3
    have hL:(some o::U).length=U.length+1:=rfl
    show fB _ _ _ [some (.fG ns),some (.loc 0),some (.lst (hs.map D.str)),some (.lst (ms.map D.str)),some (rD rs),some (.bl onw),v6,v7,v8,v9,some (.loc (U.length+1)),none,none,none,none,none,none] (some o::(U++[some (bD ld)]))
    have hLd:∀ (o:MO) (E:aK),(some o::(U++[some (bD ld)]++E))[U.length+1]? = some (some (bD ld)):=fun o E=>by simp
    refine dh fun N3 hN3 => ?_
    push_cast [bQ]
    refine ⟨sz rfl,by rw [zbE,yag];show _+1≤_;lia,?_⟩
    refine j6 ho (by lia) (by decide) (by decide) fun z6 o8 hz6 h8 => ?_
    push_cast [true_and]
    rw [show (1:Int)+(z6:Int)=((1+z6:Nat):Int) by lia]
    have d2:nv 2=63:=rfl
    refine ⟨sz rfl,?_⟩
    refine ⟨0,(some o8::(U++[some (bD ld)])).length,n3+1,1+z6,hs++(["u"]:List Str),ms,o8,by rw [zbI];rfl,fun y hy => ?_,hms,by rw [zaM];show _+1≤_;lia,lm,by simp,rfl,by simp,by lia,by lia,h8,by lia,fun pt o9 c hd hN9 hok h9=>hN3 _ _ ?_⟩
    ·rcases zbA.mp hy with hy | hy
     ·exact hh y hy
     ·rw [zaP.mp hy];exact hu.1
    clear hN3
    have eS:zcE (zcE ((some o8::(U++[some (bD ld)]))++[some (MO.lst [D.int ((1+z6:Nat):Int)])]) 0 (some o9)) (some o8::(U++[some (bD ld)])).length (some (.lst [.int (c:Int)]))=some o9::(U++[some (bD ld)]++[some (.lst [.int (c:Int)])]):=by simp
    rw [eS]
    have hSL:=hLd o9 [some (.lst [.int (c:Int)])]
    generalize some o9::(U++[some (bD ld)]++[some (MO.lst [.int (c:Int)])])=S at hSL
    generalize U.length+1=L at hSL
    clear eS hLd
    have hNp:N pt≤50:=by lia
    have hdp:dp pt≤3:=by lia
    show fB _ _ _ [some (.fG ns),some (.loc 0),some (.lst (hs.map D.str)),some (.lst (ms.map D.str)),some (rD rs),some (.bl onw),v6,v7,v8,some (tD pt),some (.loc L),none,none,none,none,none,none] S
    refine dh fun N3 hN3 => ?_
    push_cast [qd,rD]
    refine hN3 _ _ ?_
    clear hN3
    have same:∀ (Q':Bool→aK→Prop) (d1 d2 d3 d4:D) (v16:Option D),Q' false S→AQ (aB (fQ GY (aX 11) (aX 4))) (AQ (m5 (kG (aX 14))) (m5 (kG (fQ qm (aX 15) (aC (D.int 2)))))) [some (.fG ns),some (.loc 0),some (.lst (hs.map D.str)),some (.lst (ms.map D.str)),some (rD rs),some (.bl onw),v6,v7,v8,some (tD pt),some (.loc L),some (rD rs),some d1,some d2,some (.bl true),some (.tup [d3,d4,.bl true]),v16] S Q':=fun Q' d1 d2 d3 d4 v16 q'=>by
     push_cast [rD]
     show fit (.lst (rL rs))=true∧fit (.lst (rL rs))=true∧_
     refine ⟨zZ hR,zZ hR,_,rfl,?_⟩
     have:(!PyData.eqv (py (.lst (rL rs))) (py (.lst (rL rs))))=false:=by
      show (!PyData.eqv (.list (dW (rL rs))) (.list (dW (rL rs))))=false
      rw [F6 hR];rfl
     show if (!PyData.eqv (py (.lst (rL rs))) (py (.lst (rL rs))))=true then _ else _
     rw [this,yIn (by decide)]
     push_cast [aV,at2]
     exact q'
    by_cases hC:yc rs
    ·refine dh fun N3 hN3 => ?_
     push_cast [kh,gu,ki]
     refine ⟨0,rs,pt,rfl,.inl rfl,hR,hok,hdp,hNp,fun _ r hr1=>⟨_,rfl,rfl,_,_,rfl,_,_,rfl,_,_,rfl,rfl,hN3 _ _ ?_⟩,fun h=>absurd hC h,fun h=>absurd hC h⟩
     clear hN3
     refine dh fun N3 hN3 => ?_
     push_cast [true_and]
     refine ⟨1,rs,pt,rfl,.inr rfl,hR,hok,hdp,hNp,fun _ r' hr2=>hN3 _ _ ?_,fun h=>absurd hC h,fun h=>absurd hC h⟩
     clear hN3
     refine dh fun N3 hN3 => ?_
     refine same _ _ _ _ _ _ ?_
     push_cast [true_and]
     refine hN3 _ _ ?_
     clear hN3
     refine dh fun N3 hN3 => ?_
     push_cast [true_and]
     refine ⟨rs,L,ld,rfl,hSL,hB,hR,fun b hb => ?_⟩
     obtain rfl:b=true:=hb.mpr hC
     push_cast [Jb,vz,aV,fO,iM]
     refine ⟨rs,L,ld,r,rfl,hSL,hB,hR,hr1,?_⟩
     push_cast [true_and]
     refine ⟨rs,L,ld,r',rfl,hSL,hB,hR,hr2,?_⟩
     exact nV q
    ·refine dh fun N3 hN3 => ?_
     push_cast [kh,gu,ki]
     refine ⟨0,rs,pt,rfl,.inl rfl,hR,hok,hdp,hNp,fun h=>absurd h hC,fun _ _ os hos=>⟨_,rfl,rfl,_,_,rfl,_,_,rfl,_,_,rfl,rfl,hN3 _ _ ?_⟩,fun _ z=>absurd z (by decide)⟩
     clear hN3
     refine dh fun N3 hN3 => ?_
     push_cast [true_and]
     refine ⟨1,rs,pt,rfl,.inr rfl,hR,hok,hdp,hNp,fun h=>absurd h hC,fun _ z=>absurd z (by decide),fun _ _ qt=>hN3 _ _ ?_⟩
     clear hN3
     refine dh fun N3 hN3 => ?_
     refine same _ _ _ _ _ _ ?_
     push_cast [true_and]
     refine hN3 _ _ ?_
     clear hN3
     refine dh fun N3 hN3 => ?_
     push_cast [true_and]
     refine ⟨rs,L,ld,rfl,hSL,hB,hR,fun b hb => ?_⟩
     obtain rfl:b=false:=by cases b with
      | false=>rfl
      | true=>exact absurd (hb.mp rfl) hC
     push_cast [true_and]
     refine hN3 _ _ ?_
     clear hN3
     have hol:os.length≤4:=by
      have:=bx hos.nd (m:=hds rs) fun x hx=>(hos.hd x).mp hx
      have h4:=hR.ln
      simp only [hds,zbE] at this;lia
     have hoo:∀ y∈os,dB y=true:=fun y hy=>dm hR y ((hos.hd y).mp hy)
     refine dh fun N3 hN3 => ?_
     push_cast [vU,vV,jE hSL,aV,fO]
     refine ⟨true,rfl,?_⟩
     rw [yIn (by decide)]
     refine .inl ⟨os,rfl,by lia,fun s1 hp1 hs1=>⟨_,ld.map (·.1),by rw [zcl];rfl,?_,fun s2 hp2 hs2 => ?_⟩⟩
     ·have:=bx hB.nd (m:=hds rs) fun x hx=>(hB.ks x).mp hx
      have h4:=hR.ln
      simp only [hds,zbE] at this ⊢;lia
     obtain rfl:s1=s2:=Dq (Dp (hp1.nodup_iff.mpr hos.nd) hs1) (Dp (hp2.nodup_iff.mpr hB.nd) hs2) fun y=>hp1.mem_iff.trans ((hos.hd y).trans ((hB.ks y).symm.trans hp2.mem_iff.symm))
     refine ne_self (fun y hy=>hoo y (hp1.mem_iff.mp hy)) (by rw [hp1.length_eq];lia) ⟨_,rfl,?_⟩
     rw [yIn (by decide)]
     have hnn:vz (tD qt)=false:=by cases qt <;> rfl
     refine ⟨rfl,_,rfl,?_⟩
     rw [hnn,yIn (by decide)]
     refine hN3 _ _ ?_
     clear hN3 hp1 hp2 hs1 hs2
     refine dh fun N3 hN3 => ?_
     show iJ (Cn P w (aX 10)) (bG 16) (nK (aB (fQ GY (bZ [none,some 16,some 12] (cT (qi P w (aX 10) (aX 16))) (bG 0) _ _) _)) _ _) _ _ _
     push_cast [iJ,Cn]
     refine ⟨L,rfl,_,_,hSL,fun d hd => ?_,fun o => ?_⟩
     ·obtain ⟨p,_,rfl⟩:=zck.mp hd;rfl
     have hSp:=iy (o':=pO P w o (ld.map fun p=>Sum.inr p.1) (ld.map fun p=>D.lst (p.2.map D.str))) hSL
     generalize hSS:S.set L (some (pO P w o (ld.map fun p=>Sum.inr p.1) (ld.map fun p=>D.lst (p.2.map D.str))))=S2 at hSp
     have ek:(ld.map fun p=>(Sum.inr p.1:Key)).map kD=ld.map fun p=>D.str p.1:=by rw [zcl];rfl
     rw [ek]
     refine cE (fun rest δ S'=>∃ (l1 l2:List (Str×List Str)) (v16:Option D),rest=l2.map (fun p=>D.str p.1)∧l1++l2=ld∧S'=S2∧δ=[some (.fG ns),some (.loc 0),some (.lst (hs.map D.str)),some (.lst (ms.map D.str)),some (rD rs),some (.bl onw),v6,v7,v8,some (tD pt),some (.loc L),some (rD rs),some (.lst (os.map D.str)),some D.bh,some (.bl true),some (.tup [tD qt,.bh,.bl true]),v16]) ?_ ?_ _ _ _ ⟨[],ld,none,rfl,rfl,rfl,rfl⟩
     ·rintro δ S' ⟨l1,l2,v16,_,_,rfl,rfl⟩
      refine ⟨hSp,hN3 _ _ ?_⟩
      push_cast [true_and]
      exact nV q
     ·rintro x xs δ S' N' ⟨l1,l2,v16,hr2,he,rfl,rfl⟩ hN
      cases l2 with
      | nil=>simp at hr2
      | cons wl l2 =>
       rw [zbX] at hr2
       injection hr2 with e1 e2
       subst e1;subst e2
       obtain ⟨wd,l⟩:=wl
       have hml:(wd,l)∈ld:=by rw [← he];simp
       have hl1:=hB.ln wd l hml
       have hwo:wd∈os:=(hos.hd wd).mpr ((hB.ks wd).mp (zck.mpr ⟨_,hml,rfl⟩))
       obtain ⟨i,hi,hiat,himin⟩:=ud hwo
       refine ⟨hSp,?_⟩
       push_cast [bZ,cT,qi]
       refine ⟨L,rfl,o,_,_,hSp,by rw [zbE,zbE],_,rfl,_,gm hB.nd hml,?_⟩
       push_cast [bT]
       refine bg (g:=D.str) (c:=fun _=>false) (f:=D.str) (en:=fun a=>[some (.str a),some (.str wd),some (.lst (os.map D.str))]) (D0:=fun δ=>∃ a,δ=[a,some (.str wd),some (.lst (os.map D.str))]) trivial (fun a=>⟨_,rfl⟩) l [] _ ⟨none,rfl⟩ ?_ ?_ ?_ (by rw [yag];simp;lia) ?_
       ·rintro a _ δ ⟨x,rfl⟩ Q' q'
        exact q'
       ·intro a ha Q' q'
        have hld:=(hB.at_ wd l hml a).mp ha
        obtain ⟨j,hj,hjat⟩:=hos.up i wd a hiat hld
        obtain ⟨j0,hj0,hj0at,hj0min⟩:=ud ((hos.hd a).mpr hld.1)
        have hle:j0≤j:=by
         rcases zcr j j0 with z | z
         ·exact absurd hjat (hj0min j z)
         ·exact z
        push_cast [xP,ku,true_and]
        refine ⟨os,a,j0,rfl,rfl,hj0at,hj0min,os,wd,i,rfl,rfl,hiat,himin,?_⟩
        push_cast [true_and]
        have:decide ((i:Int)<(j0:Int))=false:=yDf (by lia)
        rw [this];exact q'
       ·intro a _ hc
        exact absurd hc (by decide)
       ·rw [zbH,List.filter_eq_nil_iff.mpr (by simp)]
        refine ⟨zcz _,ne_nil (l:=[]) (by simp) (by simp) ⟨_,rfl,?_⟩⟩
        rw [yIn (by decide)]
        exact hN _ _ ⟨l1++[(wd,l)],l2,_,rfl,by rw [zbd];exact he,rfl,rfl⟩
   clear hN2
   push_cast [bQ]
   refine j6 ho (by lia) (by decide) (by decide) fun z7 o7 hz7 h7 => ?_
   push_cast [true_and]
   refine eF (fun _ => ?_) (fun _=>t2 _ 1 o7 rs _ rfl (by decide) rfl h7 (by lia) hR)
   refine ⟨0,n2+1,hs,o7,rfl,hh,by lia,hsl,rfl,h7,by lia,fun rs' o8 hR' h8 => ?_⟩
   refine t2 _ (some o8::some (MO.lst (rL rs))::ext).length o8 rs' _ rfl (by simp) ?_ h8 (by lia) hR'
   show ((some o8::some (MO.lst (rL rs))::ext)++[some (MO.lst (rL rs'))])[_]? = _
   simp
  clear hN1
  push_cast [iJ,xw]
  refine j6 h5 (by lia) (by decide) (by decide) fun z4 o6 hz4 h6 => ?_
  refine ⟨(z4:Int),rfl,by lia,by lia,?_⟩
  refine cE (fun rest δ S'=>∃ (n2:Nat) (o:MO) (rs:Ru) (ext:aK) (v6 v7 v8 v9:Option D),S'=some o::some (.lst (rL rs))::ext∧Fd n2 o∧n2+rest.length*1000≤10000∧rs.length+rest.length≤4∧(∀ r∈rs,Nm r.1∧lq r.2∧N r.2≤8∧dp r.2≤3)∧δ=[some (.fG ns),some (.loc 0),some (.lst (hs.map D.str)),some (.lst (ms.map D.str)),some (.loc 1),some (.bl onw),v6,v7,v8,v9,none,none,none,none,none,none,none]) ?_ ?_ _ _ _
   ⟨_,o6,[],[],none,none,none,none,rfl,h6,by simp [fH];lia,by simp [fH];lia,by simp,rfl⟩
  ·rintro δ S' ⟨n2,o,rs,ext,v6,v7,v8,v9,rfl,ho,hn2,hrl,hrs,rfl⟩
   exact ⟨trivial,tail n2 o rs ext v6 v7 v8 v9 ho (by lia) ⟨by lia,fun r hr=>(hrs r hr).1,fun r hr=>(hrs r hr).2⟩⟩
  ·rintro x xs δ S' N' ⟨n2,o,rs,ext,v6,v7,v8,v9,rfl,ho,hn2,hrl,hrs,rfl⟩ hN
   clear tail
   have ID:(xs.length+1)*1000=xs.length*1000+1000:=by rw [Nat.add_mul]
   simp only [zbo,ID] at hn2 hrl
   refine ⟨trivial,?_⟩
   show fB _ _ _ [some (.fG ns),some (.loc 0),some (.lst (hs.map D.str)),some (.lst (ms.map D.str)),some (.loc 1),some (.bl onw),some x,v7,v8,v9,none,none,none,none,none,none,none] _
   refine dh fun N2 hN2 => ?_
   push_cast [true_and]
   refine ⟨hs.length,by simp [fy],j6 ho (by lia) (by lia) (by lia) fun at' o7 hat h7=>hN2 _ _ ?_⟩
   clear hN2
   refine dh fun N2 hN2 => ?_
   push_cast [true_and]
   refine ⟨sz rfl,by rw [zbE,yag];show _+2≤_;lia,hN2 _ _ ?_⟩
   clear hN2
   refine dh fun N2 hN2 => ?_
   have words:∀ (ws:List Str),(∀ y∈ws,Nm y)→ws.length≤7→N2 [some (.fG ns),some (.loc 0),some (.lst (hs.map D.str)),some (.lst (ms.map D.str)),some (.loc 1),some (.bl onw),some x,some (.int at'),some (.lst (ws.map D.str)),v9,none,none,none,none,none,none,none] (some o7::some (.lst (rL rs))::ext):=by
    intro ws hws hwl
    refine hN2 _ _ ?_
    clear hN2
    refine dh fun N3 hN3 => ?_
    push_cast [bQ]
    refine j6 h7 (by lia) (by decide) (by decide) fun z6 o8 hz6 h8 => ?_
    push_cast [true_and]
    rw [show (1:Int)+(z6:Int)=((1+z6:Nat):Int) by lia]
    have d3:nv 3=255:=rfl
    refine ⟨sz rfl,?_⟩
    refine ⟨0,(some o8::some (MO.lst (rL rs))::ext).length,n2+1+1,1+z6,ws,ms,o8,rfl,hws,hms,hwl,lm,by simp,rfl,by simp,by lia,by lia,h8,by lia,fun pt o9 c hd hN9 hok h9=>hN3 _ _ ?_⟩
    clear hN3
    have eS:zcE (zcE ((some o8::some (MO.lst (rL rs))::ext)++[some (MO.lst [D.int ((1+z6:Nat):Int)])]) 0 (some o9)) (some o8::some (MO.lst (rL rs))::ext).length (some (.lst [.int (c:Int)]))=some o9::some (.lst (rL rs))::(ext++[some (.lst [.int (c:Int)])]):=by simp
    rw [eS]
    have hx:hs[at']? = some hs[at']:=zah (by lia)
    have hxm:=hh _ (zaA hx)
    generalize hs[at']=hd1 at hx hxm
    have e4:bf (some o9::some (MO.lst (rL rs))::(ext++[some (.lst [.int (c:Int)])])) (.loc 1) = .lst (rL rs):=rfl
    push_cast [xP,ku,e4,mJ]
    refine ⟨.str hd1,c6 (by rw [zbb,hx];rfl),sz rfl,1,_,_,rfl,rfl,rfl,by rw [rL,zbE,yag];lia,?_⟩
    refine hN _ _ ⟨n2+1+1+nv 3,o9,rs++[(hd1,pt)],_,_,_,_,_,by simp only [rL,zbI,zaS,zaR];rfl,h9,by lia,by rw [zaM,zar];lia,fun r hr => ?_,rfl⟩
    rcases zbA.mp hr with hr | hr
    ·exact hrs r hr
    ·rw [zaP.mp hr]
     exact ⟨hxm,hok,by show N pt≤8;lia,hd⟩
   clear hN2
   push_cast [true_and]
   refine eF (fun _ => ?_) (fun _ => ?_)
   ·rw [show (at':Int)+1=((at'+1:Nat):Int) by lia]
    push_cast [p9]
    have Kl:at'+1≤(hs.map D.str).length:=by rw [zbE];lia
    rw [jk Kl]
    refine ⟨sz rfl,by rw [zbp,zbE,yag];show _+2≤_;lia,?_⟩
    have:=words (hs.drop (at'+1)++(["u","uu"]:List Str)) (fun y hy => ?_) (by rw [zaM,zbp];show _+2≤_;lia)
    ·rw [zbI,zcb] at this
     exact this
    ·rcases zbA.mp hy with hy | hy
     ·exact hh y (zaD hy)
     ·simp only [zbW,zbt,or_false] at hy
      rcases hy with rfl | rfl
      ·exact hu.1
      ·exact hu.2
   ·have:=words (hs++(["u","uu"]:List Str)) (fun y hy => ?_) (by rw [zaM];show _+2≤_;lia)
    ·rw [zbI] at this
     exact this
    ·rcases zbA.mp hy with hy | hy
     ·exact hh y hy
     ·simp only [zbW,zbt,or_false] at hy
      rcases hy with rfl | rfl
      ·exact hu.1
      ·exact hu.2
end
end K67
namespace J
open PySem
theorem by5 {p:List yaj→Prop} (h:∀ a b c d f,p [a,b,c,d,f]) (us:List yaj) (e:us.length=5):p us:=by
 cases us with
 | nil=>cases e
 | cons a r=>exact by4 (p:=fun r=>p (a::r)) (h a) r (Nat.succ.inj e)
end J
namespace K67
open PySem L2 M
noncomputable def strOf:yaj→Option Str
 | .str x _=>some x
 | _=>none
theorem nR:∀ {vs:List yaj}{ss:List Str},vs.map strOf=ss.map some→Vals (ss.map V.str) vs
 | [],[],_=>.nil
 | v::vs,s::ss,h=>by
  rw [zbX,zbX] at h
  have h1:=zcD.inj h
  refine .cons ?_ (nR h1.2)
  cases v <;> simp [strOf] at h1
  obtain ⟨rfl,_⟩:=h1
  exact ⟨_,rfl⟩
theorem Er {K:yaH}{a:Addr}{od:Option Addr}{its:Array yaj}{n:Nat}{sl:Array (Option yaj)}{ss:List Str} (l:K.lookup a=some ⟨.type "tuple",od,.seq its n,sl⟩) (q:(its.toList.map strOf==ss.map some)=true) (h:ss.length≤100) (H:Hp):dQ K H a (ss.map V.str):=by
 have v:=nR (eq_of_beq q)
 refine .inr ⟨_,its,n,l,rfl,rfl,?_,v⟩
 have:=v.length
 rw [zbE] at this
 rw [yag,← zaJ];lia
noncomputable def j9 (K:yaH) (C:Addr):Bool:=excIn K C&&zbR K (.ref C) "__getattribute__" == some (some (.builtin "BaseException.__getattribute__"))&&zbR K (.ref C) "__getattr__" == some none &&
 zbR K (.ref C) "__setattr__" == some (some (.builtin "object.__setattr__"))&&PySem.W.jf K C&&zcg K (.ref C) (.type "BaseException")==some true &&
 zbR K (.ref C) "__class__" == some (some (.builtin "object.__class__"))&&zbl K (.builtin "object.__class__") "__get__" == some (some (.builtin "getset_descriptor.__get__")) &&
 PySem.W.takesIn K (.builtin "object.__class__")==some true&&PySem.W.mroIn K C (.type "object")==some true&&zbS K (.ref C)
theorem j9.is {K:yaH}{C:Addr} (h:j9 K C=true):Jz K C∧zbS K (.ref C)=true:=by
 simp only [j9,zbw,beq_iff_eq] at h
 obtain ⟨⟨⟨⟨⟨⟨⟨⟨⟨⟨a,b⟩,c⟩,d⟩,e⟩,f⟩,g⟩,h⟩,i⟩,j⟩,k⟩:=h
 exact ⟨⟨⟨a,b,c,d,e,f⟩,g,h,i,j⟩,k⟩
noncomputable def jT (l:List Addr) (i:Nat):Addr:=l.getD i 0
noncomputable def zN (K:yaH) (l:List Addr) (CP:Addr):Bool:=((zcC 7).all fun j=>zbT K (.ref (jT l 6)) (.ref (jT l j))==some (6==j))&&zbT K (.ref (jT l 6)) (.type "ValueError")==some true&&j9 K (jT l 6) &&
 zbR K (.ref (jT l 6)) "ring" == some none&&zcg K (.ref (jT l 6)) (.ref CP)==some true&&excIn K CP&&zcg K (.ref CP) (.type "BaseException")==some true
theorem zN.at_ {K:yaH}{l:List Addr}{CP:Addr} (h:zN K l CP=true):(∀ j,j<7→zbT K (.ref (jT l 6)) (.ref (jT l j))=some (6==j))∧zbT K (.ref (jT l 6)) (.type "ValueError")=some true∧j9 K (jT l 6)=true∧zbR K (.ref (jT l 6)) "ring" = some none∧zcg K (.ref (jT l 6)) (.ref CP)=some true∧excIn K CP=true∧zcg K (.ref CP) (.type "BaseException")=some true:=by
 simp only [zN,zbw,beq_iff_eq] at h
 obtain ⟨⟨⟨⟨⟨⟨a,b⟩,c⟩,d⟩,e⟩,f⟩,g⟩:=h
 exact ⟨fun j hj=>beq_iff_eq.mp (zbr.mp a j (List.mem_range.mpr hj)),b,c,d,e,f,g⟩
theorem JJ {K:yaH}{mg:Str→Option yaj}{C:Addr}{x q:Str}{ps:List Str}{st:Stmt} (h:j9 K C=true) (S:M.Jf K C "__init__" q ps st):Jc K mg x C q ps st:=by
 obtain ⟨f,fd,F,m,b⟩:=S.ex
 have c:=j9.is h
 exact ⟨⟨f,fd,⟨c.1.toXCls,m.at_,m.fn,c.2⟩,F,b⟩⟩
section
variable {P:yak}{w:yal}{K:yaH}{mg:Str→Option yaj}{base:Heap}
def uW (K:yaH):Sp:=fun vs H Q _=>∃ (a:Addr) (ns:List Int),vs=[.ref a]∧cH K H a (ns.map V.int)∧ns.length≤63∧∀ H',Q (.bl true) H'
theorem Ei {f:Addr}{fd:yaq}{k:Nat} (h:cJ P w K mg base oK k f fd qk (aD K yF)):cJ P w K mg base oK k f fd qk (uW K):=h.imp fun vs H Q E z=>by
 obtain ⟨a,ns,rfl,hS,_,q⟩:=z
 refine ⟨⟨H,fun _=>none⟩,[.fG ns],[],fun r S=>r = .dat (.bl true),⟨dF.refl _,fun n o e=>by simp at e,fun n m o o' e=>by simp at e,fun _ _=>rfl⟩,?_,⟨ns,rfl,rfl,rfl⟩,fun r S' v w' H' _ _ rep e => ?_⟩
 ·simp only [aq,Rep];exact ⟨_,_,rfl,⟨a,rfl,hS⟩,rfl⟩
 ·subst e
  have:v = .bl true:=tG rep rfl
  subst this
  exact q H'
end
open PySem L2
theorem all_mk {l:PySem.W.OpenLaw}{w:yal}{K:yaH}{h:Heap}{mg:Str→Option yaj}{fa:Addr} (X:K.In h) (G:h.Ns yar mg) (hfa:mg "law" = some (.ref fa))
  {X0:Addr}{X1:Addr}{X2:Addr}{X3:Addr}{X4:Addr}{X5:Addr}{X6:Addr}{CP:Addr}{t_ANY:Tok}{ad_LEAVES:Addr}{od_LEAVES:Option Addr}{its_LEAVES:Array yaj}{n_LEAVES:Nat}{sl_LEAVES:Array (Option yaj)}
  (a_X0:zcv K yar "NoKnot" = some (some (.ref X0)))
  (a_X1:zcv K yar "NoName" = some (some (.ref X1)))
  (a_X2:zcv K yar "Twice" = some (some (.ref X2)))
  (a_X3:zcv K yar "TooMany" = some (some (.ref X3)))
  (a_X4:zcv K yar "NoTie" = some (some (.ref X4)))
  (a_X5:zcv K yar "TooLong" = some (some (.ref X5)))
  (a_X6:zcv K yar "GoesRound" = some (some (.ref X6)))
  (a_CP:zcv K yar "PathError" = some (some (.ref CP)))
  (e_scWithin:iK K "right_within" pe)
  (e_scBelow:iK K "layer_below" tF)
  (e_scAllW:iK K "all_within" zb)
  (e_scWOS:iK K "words_of_steps" E2)
  (e_scOther:iK K "other_side" sY)
  (e_scBk:iK K "backwards" HL)
  (e_scOrder:iK K "order_of" sZ)
  (e_scLeads:iK K "leads_of" tu)
  (e_scLedW:iK K "led_within" yW)
  (e_scRingW:iK K "ring_within" sX)
  (e_scUnf:iK K "unfolded" BN)
  (e_scPut:iK K "put_in" yV)
  (e_scStep:iK K "step_meant" yT)
  (e_scOne:iK K "one_of" E3)
  (e_scFeed:iK K "_law_feed" yZ)
  (e_scDraw:iK K "_law_draw" y9)
  (e_scNames:iK K "_law_names" s9)
  (e_scLLeaf:iK K "_law_leaf" tE)
  (e_scLPat:iK K "_law_pattern" qC)
  (e_scWin:iK K "_law_words_in" yS)
  (e_scLed:iK K "_law_led" E4)
  (e_scGR:iK K "_law_goes_round" JT)
  (e_scRing:iK K "_law_ring" yU)
  (e_scAsk:iK K "_law_asked" E7)
  (e_scLead:iK K "_law_lead_in" yX)
  (e_scLaw:iK K "law" tw)
  (e_scGoes:GZ K X6 "__init__" "GoesRound.__init__" yY)
  (z_len:zcv K yar "len" = some none)
  (z_isinstance:zcv K yar "isinstance" = some none)
  (z_tuple:zcv K yar "tuple" = some none)
  (z_list:zcv K yar "list" = some none)
  (z_range:zcv K yar "range" = some none)
  (z_sorted:zcv K yar "sorted" = some none)
  (z_set:zcv K yar "set" = some none)
  (z_reversed:zcv K yar "reversed" = some none)
  (z_ValueError:zcv K yar "ValueError" = some none)
  (m_ANY:zcv K yar "ANY" = some (some (.str "*" t_ANY)))
  (m_LEAVES:zcv K yar "LEAVES" = some (some (.ref ad_LEAVES)))
  (l_LEAVES:K.lookup ad_LEAVES=some ⟨.type "tuple",od_LEAVES,.seq its_LEAVES n_LEAVES,sl_LEAVES⟩)
  (q_LEAVES:(its_LEAVES.toList.map strOf==(["stay","step","at","off"]:List Str).map some)=true)
  (rP:PySem.W.readsIn K CP (.type "type")=true)
  (fP:PySem.W.findCls K (.ref CP) (.type "type") "__init__" = some (.val (.builtin "ValueError.__init__")))
  (aP:zbl K (.ref CP) "__getattribute__" = some (some (.builtin "type.__getattribute__")))
  (kB:zN K [X0,X1,X2,X3,X4,X5,X6] CP=true) :
  ∃ fd:yaq,(∀ (s:yai) (v:yaj),yaB s fd ⟨[v],[]⟩ [("_law_script",v)])∧∀ base:Heap,K.In base→base.Ns yar mg→cJ l.prog w K mg base oK 9 fa fd ["_law_script"] (uW K):=by
 have uC:=e_scWithin.src (ps:=eZ) X G fun _ _ _ _ _ _=>J.vN (fun _=>rfl)
 have xY:=e_scBelow.src (ps:=gG) X G fun _ _ _ _ _ _=>J.vN (fun _=>rfl)
 have A7:=e_scAllW.src (ps:=jx) X G fun _ _ _ _ _ _=>J.vN (fun _=>rfl)
 have C0:=e_scWOS.src (ps:=nc) X G fun _ _ _ _ _ _=>J.vN (fun _=>rfl)
 have xS:=e_scOther.src (ps:=e7) X G fun _ _ _ _ _ _=>J.vN (fun _=>rfl)
 have Gz:=e_scBk.src (ps:=ig) X G fun _ _ _ _ _ _=>J.vN (fun _=>rfl)
 have xU:=e_scOrder.src (ps:=cP) X G fun _ _ _ _ _ _=>J.vN (fun _=>rfl)
 have xW:=e_scLeads.src (ps:=gF) X G fun _ _ _ _ _ _=>J.vN (fun _=>rfl)
 have A0:=e_scLedW.src (ps:=gW) X G fun _ _ _ _ _ _=>J.Jy (fun _ _ _=>rfl)
 have xR:=e_scRingW.src (ps:=gD) X G fun _ _ _ _ _ _=>J.Bk (fun _ _=>rfl)
 have C1:=e_scUnf.src (ps:=ng) X G fun _ _ _ _ _ _=>J.Bk (fun _ _=>rfl)
 have C2:=e_scPut.src (ps:=eK) X G fun _ _ _ _ _ _=>J.Bk (fun _ _=>rfl)
 have AY:=e_scStep.src (ps:=gV) X G fun _ _ _ _ _ _=>J.Bk (fun _ _=>rfl)
 have C3:=e_scOne.src (ps:=jV) X G fun _ _ _ _ _ _=>J.vN (fun _=>rfl)
 have A5:=e_scFeed.src (ps:=jw) X G fun _ _ _ _ _ _=>J.vN (fun _=>rfl)
 have A6:=e_scDraw.src (ps:=c7) X G fun _ _ _ _ _ _=>J.Bk (fun _ _=>rfl)
 have xV:=e_scNames.src (ps:=gE) X G fun _ _ _ _ _ _=>J.Bk (fun _ _=>rfl)
 have xX:=e_scLLeaf.src (ps:=e8) X G fun _ _ _ _ _ _=>J.Jy (fun _ _ _=>rfl)
 have r9:=e_scLPat.src (ps:=cQ) X G fun _ _ _ _ _ _=>J.by5 (fun _ _ _ _ _=>rfl)
 have CZ:=e_scWin.src (ps:=eG) X G fun _ _ _ _ _ _=>J.vN (fun _=>rfl)
 have C4:=e_scLed.src (ps:=nh) X G fun _ _ _ _ _ _=>J.vN (fun _=>rfl)
 have Gy:=e_scGR.src (ps:=se) X G fun _ _ _ _ _ _=>J.vN (fun _=>rfl)
 have AZ:=e_scRing.src (ps:=jt) X G fun _ _ _ _ _ _=>J.Bk (fun _ _=>rfl)
 have C5:=e_scAsk.src (ps:=ni) X G fun _ _ _ _ _ _=>J.Jy (fun _ _ _=>rfl)
 have A3:=e_scLead.src (ps:=ju) X G fun _ _ _ _ _ _=>J.Bk (fun _ _=>rfl)
 have A4:=e_scGoes.src (ps:=jv) fun _ _ _ _ _ _=>J.Bk (fun _ _=>rfl)
 obtain ⟨f_scLaw,oc_scLaw,od_scLaw,kV_scLaw,dc_scLaw,pm_scLaw,an_scLaw,cd_scLaw,ct_scLaw,sl_scLaw,a_scLaw,l_scLaw,c_scLaw,k_scLaw⟩:=e_scLaw.ex
 have e:=hfa.symm.trans (zch X G a_scLaw)
 cases e
 have F:=mP (st:=tw) l_scLaw c_scLaw k_scLaw
 obtain ⟨q1,q2,q3,q4,q5,q6,q7⟩:=zN.at_ kB
 have T:Txt K mg (jT [X0,X1,X2,X3,X4,X5,X6]) CP:=⟨zaY X G z_len,zaY X G z_isinstance,zaY X G z_tuple,zaY X G z_list,zaY X G z_range,zaY X G z_sorted,zaY X G z_set,zaY X G z_reversed,zaY X G z_ValueError,⟨_,zch X G m_ANY⟩,⟨_,zch X G m_LEAVES,fun H=>Er l_LEAVES q_LEAVES (by decide) H⟩,zch X G a_CP,⟨rP,fP,aP⟩,q6,q7,zch X G a_X0,zch X G a_X1,zch X G a_X2,zch X G a_X3,zch X G a_X4,zch X G a_X5,zch X G a_X6,(j9.is q3).1,q1,q2,q5,q4⟩
 refine ⟨zcu "law" "law" (cj tw) (bA tw) (ao tw) .none kV_scLaw dc_scLaw pm_scLaw an_scLaw cd_scLaw ct_scLaw,fun s v=>.of_eq rfl,fun base _ _ => ?_⟩
 have jW:=Gi (P:=l.prog) (w:=w) (base:=base) T A6
 have GK:=Gg (P:=l.prog) (w:=w) (base:=base) T (JJ q3 A4)
 have Bf:=Gd (P:=l.prog) (w:=w) (base:=base) T A0
 have D6:=IK (P:=l.prog) (w:=w) (base:=base) T C3
 have jA:=CD T xU (CG T xW (II T C0 (Gj T A7 (CI T xY (Ah T uC))))) Bf (CB T xR Bf) GK
 have Be:=IJ T C1 jA.1 jA.2.1 D6 (DS T C2 (Ga T AY D6) 3 (by decide)) (IM T Gz (CC T xS) 3 (by decide))
 have Bg:=CH T xX jW
 exact Ei (Gf T F (Gh T A5) jW (CF T xV jW) (uh T r9 jW Bg 3 (by decide)) (uh T r9 jW Bg 2 (by decide)) (IL T C4 (DR T CZ 3 (by decide))) (Kq T Gy) (Gb T AZ) (IQ T C5 jA.2.2 Be) (Ge T A3 jW))
theorem walk {l:PySem.W.OpenLaw}{q:yak}{loose:List Str}{XP:(Str→Option yaj)→Heap→Prop}{YP:yal→Heap→Prop}{d:DefRec}{K:Params→yaH} (hn:l.most=some 63) (hdf:d.params.defaults=[])
  (hY:∀ (w:yal) (h:Heap),YP w h→(K w.params).In h)
  (F:∀ (w:yal) (mg:Str→Option yaj) (fa:Addr) (h:Heap),(K w.params).In h→h.Ns yar mg→mg d.name=some (.ref fa) →
   ∃ fd:yaq,(∀ (s:yai) (u:yaj),yaB s fd ⟨[u],[]⟩ [("_law_script",u)])∧∀ base:Heap,(K w.params).In base→base.Ns yar mg→cJ l.prog w (K w.params) mg base oK 9 fa fd ["_law_script"] (uW (K w.params))) :
  PySem.W.WalkO q loose XP YP l.row.toRowW d [] (fun f vs=>PySem.call f vs) :=
 L2.Bq (n:=63) (k:=9) (x := "_law_script") (CX:=fun _=>oK) (sp:=fun w=>uW (K w.params)) hn (by decide) hdf ⟨rfl,by decide,by decide,rfl⟩ hY F (fun _ _ a ns hl _ hS=>⟨a,ns,rfl,hS,hl,fun _=>rfl⟩) fun _ _ _ _ _ z=>z
end K67
open PySem PySem.W PyProof.Rows
namespace PySem.Challenge.cw_pathask_k67_orders_and_rings_holds
def tw15366251771230030213:=0
def tw5863628796997716568:=0
def tw28190309154841314:=0
def tw4286140982424402072:=0
def tw12215415722101923870:=0
def tw6523873605543148347:=0
def tw17797720089218170053:=0
def tw10518082607035036296:=0
def tw7575105399423891993:=0
def tw2567698350691503024:=0
def tw6497874267532907870:=0
def tw6755402151882931078:=0
def tw15622494329287167702:=0
def tw17829508755272081919:=0
def tw3059187808759437568:=0
def tw4060764015498010777:=0
def tw12795320050386890258:=0
def tw7095950192026440825:=0
def tw12865341603362694898:=0
def tw12714112649344728355:=0
def tw16827023065061399161:=0
def tw13619456453406813541:=0
def tw897881410866314782:=0
def tw14831689640566265719:=0
def tw6047973875930310520:=0
def tw5662462216985237165:=0
def tw11460747428464771526:=0
def tw7128225369912861530:=0
def tw3524745850494005854:=0
def tw10838049988724214534:=0
def tw14139120477983887180:=0
def tw3421606119136514523:=0
def tw7158587407526427944:=0
def tw1101331395322026275:=0
def tw12865012877274820535:=0
def tw14442320915772666830:=0
def tw3437553930864814628:=0
def tw976205634291862067:=0
def tw15887437256090168202:=0
def tw3118514623154452695:=0
def tw5098450719179499850:=0
def tw11326339225035967939:=0
def tw3244279148077285666:=0
def tw4413544200195680711:=0
def tw13485934079546882159:=0
def tw4249075017204124209:=0
def tw15875063535613665795:=0
def tw9368904484236202493:=0
def tw2092940942444374156:=0
def tw5006453572375408381:=0
def tw10252218950477327110:=0
def tw17783341993870181584:=0
def tw18207784020509821761:=0
def tw18211710322225607370:=0
def tw5651504884457195319:=0
def tw15152938919516965130:=0
def tw18341181842539140391:=0
def tw14111434919377748352:=0
def tw1018711776075266764:=0
def tw13294478931055006859:=0
def tw12394790363288087827:=0
def tw17265772889959946843:=0
def tw2648566593957624149:=0
def tw2875440770593029709:=0
def tw13582609282335195115:=0
def tw1893005962967500266:=0
def tw7309284468471491840:=0
def tw1788545627543703590:=0
def tw1407507373844910306:=0
def tw12435870777347133970:=0
def tw12737094356303343952:=0
def tw10973098617266467154:=0
def tw12929595104273895856:=0
def tw1470304244530673171:=0
def tw10400545983861326810:=0
def tw14145321185434749826:=0
def tw16280001594999838380:=0
def tw12210808029126851151:=0
def tw13868641470717115860:=0
def tw2539662752838585322:=0
def tw11370539140081872817:=0
def tw5118653822114989896:=0
def tw11296007925583905096:=0
def tw14734895366052537499:=0
def tw2397419176668311191:=0
def tw12286263839379591871:=0
def tw501159011912190641:=0
def tw13426533420037227722:=0
def tw18298635537346616723:=0
def tw13369938720131857052:=0
def tw6330798319853206496:=0
def tw17779492446769886307:=0
def tw5964248538457176583:=0
def tw10534235834647722935:=0
def tw18227810267533797208:=0
def tw16380262007320886915:=0
def tw11233910705867451131:=0
def tw13219863514073080337:=0
def tw2996901830007270170:=0
def tw17468516342444123853:=0
def tw13342405375245536824:=0
def tw8696105152082666470:=0
def tw12573366481848898944:=0
def tw8348120824864205159:=0
def tw1232981451219150596:=0
def tw2506762414662836324:=0
def tw13445897647344325723:=0
def tw4717038434464001373:=0
def tw1110047698503995122:=0
def tw1705135089237079859:=0
def tw8141592949736933155:=0
def tw12942876529313509473:=0
def tw159003771351247037:=0
def tw8273913954438494063:=0
def tw12789265518307807793:=0
def tw3888250564275186297:=0
def tw11488202079686093471:=0
def tw2992588918024551494:=0
def tw17255686412845943119:=0
def tw13954531382326603059:=0
def tw1527395946549509522:=0
def tw580286705589173721:=0
def tw3882359617110703556:=0
def tw13409755398952227309:=0
def tw11753361510752919321:=0
def tw14609636074782465003:=0
def tw740465180861724738:=0
def tw15163656865497251518:=0
def tw5313497542394967482:=0
def tw14323465961211672089:=0
def tw16915990584191264562:=0
def tw3195023424551906020:=0
def tw3053552139410601940:=0
def tw16428123199197816743:=0
def tw7897824923539741929:=0
def tw688318017667839188:=0
def tw3647363910807507629:=0
def tw11469175463358389766:=0
def tw12998410448952132941:=0
def tw3762830680855003621:=0
def tw11120576777389447276:=0
def tw12748470309105791567:=0
def tw5720584800323820516:=0
def tw18272978791718280486:=0
def tw17176465327983046516:=0
def tw11856785893468153707:=0
def tw3185050143501898486:=0
def tw13674166125545170475:=0
def tw258442434373316932:=0
def tw238841809365308908:=0
def tw13803013177989089113:=0
def tw8641986500717695618:=0
def tw2027092951758162430:=0
def tw11140212233832117452:=0
def tw7553962266252808652:=0
def tw8260734460299944150:=0
def tw1511435787789456552:=0
def tw12478958622831559675:=0
def tw7890393928344534941:=0
def tw10533227464563392946:=0
def tw13803522039036889016:=0
def tw2532958764788780613:=0
def tw4203391186194140770:=0
def tw3151598708115799601:=0
def tw7581494027719644270:=0
def tw3997677088655905960:=0
def tw11764585401964430540:=0
def tw6966520161058847359:=0
def tw4731050948247075619:=0
def tw8127720911516559287:=0
def tw2860459801204128097:=0
def tw3466344485855068470:=0
def tw2021827096264128635:=0
def tw6685253812635744978:=0
def tw12423419608928988864:=0
def tw5590411819797707292:=0
def tw6292599860676169866:=0
def tw1612994003327520753:=0
def tw7531203207876031652:=0
def tw3826113050331716821:=0
def tw15729889425099209970:=0
def tw2786269652250640916:=0
def tw5639231912891136884:=0
def tw6224439975108205417:=0
def tw8385165074925765033:=0
def tw7769536095799565339:=0
def tw3355885500122267264:=0
def tw5461244393398319162:=0
def tw17312694532481196050:=0
def tw13938045335240565599:=0
def tw366223494891845555:=0
def tw5629803175770739227:=0
def tw3609480115807497950:=0
def tw3253903660635313239:=0
def tw13153015259607384583:=0
def tw15108715689747119870:=0
def tw8403870277429953003:=0
def tw10675570078010743330:=0
def tw12017946882985194739:=0
def tw14958532687064884058:=0
def tw5687289889808190331:=0
end PySem.Challenge.cw_pathask_k67_orders_and_rings_holds
set_option Elab.async true in
set_option maxRecDepth 100000 in
set_option maxHeartbeats 0 in
theorem PySem.Challenge.cw_pathask_k67_orders_and_rings_holds : PySem.Challenge.rw_pathask_k67_orders_and_rings.Holds := by
 w_on;o_law;k_head;(case hw=>w_witness2)
 k_fill
 refine K67.walk (l:=PySem.Challenge.rw_pathask_k67_orders_and_rings) rfl rfl (fun w h Y=>PySem.W.kIn_of Y) ?F
 case F =>
  intro w mg fa h KX G hmg
  refine' K67.all_mk KX G hmg ?_ ?_ ?_ ?_ ?_ ?_ ?_ ?_ ?_ ?_ ?_ ?_ ?_ ?_ ?_ ?_ ?_ ?_ ?_ ?_ ?_ ?_ ?_ ?_ ?_ ?_ ?_ ?_ ?_ ?_ ?_ ?_ ?_ ?_ ?_ ?_ ?_ ?_ ?_ ?_ ?_ ?_ ?_ ?_ ?_ ?_ ?_ ?q_LEAVES ?_ ?_ ?_ ?kB
  (case q_LEAVES=>kernel_rfl)
  (case kB=>kernel_rfl)
  all_goals try first | (refine' L2.iK.of ?a ?l ?c ?k;(case a=>k_is);(case l=>k_is);(case c=>k_is);(case k=>k_is)) | (refine' L2.GZ.of ?a ?l ?c ?k ?i;(case a=>k_is);(case l=>k_is);(case c=>k_is);(case k=>k_is);(case i=>k_is)) | k_is
