import PyProof.Rows.All
import Wide.All
import OpenK.AllK
import Wide.FinOn
import Lean
import PyProof.EqAt
import PyProof.EqKinds
import PyProof.TupleCall
import KE.KRevIter
import KE.KIntText
import PyProof.Rows.StrNews
import KE.KSortTup
import PyProof.Rows.SetFrom
import PyProof.WalksMore
import KE.KRevSl
import PyProof.ZipIter
import PyProof.TupleIter
import PyProof.Rows.SortRuns
import PyProof.WalksEnum
import PyProof.EnumMake
import PyProof.SetRoads
import KE.KItemsList
import PyProof.ListRange
import PySem.Challenge.RW_pathask_k33_whole_every_web
open List renaming eq_nil_of_length_eq_zero→zaa,getElem?_append_right→zab,getElem?_eq_some_iff→zac,getElem?_append_left→zad,getElem?_zip_eq_some→zae,drop_eq_getElem_cons→zaf,getElem?_eq_getElem→zah,getElem?_cons_succ→zai,mem_append_right→zam,getElem?_eq_none→zan,set_append_right→zao,mem_cons_of_mem→zar,mem_append_left→zas,getElem?_set_ne→zat,mem_of_getElem? → zau,pairwise_append→zav,filterMap_cons→zax,replicate_succ→zay,getElem_of_mem→zaz,map_congr_left→zaA,mem_cons_self→zaD,length_append→zaE,mem_singleton→zaF,zip_cons_cons→zaG,size_toArray→zaO,getElem?_map→zaP,flatten_cons→zaQ,append_assoc→zaR,getElem?_set→zaS,nodup_append→zaT,length_range→zaU,pairwise_map→zaV,length_take→zbb,length_drop→zbc,lookup_cons→zbd,all_eq_true→zbe,take_length→zbf,getElem_mem→zbg,not_mem_nil→zbh,getElem_map→zbi,cons_append→zbj,length_cons→zbk,map_fst_zip→zbl,mem_append→zbn,append_nil→zbo,nodup_cons→zbp,of_mem_zip→zbq,length_map→zbr,nil_append→zbs,forIn_cons→zbt,map_append→zbu,length_nil→zbv,mem_range→zbw,replicate→zbx,mem_cons→zbB,map_cons→zbC,all_cons→zbD,any_cons→zbE,map_nil→zbM,any_map→zbN,mem_map→zbO,map_map→zbP,length→zbZ,range→zce,getD→zch,cons→zci
open Array renaming getElem?_eq_getElem→zag,getElem?_eq_none→zaj,getElem?_toList→zap,length_toList→zaB,forIn_toList→zaL,toList_push→zaZ,getD→zcg
open PySem.Heap renaming get?_push_of_some→zak,get?_update_other→zal,get?_update_self→zaq,get?_push_size→zaC,size_push→zbA,lt_size→zbY
open Nat renaming pow_le_pow_right→zaw,lt_of_lt_of_le→zaH,lt_succ_of_lt→zaW,le_of_lt_succ→zaX,lt_irrefl→zbF,add_assoc→zbG,ne_of_lt→zbQ,le_trans→zbR,le_of_lt→zbS,ne_of_gt→zbT,lt_trans→zbU,lt_or_ge→zbV,le_refl→zca,le_succ→zcb,zero_le→zcc,mod_lt→zcf
open Int renaming emod_lt_of_pos→zaI,toNat_natCast→zaY
open Bool renaming false_ne_true→zaJ,false_eq_true→zaK,and_eq_true→zbm,or_false→zbH,true_and→zbI,and_self→zbJ,and_true→zbK
open PySem.W renaming mg_none_of→zaM,keepIn→zby,codeIn→zbz,mg_of→zbL,fnOf→zbW,nsIn→zbX
open PySem.Calls renaming spliced_cons→zaN,spliced_nil→zba
open Option renaming some→zcd
open PySem renaming wpAny_bind→yaa,wpAny_pure→yab,wpAny_mono→yac,wpAny_holding→yad,wpAny_newObj_type→yae,sizeLine_eq→yaf,sizeLine→yag,Shared→yah,Value→yai,Program→yaj,World→yak,Around→yal,PyData→yam,compareOp→yan,starEach→yao,FuncData→yap,mainGlobals→yaq,wpAny→yar,sysModules→yas,swapsWith→yat,backTo→yau,DictEntry→yav,GenState→yaw,codeAny_mono→yax,bindArgs→yay,BindsTo→yaz,wpAny_onRaise→yaA,wpAny_execs_nil→yaB,wpAny_execs_cons→yaC,wpAny_call→yaD
open PySem.W renaming Frag→yaE
theorem yDf {p:Prop} [Decidable p] (h : ¬p):decide p=false:=decide_eq_false h
theorem yDt {p:Prop} [Decidable p] (h:p):decide p=true:=decide_eq_true h
theorem yIn.{u}{c:Prop}{h:Decidable c} (n : ¬c) {α:Sort u}{t e:α}:(ite c t e)=e:=if_neg n
theorem yIp.{u}{c:Prop}{h:Decidable c} (n:c) {α:Sort u}{t e:α}:(ite c t e)=t:=if_pos n
theorem ySz (n:Nat) (h:n≤100:=by decide):n≤PySem.sizeLine:=by rw [PySem.sizeLine_eq];lia
set_option Elab.async false
set_option linter.all false
set_option maxRecDepth 100000
namespace L2
open PySem PySem.Spec PyProof.Rows
abbrev Key:=Sum Int Str
noncomputable def B4:Key→yai→Bool
 | .inl k,v=>Value.isInt k v
 | .inr x,v=>Value.isStrOf x v
noncomputable def HM (w:yak):Key→Int
 | .inl k=>hashInt k
 | .inr x=>hashStr w x
theorem bx:∀ {k:Key}{v:yai},B4 k v=true→(∃ i t,k=Sum.inl i∧v=Value.int i t)∨(∃ x t,k=Sum.inr x∧v=Value.str x t)
 | .inl i,v,h=>by
  obtain ⟨t,e⟩:=Value.isInt_shape (k:=i) (v:=v) h
  exact .inl ⟨i,t,rfl,e⟩
 | .inr x,v,h=>by
  obtain ⟨t,e⟩:=Value.isStrOf_shape (x:=x) (v:=v) h
  exact .inr ⟨x,t,rfl,e⟩
theorem DJ (a b:Int):decide ((Sum.inl a:Key)=Sum.inl b)=(a==b):=by
 by_cases e:a=b
 ·subst e;simp
 ·have h : ¬ (Sum.inl a:Key)=Sum.inl b:=fun q=>e (Sum.inl.inj q)
  rw [yDf h]
  exact (beq_eq_false_iff_ne.mpr e).symm
theorem DG (a b:Str):decide ((Sum.inr a:Key)=Sum.inr b)=decide (a=b):=by
 by_cases e:a=b
 ·subst e;simp
 ·have h : ¬ (Sum.inr a:Key)=Sum.inr b:=fun q=>e (Sum.inr.inj q)
  rw [yDf h,yDf e]
theorem DI (a:Int) (b:Str):decide ((Sum.inl a:Key)=Sum.inr b)=false:=yDf (fun q=>nomatch q)
theorem DH (a:Str) (b:Int):decide ((Sum.inr a:Key)=Sum.inl b)=false:=yDf (fun q=>nomatch q)
noncomputable def jf (prog:yaj) (w:yak):PySem.KeyKind prog w Key where
 is:=B4
 hash:=HM w
 inj:=fun v a b ha hb=>by
  rcases bx ha with ⟨i,t,rfl,rfl⟩ | ⟨x,t,rfl,rfl⟩
  ·rcases bx hb with ⟨j,u,rfl,e⟩ | ⟨y,u,rfl,e⟩
   ·injection e with e1 _;rw [e1]
   ·exact nomatch e
  ·rcases bx hb with ⟨j,u,rfl,e⟩ | ⟨y,u,rfl,e⟩
   ·exact nomatch e
   ·injection e with e1 _;rw [e1]
 byValue:=fun k v h=>by
  rcases bx h with ⟨i,t,rfl,rfl⟩ | ⟨x,t,rfl,rfl⟩ <;> rfl
 pyHash:=fun hv h=>by
  rcases bx hv with ⟨i,t,rfl,rfl⟩ | ⟨x,t,rfl,rfl⟩
  ·exact wpAny_pyHash_int h
  ·exact wpAny_pyHash_str h
 eqBool:=fun hu hv h=>by
  rcases bx hu with ⟨i,t,rfl,rfl⟩ | ⟨x,t,rfl,rfl⟩
  ·rcases bx hv with ⟨j,u,rfl,rfl⟩ | ⟨y,u,rfl,rfl⟩
   ·rw [DJ] at h;exact wpAny_eqBool_int h
   ·rw [DI] at h;exact SeqAt.EqAt.int_str i t y u _ _ _ _ h
  ·rcases bx hv with ⟨j,u,rfl,rfl⟩ | ⟨y,u,rfl,rfl⟩
   ·rw [DH] at h;exact SeqAt.EqAt.str_int x t j u _ _ _ _ h
   ·rw [DG] at h;exact wpAny_eqBool_str h
 «strs» := fun k x t v h=>by
  rcases bx h with ⟨i,u,rfl,e⟩ | ⟨y,u,rfl,e⟩
  ·exact nomatch e
  ·injection e with e1 _
   subst e1
   cases v <;> rfl
inductive V where
 | bP | bl (b:Bool) | int (i:Int) | str (x:Str) | rq (b:Array UInt8) | HY (b:UInt64) | ref (a:Addr) | ty (n:String)
 deriving DecidableEq
def RelV:V→yai→Prop
 | .bP,u=>u=Value.none
 | .bl b,u=>u=Value.bool b
 | .int i,u=>∃ t,u=Value.int i t
 | .str x,u=>∃ t,u=Value.str x t
 | .rq b,u=>∃ t,u=Value.bytes b t
 | .HY b,u=>∃ t,u=Value.float b t
 | .ref a,u=>u=Value.ref a
 | .ty n,u=>u=Value.type n
abbrev Vals:List V→List yai→Prop:=Paired RelV
theorem Vals.length {xs:List V}{us:List yai} (r:Vals xs us):xs.length=us.length:=Paired.length r
theorem Vals.get:∀ {xs:List V}{us:List yai}{i:Nat}{x:V},Vals xs us→xs[i]? = some x→∃ u,us[i]? = some u∧RelV x u
 | _,_,_,_,.nil,e=>by simp at e
 | _,_,0,_,.cons r _,e=>by simp at e;subst e;exact ⟨_,rfl,r⟩
 | _,_,i+1,x,.cons _ t,e=>by
  obtain ⟨u,h1,h2⟩:=Vals.get (i:=i) (x:=x) t (by simpa using e)
  exact ⟨u,by simpa using h1,h2⟩
theorem Vals.append:∀ {xs ys:List V}{us ws:List yai},Vals xs us→Vals ys ws→Vals (xs++ys) (us++ws)
 | _,_,_,_,.nil,s=>s
 | _,_,_,_,.cons r t,s=>.cons r (Vals.append t s)
theorem Vals.take:∀ {xs:List V}{us:List yai} (n:Nat),Vals xs us→Vals (xs.take n) (us.take n)
 | _,_,0,_=>.nil
 | _,_,_+1,.nil=>.nil
 | _,_,n+1,.cons r t=>.cons r (Vals.take n t)
theorem Vals.drop:∀ {xs:List V}{us:List yai} (n:Nat),Vals xs us→Vals (xs.drop n) (us.drop n)
 | _,_,0,r=>r
 | _,_,_+1,.nil=>.nil
 | _,_,n+1,.cons _ t=>Vals.drop n t
def Gw:Option V→Option yai→Prop
 | some v,some u=>RelV v u
 | none,none=>True
 | _,_=>False
def KV {κ:Type}:List (κ×V)→List (κ×yai)→Prop:=Paired fun (p:κ×V) (q:κ×yai)=>p.1=q.1∧RelV p.2 q.2
noncomputable def kV:Key→V
 | .inl i=>.int i
 | .inr x=>.str x
inductive HO where
 | lst (xs:List V)
 | tup (xs:List V)
 | dK (kvs:List (Key×V)) | dT (kvs:List (List Key×V))
 | set (S:Int→Bool) (n:Nat)
 | ins (C dx:Addr) (fs:List (Str×V))
 | own (x:Addr)
 | xd (fs:List (Str×V))
 | met (f x:Addr)
 | Ht (lo hi:Int)
 | zj (o:Obj) (u:HO)
 | Cv (ps:Array yai)
 | ext (φ:Heap→Prop)
abbrev Hp:=Addr→Option HO
noncomputable def upd (H:Hp) (a:Addr) (o:HO):Hp:=fun b=>if b=a then some o else H b
theorem bH {H:Hp}{a:Addr}{o:HO}:upd H a o a=some o:=by unfold upd;rw [yIp rfl]
theorem aH {H:Hp}{a b:Addr}{o:HO} (h:b≠a):upd H a o b=H b:=by unfold upd;rw [yIn h]
theorem bg {H:Hp}{a b:Addr}{o:HO} (h:H a=some o) (h':H b=none):a≠b:=by
 intro e;subst e;rw [h] at h';cases h'
section
variable (P:yaj) (w:yak)
def bD (H:Hp) (h:Heap) (a:Addr):HO→Prop
 | .lst xs=>xs.length≤yag∧∃ (its:List yai) (n:Nat),Vals xs its∧h.get? a=some { cls:=.type "list",data:=.seq its.toArray n }
 | .tup xs=>xs.length≤yag∧∃ its:List yai,Vals xs its∧IsTup h a its.toArray
 | .dK kvs=>kvs.length≤yag∧(a==yas)=false∧∃ vs,KV kvs vs∧h.DictOf (jf P w) a vs
 | .dT kvs=>kvs.length≤yag∧(a==yas)=false∧∃ xs:List (List Key×Addr×yai),
   Paired (fun (p:List Key×V) (q:List Key×Addr×yai)=>p.1=q.1∧H q.2.1=some (.tup (p.1.map kV))∧RelV p.2 q.2.2) kvs xs ∧
   ∃ o es ep,h.get? a=some o∧o.ExactDict∧o.data = .dict es ep∧es.toList=xs.map (entryOfKey (tupleKind (jf P w)))∧(xs.map (·.1)).Nodup
 | .set S n=>h.SetOf (intKind P w) a S n
 | .ins C dx fs=>H dx=some (.own a)∧fs.length≤1000∧dx≠a∧h.get? a=some (PySem.W.instObj C dx) ∧
   ∃ mA,h.Ns1 dx mA∧(∀ f,Gw (fs.lookup f) (mA f))∧PySem.Within mA (fs.map (·.1))
 | .own _=>∃ o,h.get? a=some o
 | .xd fs=>∃ mA,h.Ns1 a mA∧∀ f,Gw (fs.lookup f) (mA f)
 | .Ht lo hi=>∃ t u v,h.get? a=some { cls:=.type "range",data:=.fields #[.int lo t,.int hi u,.int 1 v] }
 | .zj o u=>h.get? a=some o∧bD H h a u
 | .Cv ps=>h.get? a=some { cls:=.none,data:=.fields ps }
 | .met f x=>h.get? a=some (PySem.W.methodObj (.ref f) (.ref x))
 | .ext φ=>φ h∧(∃ o,h.get? a=some o)∧∀ h1 h2:Heap,φ h1→(∀ o,h1.get? a=some o→h2.get? a=some o)→φ h2
def iw (H:Hp) (h:Heap):Prop:=∀ a o,H a=some o→bD P w H h a o
end
section
variable {P:yaj}{w:yak}{H H':Hp}{h h':Heap}{a:Addr}{o:HO}
theorem bD.lt (x:bD P w H h a o):a<h.objs.size:=by
 cases o with
 | lst xs=>obtain ⟨_,_,_,_,e⟩:=x;exact zbY e
 | tup xs=>obtain ⟨_,_,_,p⟩:=x;exact p.lt
 | dK kvs=>obtain ⟨_,_,_,_,o,_,_,e,_⟩:=x;exact zbY e
 | dT kvs=>obtain ⟨_,_,_,_,o,_,_,e,_⟩:=x;exact zbY e
 | set S n=>obtain ⟨o,_,_,_,e,_⟩:=x;exact zbY e
 | ins C dx fs=>obtain ⟨_,_,_,e,_⟩:=x;exact zbY e
 | own y=>obtain ⟨_,e⟩:=x;exact zbY e
 | xd fs=>obtain ⟨_,⟨_,_,_,e,_⟩,_⟩:=x;exact zbY e
 | Ht lo hi=>obtain ⟨_,_,_,e⟩:=x;exact zbY e
 | zj ob u=>obtain ⟨e,_⟩:=x;exact zbY e
 | Cv ps=>exact zbY (show h.get? a=some _ from x)
 | met f y=>exact zbY (show h.get? a=some _ from x)
 | ext φ=>obtain ⟨_,⟨_,e⟩,_⟩:=x;exact zbY e
theorem Paired.FF {α β:Type}{F G:α→β→Prop}:∀ {l₁:List α}{l₂:List β},Paired F l₁ l₂→(∀ a b,F a b→G a b)→Paired G l₁ l₂
 | _,_,.nil,_=>.nil
 | _,_,.cons r t,f=>.cons (f _ _ r) (Paired.FF t f)
theorem bD.stay (x:bD P w H h a o) (k:∀ b u,(b=a∨H b=some (.own a))→h.get? b=some u→h'.get? b=some u)
  (ho:∀ b,H b=some (.own a)→H' b=some (.own a)) (ht:∀ b xs,H b=some (.tup xs)→H' b=some (.tup xs)):bD P w H' h' a o:=by
 induction o with
 | lst xs=>obtain ⟨z,its,n,r,e⟩:=x;exact ⟨z,its,n,r,k _ _ (.inl rfl) e⟩
 | tup xs=>obtain ⟨z,its,r,ob,e,c⟩:=x;exact ⟨z,its,r,ob,k _ _ (.inl rfl) e,c⟩
 | dK kvs=>obtain ⟨z,y,vs,r,ob,es,ep,e,c⟩:=x;exact ⟨z,y,vs,r,ob,es,ep,k _ _ (.inl rfl) e,c⟩
 | dT kvs =>
  obtain ⟨z,y,xs,r,ob,es,ep,e,c⟩:=x
  exact ⟨z,y,xs,Paired.FF r fun p q z=>⟨z.1,ht _ _ z.2.1,z.2.2⟩,ob,es,ep,k _ _ (.inl rfl) e,c⟩
 | set S n=>obtain ⟨ob,es,ep,t,e,c⟩:=x;exact ⟨ob,es,ep,t,k _ _ (.inl rfl) e,c⟩
 | ins C dx fs =>
  obtain ⟨d,z,ne,e,mA,⟨od,es,ep,e2,c⟩,r⟩:=x
  exact ⟨ho _ d,z,ne,k _ _ (.inl rfl) e,mA,⟨od,es,ep,k _ _ (.inr d) e2,c⟩,r⟩
 | own y=>obtain ⟨ob,e⟩:=x;exact ⟨ob,k _ _ (.inl rfl) e⟩
 | xd fs=>obtain ⟨mA,⟨od,es,ep,e,c⟩,r⟩:=x;exact ⟨mA,⟨od,es,ep,k _ _ (.inl rfl) e,c⟩,r⟩
 | Ht lo hi=>obtain ⟨t,u,v,e⟩:=x;exact ⟨t,u,v,k _ _ (.inl rfl) e⟩
 | zj ob u ih=>obtain ⟨e,q⟩:=x;exact ⟨k _ _ (.inl rfl) e,ih q⟩
 | Cv ps =>
  have e:h.get? a=some { cls:=.none,data:=.fields ps }:=x
  show h'.get? a=some { cls:=.none,data:=.fields ps }
  exact k a _ (.inl rfl) e
 | met f y =>
  have e:h.get? a=some (PySem.W.methodObj (.ref f) (.ref y)):=x
  show h'.get? a=some (PySem.W.methodObj (.ref f) (.ref y))
  exact k a _ (.inl rfl) e
 | ext φ=>obtain ⟨p,⟨o,e⟩,st⟩:=x;exact ⟨st _ _ p fun o q=>k _ _ (.inl rfl) q,⟨o,k _ _ (.inl rfl) e⟩,st⟩
theorem iw.lt (x:iw P w H h) (e:H a=some o):a<h.objs.size:=(x a o e).lt
theorem iw.fresh (x:iw P w H h) (e:h.objs.size≤a):H a=none:=by
 cases q:H a with
 | none=>rfl
 | some u=>exact absurd (zaH (x.lt q) e) (zbF _)
theorem iw.kept (x:iw P w H h) (k:∀ b u,h.get? b=some u→h'.get? b=some u):iw P w H h':=fun a o e =>
 (x a o e).stay (fun b u _ q=>k b u q) (fun _ q=>q) fun _ _ q=>q
theorem iw.laid (x:iw P w H h) (k:∀ b u,h.get? b=some u→h'.get? b=some u) (hp:h.objs.size≤a) (new:bD P w (upd H a o) h' a o):iw P w (upd H a o) h':=fun b u e=>by
 have hn:=x.fresh hp
 by_cases hb:b=a
 ·subst hb;rw [bH] at e;cases e;exact new
 ·rw [aH hb] at e
  exact (x b u e).stay (fun c v _ q=>k c v q) (fun c q=>by rw [aH (bg q hn)];exact q) fun c xs q=>by rw [aH (bg q hn)];exact q
end
def Rd (H:Hp) (a:Addr) (u:HO):Prop:=H a=some u∨∃ o,H a=some (.zj o u)
theorem Rd.ok {P:yaj}{w:yak}{H:Hp}{h:Heap}{a:Addr}{u:HO} (r:Rd H a u) (x:iw P w H h):bD P w H h a u:=by
 rcases r with r | ⟨o,r⟩
 ·exact x a u r
 ·obtain ⟨_,q⟩:=x a _ r
  exact q
def Gy:Option HO→Prop
 | some (.lst _)=>True
 | some (.dK _)=>True
 | some (.dT _)=>True
 | some (.set _ _)=>True
 | some (.ins _ _ _)=>True
 | some (.ext _)=>True
 | _=>False
section
variable {P:yaj}{w:yak}{H:Hp}{h h':Heap}{x e:Addr}{o':HO}
theorem iw.write (ok:iw P w H h) (mu:Gy (H x)) (he:e=x∨H e=some (.own x)) (k:∀ b u,b≠e→h.get? b=some u→h'.get? b=some u) (heo:∃ u,h'.get? e=some u)
  (new:bD P w (upd H x o') h' x o'):iw P w (upd H x o') h':=fun b u q=>by
 have FA:∀ c y,H c=some (.own y)→c≠x:=fun c y r z=>by subst z;rw [r] at mu;exact mu
 have HH:∀ c xs,H c=some (.tup xs)→c≠x:=fun c xs r z=>by subst z;rw [r] at mu;exact mu
 by_cases hb:b=x
 ·subst hb;rw [bH] at q;cases q;exact new
 ·rw [aH hb] at q
  by_cases hbe:b=e
  ·have q':H b=some (.own x):=by
    rcases he with z | z
    ·exact absurd (hbe.trans z) hb
    ·rw [hbe];exact z
   rw [q] at q';cases q'
   obtain ⟨v,hv⟩:=heo
   exact ⟨v,by rw [hbe];exact hv⟩
  ·refine (ok b u q).stay (fun c v hc r=>k c v ?_ r) (fun c r=>by rw [aH (FA c b r)];exact r) fun c xs r=>by rw [aH (HH c xs r)];exact r
   rcases hc with rfl | hc
   ·exact hbe
   ·rintro rfl
    rcases he with z | z
    ·exact FA c b hc z
    ·rw [hc] at z;cases z;exact hb rfl
end
structure Un (fs ex:List Addr) (H H':Hp) (h h':Heap):Prop where
 keep:∀ b o,h.get? b=some o→H b=none→b ∉ fs→b ∉ ex→h'.get? b=some o
 slot:∀ b o,h.get? b=some o→H b=none→b∈fs→b ∉ ex→∃ sl,h'.get? b=some { o with slots:=sl }
 free:∀ b o,h.get? b=some o→H b=none→b ∉ ex→H' b=none
 there:∀ b o,h.get? b=some o→b ∉ ex→∃ o',h'.get? b=some o'
 tups:∀ b xs,H b=some (.tup xs)→H' b=some (.tup xs)
 kW:∀ b o u,H b=some (.zj o u)→H' b=some (.zj o u)
 mF:∀ b ps,H b=some (.Cv ps)→∃ more,H' b=some (.Cv (ps++more))
section
variable {fs fs' ex ex':List Addr}{H H1 H2:Hp}{h h1 h2 h':Heap}{a x e:Addr}{o:HO}
theorem Un.any (u:Un fs ex H H1 h h1) {b:Addr}{ob:Obj} (q:h.get? b=some ob) (n:H b=none) (hx:b ∉ ex):∃ sl,h1.get? b=some { ob with slots:=sl }:=by
 by_cases hb:b∈fs
 ·exact u.slot b ob q n hb hx
 ·exact ⟨ob.slots,u.keep b ob q n hb hx⟩
theorem Un.kept (k:∀ b u,h.get? b=some u→h'.get? b=some u):Un fs ex H H h h' :=
 ⟨fun b ob q _ _ _=>k b ob q,fun b ob q _ _ _=>⟨ob.slots,k b ob q⟩,fun _ _ _ n _=>n,fun b ob q _=>⟨ob,k b ob q⟩,fun _ _ q=>q,fun _ _ _ q=>q,fun _ ps q=>⟨#[],by rw [q];simp⟩⟩
theorem Un.refl:Un fs ex H H h h:=Un.kept fun _ _ q=>q
theorem Un.laid (k:∀ b u,h.get? b=some u→h'.get? b=some u) (hp:h.objs.size≤a) (hn:H a=none):Un fs ex H (upd H a o) h h' where
 keep:=fun b u q _ _ _=>k b u q
 slot:=fun b u q _ _ _=>⟨u.slots,k b u q⟩
 free:=fun b u q n _=>by rw [aH (zbQ (zaH (zbY q) hp))];exact n
 there:=fun b u q _=>⟨u,k b u q⟩
 tups:=fun b xs q=>by rw [aH (bg q hn)];exact q
 kW:=fun b u xs q=>by rw [aH (bg q hn)];exact q
 mF:=fun b ps q=>⟨#[],by rw [aH (bg q hn),q];simp⟩
theorem Un.write (mu:Gy (H x)) (he:e=x∨H e=some (.own x)) (k:∀ b u,b≠e→h.get? b=some u→h'.get? b=some u) (heo:∃ u,h'.get? e=some u):Un fs ex H (upd H x o) h h':=by
 have hx:∀ b,H b=none→b≠x:=fun b n z=>by subst z;rw [n] at mu;exact mu
 have hb:∀ b,H b=none→b≠e:=fun b n z=>by
  subst z
  rcases he with r | r
  ·exact hx b n r
  ·rw [n] at r;cases r
 have hm:∀ b u,H b=some u → ¬ Gy (some u)→b≠x:=fun b u q nm z=>by subst z;rw [q] at mu;exact nm mu
 refine ⟨fun b u q n _ _=>k b u (hb b n) q,fun b u q n _ _=>⟨u.slots,k b u (hb b n) q⟩,fun b u q n _=>by rw [aH (hx b n)];exact n,fun b u q _ => ?_,
  fun b xs q=>by rw [aH (hm b _ q fun z=>z)];exact q,fun b u xs q=>by rw [aH (hm b _ q fun z=>z)];exact q,fun b ps q=>⟨#[],by rw [aH (hm b _ q fun z=>z),q];simp⟩⟩
 by_cases hbe:b=e
 ·subst hbe;exact heo
 ·exact ⟨u,k b u hbe q⟩
end
noncomputable def GL (h:Heap) (H:Hp):List Addr:=(zce h.objs.size).filter fun a=>(H a).isSome
noncomputable def nB (h:Heap) (H:Hp):Heap:=PySem.W.hideAll h (GL h H)
theorem uN (h:Heap) (H:Hp):(nB h H).objs.size=h.objs.size:=PySem.W.hideAll_size _ _
theorem xZ {h:Heap}{H:Hp}{b:Addr}{o:Obj} (e:h.get? b=some o) (n:H b=none):(nB h H).get? b=some o :=
 PySem.W.hideAll_get _ e fun hm=>by
  have q:(H b).isSome=true:=(List.mem_filter.mp hm).2
  rw [n] at q;simp at q
theorem Ai {h:Heap}{H:Hp}{b:Addr}{o:Obj} (e:(nB h H).get? b=some o):h.get? b=some o∧H b=none:=by
 have e':h.get? b=some o:=PySem.W.of_hideAll (GL h H) e
 refine ⟨e',?_⟩
 cases q:H b with
 | none=>rfl
 | some x =>
  have hm:b∈GL h H:=List.mem_filter.mpr ⟨zbw.mpr (zbY e'),by simp [q]⟩
  have z:(nB h H).get? b=none:=PySem.W.hideAll_none (GL h H) hm
  rw [z] at e;cases e
noncomputable def Be (g h:Heap) (L:Addr):List (Addr×Obj):=(zce h.objs.size).filterMap fun a=>if a=L∨(g.get? a).isSome=true then none else (h.get? a).map fun o=>(a,o)
noncomputable def rest (g h:Heap) (L d:Addr):List (Addr×Obj):=(Be g h L).filter fun p=>decide (p.1≠d)
structure Mod (K:yaE) (mg:Str→Option yai) (base:Heap):Prop where
 HL:K.In base
 glob:base.Ns yaq mg
 blt:∃ mb,base.Ns builtinsNs mb∧∀ x:Str,x ≠ "__name__" → mb x=bootBuiltins x
 nolimit:base.NoLimit
structure Cx where
 prog:yaj
 w:yak
 K:yaE
 mg:Str→Option yai
 base:Heap
 A:yal
 N:List Str
 s₀:yah
 H₀:Hp
 env:Env
 outer:List Env
 stack:List Env
 ex:List Addr
 fn:Str→Bool
 calm:Bool
 pn:List (Addr×Obj)
 xe:yai→yah→Prop
noncomputable def frs (l:List Env):List Addr:=l.filterMap (·.frame)
noncomputable abbrev Cx.fs (X:Cx):List Addr:=frs X.outer
def G1 (sc:Scope) (x:Str):Prop:=sc.names.lookup x=some .local∨sc.names.lookup x=some .cell∨sc.names.lookup x=some .free
def Loc (sc:Scope) (x:Str):Prop:=sc.names.lookup x=some .local∨sc.names.lookup x=some .cell
def Look (env:Env) (h:Heap) (m:Str→Option yai) (x:Str) (u:yai):Prop :=
 (env.kindOf x=some .local∧m x=some u)∨((env.kindOf x=some .cell∨env.kindOf x=some .free)∧∃ c,env.cells.lookup x=some c∧h.IsCell c (some u))
structure Cx.Ok (X:Cx):Prop where
 mod:Mod X.K X.mg X.base
 kind:X.env.scope.kind = .function
 glob:X.env.globals=yaq
 blt:X.env.builtins=builtinsNs
 above:X.s₀.heap.objs.size≤X.env.locals
 inj:∀ x y c,X.env.cells.lookup x=some c→X.env.cells.lookup y=some c→x=y
 has:∀ x,(X.env.kindOf x=some .cell∨X.env.kindOf x=some .free)→∃ c,X.env.cells.lookup x=some c
 Gf:∀ x c,X.fn x=true→X.env.cells.lookup x=some c→X.s₀.heap.objs.size≤c
 hd:X.calm=true→X.A.handled=none
 frames:X.A.frames=some X.stack
 stk:X.stack=X.outer∨(X.stack=X.env::X.outer∧X.env.frame=some X.env.locals)
 HZ:∀ b∈X.ex,b≠X.env.locals∧∀ x c,X.env.cells.lookup x=some c→c≠b
 bs:∀ b o,X.base.get? b=some o→X.s₀.heap.get? b=some o∧X.H₀ b=none
 Cg:X.base.objs.size≤X.s₀.heap.objs.size
 xx:∀ b o,X.base.get? b=some o→b ∉ X.ex
 AR:∀ b∈X.ex,b ∉ X.fs
 j6:X.s₀.heap.FunFrames X.base X.outer
 Es:∀ b∈X.fs,X.H₀ b=none
structure Inv (X:Cx) (pins:List (Addr×Obj)) (σ:List (Option V)) (H:Hp) (s:yah):Prop where
 ok:X.Ok
 os:s.os=X.s₀.os
 bare:AllBare s.gens
 base:Un X.fs X.ex X.H₀ H X.s₀.heap s.heap
 loc:∃ m,s.heap.Ns X.env.locals m∧∀ (i:Nat) (x:Str) (v:V),X.N[i]? = some x→σ[i]? = some (some v)→G1 X.env.scope x→∃ u,RelV v u∧Look X.env s.heap m x u
 cell:∀ x c,X.env.cells.lookup x=some c→∃ v,s.heap.IsCell c v
 free:H X.env.locals=none
 d9:∀ x c,X.env.cells.lookup x=some c→H c=none
 pin:∀ p∈X.pn++pins,s.heap.get? p.1=some p.2∧H p.1=none∧p.1≠X.env.locals∧p.1 ∉ X.fs∧∀ v,p.2.data ≠ .cell v
 hok:iw X.prog X.w H s.heap
 len:σ.length=X.N.length
section
variable {X:Cx}{pins:List (Addr×Obj)}{σ:List (Option V)}{H H':Hp}{s:yah}{h':Heap}
theorem Cx.Ok.HJ (ok:X.Ok) {b:Addr}{o:Obj} (e:X.base.get? b=some o):b ∉ X.fs:=fun hb=>by
 have:=(ok.j6.mem hb).1
 rw [e] at this;cases this
theorem Inv.bs (I:Inv X pins σ H s):∀ b o,X.base.get? b=some o→s.heap.get? b=some o∧H b=none:=fun b o e =>
 ⟨I.base.keep b o (I.ok.bs b o e).1 (I.ok.bs b o e).2 (I.ok.HJ e) (I.ok.xx b o e),I.base.free b o (I.ok.bs b o e).1 (I.ok.bs b o e).2 (I.ok.xx b o e)⟩
theorem Inv.bk (I:Inv X pins σ H s):∀ b o,X.base.get? b=some o→s.heap.get? b=some o:=fun b o e=>(I.bs b o e).1
theorem Inv.mod (I:Inv X pins σ H s):Mod X.K X.mg X.base:=I.ok.mod
theorem Inv.DK (I:Inv X pins σ H s):X.K.In s.heap:=I.ok.mod.HL.keeps I.bk
theorem Inv.lt (I:Inv X pins σ H s):X.env.locals<s.heap.objs.size:=let ⟨_,hn,_⟩:=I.loc;hn.lt
theorem Inv.sz (I:Inv X pins σ H s):X.s₀.heap.objs.size≤s.heap.objs.size:=zbR I.ok.above (zbS I.lt)
theorem Inv.FD (I:Inv X pins σ H s) {a:Addr} (h:s.heap.objs.size≤a):a ∉ X.fs:=fun hb=>by
 obtain ⟨_,o,ho,_⟩:=I.ok.j6.mem hb
 exact absurd (zaH (zbY ho) (zbR I.sz h)) (zbF _)
theorem Inv.D6 (I:Inv X pins σ H s):∀ x c,X.env.cells.lookup x=some c→c≠X.env.locals:=fun x c e z=>by
 obtain ⟨v,o,ho,hd⟩:=I.cell x c e
 obtain ⟨m,⟨o',es,ep,ho',hd',_⟩,_⟩:=I.loc
 rw [z,ho'] at ho;cases ho;rw [hd'] at hd;cases hd
theorem Inv.j6 (I:Inv X pins σ H s):s.heap.FunFrames X.base X.outer:=by
 have all:∀ (l:List Env),(∀ b∈frs l,b∈X.fs)→X.s₀.heap.FunFrames X.base l→s.heap.FunFrames X.base l:=by
  intro l
  induction l with
  | nil=>intro _ _;trivial
  | cons env r ih =>
   intro hs hl
   obtain ⟨hk,⟨L,o,hf,hn,ho,hd⟩,hr⟩:=hl
   have hL:L∈X.fs:=hs L (by unfold frs;rw [zax,hf];exact zaD)
   obtain ⟨sl,e⟩:=I.base.slot L o ho (I.ok.Es L hL) hL fun z=>I.ok.AR L z hL
   exact ⟨hk,⟨L,_,hf,hn,e,hd⟩,ih (fun b hb=>hs b (by unfold frs;rw [zax,hf];exact zar _ hb)) hr⟩
 exact all X.outer (fun _ hb=>hb) I.ok.j6
theorem Inv.stack (I:Inv X pins σ H s):s.heap.FunFrames X.base X.stack:=by
 rcases I.ok.stk with e | ⟨e,hf⟩
 ·rw [e];exact I.j6
 ·rw [e]
  obtain ⟨m,hn,_⟩:=I.loc
  refine .cons (by rw [I.ok.kind];decide) hf hn ?_ I.j6
  exact Heap.get?_none_of_le (zbR I.ok.Cg I.ok.above)
theorem Inv.jt (I:Inv X pins σ H s):∀ b∈frs X.stack,b∈X.env.locals::X.fs:=fun b hb=>by
 rcases I.ok.stk with e | ⟨e,hf⟩
 ·rw [e] at hb;exact zar _ hb
 ·rw [e] at hb
  unfold frs at hb
  rw [zax,hf] at hb
  exact hb
theorem Inv.rR (I:Inv X pins σ H s):∀ b∈frs X.stack,H b=none:=fun b hb=>by
 rcases zbB.mp (I.jt b hb) with e | hb
 ·rw [e];exact I.free
 ·obtain ⟨_,o,ho,_⟩:=I.ok.j6.mem hb
  exact I.base.free b o ho (I.ok.Es b hb) fun z=>I.ok.AR b z hb
theorem Inv.step {g':Array yaw}{t':Nat}{d':Drawn}{ch:List Addr} (I:Inv X pins σ H s)
  (hch:∀ b∈ch,(b∈X.ex∨X.s₀.heap.objs.size≤b)∧b≠X.env.locals∧(∀ x c,X.env.cells.lookup x=some c→c≠b)∧∀ p∈X.pn++pins,p.1≠b)
  (keep:∀ b o,b≠X.env.locals→b ∉ X.fs→b ∉ ch→s.heap.get? b=some o→H b=none→h'.get? b=some o)
  (slot:∀ b o,b≠X.env.locals→b∈X.fs→b ∉ ch→s.heap.get? b=some o→H b=none→∃ sl,h'.get? b=some { o with slots:=sl }) (free:∀ b o,b ∉ ch→s.heap.get? b=some o→H b=none→H' b=none)
  (there:∀ b o,b ∉ ch→s.heap.get? b=some o→∃ o',h'.get? b=some o')
  (tups:∀ b xs,H b=some (.tup xs)→H' b=some (.tup xs)) (kW:∀ b o u,H b=some (.zj o u)→H' b=some (.zj o u)) (mF:∀ b ps,H b=some (.Cv ps)→∃ more,H' b=some (.Cv (ps++more)))
  (ns:∀ m,s.heap.Ns X.env.locals m→h'.Ns X.env.locals m) (hok:iw X.prog X.w H' h') (hg:AllBare g') :
  Inv X pins σ H' { s with heap:=h',gens:=g',drawn:=d',toks:=t' }:=by
 have neL:∀ b o,X.s₀.heap.get? b=some o→b≠X.env.locals:=fun b o e=>zbQ (zaH (zbY e) I.ok.above)
 have neC:∀ b o,X.s₀.heap.get? b=some o→b ∉ X.ex→b ∉ ch:=fun b o e hx hb=>by
  rcases (hch b hb).1 with z | z
  ·exact hx z
  ·exact absurd (zaH (zbY e) z) (zbF _)
 have cellK:∀ x c,X.env.cells.lookup x=some c→∀ v,s.heap.IsCell c v→h'.IsCell c v:=fun x c e v ⟨o,ho,hd⟩=>by
  have nch:c ∉ ch:=fun z=>(hch c z).2.2.1 x c e rfl
  by_cases hc:c∈X.fs
  ·obtain ⟨sl,q⟩:=slot c o (I.D6 x c e) hc nch ho (I.d9 x c e)
   exact ⟨_,q,hd⟩
  ·exact ⟨o,keep c o (I.D6 x c e) hc nch ho (I.d9 x c e),hd⟩
 refine ⟨I.ok,I.os,hg,⟨fun b o e n hb hx => ?_,fun b o e n hb hx => ?_,fun b o e n hx => ?_,fun b o e hx => ?_,fun b xs e=>tups b xs (I.base.tups b xs e),fun b o xs e=>kW b o xs (I.base.kW b o xs e),fun b ps e => ?_⟩,?_,fun x c e => ?_,?_,fun x c e => ?_,fun p hp => ?_,hok,I.len⟩
 ·exact keep b o (neL b o e) hb (neC b o e hx) (I.base.keep b o e n hb hx) (I.base.free b o e n hx)
 ·obtain ⟨sl,e1⟩:=I.base.slot b o e n hb hx
  obtain ⟨sl',e2⟩:=slot b _ (neL b o e) hb (neC b o e hx) e1 (I.base.free b o e n hx)
  exact ⟨sl',e2⟩
 ·obtain ⟨o',e1⟩:=I.base.there b o e hx
  exact free b o' (neC b o e hx) e1 (I.base.free b o e n hx)
 ·obtain ⟨o',e1⟩:=I.base.there b o e hx
  exact there b o' (neC b o e hx) e1
 ·obtain ⟨m1,e1⟩:=I.base.mF b ps e
  obtain ⟨m2,e2⟩:=mF b _ e1
  exact ⟨m1++m2,by rw [e2,Array.append_assoc]⟩
 ·obtain ⟨m,hn,hl⟩:=I.loc
  refine ⟨m,ns m hn,fun i x v e1 e2 e3 => ?_⟩
  obtain ⟨u,r,l⟩:=hl i x v e1 e2 e3
  refine ⟨u,r,?_⟩
  rcases l with l | ⟨k,c,e,z⟩
  ·exact .inl l
  ·exact .inr ⟨k,c,e,cellK x c e _ z⟩
 ·obtain ⟨v,z⟩:=I.cell x c e
  exact ⟨v,cellK x c e v z⟩
 ·obtain ⟨m,⟨o,_,_,ho,_⟩,_⟩:=I.loc
  exact free _ o (fun z=>(hch _ z).2.1 rfl) ho I.free
 ·obtain ⟨v,o,ho,hd⟩:=I.cell x c e
  exact free c o (fun z=>(hch c z).2.2.1 x c e rfl) ho (I.d9 x c e)
 ·obtain ⟨e,n,ne,nf,d⟩:=I.pin p hp
  have nch:p.1 ∉ ch:=fun z=>(hch p.1 z).2.2.2 p hp rfl
  exact ⟨keep p.1 p.2 ne nf nch e n,free p.1 p.2 nch e n,ne,nf,d⟩
theorem Inv.un {t':Nat} (I:Inv X pins σ H s) (u:Un X.fs [] H H' s.heap h') (hok:iw X.prog X.w H' h'):Inv X pins σ H' { s with heap:=h',toks:=t' }:=by
 obtain ⟨m,⟨o,es,ep,ho,r⟩,_⟩:=id I.loc
 obtain ⟨sl,hL⟩:=u.any ho I.free (by simp)
 exact I.step (g':=s.gens) (d':=s.drawn) (ch:=[]) (fun _ z=>nomatch z) (fun b o _ hb _ e n=>u.keep b o e n hb (by simp)) (fun b o _ hb _ e n=>u.slot b o e n hb (by simp)) (fun b o _ e n=>u.free b o e n (by simp)) (fun b o _ e=>u.there b o e (by simp)) u.tups u.kW u.mF (fun m' hm=>by
  obtain ⟨o',es',ep',ho',r'⟩:=hm
  rw [ho] at ho';cases ho'
  exact ⟨_,es',ep',hL,r'⟩) hok I.bare
theorem Inv.call {g':Array yaw}{t':Nat}{d':Drawn}{ch:List Addr} (I:Inv X pins σ H s) (u:Un (frs X.stack) ch H H' s.heap h') (hok:iw X.prog X.w H' h') (hg:AllBare g')
  (hch:∀ b∈ch,(b∈X.ex∨X.s₀.heap.objs.size≤b)∧b≠X.env.locals∧(∀ x c,X.env.cells.lookup x=some c→c≠b)∧∀ p∈X.pn++pins,p.1≠b) :
  Inv X pins σ H' { s with heap:=h',gens:=g',drawn:=d',toks:=t' }:=by
 obtain ⟨m,⟨o,es,ep,ho,r⟩,_⟩:=id I.loc
 obtain ⟨sl,hL⟩:=u.any ho I.free fun z=>(hch _ z).2.1 rfl
 exact I.step (ch:=ch) hch (fun b o hL hb hc e n=>u.keep b o e n (fun z=>(zbB.mp (I.jt b z)).elim hL hb) hc) (fun b o _ _ hc e n=>u.any e n hc) (fun b o hc e n=>u.free b o e n hc) (fun b o hc e=>u.there b o e hc) u.tups u.kW u.mF (fun m' hm=>by
  obtain ⟨o',es',ep',ho',r'⟩:=hm
  rw [ho] at ho';cases ho'
  exact ⟨_,es',ep',hL,r'⟩) hok hg
theorem Inv.turned {t':Nat}{it:Addr} (I:Inv X pins σ H s) (k:∀ b o,b≠it→s.heap.get? b=some o→h'.get? b=some o) (hn:H it=none) (hL:it≠X.env.locals)
  (h1:it∈X.ex∨X.s₀.heap.objs.size≤it) (h2:∀ x c,X.env.cells.lookup x=some c→c≠it) (h3:∀ p∈X.pn++pins,p.1≠it):Inv X pins σ H { s with heap:=h',toks:=t' }:=by
 have nit:∀ b u,H b=some u→b≠it:=fun b u e z=>by rw [z,hn] at e;cases e
 refine I.step (g':=s.gens) (d':=s.drawn) (ch:=[it]) (fun b hb => ?_) (fun b o _ _ hc e _=>k b o (fun z=>hc (by simp [z])) e) (fun b o _ _ hc e _=>⟨o.slots,k b o (fun z=>hc (by simp [z])) e⟩) (fun _ _ _ _ n=>n)
  (fun b o hc e=>⟨o,k b o (fun z=>hc (by simp [z])) e⟩) (fun _ _ e=>e) (fun _ _ _ e=>e) (fun b ps e=>⟨#[],by rw [e];simp⟩) (fun m hm => ?_) (fun b u e => ?_) I.bare
 ·have e:b=it:=by simpa using hb
  subst e
  exact ⟨h1,hL,h2,h3⟩
 ·obtain ⟨o,es,ep,ho,r⟩:=hm
  exact ⟨o,es,ep,k _ o (Ne.symm hL) ho,r⟩
 ·refine (I.hok b u e).stay (fun c v hc q=>k c v ?_ q) (fun _ q=>q) fun _ _ q=>q
  rcases hc with z | z
  ·rw [z];exact nit b u e
  ·exact nit c _ z
theorem Inv.tok (I:Inv X pins σ H s) (t:Nat):Inv X pins σ H { s with toks:=t }:=I.un (h':=s.heap) (t':=t) Un.refl I.hok
theorem Inv.kept {t':Nat} (I:Inv X pins σ H s) (k:∀ b u,s.heap.get? b=some u→h'.get? b=some u):Inv X pins σ H { s with heap:=h',toks:=t' }:=I.un (Un.kept k) (I.hok.kept k)
theorem Inv.laid {a:Addr}{o:HO}{t':Nat} (I:Inv X pins σ H s) (k:∀ b u,s.heap.get? b=some u→h'.get? b=some u) (hp:s.heap.objs.size≤a) (new:bD X.prog X.w (upd H a o) h' a o) :
  Inv X pins σ (upd H a o) { s with heap:=h',toks:=t' }:=I.un (Un.laid k hp (I.hok.fresh hp)) (I.hok.laid k hp new)
theorem Inv.write {x e:Addr}{o:HO}{t':Nat} (I:Inv X pins σ H s) (mu:Gy (H x)) (he:e=x∨H e=some (.own x)) (k:∀ b u,b≠e→s.heap.get? b=some u→h'.get? b=some u) (heo:∃ u,h'.get? e=some u)
  (new:bD X.prog X.w (upd H x o) h' x o):Inv X pins σ (upd H x o) { s with heap:=h',toks:=t' }:=I.un (Un.write mu he k heo) (I.hok.write mu he k heo new)
theorem Inv.jb {pins':List (Addr×Obj)} (I:Inv X pins σ H s) (h:∀ p∈pins',s.heap.get? p.1=some p.2∧H p.1=none∧p.1≠X.env.locals∧p.1 ∉ X.fs∧∀ v,p.2.data ≠ .cell v):Inv X pins' σ H s :=
 ⟨I.ok,I.os,I.bare,I.base,I.loc,I.cell,I.free,I.d9,fun p hp=>(zbn.mp hp).elim (fun z=>I.pin p (zas _ z)) (h p),I.hok,I.len⟩
theorem oW {N:List Str} (hN:N.Nodup) {i j:Nat}{x:Str} (a:N[i]? = some x) (b:N[j]? = some x):i=j:=by
 obtain ⟨h1,e1⟩:=zac.mp a
 obtain ⟨h2,e2⟩:=zac.mp b
 exact (List.getElem_inj hN).mp (e1.trans e2.symm)
theorem uo {M:Model}{A:yal}{E:yai→yah→Prop}{i:Nat}{x:Str}{v:V}{u:yai}{Q:Unit→yah→Prop} (I:Inv X pins σ H s) (hN:X.N.Nodup) (hi:X.N[i]? = some x) (hx:Loc X.env.scope x) (r:RelV v u)
  (h:∀ s',Inv X pins (σ.set i (some v)) H s'→(∃ a,Heap.SameBut a s.heap s'.heap∧(a=X.env.locals∨X.env.cells.lookup x=some a))→Q () s') (hf:X.fn x=true∨X.env.scope.names.lookup x=some .local:=by first | exact .inl rfl | exact .inr rfl | assumption):yar M A (storeName X.env x u) Q E s:=by
 obtain ⟨m,hn,hl⟩:=id I.loc
 have hcls:(X.env.scope.kind == .class||(X.env.scope.kind == .module&&X.env.locals != X.env.globals))=false:=by rw [I.ok.kind];rfl
 have hiσ:i<σ.length:=by rw [I.len];exact (zac.mp hi).1
 have D6:=I.D6
 have tracked:∀ {a:Addr}{h':Heap},(∃ o,s.heap.get? a=some o∧H a=none)→Heap.SameBut a s.heap h'→iw X.prog X.w H h':=fun {a h'} ha hs b ob e=>by
  obtain ⟨_,_,hfree⟩:=ha
  refine (I.hok b ob e).stay (fun c w' hc q=>(hs.2 c ?_).trans q) (fun _ q=>q) fun _ _ q=>q
  rintro rfl
  rcases hc with rfl | hc
  ·rw [hfree] at e;cases e
  ·rw [hfree] at hc;cases hc
 rcases hx with hk | hk
 ·refine wpAny_storeName_local hk hn (fun h' hn' hs => ?_) hcls
  obtain ⟨oL,_,_,hoL,_⟩:=id hn
  refine h _ ⟨I.ok,I.os,I.bare,⟨fun b o e n hb hx => ?_,fun b o e n hb hx => ?_,I.base.free,fun b o e hx => ?_,I.base.tups,I.base.kW,I.base.mF⟩,⟨_,hn',fun j y v' e1 e2 e3 => ?_⟩,fun y c e => ?_,I.free,I.d9,fun p hp => ?_,tracked ⟨oL,hoL,I.free⟩ hs,by simpa using I.len⟩ ⟨_,hs,.inl rfl⟩
  ·exact (hs.2 b (zbQ (zaH (zbY e) I.ok.above))).trans (I.base.keep b o e n hb hx)
  ·obtain ⟨sl,e1⟩:=I.base.slot b o e n hb hx
   exact ⟨sl,(hs.2 b (zbQ (zaH (zbY e) I.ok.above))).trans e1⟩
  ·obtain ⟨o',e1⟩:=I.base.there b o e hx
   exact ⟨o',(hs.2 b (zbQ (zaH (zbY e) I.ok.above))).trans e1⟩
  ·by_cases hj:j=i
   ·subst hj
    rw [hi] at e1;cases e1
    rw [List.getElem?_set_self hiσ] at e2
    cases e2
    exact ⟨u,r,.inl ⟨hk,by simp⟩⟩
   ·rw [zat (Ne.symm hj)] at e2
    obtain ⟨u',r',q⟩:=hl j y v' e1 e2 e3
    refine ⟨u',r',?_⟩
    rcases q with ⟨k,e⟩ | ⟨k,c,e,z⟩
    ·refine .inl ⟨k,?_⟩
     have:y≠x:=fun e=>hj (oW hN e1 (e ▸ hi))
     simp [this,e]
    ·exact .inr ⟨k,c,e,z.sameBut hs (D6 y c e)⟩
  ·obtain ⟨w',z⟩:=I.cell y c e
   exact ⟨w',z.sameBut hs (D6 y c e)⟩
  ·obtain ⟨e,n,ne,nf,d⟩:=I.pin p hp
   exact ⟨(hs.2 p.1 ne).trans e,n,ne,nf,d⟩
 ·have hfn:X.fn x=true:=by
   rcases hf with z | z
   ·exact z
   ·rw [z] at hk;cases hk
  obtain ⟨c,hc⟩:=I.ok.has x (.inl hk)
  obtain ⟨w',z⟩:=I.cell x c hc
  refine wpAny_storeName_cell I.ok.kind hk hc z (fun h' hc' hs => ?_)
  obtain ⟨oc,hoc,hocd⟩:=id z
  refine h { s with heap:=h' } ⟨I.ok,I.os,I.bare,⟨fun b o e n hb hx => ?_,fun b o e n hb hx => ?_,I.base.free,fun b o e hx => ?_,I.base.tups,I.base.kW,I.base.mF⟩,⟨m,hn.sameBut hs (Ne.symm (D6 x c hc)),fun j y v' e1 e2 e3 => ?_⟩,fun y c' e => ?_,I.free,I.d9,fun p hp => ?_,tracked ⟨oc,hoc,I.d9 x c hc⟩ hs,by simpa using I.len⟩ ⟨c,hs,.inr hc⟩
  ·exact (hs.2 b (zbQ (zaH (zbY e) (I.ok.Gf x c hfn hc)))).trans (I.base.keep b o e n hb hx)
  ·obtain ⟨sl,e1⟩:=I.base.slot b o e n hb hx
   exact ⟨sl,(hs.2 b (zbQ (zaH (zbY e) (I.ok.Gf x c hfn hc)))).trans e1⟩
  ·obtain ⟨o',e1⟩:=I.base.there b o e hx
   exact ⟨o',(hs.2 b (zbQ (zaH (zbY e) (I.ok.Gf x c hfn hc)))).trans e1⟩
  ·by_cases hj:j=i
   ·subst hj
    rw [hi] at e1;cases e1
    rw [List.getElem?_set_self hiσ] at e2
    cases e2
    exact ⟨u,r,.inr ⟨.inl hk,c,hc,hc'⟩⟩
   ·rw [zat (Ne.symm hj)] at e2
    obtain ⟨u',r',q⟩:=hl j y v' e1 e2 e3
    refine ⟨u',r',?_⟩
    rcases q with q | ⟨k,c',e,z'⟩
    ·exact .inl q
    ·refine .inr ⟨k,c',e,z'.sameBut hs ?_⟩
     rintro rfl
     exact hj (oW hN e1 (I.ok.inj _ _ _ e hc ▸ hi))
  ·by_cases hcc:c'=c
   ·subst hcc;exact ⟨_,hc'⟩
   ·obtain ⟨w2,z2⟩:=I.cell y c' e
    exact ⟨w2,z2.sameBut hs hcc⟩
  ·obtain ⟨e,n,ne,nf,d⟩:=I.pin p hp
   refine ⟨(hs.2 p.1 ?_).trans e,n,ne,nf,d⟩
   intro q
   rw [q,hoc] at e
   have q':oc=p.2:=zcd.inj e
   exact d w' (by rw [← q'];exact hocd)
theorem jr {M:Model}{A:yal}{E:yai→yah→Prop}{i:Nat}{x:Str}{v:V}{u:yai}{Q:Unit→yah→Prop} (I:Inv X pins σ H s) (hN:X.N.Nodup) (hi:X.N[i]? = some x) (hx:Loc X.env.scope x) (r:RelV v u)
  (h:∀ s',Inv X pins (σ.set i (some v)) H s'→Q () s') (hf:X.fn x=true∨X.env.scope.names.lookup x=some .local:=by first | exact .inl rfl | exact .inr rfl | assumption):yar M A (storeName X.env x u) Q E s :=
 uo I hN hi hx r (fun s' I' _=>h s' I') hf
theorem Inv.Ge {s':yah}{ch:List Addr} (I:Inv X pins σ H s) (ho:s'.os=s.os) (u:Un (frs X.stack) ch H H' s.heap s'.heap) (hok:iw X.prog X.w H' s'.heap) (hg:AllBare s'.gens)
  (hch:∀ b∈ch,(b∈X.ex∨X.s₀.heap.objs.size≤b)∧b≠X.env.locals∧(∀ x c,X.env.cells.lookup x=some c→c≠b)∧∀ p∈X.pn++pins,p.1≠b):Inv X pins σ H' s':=by
 obtain ⟨h',g',d',t',o'⟩:=s'
 have e:o'=s.os:=ho
 subst e
 exact I.call (g':=g') (t':=t') (d':=d') u hok hg hch
end
abbrev XK:=yai→Option Addr→Hp→Prop
abbrev St:=List (Option V)
abbrev VK:=V→Hp→Prop
abbrev TE:=St→Hp→VK→Prop
abbrev TT:=St→Hp→(Bool→Hp→Prop)→Prop
abbrev TA:=St→Hp→(List V→Hp→Prop)→Prop
structure Ends where
 nx:St→Hp→Prop
 rt:VK
 bk:St→Hp→Prop:=fun _ _=>False
 ct:St→Hp→Prop:=fun _ _=>False
abbrev TS:=Ends→St→Hp→Prop
def EP (X:Cx) (pins:List (Addr×Obj)) (σ:St) (Q:VK) (u:yai) (s':yah):Prop:=∃ v H',Inv X pins σ H' s'∧RelV v u∧Q v H'
def TP (X:Cx) (pins:List (Addr×Obj)) (σ:St) (Q:Bool→Hp→Prop) (b:Bool) (s':yah):Prop:=∃ H',Inv X pins σ H' s'∧Q b H'
def AP (X:Cx) (pins:List (Addr×Obj)) (σ:St) (Q:List V→Hp→Prop) (us:List yai) (s':yah):Prop:=∃ vs H',Inv X pins σ H' s'∧Vals vs us∧Q vs H'
def SP (X:Cx) (pins:List (Addr×Obj)) (D:Ends) (f:Flow) (s':yah):Prop :=
 match f with
 | .next=>∃ σ' H',Inv X pins σ' H' s'∧D.nx σ' H'
 | .brk=>∃ σ' H',Inv X pins σ' H' s'∧D.bk σ' H'
 | .cont=>∃ σ' H',Inv X pins σ' H' s'∧D.ct σ' H'
 | .ret u=>∃ v σ' H',Inv X pins σ' H' s'∧RelV v u∧D.rt v H'
def PE (X:Cx) (e:Expr) (t:TE):Prop :=
 ∀ (pins:List (Addr×Obj)) (s:yah) (σ:St) (H:Hp) (Q:VK),Inv X pins σ H s→t σ H Q→yar (model X.prog X.w) X.A (eval e X.env) (EP X pins σ Q) X.xe s
def PT (X:Cx) (e:Expr) (t:TT):Prop :=
 ∀ (pins:List (Addr×Obj)) (s:yah) (σ:St) (H:Hp) (Q:Bool→Hp→Prop),Inv X pins σ H s→t σ H Q→yar (model X.prog X.w) X.A (isTrue e X.env (eval e X.env)) (TP X pins σ Q) X.xe s
def PW (X:Cx) (e:Expr) (t:TT):Prop :=
 ∀ (whole:Sem yai) (pins:List (Addr×Obj)) (s:yah) (σ:St) (H:Hp) (Q:Bool→Hp→Prop),Inv X pins σ H s→t σ H Q→yar (model X.prog X.w) X.A (isTrue e X.env whole) (TP X pins σ Q) X.xe s
theorem PW.pt {X:Cx}{e:Expr}{t:TT} (h:PW X e t):PT X e t:=h _
def PA (X:Cx) (es:List Expr) (t:TA):Prop :=
 ∀ (pos:Pos) (pins:List (Addr×Obj)) (s:yah) (σ:St) (H:Hp) (Q:List V→Hp→Prop),Inv X pins σ H s→t σ H Q→yar (model X.prog X.w) X.A (spliced (yau pos (yao es X.env))) (AP X pins σ Q) X.xe s
def PS (X:Cx) (st:Stmt) (t:TS):Prop :=
 ∀ (pins:List (Addr×Obj)) (s:yah) (σ:St) (H:Hp) (D:Ends),Inv X pins σ H s→t D σ H→yar (model X.prog X.w) X.A (exec st X.env) (SP X pins D) X.xe s
def pU (X:Cx) (st:List Stmt) (t:TS):Prop :=
 ∀ (pins:List (Addr×Obj)) (s:yah) (σ:St) (H:Hp) (D:Ends),Inv X pins σ H s→t D σ H→yar (model X.prog X.w) X.A (execs st X.env) (SP X pins D) X.xe s
theorem b5 {α:Type}{t:Sem α}{Q Q':α→yah→Prop}{M:Model}{A:yal}{E:yai→yah→Prop}{s:yah} (h:yar M A t Q E s) (hQ:∀ a s,Q a s→Q' a s):yar M A t Q' E s:=yac h hQ fun _ _ x=>x
section
variable {X:Cx}
def EC (i:Nat):TE:=fun σ H Q=>∃ v,σ[i]? = some (some v)∧Q v H
def tC (v:V):TE:=fun _ H Q=>Q v H
theorem De {i:Nat}{x:Str}{pos:Pos} (hN:X.N[i]? = some x) (hv:G1 X.env.scope x) (hd:(x==("__debug__" : Str))=false:=by decide) (hcd:(x==("__classdict__" : Str))=false:=by decide):PE X (.Name x pos) (EC i):=by
 intro pins s σ H Q I h
 obtain ⟨v,e,h⟩:=h
 obtain ⟨m,hn,hl⟩:=I.loc
 obtain ⟨u,r,l⟩:=hl i x v hN e hv
 have fin:EP X pins σ Q u s:=⟨v,H,I,r,h⟩
 rcases l with ⟨hk,hm⟩ | ⟨hk,c,hc,hcell⟩
 ·exact wpAny_Name (wpAny_loadName_local I.ok.kind hk hn hm fin) hd
 ·rcases hk with hk | hk
  ·exact wpAny_Name (wpAny_loadName_cell I.ok.kind hk hc hcell fin) hd
  ·exact wpAny_Name (wpAny_loadName_free I.ok.kind hk hc hcell fin hcd) hd
theorem ah {i j pos}:PE X (.Constant (.int i) j pos) (tC (.int i)):=fun _ _ _ H _ I h=>wpAny_Constant_int ⟨.int i,H,I.tok _,⟨_,rfl⟩,h⟩
theorem iH {b j pos}:PE X (.Constant (.bool b) j pos) (tC (.bl b)):=fun _ _ _ H _ I h=>Constant_bool ⟨.bl b,H,I,rfl,h⟩
theorem av {x j pos}:PE X (.Constant (.str x) j pos) (tC (.str x)):=fun _ _ _ H _ I h=>Calls.Constant_str ⟨.str x,H,I.tok _,⟨_,rfl⟩,h⟩
def Gl (X:Cx) (x:Str):Prop:=X.env.kindOf x=some .globalImplicit
theorem nv {E:yai→yah→Prop}{pins:List (Addr×Obj)}{s:yah}{σ:St}{H:Hp}{x:Str}{u:yai}{pos:Pos}{Q:yai→yah→Prop} (I:Inv X pins σ H s) (hg:Gl X x) (hm:X.mg x=some u) (h:Q u s)
  (hd:(x==("__debug__" : Str))=false:=by decide):yar (model X.prog X.w) X.A (eval (.Name x pos) X.env) Q E s :=
 Calls.Name_function_global I.ok.kind hg (Calls.loadGlobal_global (by rw [I.ok.glob];exact I.mod.glob.keeps I.bk) hm h) hd
theorem cV {E:yai→yah→Prop}{pins:List (Addr×Obj)}{s:yah}{σ:St}{H:Hp}{x:Str}{u:yai}{pos:Pos}{Q:yai→yah→Prop} (I:Inv X pins σ H s) (hg:Gl X x) (hm:X.mg x=none) (hv:bootBuiltins x=some u) (h:Q u s)
  (hn:x ≠ "__name__" := by decide) (hd:(x==("__debug__" : Str))=false:=by decide):yar (model X.prog X.w) X.A (eval (.Name x pos) X.env) Q E s:=by
 obtain ⟨mb,h1,h2⟩:=I.mod.blt
 exact Calls.Name_function_global I.ok.kind hg (Calls.loadGlobal_builtin (by rw [I.ok.glob];exact I.mod.glob.keeps I.bk) hm (by rw [I.ok.blt];exact h1.keeps I.bk) ((h2 x hn).trans hv) h) hd
theorem jc {x:Str}{v:V}{u:yai}{pos:Pos} (hg:Gl X x) (hm:X.mg x=some u) (r:RelV v u) (hd:(x==("__debug__" : Str))=false:=by decide):PE X (.Name x pos) (tC v) :=
 fun _ _ _ H _ I h=>nv I hg hm ⟨v,H,I,r,h⟩ hd
variable {a b:Expr}{ta tb:TE}{pos:Pos}
def tB (t:TE):TT:=fun σ H Q=>t σ H fun x H1=>∃ c,x = .bl c∧Q c H1
variable {tA tB':TT}{rest:List Expr}
def EN (t u:TT):TT:=fun σ H Q=>t σ H fun c H1=>if c=true then u σ H1 Q else Q false H1
def Iv (t u:TT):TT:=fun σ H Q=>t σ H fun c H1=>if c=true then Q true H1 else u σ H1 Q
def EI (t:TT):TT:=fun σ H Q=>t σ H fun c H1=>Q (!c) H1
theorem pw_and1 (ha:PT X a tA):PW X (.BoolOp .And [a] pos) tA:=by
 intro wh pins s σ H Q I h
 refine isTrue_and (b5 (ha pins s σ H Q I h) fun c s1 e => ?_)
 cases c with
 | true=>exact isTrue_and_nil e
 | false=>exact e
theorem pw_or1 (ha:PT X a tA):PW X (.BoolOp .Or [a] pos) tA:=by
 intro wh pins s σ H Q I h
 refine isTrue_or (b5 (ha pins s σ H Q I h) fun c s1 e => ?_)
 cases c with
 | false=>exact isTrue_or_nil e
 | true=>exact e
theorem pw_and (ha:PT X a tA) (hb:PW X (.BoolOp .And (b::rest) pos) tB'):PW X (.BoolOp .And (a::b::rest) pos) (EN tA tB'):=by
 intro wh pins s σ H Q I h
 refine isTrue_and (b5 (ha pins s σ H _ I h) fun c s1 ⟨H1,I1,q1⟩ => ?_)
 cases c with
 | true=>exact hb wh pins s1 σ H1 Q I1 q1
 | false=>exact ⟨H1,I1,q1⟩
theorem pw_or (ha:PT X a tA) (hb:PW X (.BoolOp .Or (b::rest) pos) tB'):PW X (.BoolOp .Or (a::b::rest) pos) (Iv tA tB'):=by
 intro wh pins s σ H Q I h
 refine isTrue_or (b5 (ha pins s σ H _ I h) fun c s1 ⟨H1,I1,q1⟩ => ?_)
 cases c with
 | true=>exact ⟨H1,I1,q1⟩
 | false=>exact hb wh pins s1 σ H1 Q I1 q1
theorem mZ (ha:PT X a tA):PT X (.UnaryOp .Not a pos) (EI tA):=by
 intro pins s σ H Q I h
 exact isTrue_not (ha pins s σ H (fun c H1=>Q (!c) H1) I h)
def Iw (t:TT) (ta tb:TE):TE:=fun σ H Q=>t σ H fun c H1=>if c=true then ta σ H1 Q else tb σ H1 Q
theorem jJ {c:Expr} (hc:PT X c tA) (ha:PE X a ta) (hb:PE X b tb):PE X (.IfExp c a b pos) (Iw tA ta tb):=by
 intro pins s σ H Q I h
 refine wpAny_IfExp (b5 (hc pins s σ H _ I h) fun d s1 ⟨H1,I1,q1⟩ => ?_)
 cases d with
 | true=>exact ha pins s1 σ H1 Q I1 q1
 | false=>exact hb pins s1 σ H1 Q I1 q1
end
def cj (K:yaE) (H:Hp) (a:Addr) (xs:List V):Prop :=
 Rd H a (.lst xs) ∨
  ∃ (o:Obj) (its:Array yai) (n:Nat),K.lookup a=some o∧o.cls = .type "list" ∧ o.dict=none∧o.data = .seq its n∧its.size≤yag∧Vals xs its.toList
def ck (K:yaE) (H:Hp) (a:Addr) (xs:List V):Prop :=
 Rd H a (.tup xs) ∨
  ∃ (o:Obj) (its:Array yai) (n:Nat),K.lookup a=some o∧o.cls = .type "tuple" ∧ o.data = .seq its n∧its.size≤yag∧Vals xs its.toList
noncomputable def Ib:yai→Option V
 | .none=>some .bP
 | .bool b=>some (.bl b)
 | .int i _=>some (.int i)
 | .str x _=>some (.str x)
 | .bytes b _=>some (.rq b)
 | .float b _=>some (.HY b)
 | .ref a=>some (.ref a)
 | .type n=>some (.ty n)
 | _=>none
theorem RelV.abs {x:V}{u:yai} (r:RelV x u):Ib u=some x:=by
 cases x with
 | bP=>cases r;rfl
 | bl _=>cases r;rfl
 | int _=>obtain ⟨t,rfl⟩:=r;rfl
 | str _=>obtain ⟨t,rfl⟩:=r;rfl
 | rq _=>obtain ⟨t,rfl⟩:=r;rfl
 | HY _=>obtain ⟨t,rfl⟩:=r;rfl
 | ref _=>cases r;rfl
 | ty _=>cases r;rfl
theorem RelV.inj {x y:V}{u:yai} (r:RelV x u) (q:RelV y u):x=y:=zcd.inj (r.abs.symm.trans q.abs)
theorem Vals.inj:∀ {xs ys:List V}{us:List yai},Vals xs us→Vals ys us→xs=ys
 | _,_,_,.nil,.nil=>rfl
 | _,_,_,.cons r t,.cons r' t'=>by rw [r.inj r',Vals.inj t t']
section
variable {X:Cx}{pins:List (Addr×Obj)}{σ:St}{H:Hp}{s:yah}{a:Addr}{xs ys:List V}
theorem cj.of {K:yaE} (h:H a=some (.lst xs)):cj K H a xs:=.inl (.inl h)
theorem ck.of {K:yaE} (h:H a=some (.tup xs)):ck K H a xs:=.inl (.inl h)
theorem Inv.list (I:Inv X pins σ H s) (h:cj X.K H a xs):∃ its:List yai,Vals xs its∧PlainL s.heap a its.toArray∧xs.length≤yag:=by
 rcases h with h | ⟨o,its,n,hk,hc,hd,hs,hz,r⟩
 ·obtain ⟨z,its,n,r,e⟩:=h.ok I.hok
  exact ⟨its,r,⟨_,n,e,rfl,rfl,rfl⟩,z⟩
 ·refine ⟨its.toList,r,⟨o,n,I.DK a o hk,hc,hd,by simpa using hs⟩,?_⟩
  have e:=r.length
  simp only [zaB] at e
  lia
theorem Inv.tuple (I:Inv X pins σ H s) (h:ck X.K H a xs):∃ its:List yai,Vals xs its∧IsTup s.heap a its.toArray∧xs.length≤yag:=by
 rcases h with h | ⟨o,its,n,hk,hc,hs,hz,r⟩
 ·obtain ⟨z,its,r,p⟩:=h.ok I.hok
  exact ⟨its,r,p,z⟩
 ·refine ⟨its.toList,r,⟨o,I.DK a o hk,hc,n,by simpa using hs⟩,?_⟩
  have e:=r.length
  simp only [zaB] at e
  lia
theorem Inv.xN (I:Inv X pins σ H s) (h:cj X.K H a xs) (h':cj X.K H a ys):xs=ys:=by
 obtain ⟨its,r,⟨o,n,e,_,_,d⟩,_⟩:=I.list h
 obtain ⟨its',r',⟨o',n',e',_,_,d'⟩,_⟩:=I.list h'
 rw [e] at e';cases e'
 rw [d] at d'
 injection d' with d1 _
 have:its=its':=by simpa using congrArg Array.toList d1
 subst this
 exact r.inj r'
theorem Inv.um (I:Inv X pins σ H s) (h:ck X.K H a xs) (h':ck X.K H a ys):xs=ys:=by
 obtain ⟨its,r,⟨o,e,_,n,d⟩,_⟩:=I.tuple h
 obtain ⟨its',r',⟨o',e',_,n',d'⟩,_⟩:=I.tuple h'
 rw [e] at e';cases e'
 rw [d] at d'
 injection d' with d1 _
 have:its=its':=by simpa using congrArg Array.toList d1
 subst this
 exact r.inj r'
end
noncomputable abbrev Cx.kP (X:Cx) (E:yai→yah→Prop):Cx:={ X with xe:=E }
noncomputable abbrev Cx.Du (X:Cx):Cx:=X.kP fun _ _=>False
theorem Cx.Ok.kP {X:Cx} (ok:X.Ok) (E:yai→yah→Prop):(X.kP E).Ok :=
 ⟨ok.mod,ok.kind,ok.glob,ok.blt,ok.above,ok.inj,ok.has,ok.Gf,ok.hd,ok.frames,ok.stk,ok.HZ,ok.bs,ok.Cg,ok.xx,ok.AR,ok.j6,ok.Es⟩
theorem Cx.Ok.eK {X:Cx}{E:yai→yah→Prop} (ok:(X.kP E).Ok):X.Ok :=
 ⟨ok.mod,ok.kind,ok.glob,ok.blt,ok.above,ok.inj,ok.has,ok.Gf,ok.hd,ok.frames,ok.stk,ok.HZ,ok.bs,ok.Cg,ok.xx,ok.AR,ok.j6,ok.Es⟩
section
variable {X:Cx}{pins:List (Addr×Obj)}{σ:St}{H:Hp}{s:yah}{E:yai→yah→Prop}
theorem Inv.kP (I:Inv X pins σ H s) (E:yai→yah→Prop):Inv (X.kP E) pins σ H s:=⟨I.ok.kP E,I.os,I.bare,I.base,I.loc,I.cell,I.free,I.d9,I.pin,I.hok,I.len⟩
theorem Inv.eK (I:Inv (X.kP E) pins σ H s):Inv X pins σ H s:=⟨I.ok.eK,I.os,I.bare,I.base,I.loc,I.cell,I.free,I.d9,I.pin,I.hok,I.len⟩
theorem SP.eK {D:Ends}{f:Flow}{s':yah} (h:SP (X.kP E) pins D f s'):SP X pins D f s':=by
 cases f with
 | next=>obtain ⟨σ',H',I,q⟩:=h;exact ⟨σ',H',I.eK,q⟩
 | brk=>obtain ⟨σ',H',I,q⟩:=h;exact ⟨σ',H',I.eK,q⟩
 | cont=>obtain ⟨σ',H',I,q⟩:=h;exact ⟨σ',H',I.eK,q⟩
 | ret u=>obtain ⟨v,σ',H',I,r,q⟩:=h;exact ⟨v,σ',H',I.eK,r,q⟩
theorem pU.Du {st:List Stmt}{t:TS} (h:pU X.Du st t):pU X st t:=fun pins s σ H D I hw =>
 yac (h pins s σ H D (I.kP _) hw) (fun _ _ q=>q.eK) fun _ _ z=>False.elim z
end
section
variable {X:Cx}{st:Stmt}{rest:List Stmt}{t u:TS}{e:Expr}{te:TE}{pos:Pos}
def BE:TS:=fun D σ H=>D.nx σ H
def EF (t u:TS):TS:=fun D σ H=>t { D with nx:=u D } σ H
theorem aR:pU X [] BE:=fun _ _ σ H _ I h=>yaB ⟨σ,H,I,h⟩
theorem af (h1:PS X st t) (h2:pU X rest u):pU X (st::rest) (EF t u):=by
 intro pins s σ H D I h
 refine yaC (b5 (h1 pins s σ H { D with nx:=u D } I h) fun f s1 q => ?_)
 cases f with
 | next =>
  obtain ⟨σ',H',I',q⟩:=q
  exact h2 pins s1 σ' H' D I' q
 | ret v=>exact q
 | brk=>exact q
 | cont=>exact q
theorem ai (h1:PS X st t):pU X [st] t:=by
 intro pins s σ H D I h
 refine yaC (b5 (h1 pins s σ H D I h) fun f s1 q => ?_)
 cases f with
 | next=>exact yaB q
 | ret v=>exact q
 | brk=>exact q
 | cont=>exact q
theorem Inv.quiet {pins:List (Addr×Obj)}{σ:St}{H:Hp}{s:yah} (I:Inv X pins σ H s):interactive X.env=false:=by simp [interactive,I.ok.kind]
def BG (te:TE):TS:=fun D σ H=>te σ H fun _ H1=>D.nx σ H1
theorem bA (he:PE X e te) (hs:yat e none pos.line X.env=pure false:=by rfl):PS X (.Expr e pos) (BG te):=by
 intro pins s σ H D I h
 exact wpAny_Expr_any (b5 (he pins s σ H _ I h) fun v s1 ⟨x,H1,I1,r1,q1⟩=>⟨σ,H1,I1,q1⟩) I.quiet hs
def EG (te:TE):TS:=fun D σ H=>te σ H D.rt
theorem aL (he:PE X e te):PS X (.Return (some e) pos) (EG te):=by
 intro pins s σ H D I h
 exact wpAny_Return_some (b5 (he pins s σ H _ I h) fun v s1 ⟨x,H1,I1,r1,q1⟩=>⟨x,σ,H1,I1,r1,q1⟩)
def EK (c:TT) (t u:TS):TS:=fun D σ H=>c σ H fun b H1=>if b=true then t D σ H1 else u D σ H1
theorem bI {c:Expr}{a b:List Stmt}{tc:TT} (hc:PT X c tc) (ha:pU X a t) (hb:pU X b u):PS X (.If c a b pos) (EK tc t u):=by
 intro pins s σ H D I h
 refine wpAny_If (b5 (hc pins s σ H _ I h) fun d s1 ⟨H1,I1,q1⟩ => ?_)
 cases d with
 | true=>exact ha pins s1 σ H1 D I1 q1
 | false=>exact hb pins s1 σ H1 D I1 q1
end
abbrev TG:=V→St→Hp→(St→Hp→Prop)→Prop
abbrev Bp:=List V→St→Hp→(St→Hp→Prop)→Prop
def PG (X:Cx) (target:Expr) (t:TG):Prop :=
 ∀ (pins:List (Addr×Obj)) (s:yah) (σ:St) (H:Hp) (v:V) (u:yai) (Q:St→Hp→Prop),Inv X pins σ H s→RelV v u→t v σ H Q →
  yar (model X.prog X.w) X.A (assign target X.env u) (fun _ s'=>∃ σ' H',Inv X pins σ' H' s'∧Q σ' H') X.xe s
def Em (X:Cx) (ts:List Expr) (t:Bp):Prop :=
 ∀ (pins:List (Addr×Obj)) (s:yah) (σ:St) (H:Hp) (vs:List V) (us:List yai) (Q:St→Hp→Prop),Inv X pins σ H s→Vals vs us→t vs σ H Q →
  yar (model X.prog X.w) X.A (assignInOrder ((assignEach ts X.env).map (·.2)) us) (fun _ s'=>∃ σ' H',Inv X pins σ' H' s'∧Q σ' H') X.xe s
abbrev G2:=V→V→Hp→VK→Prop
def IJ (X:Cx) (op:Operator) (t:G2):Prop :=
 ∀ (pins:List (Addr×Obj)) (s:yah) (σ:St) (H:Hp) (x y:V) (v u:yai) (Q:VK),Inv X pins σ H s→RelV x v→RelV y u→t x y H Q →
  yar (model X.prog X.w) X.A (inplaceOp op v u) (EP X pins σ Q) X.xe s
section
variable {X:Cx}{pos:Pos}
def yb (i:Nat):TG:=fun v σ H Q=>Q (σ.set i (some v)) H
theorem aG {i:Nat}{x:Str} (hN:X.N.Nodup) (hi:X.N[i]? = some x) (hx:Loc X.env.scope x) (hf:X.fn x=true∨X.env.scope.names.lookup x=some .local:=by first | exact .inl rfl | exact .inr rfl | assumption):PG X (.Name x pos) (yb i):=by
 intro pins s σ H v u Q I r h
 exact wpAny_assign_Name (jr I hN hi hx r (fun s' I'=>⟨_,H,I',h⟩) hf)
def F0:Bp:=fun vs σ H Q=>vs=[]∧Q σ H
def Cc (t:TG) (u:Bp):Bp:=fun vs σ H Q=>∃ v r,vs=v::r∧t v σ H fun σ' H'=>u r σ' H' Q
theorem dU:Em X [] F0:=by
 intro pins s σ H vs us Q I r h
 obtain ⟨e,h⟩:=h
 subst e
 cases r
 exact assignInOrder_nil ⟨σ,H,I,h⟩
theorem bw {e:Expr}{es:List Expr}{t:TG}{u:Bp} (h1:PG X e t) (h2:Em X es u)
  (hs:(assignEach (e::es) X.env).map (·.2)=assign e X.env::(assignEach es X.env).map (·.2):=by rfl):Em X (e::es) (Cc t u):=by
 intro pins s σ H vs us Q I r h
 obtain ⟨v,vr,e1,h⟩:=h
 subst e1
 cases r with
 | cons r rr =>
  rw [hs]
  refine assignInOrder_cons (b5 (h1 pins s σ H _ _ _ I r h) fun _ s1 ⟨σ1,H1,I1,q1⟩ => ?_)
  exact h2 pins s1 σ1 H1 _ _ Q I1 rr q1
def FZ (K:yaE) (n:Nat) (t:Bp):TG:=fun v σ H Q=>∃ a xs,v = .ref a∧ck K H a xs∧xs.length=n∧t xs σ H Q
theorem gh {es:List Expr}{k:Nat}{t:Bp}{n:Nat} (hc:X.calm=true) (h:Em X es t)
  (hn:(assignEach es X.env).length=n:=by rfl) (hst:(assignEach es X.env).findIdx? (·.1)=none:=by rfl):PG X (.Tuple es k pos) (FZ X.K n t):=by
 intro pins s σ H v u Q I r hw
 obtain ⟨a,xs,e1,hq,hl,hw⟩:=hw
 subst e1
 cases r
 obtain ⟨its,rv,ht,hz⟩:=I.tuple hq
 refine assign_Tuple_tuple (I.ok.hd hc) ht (by simp [hn,← hl,rv.length]) hst fun h' hx => ?_
 have I1:Inv X pins σ H { s with heap:=h' }:=I.kept (t':=s.toks) fun b o e=>hx b o (zbQ (zbY e)) e
 exact h pins _ σ H xs _ Q I1 (by simpa using rv) hw
def Cz (te:TE) (g:TG):TS:=fun D σ H=>te σ H fun x H1=>g x σ H1 D.nx
theorem jE {tg e:Expr}{te:TE}{g:TG} (he:PE X e te) (hg:PG X tg g) (hs:swapsWithSole [tg] e pos.line X.env=pure false:=by rfl) (hw:swappedStores [tg] e X.env=pure none:=by rfl)
  (h1:(assignEach [tg] X.env).map (·.2)=[assign tg X.env]:=by rfl):PS X (.Assign [tg] e pos) (Cz te g):=by
 intro pins s σ H D I h
 refine wpAny_Assign_stores (b5 (he pins s σ H _ I h) fun v s1 ⟨x,H1,I1,r1,q1⟩ => ?_) hs hw
 rw [h1]
 exact b5 (hg pins s1 σ H1 x v _ I1 r1 q1) fun _ s2 q=>q
theorem aq {i:Nat}{x:Str}{e:Expr}{te:TE}{pos':Pos} (hN:X.N.Nodup) (hi:X.N[i]? = some x) (hx:Loc X.env.scope x) (he:PE X e te) (hs:yat e (some (.Name x pos')) pos.line X.env=pure false:=by rfl) (hf:X.fn x=true∨X.env.scope.names.lookup x=some .local:=by first | exact .inl rfl | exact .inr rfl | assumption) :
  PS X (.Assign [.Name x pos'] e pos) (Cz te (yb i)):=by
 intro pins s σ H D I h
 refine wpAny_Assign_Name (b5 (he pins s σ H _ I h) fun v s1 ⟨y,H1,I1,r1,q1⟩ => ?_) hs
 exact jr I1 hN hi hx r1 (fun s2 I2=>⟨_,H1,I2,q1⟩) hf
def Hf (i:Nat) (te:TE) (ti:G2):TS:=fun D σ H=>∃ x,σ[i]? = some (some x)∧te σ H fun y H1=>ti x y H1 fun z H2=>D.nx (σ.set i (some z)) H2
theorem Dd {i:Nat}{x:Str}{e:Expr}{te:TE}{op:Operator}{ti:G2}{pos':Pos} (hN:X.N.Nodup) (hi:X.N[i]? = some x) (hx:Loc X.env.scope x) (he:PE X e te) (ho:IJ X op ti) (hf:X.fn x=true∨X.env.scope.names.lookup x=some .local:=by first | exact .inl rfl | exact .inr rfl | assumption) :
  PS X (.AugAssign (.Name x pos') op e pos) (Hf i te ti):=by
 intro pins s σ H D I h
 obtain ⟨v,e1,h⟩:=h
 obtain ⟨m,hn,hl⟩:=I.loc
 have vis:G1 X.env.scope x:=by rcases hx with k | k;exact .inl k;exact .inr (.inl k)
 obtain ⟨u,r,l⟩:=hl i x v hi e1 vis
 refine wpAny_AugAssign_Name ?_
 have go:yar (model X.prog X.w) X.A (eval e X.env) (fun w s₂=>yar (model X.prog X.w) X.A (inplaceOp op u w) (fun r s₃=>yar (model X.prog X.w) X.A (storeName X.env x r) (fun _=>SP X pins D .next) X.xe s₃) X.xe s₂) X.xe s:=by
  refine b5 (he pins s σ H _ I h) fun w s1 ⟨y,H1,I1,r1,q1⟩ => ?_
  refine b5 (ho pins s1 σ H1 v y u w _ I1 r r1 q1) fun z s2 ⟨zv,H2,I2,r2,q2⟩ => ?_
  exact jr I2 hN hi hx r2 (fun s3 I3=>⟨_,H2,I3,q2⟩) hf
 rcases l with ⟨hk,hm⟩ | ⟨hk,c,hc,hcell⟩
 ·exact wpAny_loadName_local I.ok.kind hk hn hm go
 ·rcases hk with hk | hk
  ·exact wpAny_loadName_cell I.ok.kind hk hc hcell go
  ·rcases hx with k | k
   ·have:X.env.scope.names.lookup x=some .free:=hk
    rw [k] at this;cases this
   ·have:X.env.scope.names.lookup x=some .free:=hk
    rw [k] at this;cases this
def ipI (f:Int→Int→Int):G2:=fun x y H Q=>∃ i j,x = .int i∧y = .int j∧Q (.int (f i j)) H
theorem DQ:IJ X .Add (ipI fun i j=>i+j):=by
 intro pins s σ H x y v u Q I r1 r2 h
 obtain ⟨i,j,e1,e2,q⟩:=h
 subst e1;subst e2
 obtain ⟨t,rfl⟩:=r1
 obtain ⟨t',rfl⟩:=r2
 exact iadd_int ⟨.int _,H,I.tok _,⟨_,rfl⟩,q⟩
def vB (c:TT) (tb:TS):TS:=fun D σ H=>∃ W:Nat→St→Hp→Prop,(∃ m,W m σ H)∧∀ m σ H,W m σ H →
 c σ H fun b H1=>if b=true then ∃ N:St→Hp→Prop,(∀ σ' H',N σ' H'→∃ m',m'<m∧W m' σ' H')∧tb { D with nx:=N,ct:=N,bk:=D.nx } σ H1 else D.nx σ H1
theorem eT {c:Expr}{body:List Stmt}{tc:TT}{tb:TS} (hp:PassesOwn (model X.prog X.w) X.A X.env X.xe) (hc:PT X c tc) (hb:pU X body tb):PS X (.While c body [] pos) (vB tc tb):=by
 intro pins s σ H D I h
 obtain ⟨W,⟨m0,w0⟩,turn⟩:=h
 refine wpAny_While (codeAny_whileLoop (fun n s'=>∃ σ' H',Inv X pins σ' H' s'∧W n σ' H') ?_ m0 ⟨σ,H,I,w0⟩)
 rintro n s1 ⟨σ1,H1,I1,w1⟩
 refine wpAny_passesOwn hp (b5 (hc pins s1 σ1 H1 _ I1 (turn n σ1 H1 w1)) fun b s2 ⟨H2,I2,q2⟩ => ?_)
 cases b with
 | true =>
  obtain ⟨N,hN,q2⟩:=q2
  rw [yIp rfl]
  refine wpAny_passesOwn hp (b5 (hb pins s2 σ1 H2 _ I2 q2) fun f s3 q3 => ?_)
  cases f with
  | next =>
   obtain ⟨σ3,H3,I3,n3⟩:=q3
   obtain ⟨m',hm,w3⟩:=hN σ3 H3 n3
   exact ⟨m',hm,σ3,H3,I3,w3⟩
  | cont =>
   obtain ⟨σ3,H3,I3,n3⟩:=q3
   obtain ⟨m',hm,w3⟩:=hN σ3 H3 n3
   exact ⟨m',hm,σ3,H3,I3,w3⟩
  | brk=>exact q3
  | ret v=>exact q3
 | false =>
  rw [yIn zaJ]
  exact yaB ⟨σ1,H2,I2,q2⟩
end
structure It where
 go:Nat→Hp→Prop
 vm:Nat→Hp→V→Hp→Prop
 stop:Nat→Hp→Prop
def iW (X:Cx) (pins:List (Addr×Obj)) (H:Hp) (b:Addr):Prop :=
 H b=none∧b≠X.env.locals∧b ∉ X.fs∧(b∈X.ex∨X.s₀.heap.objs.size≤b)∧(∀ x c,X.env.cells.lookup x=some c→c≠b)∧∀ p∈X.pn++pins,p.1≠b
theorem Inv.qS {X:Cx}{pins:List (Addr×Obj)}{σ:St}{H H':Hp}{s:yah}{b:Addr} (I:Inv X pins σ H s) (hb:s.heap.objs.size≤b) (hn:H' b=none):iW X pins H' b:=by
 refine ⟨hn,zbT (zaH I.lt hb),I.FD hb,.inr (zbR I.sz hb),fun x c e z => ?_,fun p hp z => ?_⟩
 ·obtain ⟨v,q⟩:=I.cell x c e
  exact absurd (zaH q.lt (by rw [z];exact hb)) (zbF _)
 ·exact absurd (zaH (zbY (I.pin p hp).1) (by rw [z];exact hb)) (zbF _)
structure Turn (P:yaj) (w:yak) (K:yaE) (tg:Expr) (J:It) (fp:List Addr) (it:Addr) (tn:Nat→Heap→Prop):Prop where
 mem:it∈fp
 obj:∀ i h,tn i h→∀ b∈fp,∃ o,h.get? b=some o∧∀ v,o.data ≠ .cell v
 keep:∀ i h h',tn i h→(∀ b∈fp,∀ o,h.get? b=some o→h'.get? b=some o)→tn i h'
 item:∀ (X:Cx),X.prog=P→X.w=w→X.K=K→X.calm=true→∀ (i:Nat) (pins:List (Addr×Obj)) (s:yah) (σ:St) (H:Hp) (E:yai→yah→Prop),Inv X pins σ H s→(∀ b∈fp,iW X pins H b)→tn i s.heap→J.go i H →
  yar (model P w) X.A (pyNext (.ref it)) (fun r s1=>∃ u,r=some u ∧
   yar (model P w) X.A (letOwnedTupleGo tg (.ref it) u) (fun _ s2=>∃ x H',Inv X pins σ H' s2∧RelV x u∧J.vm i H x H'∧tn (i+1) s2.heap∧∀ b∈fp,H' b=none) E s1) E s
 done:∀ (X:Cx),X.prog=P→X.w=w→X.K=K→X.calm=true→∀ (i:Nat) (pins:List (Addr×Obj)) (s:yah) (σ:St) (H:Hp) (E:yai→yah→Prop),Inv X pins σ H s→(∀ b∈fp,iW X pins H b)→tn i s.heap→J.stop i H →
  yar (model P w) X.A (pyNext (.ref it)) (fun r s1=>r=none∧Inv X pins σ H s1) E s
 self:∀ (A:yal) (i:Nat) (s:yah) (Q:yai→yah→Prop) (E:yai→yah→Prop),tn i s.heap→Q (.ref it) s→yar (model P w) A (pyIter (.ref it)) Q E s
abbrev TI:=St→Hp→(It→Hp→Prop)→Prop
def IK (X:Cx) (pins:List (Addr×Obj)) (σ:St) (tg:Expr) (R:It→Hp→Prop) (itv:yai) (s2:yah):Prop :=
 ∃ (it:Addr) (fp:List Addr) (tn:Nat→Heap→Prop) (J:It) (H':Hp),itv = .ref it∧Inv X pins σ H' s2∧Turn X.prog X.w X.K tg J fp it tn∧tn 0 s2.heap∧(∀ b∈fp,iW X pins H' b)∧R J H'
def PI (X:Cx) (tg iter:Expr) (wi:TI):Prop :=
 ∀ (pins:List (Addr×Obj)) (s:yah) (σ:St) (H:Hp) (R:It→Hp→Prop),Inv X pins σ H s→wi σ H R →
  yar (model X.prog X.w) X.A (eval iter X.env) (fun v s1=>yar (model X.prog X.w) X.A (pyIter v) (IK X pins σ tg R) X.xe s1) X.xe s
theorem tE {M:Model}{A:yal}{E:yai→yah→Prop}{s:yah}{tg:Expr}{it:Addr}{u:yai}{o:Obj}{n:String}{vs:Array yai}{Q:Unit→yah→Prop} (ho:s.heap.get? it=some o) (hc:o.cls = .type n) (hd:o.data = .fields vs)
  (hn:["enumerate","zip","dict_itemiterator","dict_reverseitemiterator","odict_iterator","itertools.zip_longest","itertools.pairwise"].contains n=false) (hQ:Q () s):yar M A (letOwnedTupleGo tg (.ref it) u) Q E s:=by
 unfold letOwnedTupleGo
 cases tg <;> first
  | exact yab hQ
  | (cases u <;> first
    | exact yab hQ
    | (refine yaa (wpAny_load ho ?_);rw [hc,hd];show yar M A (if (["enumerate","zip","dict_itemiterator","dict_reverseitemiterator","odict_iterator","itertools.zip_longest","itertools.pairwise"].contains n&&vs[0]? == some (rawInt _))=true then _ else _) Q E s;rw [yIn (by intro h;rw [hn,Bool.false_and] at h;cases h)];exact yab hQ))
noncomputable def GB (K:yaE) (a:Addr):It :=
 ⟨fun i H=>∃ xs x,cj K H a xs∧xs[i]? = some x,fun i H x H'=>H'=H∧∀ xs,cj K H a xs→xs[i]? = some x,fun i H=>∃ xs,cj K H a xs∧xs.length≤i⟩
noncomputable def G5 (K:yaE) (a:Addr):It :=
 ⟨fun i H=>∃ xs x,ck K H a xs∧xs[i]? = some x,fun i H x H'=>H'=H∧∀ xs,ck K H a xs→xs[i]? = some x,fun i H=>∃ xs,ck K H a xs∧xs.length≤i⟩
noncomputable def Iq (lo:Int) (n:Nat):It:=⟨fun i _=>i<n,fun i H x H'=>H'=H∧x = .int (lo+i),fun i _=>n≤i⟩
theorem uh {P:yaj}{w:yak}{K:yaE}{tg:Expr} (a it:Addr):Turn P w K tg (GB K a) [it] it (fun i h=>h.IsListIter it a i) where
 mem:=by simp
 obj:=fun i h st b hb=>by
  have e:b=it:=by simpa using hb
  subst e
  obtain ⟨o,e,c,d⟩:=st
  exact ⟨o,e,fun v z=>by rw [d] at z;cases z⟩
 keep:=fun i h h' st k=>st.at fun o e=>k it (by simp) o e
 item:=by
  intro X hP hw hK hc i pins s σ H E I hf st hg
  subst hP hw hK
  obtain ⟨xs,x,hq,hx⟩:=hg
  obtain ⟨its,rv,p,hz⟩:=I.list hq
  obtain ⟨u,hu,ru⟩:=rv.get hx
  obtain ⟨f0,f1,f2,f3,f4,f5⟩:=hf it (by simp)
  refine wpAny_pyNext_list_item st p.isList (x:=u) (by simpa using hu) fun h' st' sb => ?_
  have I1:Inv X pins σ H { s with heap:=h' }:=I.turned (t':=s.toks) (fun b o hb e=>(sb.2 b hb).trans e) f0 f1 f3 f4 f5
  obtain ⟨o,e,c,d⟩:=id st'
  exact ⟨u,rfl,tE (s:={ s with heap:=h' }) e c d (by decide) ⟨x,H,I1,ru,⟨rfl,fun ys hy=>by rw [I.xN hy hq];exact hx⟩,st',fun b hb=>(hf b hb).1⟩⟩
 done:=by
  intro X hP hw hK hc i pins s σ H E I hf st hg
  subst hP hw hK
  obtain ⟨xs,hq,hx⟩:=hg
  obtain ⟨its,rv,p,hz⟩:=I.list hq
  obtain ⟨f0,f1,f2,f3,f4,f5⟩:=hf it (by simp)
  have hl:=rv.length
  exact wpAny_pyNext_list_end (I.ok.hd hc) st p.isList (by simp;lia) fun h' eb=>⟨rfl,I.turned (t':=s.toks) (fun b o hb e=>eb b o hb e) f0 f1 f3 f4 f5⟩
 self:=fun _ _ _ _ _ st h=>wpAny_pyIter_listiter st h
theorem qg {P:yaj}{w:yak}{K:yaE}{tg:Expr} (a it:Addr):Turn P w K tg (G5 K a) [it] it (fun i h=>h.IsTupleIter it a i) where
 mem:=by simp
 obj:=fun i h st b hb=>by
  have e:b=it:=by simpa using hb
  subst e
  obtain ⟨o,e,c,d⟩:=st
  exact ⟨o,e,fun v z=>by rw [d] at z;cases z⟩
 keep:=fun i h h' st k=>st.at fun o e=>k it (by simp) o e
 item:=by
  intro X hP hw hK hc i pins s σ H E I hf st hg
  subst hP hw hK
  obtain ⟨xs,x,hq,hx⟩:=hg
  obtain ⟨its,rv,p,hz⟩:=I.tuple hq
  obtain ⟨u,hu,ru⟩:=rv.get hx
  obtain ⟨f0,f1,f2,f3,f4,f5⟩:=hf it (by simp)
  refine wpAny_pyNext_tuple_item st (show s.heap.IsTuple a its.toArray from p) (x:=u) (by simpa using hu) fun h' st' sb => ?_
  have I1:Inv X pins σ H { s with heap:=h' }:=I.turned (t':=s.toks) (fun b o hb e=>(sb.2 b hb).trans e) f0 f1 f3 f4 f5
  obtain ⟨o,e,c,d⟩:=id st'
  exact ⟨u,rfl,tE (s:={ s with heap:=h' }) e c d (by decide) ⟨x,H,I1,ru,⟨rfl,fun ys hy=>by rw [I.um hy hq];exact hx⟩,st',fun b hb=>(hf b hb).1⟩⟩
 done:=by
  intro X hP hw hK hc i pins s σ H E I hf st hg
  subst hP hw hK
  obtain ⟨xs,hq,hx⟩:=hg
  obtain ⟨its,rv,p,hz⟩:=I.tuple hq
  obtain ⟨f0,f1,f2,f3,f4,f5⟩:=hf it (by simp)
  have hl:=rv.length
  exact wpAny_pyNext_tuple_end (I.ok.hd hc) st (show s.heap.IsTuple a its.toArray from p) (by simp;lia) fun h' eb=>⟨rfl,I.turned (t':=s.toks) (fun b o hb e=>eb b o hb e) f0 f1 f3 f4 f5⟩
 self:=fun _ _ _ _ _ st h=>wpAny_pyIter_tupleiter st h
theorem qh {P:yaj}{w:yak}{K:yaE}{tg:Expr} (it:Addr) (lo:Int) (n:Nat):Turn P w K tg (Iq lo n) [it] it (fun i h=>IsRangeIter h it (lo+(i:Nat)*1) ((n:Int) - (i:Nat)) 1) where
 mem:=by simp
 obj:=fun i h st b hb=>by
  have e:b=it:=by simpa using hb
  subst e
  exact ⟨_,st,fun v z=>by
   have z':Data.fields _=Data.cell v:=z
   cases z'⟩
 keep:=fun i h h' st k=>k it (by simp) _ st
 item:=by
  intro X hP hw hK hc i pins s σ H E I hf st hg
  subst hP hw hK
  obtain ⟨f0,f1,f2,f3,f4,f5⟩:=hf it (by simp)
  have W:=Walks.range (prog:=X.prog) (w:=X.w) (I.ok.hd hc) it lo 1 n
  refine W.item i s _ _ hg st fun v h' tk hv st' kk => ?_
  obtain ⟨t,rfl⟩:=hv
  have I1:Inv X pins σ H { s with heap:=h',toks:=tk }:=I.turned (fun b o hb e=>kk b o (by simpa using hb) e) f0 f1 f3 f4 f5
  refine ⟨_,rfl,tE (s:={ s with heap:=h',toks:=tk }) (n := "range_iterator") st' rfl rfl (by decide) ⟨.int (lo+i),H,I1,⟨t,?_⟩,⟨rfl,rfl⟩,st',fun b hb=>(hf b hb).1⟩⟩
  rw [Int.mul_one]
 done:=by
  intro X hP hw hK hc i pins s σ H E I hf st hg
  subst hP hw hK
  obtain ⟨f0,f1,f2,f3,f4,f5⟩:=hf it (by simp)
  exact wpAny_pyNext_range_end (I.ok.hd hc) st (by have:n≤i:=hg;lia) fun h' eb=>⟨rfl,I.turned (t':=s.toks) (fun b o hb e=>eb b o hb e) f0 f1 f3 f4 f5⟩
 self:=fun _ _ _ _ _ st h=>wpAny_pyIter_rangeiter st h
section
variable {X:Cx}{tg:Expr}
theorem wM {pins:List (Addr×Obj)}{σ:St}{H:Hp}{s:yah}{R:It→Hp→Prop}{E:yai→yah→Prop}{lo hi:Int}{t u v:Tok}{tk:Nat} (I:Inv X pins σ H s) (h1 : -(2 ^ 62)≤lo) (h2:lo<2 ^ 62) (h3 : -(2 ^ 62)≤hi) (h4:hi<2 ^ 62)
  (q:R (Iq lo (hi - lo).toNat) H):yar (model X.prog X.w) X.A (pyIter (.ref s.heap.objs.size)) (IK X pins σ tg R) E { s with heap:=s.heap.push { cls:=.type "range",data:=.fields #[.int lo t,.int hi u,.int 1 v] },toks:=tk }:=by
 refine wpAny_pyIter_range (IsRange.new ..) (small_one h1 h2 h3 h4) ?_
 have I1:Inv X pins σ H { s with heap:=s.heap.push { cls:=.type "range",data:=.fields #[.int lo t,.int hi u,.int 1 v] },toks:=tk }:=I.kept fun b o e=>zak _ e
 refine ⟨(s.heap.push { cls:=.type "range",data:=.fields #[.int lo t,.int hi u,.int 1 v] }).objs.size,[(s.heap.push { cls:=.type "range",data:=.fields #[.int lo t,.int hi u,.int 1 v] }).objs.size],_,_,H,rfl,
  I1.kept (t':=tk) fun b o e=>zak _ e,qh _ lo (hi - lo).toNat,?_,fun b hb => ?_,q⟩
 ·have e1:lo+((0:Nat):Int)*1=lo:=by simp
  have e2:(((hi - lo).toNat:Nat):Int) - ((0:Nat):Int)=Builtin.Range.rangeSize lo hi 1:=by rw [rangeSize_one];split <;> lia
  show IsRangeIter _ _ (lo+((0:Nat):Int)*1) ((((hi - lo).toNat:Nat):Int) - ((0:Nat):Int)) 1
  rw [e1,e2]
  exact zaC _ rfl
 ·have e:b=(s.heap.push { cls:=.type "range",data:=.fields #[.int lo t,.int hi u,.int 1 v] }).objs.size:=by simpa using hb
  subst e
  exact I1.qS (zca _) (I1.hok.fresh (zca _))
def B7 (ta:TA):TI:=fun σ H R=>ta σ H fun vs H1=>∃ j:Int,vs=[.int j] ∧ -(2 ^ 62)≤j∧j<2 ^ 62∧R (Iq 0 j.toNat) H1
theorem dH {a:Expr}{ta:TA}{p pos:Pos} (hg:Gl X "range") (hm:X.mg "range" = none) (ha:PA X [a] ta) (hs:yao [a] X.env=[(false,eval a X.env)]:=by rfl):PI X tg (.Call (.Name "range" p) [a] [] pos) (B7 ta):=by
 intro pins s σ H R I h
 refine Call_ (cV I hg hm boot_range (PyProof.Rows.callWith_type1 (b5 (ha pos pins s σ H _ I h) fun us s1 ⟨vs,H1,I1,r1,q1⟩ => ?_) hs rfl))
 obtain ⟨j,e,q1,q2,q⟩:=q1
 subst e
 cases r1 with
 | cons r rr =>
  cases rr
  obtain ⟨t,rfl⟩:=r
  exact call_range_1 (wM I1 (by lia) (by lia) q1 q2 (by simpa using q))
def EL (wi:TI) (g:TG) (tb:TS):TS:=fun D σ H=>wi σ H fun J H1=>∃ W:Nat→Nat→St→Hp→Prop,(∃ m,W 0 m σ H1)∧∀ i m σ H,W i m σ H →
 (J.stop i H∧D.nx σ H)∨(J.go i H∧∃ N:St→Hp→Prop,(∀ σ' H',N σ' H'→∃ m',m'<m∧W (i+1) m' σ' H')∧∀ x H',J.vm i H x H'→g x σ H' fun σ2 H2=>tb { D with nx:=N,ct:=N,bk:=D.nx } σ2 H2)
noncomputable def jH (fp:List Addr) (h:Heap):List (Addr×Obj):=fp.filterMap fun b=>(h.get? b).map fun o=>(b,o)
theorem dY {fp:List Addr}{h:Heap}{b:Addr}{o:Obj} (hb:b∈fp) (e:h.get? b=some o):(b,o)∈jH fp h:=List.mem_filterMap.mpr ⟨b,hb,by rw [e];rfl⟩
theorem uC {fp:List Addr}{h:Heap}{p:Addr×Obj} (hp:p∈jH fp h):p.1∈fp∧h.get? p.1=some p.2:=by
 obtain ⟨b,hb,e⟩:=List.mem_filterMap.mp hp
 cases q:h.get? b with
 | none=>rw [q] at e;cases e
 | some o =>
  rw [q] at e
  have e':(b,o)=p:=zcd.inj e
  subst e'
  exact ⟨hb,q⟩
theorem Inv.pinned {pins:List (Addr×Obj)}{σ:St}{H:Hp}{s:yah}{fp:List Addr} (I:Inv X pins σ H s) (hf:∀ b∈fp,iW X pins H b) (ho:∀ b∈fp,∃ o,s.heap.get? b=some o∧∀ v,o.data ≠ .cell v):Inv X (pins++jH fp s.heap) σ H s :=
 I.jb fun p hp=>(zbn.mp hp).elim (fun z=>I.pin p (zam _ z)) fun z=>by
  obtain ⟨hb,e⟩:=uC z
  obtain ⟨f0,f1,f2,_⟩:=hf p.1 hb
  obtain ⟨o,e',d⟩:=ho p.1 hb
  rw [e] at e';cases e'
  exact ⟨e,f0,f1,f2,d⟩
theorem Inv.gu {pins pl:List (Addr×Obj)}{σ:St}{H:Hp}{s:yah} (I:Inv X (pins++pl) σ H s):Inv X pins σ H s:=I.jb fun p hp=>I.pin p (zam _ (zas _ hp))
theorem bT {iter:Expr}{body:List Stmt}{wi:TI}{g:TG}{tb:TS}{pos:Pos} (hp:PassesOwn (model X.prog X.w) X.A X.env X.xe) (hc:X.calm=true) (hi:PI X tg iter wi) (hg:PG X tg g) (hb:pU X body tb)
  (hs:∀ x,foldedSetIterable iter X.env x=pure x:=by intro _;rfl):PS X (.For tg iter body [] pos) (EL wi g tb):=by
 intro pins s σ H D I h
 refine wpAny_For (b5 (hi pins s σ H _ I h) fun v s1 h1=>b5 h1 fun itv s2 h2 => ?_) hs
 obtain ⟨it,fp,tn,J,H2,e,I2,T,st2,f2,W,⟨m0,w0⟩,turn⟩:=h2
 subst e
 have CA:∀ {H':Hp},(∀ b∈fp,H' b=none)→∀ b∈fp,iW X pins H' b:=fun hn b hb=>⟨hn b hb,(f2 b hb).2⟩
 refine codeAny_forLoop_any (fun n s'=>∃ i σ' H',Inv X pins σ' H' s'∧tn i s'.heap∧(∀ b∈fp,H' b=none)∧W i n σ' H') ?_ m0 ⟨0,σ,H2,I2,st2,fun b hb=>(f2 b hb).1,w0⟩
 rintro n s3 ⟨i,σ3,H3,I3,st3,fr3,w3⟩
 rcases turn i n σ3 H3 w3 with ⟨stop,qn⟩ | ⟨go,N,hN,step⟩
 ·refine wpAny_passesOwn hp (b5 (T.done X rfl rfl rfl hc i pins s3 σ3 H3 X.xe I3 (CA fr3) st3 stop) fun r s4 ⟨hr,I4⟩ => ?_)
  subst hr
  exact yaB ⟨σ3,H3,I4,qn⟩
 ·refine wpAny_passesOwn hp (b5 (T.item X rfl rfl rfl hc i pins s3 σ3 H3 X.xe I3 (CA fr3) st3 go) fun r s4 ⟨u,hr,h4⟩ => ?_)
  subst hr
  refine wpAny_passesOwn hp (b5 h4 fun _ s5 ⟨x,H5,I5,r5,y5,st5,fr5⟩ => ?_)
  have I5':=I5.pinned (CA fr5) (T.obj _ _ st5)
  refine wpAny_passesOwn hp (b5 (hg _ s5 σ3 H5 x u _ I5' r5 (step x H5 y5)) fun _ s6 ⟨σ6,H6,I6,q6⟩ => ?_)
  refine wpAny_passesOwn hp (b5 (hb _ s6 σ6 H6 _ I6 q6) fun f s7 q7 => ?_)
  have again:∀ {σ7:St}{H7:Hp},Inv X (pins++jH fp s5.heap) σ7 H7 s7→N σ7 H7→∃ m,m<n∧∃ i σ' H',Inv X pins σ' H' s7∧tn i s7.heap∧(∀ b∈fp,H' b=none)∧W i m σ' H':=fun {σ7 H7} I7 n7=>by
   obtain ⟨m',hm,w7⟩:=hN σ7 H7 n7
   refine ⟨m',hm,i+1,σ7,H7,I7.gu,T.keep _ _ _ st5 fun b hb o e=>(I7.pin (b,o) (zam _ (zam _ (dY hb e)))).1,fun b hb => ?_,w7⟩
   obtain ⟨o,e,d⟩:=T.obj _ _ st5 b hb
   exact (I7.pin (b,o) (zam _ (zam _ (dY hb e)))).2.1
  cases f with
  | next=>obtain ⟨σ7,H7,I7,n7⟩:=q7;exact again I7 n7
  | cont=>obtain ⟨σ7,H7,I7,n7⟩:=q7;exact again I7 n7
  | brk=>obtain ⟨σ7,H7,I7,q7⟩:=q7;exact ⟨σ7,H7,I7.gu,q7⟩
  | ret v=>obtain ⟨x7,σ7,H7,I7,r7,q7⟩:=q7;exact ⟨x7,σ7,H7,I7.gu,r7,q7⟩
end
abbrev R2:=V→V→Hp→VK→Prop
def fV (X:Cx) (f:yai→yai→Sem yai) (r:R2):Prop :=
 ∀ (pins:List (Addr×Obj)) (s:yah) (σ:St) (H:Hp) (x y:V) (v u:yai) (Q:VK),Inv X pins σ H s→RelV x v→RelV y u→r x y H Q →
  yar (model X.prog X.w) X.A (f v u) (EP X pins σ Q) X.xe s
def cg (X:Cx) (f:yai) (r:List V→Hp→VK→Prop):Prop :=
 ∀ (pins:List (Addr×Obj)) (s:yah) (σ:St) (H:Hp) (xs:List V) (us:List yai) (Q:VK),Inv X pins σ H s→Vals xs us→r xs H Q →
  yar (model X.prog X.w) X.A (call f us) (EP X pins σ Q) X.xe s
def Ik (X:Cx) (r:V→Hp→(Bool→Hp→Prop)→Prop):Prop :=
 ∀ (pins:List (Addr×Obj)) (s:yah) (σ:St) (H:Hp) (x:V) (v:yai) (Q:Bool→Hp→Prop),Inv X pins σ H s→RelV x v→r x H Q →
  yar (model X.prog X.w) X.A (truthy v) (TP X pins σ Q) X.xe s
def EH (r:R2) (ta tb:TE):TE:=fun σ H Q=>ta σ H fun x H1=>tb σ H1 fun y H2=>r x y H2 Q
def rI (C:Int→Int→Prop) (g:Int→Int→V):R2:=fun x y H Q=>∃ i j,x = .int i∧y = .int j∧C i j∧Q (g i j) H
def C8 (g:Int→Int→V):R2:=fun x y H Q=>∃ i j,x = .int i∧y = .int j∧Q (g i j) H
section
variable {X:Cx}{a b c:Expr}{ta tb tc:TE}{pos:Pos}
theorem D7 (ha:PE X a ta) (hb:PE X b tb) {pins:List (Addr×Obj)}{s:yah}{σ:St}{H:Hp}{R:V→V→Hp→Prop} (I:Inv X pins σ H s)
  (h:ta σ H fun x H1=>tb σ H1 fun y H2=>R x y H2) {Q:yai→yah→Prop}{f:yai→yai→Sem yai}
  (hf:∀ v u s2 x y H2,Inv X pins σ H2 s2→RelV x v→RelV y u→R x y H2→yar (model X.prog X.w) X.A (f v u) Q X.xe s2) :
  yar (model X.prog X.w) X.A (eval a X.env) (fun v s₁=>yar (model X.prog X.w) X.A (eval b X.env) (fun u s₂=>yar (model X.prog X.w) X.A (f v u) Q X.xe s₂) X.xe s₁) X.xe s:=by
 refine b5 (ha pins s σ H _ I h) fun v s1 ⟨x,H1,I1,r1,q1⟩ => ?_
 refine b5 (hb pins s1 σ H1 _ I1 q1) fun u s2 ⟨y,H2,I2,r2,q2⟩ => ?_
 exact hf v u s2 x y H2 I2 r1 r2 q2
theorem aD {op:Operator}{r:R2} (ho:fV X (binaryOp op) r) (ha:PE X a ta) (hb:PE X b tb):PE X (.BinOp a op b pos) (EH r ta tb):=by
 intro pins s σ H Q I h
 exact wpAny_BinOp (D7 ha hb I h fun v u s2 x y H2 I2 rx ry q=>ho pins s2 σ H2 x y v u Q I2 rx ry q)
theorem GQ {f:yai→yai→Sem yai}{C:Int→Int→Prop}{g:Int→Int→Int}
  (rule:∀ (i j:Int) (t u:Tok) (s:yah) (Q:yai→yah→Prop) (E:yai→yah→Prop),C i j→Q (.int (g i j) s.toks) { s with toks:=s.toks+1 }→yar (model X.prog X.w) X.A (f (.int i t) (.int j u)) Q E s) :
  fV X f (rI C fun i j=>.int (g i j)):=by
 intro pins s σ H x y v u Q I rx ry h
 obtain ⟨i,j,rfl,rfl,hc,q⟩:=h
 obtain ⟨t,rfl⟩:=rx
 obtain ⟨t',rfl⟩:=ry
 exact rule i j t t' s _ _ hc ⟨.int (g i j),H,I.tok _,⟨_,rfl⟩,q⟩
theorem Fy {f:yai→yai→Sem yai}{g:Int→Int→Int}
  (rule:∀ (i j:Int) (t u:Tok) (s:yah) (Q:yai→yah→Prop) (E:yai→yah→Prop),Q (.int (g i j) s.toks) { s with toks:=s.toks+1 }→yar (model X.prog X.w) X.A (f (.int i t) (.int j u)) Q E s) :
  fV X f (C8 fun i j=>.int (g i j)):=by
 intro pins s σ H x y v u Q I rx ry h
 obtain ⟨i,j,rfl,rfl,q⟩:=h
 obtain ⟨t,rfl⟩:=rx
 obtain ⟨t',rfl⟩:=ry
 exact rule i j t t' s _ _ ⟨.int (g i j),H,I.tok _,⟨_,rfl⟩,q⟩
theorem Fz {f:yai→yai→Sem yai}{g:Int→Int→Bool}
  (rule:∀ (i j:Int) (t u:Tok) (s:yah) (Q:yai→yah→Prop) (E:yai→yah→Prop),Q (.bool (g i j)) s→yar (model X.prog X.w) X.A (f (.int i t) (.int j u)) Q E s) :
  fV X f (C8 fun i j=>.bl (g i j)):=by
 intro pins s σ H x y v u Q I rx ry h
 obtain ⟨i,j,rfl,rfl,q⟩:=h
 obtain ⟨t,rfl⟩:=rx
 obtain ⟨t',rfl⟩:=ry
 exact rule i j t t' s _ _ ⟨.bl (g i j),H,I,rfl,q⟩
def Ep (i j:Int):Prop:=0<j∧j<1073741824
def GD (i j:Int):Prop:=0≤j∧j≤1000000∧i.natAbs<2 ^ 64
def ze (i j:Int):Prop:=(-(2 ^ 64)<i∧i<2 ^ 64)∨(-(2 ^ 64)<j∧j<2 ^ 64)
theorem ze.ok {i j:Int} (h:ze i j):IntMulOk i j:=by
 rcases h with ⟨h1,h2⟩ | ⟨h1,h2⟩
 ·exact .of_left (intBits_le_64 h1 h2)
 ·exact .of_right (intBits_le_64 h1 h2)
theorem Ds:fV X (binaryOp .Add) (C8 fun i j=>.int (i+j)):=Fy fun _ _ _ _ _ _ _ q=>add_int q
theorem Di:fV X (binaryOp .Sub) (C8 fun i j=>.int (i - j)):=Fy fun _ _ _ _ _ _ _ q=>sub_int q
theorem Dm:fV X (binaryOp .Mult) (rI ze fun i j=>.int (i*j)):=GQ fun _ _ _ _ _ _ _ hc q=>mul_int q hc.ok
theorem Af:fV X (binaryOp .FloorDiv) (rI Ep fun i j=>.int (i / j)):=GQ fun i j _ _ _ _ _ hc q=>by
 have h1:(0:Int)<j:=hc.1
 have h2:j<1073741824:=hc.2
 exact floordiv_int (by lia) (by rw [Int.fdiv_eq_ediv_of_nonneg i (by lia)];exact q) (.inl (PyProof.noPylong_small (by lia)))
theorem Dn:fV X (binaryOp .Mod) (rI (fun _ j=>0<j) fun i j=>.int (i % j)):=GQ fun i j _ _ _ _ _ hc q=>by
 have h1:(0:Int)<j:=hc
 exact mod_int' (by lia) (by rw [Int.fmod_eq_emod_of_nonneg i (by lia)];exact q)
theorem Dk:fV X (binaryOp .Pow) (rI GD fun i j=>.int (i ^ j.toNat)):=GQ fun _ _ _ _ _ _ _ hc q=>pow_int_small hc.1 hc.2.1 hc.2.2 q
end
noncomputable def EV:V→V→Bool
 | .bP,.bP=>true | .bP,.int _=>true | .int _,.bP=>true | .bP,.bl _=>true | .bl _,.bP=>true | .bP,.str _=>true | .str _,.bP=>true
 | .int _,.int _=>true | .bl _,.bl _=>true | .str _,.str _=>true | .rq _,.rq _=>true
 | .int _,.str _=>true | .str _,.int _=>true | .bl _,.str _=>true | .str _,.bl _=>true
 | _,_=>false
def rEq:R2:=fun x y H Q=>EV x y=true∧Q (.bl (decide (x=y))) H
def rNe:R2:=fun x y H Q=>EV x y=true∧Q (.bl (!decide (x=y))) H
theorem tN {i j:Int}:decide (V.int i=V.int j)=(i==j):=by
 rw [Bool.eq_iff_iff]
 simp
theorem yh {i j:Bool}:decide (V.bl i=V.bl j)=(i==j):=by
 rw [Bool.eq_iff_iff]
 simp
theorem tM {i j:Str}:decide (V.str i=V.str j)=(i==j):=by
 rw [Bool.eq_iff_iff]
 simp
theorem tO {i j:Array UInt8}:decide (V.rq i=V.rq j)=(i.toList==j.toList):=by
 rw [Bool.eq_iff_iff]
 cases i
 cases j
 simp
section
variable {X:Cx}{a b c:Expr}{ta tb tc:TE}{pos:Pos}
theorem aQ {pins:List (Addr×Obj)}{σ:St}{H:Hp}{s:yah}{Q:VK}{k k':Bool} (I:Inv X pins σ H s) (q:Q (.bl k) H) (e:k=k'):EP X pins σ Q (.bool k') s:=by
 subst e
 exact ⟨.bl k,H,I,rfl,q⟩
theorem Fx:fV X (yan .Eq) rEq:=by
 intro pins s σ H x y v u Q I rx ry h
 obtain ⟨hs,q⟩:=h
 cases x with
 | bP =>
  cases rx
  cases y with
  | bP=>cases ry;exact PySem.EqNone.eq_none_none (aQ I q (by simp))
  | bl j=>cases ry;exact PySem.EqNone.eq_none_bool (aQ I q (by simp))
  | int j=>obtain ⟨t',rfl⟩:=ry;exact PySem.EqNone.eq_none_int (aQ I q (by simp))
  | str j=>obtain ⟨t',rfl⟩:=ry;exact PySem.EqNone.eq_none_str (aQ I q (by simp))
  | _=>exact absurd (show false=true from hs) zaJ
 | bl i =>
  cases rx
  cases y with
  | bP=>cases ry;exact PySem.EqNone.eq_bool_none (aQ I q (by simp))
  | bl j=>cases ry;exact eq_bool (aQ I q yh)
  | str j=>obtain ⟨t',rfl⟩:=ry;exact PySem.EqMixed.eq_bool_str (aQ I q (by simp))
  | _=>exact absurd (show false=true from hs) zaJ
 | int i =>
  obtain ⟨t,rfl⟩:=rx
  cases y with
  | bP=>cases ry;exact PySem.EqNone.eq_int_none (aQ I q (by simp))
  | int j=>obtain ⟨t',rfl⟩:=ry;exact eq_int (aQ I q tN)
  | str j=>obtain ⟨t',rfl⟩:=ry;exact PySem.EqMixed.eq_int_str (aQ I q (by simp))
  | _=>exact absurd (show false=true from hs) zaJ
 | str i =>
  obtain ⟨t,rfl⟩:=rx
  cases y with
  | bP=>cases ry;exact PySem.EqNone.eq_str_none (aQ I q (by simp))
  | bl j=>cases ry;exact PySem.EqMixed.eq_str_bool (aQ I q (by simp))
  | int j=>obtain ⟨t',rfl⟩:=ry;exact PySem.EqMixed.eq_str_int (aQ I q (by simp))
  | str j=>obtain ⟨t',rfl⟩:=ry;exact eq_str (aQ I q tM)
  | _=>exact absurd (show false=true from hs) zaJ
 | rq i =>
  obtain ⟨t,rfl⟩:=rx
  cases y with
  | rq j=>obtain ⟨t',rfl⟩:=ry;exact PySem.W.eq_bytes (aQ I q tO)
  | _=>exact absurd (show false=true from hs) zaJ
 | _=>cases y <;> exact absurd (show false=true from hs) zaJ
theorem Ft:fV X (yan .NotEq) rNe:=by
 intro pins s σ H x y v u Q I rx ry h
 obtain ⟨hs,q⟩:=h
 cases x with
 | bP =>
  cases rx
  cases y with
  | bP=>cases ry;exact PySem.EqNone.ne_none_none (aQ I q (by simp))
  | bl j=>cases ry;exact PySem.EqNone.ne_none_bool (aQ I q (by simp))
  | int j=>obtain ⟨t',rfl⟩:=ry;exact PySem.EqNone.ne_none_int (aQ I q (by simp))
  | str j=>obtain ⟨t',rfl⟩:=ry;exact PySem.EqNone.ne_none_str (aQ I q (by simp))
  | _=>exact absurd (show false=true from hs) zaJ
 | bl i =>
  cases rx
  cases y with
  | bP=>cases ry;exact PySem.EqNone.ne_bool_none (aQ I q (by simp))
  | bl j=>cases ry;exact ne_bool (aQ I q (congrArg not yh))
  | str j=>obtain ⟨t',rfl⟩:=ry;exact PySem.EqMixed.ne_bool_str (aQ I q (by simp))
  | _=>exact absurd (show false=true from hs) zaJ
 | int i =>
  obtain ⟨t,rfl⟩:=rx
  cases y with
  | bP=>cases ry;exact PySem.EqNone.ne_int_none (aQ I q (by simp))
  | int j=>obtain ⟨t',rfl⟩:=ry;exact ne_int (aQ I q (congrArg not tN))
  | str j=>obtain ⟨t',rfl⟩:=ry;exact PySem.EqMixed.ne_int_str (aQ I q (by simp))
  | _=>exact absurd (show false=true from hs) zaJ
 | str i =>
  obtain ⟨t,rfl⟩:=rx
  cases y with
  | bP=>cases ry;exact PySem.EqNone.ne_str_none (aQ I q (by simp))
  | bl j=>cases ry;exact PySem.EqMixed.ne_str_bool (aQ I q (by simp))
  | int j=>obtain ⟨t',rfl⟩:=ry;exact PySem.EqMixed.ne_str_int (aQ I q (by simp))
  | str j=>obtain ⟨t',rfl⟩:=ry;exact ne_str (aQ I q (congrArg not tM))
  | _=>exact absurd (show false=true from hs) zaJ
 | rq i =>
  obtain ⟨t,rfl⟩:=rx
  cases y with
  | rq j=>obtain ⟨t',rfl⟩:=ry;exact PySem.W.ne_bytes (aQ I q (congrArg not tO))
  | _=>exact absurd (show false=true from hs) zaJ
 | _=>cases y <;> exact absurd (show false=true from hs) zaJ
theorem Fv:fV X (yan .Lt) (C8 fun i j=>.bl (decide (i<j))):=Fz fun _ _ _ _ _ _ _ q=>lt_int q
theorem Fw:fV X (yan .GtE) (C8 fun i j=>.bl (decide (j≤i))):=Fz fun _ _ _ _ _ _ _ q=>ge_int q
theorem uB:fV X (yan .Lt) (fun x y H Q=>∃ i j,x = .str i∧y = .str j∧Q (.bl (decide (i.cps.toList<j.cps.toList))) H):=by
 intro pins s σ H x y v u Q I rx ry h
 obtain ⟨i,j,rfl,rfl,q⟩:=h
 obtain ⟨t,rfl⟩:=rx
 obtain ⟨t',rfl⟩:=ry
 exact lt_str (aQ I q rfl)
theorem aW (b:Expr) {op:CmpOp} (h:op ≠ .In:=by decide) (h2:op ≠ .NotIn:=by decide):behindInMarks op b=false:=by
 have e1:(op==CmpOp.In)=false:=by cases op <;> first | rfl | exact absurd rfl h
 have e2:(op==CmpOp.NotIn)=false:=by cases op <;> first | rfl | exact absurd rfl h2
 cases b <;> simp [behindInMarks,e1,e2]
theorem fH {op:CmpOp}{r:R2} (ho:fV X (yan op) r) (ha:PE X a ta) (hb:PE X b tb) (hm:behindInMarks op b=false):PE X (.Compare a [op] [b] pos) (EH r ta tb):=by
 intro pins s σ H Q I h
 exact wpAny_Compare1 (D7 ha hb I h fun v u s2 x y H2 I2 rx ry q=>ho pins s2 σ H2 x y v u Q I2 rx ry q) hm
def EE (t:TE):TT:=fun σ H Q=>t σ H fun x H'=>∃ k,x = .bl k∧Q k H'
theorem az {op:CmpOp}{r:R2} (ho:fV X (yan op) r) (ha:PE X a ta) (hb:PE X b tb) (hm:behindInMarks op b=false):PT X (.Compare a [op] [b] pos) (EE (EH r ta tb)):=by
 intro pins s σ H Q I h
 refine wpAny_isTrue_Compare1 (b5 (ha pins s σ H _ I h) fun v s1 ⟨x,H1,I1,r1,q1⟩=>b5 (hb pins s1 σ H1 _ I1 q1) fun u s2 ⟨y,H2,I2,r2,q2⟩ =>
  b5 (ho pins s2 σ H2 x y v u _ I2 r1 r2 q2) fun c s3 ⟨z,H3,I3,r3,k,e,q3⟩ => ?_) hm
 subst e
 cases r3
 exact wpAny_truthy_bool ⟨H3,I3,q3⟩
def yP (K:yaE) (x:V) (H:Hp) (k:Bool):Prop :=
 match x with
 | .bP=>k=false
 | .bl b=>k=b
 | .int i=>k=(i != 0)
 | .str y=>y.length≤yag∧k=((y.length:Int) != 0)
 | .rq y=>y.size≤yag∧k=((y.size:Int) != 0)
 | .ref p=>(∃ xs,cj K H p xs∧k = !xs.isEmpty)∨(∃ xs,ck K H p xs∧k = !xs.isEmpty)∨∃ kvs,H p=some (.dK kvs)∧k = !kvs.isEmpty
 | _=>False
theorem qP {κ:Type}{kvs:List (κ×V)}{vs:List (κ×yai)} (r:KV kvs vs):(!vs.isEmpty) = !kvs.isEmpty:=by
 cases r <;> rfl
theorem jY {xs:List V}{its:List yai} (r:Vals xs its):(!its.toArray.isEmpty) = !xs.isEmpty:=by
 cases r <;> simp
theorem jV:(yag:Nat)<2 ^ 63:=by rw [yaf];decide
theorem Cs:Ik X (fun x H Q=>∃ k,yP X.K x H k∧Q k H):=by
 intro pins s σ H x v Q I rx h
 obtain ⟨k,e,q⟩:=h
 have hl:=jV
 have hs:yag=16777216:=yaf
 cases x with
 | bP =>
  cases rx
  have e':k=false:=e
  subst e'
  exact truthy_none ⟨H,I,q⟩
 | bl b =>
  cases rx
  have e':k=b:=e
  subst e'
  exact wpAny_truthy_bool ⟨H,I,q⟩
 | int i =>
  obtain ⟨t,rfl⟩:=rx
  have e':k=(i != 0):=e
  subst e'
  exact PySem.P.truthy_int ⟨H,I,q⟩
 | str y =>
  obtain ⟨t,rfl⟩:=rx
  obtain ⟨hy,e'⟩:y.length≤yag∧k=((y.length:Int) != 0):=e
  subst e'
  exact PySem.P.truthy_str (by lia) ⟨H,I.tok _,q⟩
 | rq y =>
  obtain ⟨t,rfl⟩:=rx
  obtain ⟨hy,e'⟩:y.size≤yag∧k=((y.size:Int) != 0):=e
  subst e'
  exact PySem.W.truthy_bytes (by lia) ⟨H,I.tok _,q⟩
 | ref p =>
  cases rx
  have e':(∃ xs,cj X.K H p xs∧k = !xs.isEmpty)∨(∃ xs,ck X.K H p xs∧k = !xs.isEmpty)∨∃ kvs,H p=some (.dK kvs)∧k = !kvs.isEmpty:=e
  rcases e' with ⟨xs,hx,e'⟩ | ⟨xs,hx,e'⟩ | ⟨kvs,hx,e'⟩
  ·subst e'
   obtain ⟨its,r,pl,hz⟩:=I.list hx
   have hlen:=r.length
   exact wpAny_truthy_list pl.isList (by simp only [zaO];lia) ⟨H,I.tok _,by rw [jY r];exact q⟩
  ·subst e'
   obtain ⟨its,r,pl,hz⟩:=I.tuple hx
   have hlen:=r.length
   exact truthy_tuple pl (by simp only [zaO];lia) ⟨H,I.tok _,by rw [jY r];exact q⟩
  ·subst e'
   obtain ⟨hz,hS,vs,r,m⟩:kvs.length≤yag∧(p==yas)=false∧∃ vs,KV kvs vs∧s.heap.DictOf (jf X.prog X.w) p vs:=I.hok p _ hx
   have hlen:kvs.length=vs.length:=Paired.length r
   exact wpAny_truthy_dict hS m (by lia) ⟨H,I.tok _,by rw [qP r];exact q⟩
 | _=>exact (show False from e).elim
theorem wV (ha:PE X a ta) (he:∀ whole,isTrue a X.env whole=(do let v ← whole;standAt a.pos;holding [v] (truthy v))) :
  PT X a (fun σ H Q=>ta σ H fun x H'=>∃ k,yP X.K x H' k∧Q k H'):=by
 intro pins s σ H Q I h
 exact isTrue_plain (b5 (ha pins s σ H _ I h) fun v s1 ⟨x,H1,I1,r1,q1⟩=>Cs pins s1 σ H1 x v Q I1 r1 q1) (he _)
theorem qD:fV X (binaryOp .Add) (fun x y H Q=>∃ i j,x = .str i∧y = .str j∧i.length+j.length≤yag∧Q (.str (i++j)) H):=by
 intro pins s σ H x y v u Q I rx ry h
 obtain ⟨i,j,rfl,rfl,hz,q⟩:=h
 obtain ⟨t,rfl⟩:=rx
 obtain ⟨t',rfl⟩:=ry
 exact add_str (fun t' tk=>⟨.str (i++j),H,I.tok _,⟨_,rfl⟩,q⟩) hz
theorem vals1 {x:V}{us:List yai} (r:Vals [x] us):∃ u,us=[u]∧RelV x u:=by
 cases r with
 | cons r1 r2=>cases r2;exact ⟨_,rfl,r1⟩
theorem vals2 {x y:V}{us:List yai} (r:Vals [x,y] us):∃ u w',us=[u,w']∧RelV x u∧RelV y w':=by
 cases r with
 | cons r1 r2 =>
  cases r2 with
  | cons r3 r4=>cases r4;exact ⟨_,_,rfl,r1,r3⟩
theorem uT (hc:X.calm=true):cg X (.builtin "max") (fun xs H Q=>∃ i j,xs=[.int i,.int j]∧Q (.int (if j > i then j else i)) H):=by
 intro pins s σ H xs us Q I r h
 obtain ⟨i,j,rfl,q⟩:=h
 obtain ⟨u,w',rfl,⟨t,rfl⟩,⟨t',rfl⟩⟩:=vals2 r
 refine max_two_ints (I.ok.hd hc) fun h' tk k=>⟨_,H,I.kept k,?_,q⟩
 by_cases hj:j > i
 ·rw [yIp hj,yIp hj];exact ⟨_,rfl⟩
 ·rw [yIn hj,yIn hj];exact ⟨_,rfl⟩
theorem uS (hc:X.calm=true):cg X (.builtin "min") (fun xs H Q=>∃ i j,xs=[.int i,.int j]∧Q (.int (if j<i then j else i)) H):=by
 intro pins s σ H xs us Q I r h
 obtain ⟨i,j,rfl,q⟩:=h
 obtain ⟨u,w',rfl,⟨t,rfl⟩,⟨t',rfl⟩⟩:=vals2 r
 refine min_two_ints (I.ok.hd hc) fun h' tk k=>⟨_,H,I.kept k,?_,q⟩
 by_cases hj:j<i
 ·rw [yIp hj,yIp hj];exact ⟨_,rfl⟩
 ·rw [yIn hj,yIn hj];exact ⟨_,rfl⟩
def Ip (K:yaE) (x:V) (H:Hp) (n:Nat):Prop :=
 match x with
 | .str y=>y.length≤yag∧n=y.length
 | .rq y=>y.size≤yag∧n=y.size
 | .ref p=>(∃ xs,cj K H p xs∧n=xs.length)∨∃ xs,ck K H p xs∧n=xs.length
 | _=>False
theorem yw:cg X (.builtin "len") (fun xs H Q=>∃ x n,xs=[x]∧Ip X.K x H n∧Q (.int n) H):=by
 intro pins s σ H xs us Q I r h
 obtain ⟨x,n,rfl,e,q⟩:=h
 obtain ⟨u,rfl,rx⟩:=vals1 r
 have hl:=jV
 have hs:yag=16777216:=yaf
 cases x with
 | str y =>
  obtain ⟨t,rfl⟩:=rx
  obtain ⟨hy,e'⟩:y.length≤yag∧n=y.length:=e
  subst e'
  exact len_str (by lia) ⟨.int _,H,I.tok _,⟨_,rfl⟩,q⟩
 | rq y =>
  obtain ⟨t,rfl⟩:=rx
  obtain ⟨hy,e'⟩:y.size≤yag∧n=y.size:=e
  subst e'
  exact PySem.W.len_bytes (by lia) ⟨.int _,H,I.tok _,⟨_,rfl⟩,q⟩
 | ref p =>
  cases rx
  have e':(∃ xs,cj X.K H p xs∧n=xs.length)∨∃ xs,ck X.K H p xs∧n=xs.length:=e
  rcases e' with ⟨xs,hx,e'⟩ | ⟨xs,hx,e'⟩
  ·subst e'
   obtain ⟨its,r',pl,hz⟩:=I.list hx
   have hlen:=r'.length
   exact Calls.call_len_list pl.isList (by simp only [zaO];lia) ⟨.int xs.length,H,I.tok _,⟨_,by simp only [zaO];rw [hlen]⟩,q⟩
  ·subst e'
   obtain ⟨its,r',pl,hz⟩:=I.tuple hx
   have hlen:=r'.length
   exact len_tuple pl (by simp only [zaO];lia) ⟨.int xs.length,H,I.tok _,⟨_,by simp only [zaO];rw [hlen]⟩,q⟩
 | _=>exact (show False from e).elim
end
structure bC (k:Nat) (A:yal):Prop where
 hd:A.handled=none
 dp:A.depth+3*k+5<recursionLimit
 un:A.units+16*k+200<cLine
 gd:A.guards=some []
theorem bC.mono {j k:Nat}{A:yal} (r:bC k A) (h:j≤k):bC j A:=⟨r.hd,by have:=r.dp;lia,by have:=r.un;lia,r.gd⟩
theorem bC.deeper {k:Nat}{A:yal} (r:bC (k+1) A) (env:Env):bC k (A.deeper env) :=
 ⟨r.hd,by have:=r.dp;show A.depth+1+3*k+5<_;lia,by have:=r.un;show A.units+3+16*k+200<_;lia,r.gd⟩
theorem bC.depth {k:Nat}{A:yal} (r:bC k A):A.depth<recursionLimit:=by have:=r.dp;lia
theorem bC.units {k:Nat}{A:yal} (r:bC k A):A.units+64<cLine:=by have:=r.un;lia
def Cw:TA:=fun _ H Q=>Q [] H
def vG (ta:TE) (tr:TA):TA:=fun σ H Q=>ta σ H fun x H1=>tr σ H1 fun xs H2=>Q (x::xs) H2
section
variable {X:Cx}{e:Expr}{es:List Expr}{te:TE}{t:TA}{pos:Pos}
theorem aa:PA X [] Cw:=fun _ _ _ _ H Q I h=>zba ⟨[],H,I,.nil,h⟩
theorem Ad (ha:PE X e te) (hr:PA X es t) (hs:yao (e::es) X.env=(false,eval e X.env)::yao es X.env:=by rfl):PA X (e::es) (vG te t):=by
 intro pos pins s σ H Q I h
 rw [hs]
 show yar _ _ (spliced ((false,eval e X.env)::yau pos (yao es X.env))) _ _ s
 refine zaN (b5 (ha pins s σ H _ I h) fun u s1 ⟨x,H1,I1,r1,q1⟩ => ?_)
 exact b5 (hr pos pins s1 σ H1 _ I1 q1) fun us s2 ⟨xs,H2,I2,r2,q2⟩=>⟨x::xs,H2,I2,.cons r1 r2,q2⟩
def ED (t:TA):TE:=fun σ H Q=>t σ H fun xs H1=>xs.length≤yag∧∀ p,H1 p=none→Q (.ref p) (upd H1 p (.tup xs))
def EJ (t:TA):TE:=fun σ H Q=>t σ H fun xs H1=>xs.length≤yag∧∀ p,H1 p=none→Q (.ref p) (upd H1 p (.lst xs))
theorem aE {x1} (h:PA X es t):PE X (.Tuple es x1 pos) (ED t):=by
 intro pins s σ H Q I hq
 refine wpAny_Tuple_spliced (b5 (h pos pins s σ H _ I hq) fun us s1 ⟨xs,H1,I1,r,z,q⟩=>⟨by rw [← r.length];exact z,?_⟩)
 have hf:H1 s1.heap.objs.size=none:=I1.hok.fresh (zca _)
 refine ⟨.ref s1.heap.objs.size,upd H1 s1.heap.objs.size (.tup xs),I1.laid (t':=s1.toks) (fun b u e=>zak _ e) (zca _) ?_,rfl,q _ hf⟩
 exact ⟨z,us,r,⟨_,zaC _ rfl,rfl,_,rfl⟩⟩
theorem aO (h:PA X es t):PE X (.List es pos) (EJ t):=by
 intro pins s σ H Q I hq
 refine wpAny_List_spliced (b5 (h pos pins s σ H _ I hq) fun us s1 ⟨xs,H1,I1,r,z,q⟩=>⟨by rw [← r.length];exact z,?_⟩)
 have hf:H1 s1.heap.objs.size=none:=I1.hok.fresh (zca _)
 refine ⟨.ref s1.heap.objs.size,upd H1 s1.heap.objs.size (.lst xs),I1.laid (t':=s1.toks) (fun b u e=>zak _ e) (zca _) ?_,rfl,q _ hf⟩
 exact ⟨z,us,0,r,zaC _ rfl⟩
end
abbrev Sp:=List V→Hp→VK→XK→Prop
abbrev zd:=List Env→Hp→yah→XK→yai→yah→Prop
structure Bx (P:yaj) (w:yak) (K:yaE) (mg:Str→Option yai) (base:Heap) (A:yal) (outer:List Env) (s:yah) (H:Hp):Prop where
 frames:A.frames=some outer
 mod:Mod K mg base
 bs:∀ b o,base.get? b=some o→s.heap.get? b=some o∧H b=none
 Cg:base.objs.size≤s.heap.objs.size
 j6:s.heap.FunFrames base outer
 Es:∀ b∈frs outer,H b=none
 hok:iw P w H s.heap
 bare:AllBare s.gens
def CE (outer:List Env) (P:yaj) (w:yak) (H:Hp) (s:yah) (Q:VK) (u:yai) (s':yah):Prop :=
 ∃ v H',s'.os=s.os∧AllBare s'.gens∧Un (frs outer) [] H H' s.heap s'.heap∧iw P w H' s'.heap∧RelV v u∧Q v H'
def CR (CX:zd) (outer:List Env) (P:yaj) (w:yak) (H:Hp) (s:yah) (Q:VK) (E:XK) (r:Result) (s':yah):Prop :=
 match r with
 | .ok (.ret u)=>CE outer P w H s Q u s'
 | .ok _=>False
 | .error e=>CX outer H s E e s'
structure fu (P:yaj) (w:yak) (K:yaE) (mg:Str→Option yai) (base:Heap) (CX:zd) (k:Nat) (f:Addr) (fd:yap) (ps:List Str) (sp:Sp):Prop where
 len:∀ vs H Q E,sp vs H Q E→vs.length=ps.length
 run:∀ (A:yal) (outer:List Env) (s:yah) (H:Hp) (args:Args) (us:List yai) (vs:List V) (Q:VK) (E:XK),bC k A→Bx P w K mg base A outer s H→yaz s fd args (ps.zip us)→Vals vs us→sp vs H Q E →
  codeAny (model P w) A (.call (.ref f) args) (CR CX outer P w H s Q E) s
theorem fu.imp {P:yaj}{w:yak}{K:yaE}{mg:Str→Option yai}{base:Heap}{CX:zd}{k:Nat}{f:Addr}{fd:yap}{ps:List Str}{sp sp':Sp} (F:fu P w K mg base CX k f fd ps sp)
  (h:∀ vs H Q E,sp' vs H Q E→sp vs H Q E):fu P w K mg base CX k f fd ps sp' :=
 ⟨fun vs H Q E q=>F.len vs H Q E (h _ _ _ _ q),fun A outer s H args us vs Q E hr he hb hv hs=>F.run A outer s H args us vs Q E hr he hb hv (h _ _ _ _ hs)⟩
section
variable {X:Cx}{pins:List (Addr×Obj)}{σ:St}{H:Hp}{s s':yah}
theorem Inv.H9 (I:Inv X pins σ H s):Bx X.prog X.w X.K X.mg X.base X.A X.stack s H :=
 ⟨I.ok.frames,I.ok.mod,I.bs,zbR I.ok.Cg I.sz,I.stack,I.rR,I.hok,I.bare⟩
theorem Inv.after {Q:VK}{u:yai} (I:Inv X pins σ H s) (h:CE X.stack X.prog X.w H s Q u s'):EP X pins σ Q u s':=by
 obtain ⟨v,H',os,bare,un,hok,r,q⟩:=h
 obtain ⟨hh,g,d,t,os'⟩:=s'
 obtain rfl:os'=s.os:=os
 exact ⟨v,H',I.call (h':=hh) (g':=g) (d':=d) (t':=t) (ch:=[]) un hok bare (fun b z=>absurd z (by simp)),r,q⟩
end
def rQ (sp:Sp) (dvs:List V) (E:XK) (t:TA):TE:=fun σ H Q=>t σ H fun vs H1=>sp (vs++dvs) H1 Q E
def Binds (K:yaE) (fd:yap) (ps:List Str) (ds:List yai):Prop :=
 ∀ (s:yah) (us:List yai),K.In s.heap→(us++ds).length=ps.length→yaz s fd ⟨us,[]⟩ (ps.zip (us++ds))
theorem Binds.all {K:yaE}{fd:yap}{ps:List Str} (h:∀ us:List yai,us.length=ps.length→yay fd ⟨us,[]⟩=pure (ps.zip us)):Binds K fd ps []:=fun s us _ hl=>by
 rw [zbo] at hl ⊢
 exact .of_eq (h us hl)
def Passes (CX:zd) (X:Cx) (E:XK):Prop:=∀ (pins:List (Addr×Obj)) (σ:St) (H:Hp) (s:yah) (e:yai) (s':yah),Inv X pins σ H s→CX X.stack H s E e s'→X.xe e s'
section
variable {X:Cx}{CX:zd}{k:Nat}{f C:Addr}{fd:yap}{ps:List Str}{sp:Sp}{dvs:List V}{ds:List yai}{E:XK}{x m:Str}{p pos apos:Pos}{e o:Expr}{es:List Expr}{ta:TE}{t:TA}
theorem wA {pins:List (Addr×Obj)}{σ:St}{H:Hp}{s:yah}{Q:VK}{us:List yai}{vs:List V} (F:fu X.prog X.w X.K X.mg X.base CX k f fd ps sp) (hr:bC k X.A) (hb:Binds X.K fd ps ds) (hd:Vals dvs ds) (hx:Passes CX X E)
  (I:Inv X pins σ H s) (r:Vals vs us) (h:sp (vs++dvs) H Q E):yar (model X.prog X.w) X.A (call (.ref f) us) (EP X pins σ Q) X.xe s:=by
 have r2:Vals (vs++dvs) (us++ds):=r.append hd
 have hl:(us++ds).length=ps.length:=by rw [← r2.length];exact F.len _ _ _ _ h
 refine yaD (yax (F.run X.A X.stack s H ⟨us,[]⟩ (us++ds) (vs++dvs) Q E hr I.H9 (hb s us I.DK hl) r2 h) fun r s' hq => ?_)
 cases r with
 | error e=>exact hx pins σ H s e s' I hq
 | ok fl =>
  cases fl with
  | ret u=>exact I.after hq
  | next=>exact False.elim hq
  | brk=>exact False.elim hq
  | cont=>exact False.elim hq
theorem Ab (F:fu X.prog X.w X.K X.mg X.base CX k f fd ps sp) (hr:bC k X.A) (hg:Gl X x) (hm:X.mg x=some (.ref f)) (hk:zby X.K (.ref f)=true) (hb:Binds X.K fd ps ds) (hd:Vals dvs ds) (hx:Passes CX X E)
  (ha:PA X (e::es) t) (hdb:(x==("__debug__" : Str))=false:=by decide) (he:yao (e::es) X.env=(false,eval e X.env)::yao es X.env:=by rfl) (hpl:(yau pos (yao es X.env)).any (·.1)=false:=by rfl) :
  PE X (.Call (.Name x p) (e::es) [] pos) (rQ sp dvs E t):=by
 intro pins s σ H Q I h
 refine wpAny_Call_Name_kw (nv I hg hm ?_ hdb)
 refine PySem.W.callWith_K (h₀:=X.base) I.ok.mod.HL hk (b5 (ha pos pins s σ H _ I h) fun us s1 ⟨vs,H1,I1,r,q⟩=>⟨I1.DK,?_⟩) he hpl
 exact wA F hr hb hd hx I1 r q
theorem wZ (F:fu X.prog X.w X.K X.mg X.base CX k f fd ps sp) (hr:bC k X.A) (hg:Gl X x) (hm:X.mg x=some (.ref f)) (hk:zby X.K (.ref f)=true) (hb:Binds X.K fd ps ds) (hd:Vals dvs ds) (hx:Passes CX X E)
  (hdb:(x==("__debug__" : Str))=false:=by decide):PE X (.Call (.Name x p) [] [] pos) (rQ sp dvs E Cw):=by
 intro pins s σ H Q I h
 refine wpAny_Call_Name_kw (nv I hg hm ?_ hdb)
 exact PySem.W.callWith_K0 I.DK hk (wA (us:=[]) F hr hb hd hx I .nil h)
end
structure aP (N P:List Str) (sc:Scope):Prop where
 kind:sc.kind = .function
 co:sc.isCoroutine=false
 gen:sc.isGenerator=false
 nd:N.Nodup
 pre:N.take P.length=P
 par:∀ x∈P,sc.names.lookup x=some .local∨sc.names.lookup x=some .cell
 Dv:∀ y∈sc.names,y.2 ≠ .free
theorem l6 {kindOf:Str→Option NameKind}{x:Str}:∀ {binds:List (Str×yai)}{m:Str→Option yai},(∀ v,(x,v) ∉ binds)→bindL kindOf binds m x=m x
 | [],_,_=>rfl
 | (n,v)::r,m,h=>by
  unfold bindL
  rw [l6 fun w hw=>h w (zar _ hw)]
  split
  ·have:x≠n:=by rintro rfl;exact h v zaD
   simp [this]
  ·rfl
theorem l8 {kindOf:Str→Option NameKind}{x:Str}:∀ {binds:List (Str×yai)}{m:Str→Option yai},(∀ v,(x,v) ∉ binds)→bindC kindOf binds m x=m x
 | [],_,_=>rfl
 | (n,v)::r,m,h=>by
  unfold bindC
  rw [l8 fun w hw=>h w (zar _ hw)]
  split
  ·rfl
  ·have:x≠n:=by rintro rfl;exact h v zaD
   simp [this]
theorem l7 {kindOf:Str→Option NameKind}{x:Str}{v:yai}:∀ {P:List Str}{vs:List yai}{i:Nat}{m:Str→Option yai},P.Nodup→P[i]? = some x→vs[i]? = some v→kindOf x=some .local →
  bindL kindOf (P.zip vs) m x=some v
 | [],_,_,_,_,h,_,_=>by simp at h
 | _::_,[],_,_,_,_,h,_=>by simp at h
 | p::P,w::vs,0,m,nd,h1,h2,hk=>by
  simp at h1 h2;subst h1;subst h2
  show bindL kindOf ((p,w)::P.zip vs) m p=_
  unfold bindL
  rw [l6 fun v hv=>(zbp.mp nd).1 (zbq hv).1,yIp hk]
  simp
 | p::P,w::vs,i+1,m,nd,h1,h2,hk=>by
  show bindL kindOf ((p,w)::P.zip vs) m x=_
  unfold bindL
  exact l7 (i:=i) (zbp.mp nd).2 (by simpa using h1) (by simpa using h2) hk
theorem l9 {kindOf:Str→Option NameKind}{x:Str}{v:yai}:∀ {P:List Str}{vs:List yai}{i:Nat}{m:Str→Option yai},P.Nodup→P[i]? = some x→vs[i]? = some v→kindOf x≠some .local →
  bindC kindOf (P.zip vs) m x=some v
 | [],_,_,_,_,h,_,_=>by simp at h
 | _::_,[],_,_,_,_,h,_=>by simp at h
 | p::P,w::vs,0,m,nd,h1,h2,hk=>by
  simp at h1 h2;subst h1;subst h2
  show bindC kindOf ((p,w)::P.zip vs) m p=_
  unfold bindC
  rw [l8 fun v hv=>(zbp.mp nd).1 (zbq hv).1,yIn hk]
  simp
 | p::P,w::vs,i+1,m,nd,h1,h2,hk=>by
  show bindC kindOf ((p,w)::P.zip vs) m x=_
  unfold bindC
  exact l9 (i:=i) (zbp.mp nd).2 (by simpa using h1) (by simpa using h2) hk
noncomputable def start (N:List Str) (vs:List V):St:=vs.map some++zbx (N.length - vs.length) none
noncomputable def kX (CX:zd) (P:yaj) (w:yak) (K:yaE) (mg:Str→Option yai) (base:Heap) (N:List Str) (qual:Str) (scope:Scope) (f:Addr) (cd:yai) (A:yal) (outer:List Env) (s:yah) (H:Hp) (E:XK):Cx where
 prog:=P
 w:=w
 K:=K
 mg:=mg
 base:=base
 A:=A.deeper (envOfC qual scope s.heap.objs.size f cd)
 N:=N
 s₀:=s
 H₀:=H
 env:=envOfC qual scope s.heap.objs.size f cd
 outer:=outer
 stack:=envOfC qual scope s.heap.objs.size f cd::outer
 ex:=[]
 calm:=true
 fn:=fun _=>true
 pn:=[]
 xe:=fun e s'=>yar (model P w) (A.deeper (envOfC qual scope s.heap.objs.size f cd)) (leaving (envOfC qual scope s.heap.objs.size f cd) e) (fun _ s''=>CX outer H s E e s'') (fun e' s''=>CX outer H s E e' s'') s'
theorem pK {sc:Scope}{n:Nat}{x:Str} (h:sc.names.lookup x=some .cell):∃ c,(cellsFrom n sc.names []).lookup x=some c:=by
 have q:=PySem.W.cellsFrom_some sc.names n [] (.inl h)
 exact Option.isSome_iff_exists.mp q
theorem uK {CX:zd}{P:yaj}{w:yak}{K:yaE}{mg:Str→Option yai}{base:Heap}{N ps:List Str}{qual:Str}{scope:Scope}{f:Addr}{cd:yai}{A:yal}{outer:List Env}{s s1:yah}{H:Hp}{E:XK}{us:List yai}{vs:List V}
  (S:aP N ps scope) (hd:A.handled=none) (e0:Bx P w K mg base A outer s H) (hl:vs.length=ps.length) (r:Vals vs us)
  (x:InCallC s s.heap.objs.size (bindL (envOfC qual scope s.heap.objs.size f cd).kindOf (ps.zip us) fun _=>none) (cellsFrom (s.heap.objs.size+1) scope.names []) (bindC (envOfC qual scope s.heap.objs.size f cd).kindOf (ps.zip us) fun _=>none) s1) :
  Inv (kX CX P w K mg base N qual scope f cd A outer s H E) [] (start N vs) H s1:=by
 have hpl:ps.length≤N.length:=by have:=congrArg zbZ S.pre;rw [zbb] at this;lia
 obtain ⟨h1,tk,rfl,hk⟩:=x.done
 have noA:∀ b:Addr,b ∉ (kX CX P w K mg base N qual scope f cd A outer s H E).ex:=fun b z=>absurd (show b∈([]:List Addr) from z) (by simp)
 refine ⟨⟨e0.mod,S.kind,rfl,rfl,zca _,fun y z c h1 h2 => ?_,fun y hy => ?_,fun y c _ h => ?_,fun _=>hd,Around.frames_deeper e0.frames,.inr ⟨rfl,rfl⟩,fun b z=>absurd z (noA b),e0.bs,e0.Cg,fun b _ _=>noA b,fun b z=>absurd z (noA b),e0.j6,e0.Es⟩,
  rfl,e0.bare,Un.kept hk,⟨_,x.toInCall.ns,fun i y v h1 h2 h3 => ?_⟩,fun y c h=>⟨_,x.cell y c h⟩,e0.hok.fresh (zca _),fun y c h => ?_,fun p hp=>absurd (show p∈([]:List (Addr×Obj)) from hp) (by simp),e0.hok.kept hk,?_⟩
 ·exact name_of_addr x.apart (PySem.mem_of_lookup h1) (PySem.mem_of_lookup h2)
 ·have hy:scope.names.lookup y=some .cell∨scope.names.lookup y=some .free:=hy
  rcases hy with hy | hy
  ·exact pK hy
  ·exact absurd rfl (S.Dv _ (PySem.mem_of_lookup hy))
 ·exact zbS (x.above y c (PySem.mem_of_lookup h))
 ·have hi:i<vs.length:=by
   unfold start at h2
   by_cases hi:i<vs.length
   ·exact hi
   ·rw [zab (by simpa using hi)] at h2
    rw [List.getElem?_replicate] at h2
    split at h2 <;> cases h2
  have ha:vs[i]? = some v:=by
   unfold start at h2
   rw [zad (by simpa using hi),zaP] at h2
   cases e:vs[i]? with
   | none=>rw [e] at h2;cases h2
   | some a=>rw [e] at h2;cases h2;rfl
  obtain ⟨u,hu,rv⟩:=r.get ha
  have hp:ps[i]? = some y:=by
   rw [← S.pre,List.getElem?_take_of_lt (by lia)];exact h1
  have ndP:ps.Nodup:=by rw [← S.pre];exact S.nd.sublist (List.take_sublist _ _)
  refine ⟨u,rv,?_⟩
  rcases S.par y (zau hp) with k | k
  ·exact .inl ⟨k,l7 ndP hp hu k⟩
  ·obtain ⟨c,e⟩:=pK (n:=s.heap.objs.size+1) k
   refine .inr ⟨.inl k,c,e,?_⟩
   have q:=x.cell y c e
   rw [l9 ndP hp hu (by show scope.names.lookup y≠_;rw [k];decide)] at q
   exact q
 ·exact e0.hok.fresh (zbS (x.above y c (PySem.mem_of_lookup h)))
 ·unfold start
  show _=N.length
  rw [zaE,zbr,List.length_replicate]
  lia
theorem F4 {CX:zd}{P:yaj}{w:yak}{K:yaE}{mg:Str→Option yai}{base:Heap}{k:Nat}{f:Addr}{name qual:Str}{params:Arguments}{body:List Stmt}{scope:Scope}{dV kV doc pm cdv ct oc:yai}{an od:Option Addr}
  {osl:Array (Option yai)}{N ps:List Str}{sp:Sp} (lk:K.lookup f=some ⟨oc,od,.func (zbW name qual params body scope dV kV doc pm an cdv ct),osl⟩) (hcd:zbz K cdv qual=true) (S:aP N ps scope)
  (len:∀ vs H Q E,sp vs H Q E→vs.length=ps.length)
  (hbody:∀ (A:yal) (outer:List Env) (s:yah) (H:Hp) (vs:List V) (Q:VK) (E:XK),bC k (A.deeper (envOfC qual scope s.heap.objs.size f cdv))→sp vs H Q E →
   ∃ t,pU (kX CX P w K mg base N qual scope f cdv A outer s H E) body t∧t { nx:=fun _ H'=>Q .bP H',rt:=Q } (start N vs) H) :
  fu P w K mg base CX (k+1) f (zbW name qual params body scope dV kV doc pm an cdv ct) ps sp:=by
 refine ⟨len,fun A outer s H args us vs Q E hr e0 hb r hsp => ?_⟩
 have hl:=len _ _ _ _ hsp
 have KX:K.In s.heap:=e0.mod.HL.keeps fun b o e=>(e0.bs b o e).1
 have lim:s.heap.NoLimit:=e0.mod.nolimit.keeps fun b o e=>(e0.bs b o e).1
 have hkind:∀ y∈ps.zip us,scope.names.lookup y.1=some .local∨(scope.names.lookup y.1=some .cell∧((cellsFrom (s.heap.objs.size+1) scope.names []).lookup y.1).isSome=true):=fun ⟨n,v⟩ hy=>by
  rcases S.par n (zbq hy).1 with q | q
  ·exact .inl q
  ·exact .inr ⟨q,PySem.W.cellsFrom_some _ _ _ (.inl q)⟩
 refine codeAny_call_function hr.depth (KX _ _ lk) rfl S.co S.gen rfl (PySem.W.codeRec_of KX hcd) (hb _ _ _ _ ?_)
 refine wpAny_newFunctionEnv_cells S.kind hkind fun env he s1 x => ?_
 subst he
 refine ⟨lim.keeps x.toInCall.keep,codeAny_func ?_⟩
 obtain ⟨t,ht,hq⟩:=hbody A outer s H vs Q E (hr.deeper _) hsp
 have I:Inv (kX CX P w K mg base N qual scope f cdv A outer s H E) [] (start N vs) H s1:=uK S hr.hd e0 hl r x
 refine yac (ht [] s1 (start N vs) H _ I hq) (fun fl s' hs => ?_) fun e s' hs=>hs
 have fin:∀ {σ':St}{H':Hp}{v:V}{u:yai},Inv (kX CX P w K mg base N qual scope f cdv A outer s H E) [] σ' H' s'→RelV v u→Q v H'→CE outer P w H s Q u s' :=
  fun {σ' H' v u} J rv q=>⟨v,H',J.os,J.bare,J.base,J.hok,rv,q⟩
 cases fl with
 | ret u =>
  obtain ⟨v,σ',H',J,rv,q⟩:=hs
  exact fin J rv q
 | next =>
  obtain ⟨σ',H',J,q⟩:=hs
  exact fin (v:=V.bP) (u:=Value.none) J rfl q
 | brk =>
  obtain ⟨_,_,_,q⟩:=hs
  exact False.elim q
 | cont =>
  obtain ⟨_,_,_,q⟩:=hs
  exact False.elim q
section
variable {X:Cx}{x:Str}{p pos:Pos}{e:Expr}{es:List Expr}{t:TA}{id T:String}{r:List V→Hp→VK→Prop}
def EM (r:List V→Hp→VK→Prop) (t:TA):TE:=fun σ H Q=>t σ H fun vs H1=>r vs H1 Q
theorem wY (hc:cg X (.builtin id) r) (hg:Gl X x) (hm:X.mg x=none) (hv:bootBuiltins x=some (.builtin id)) (ha:PA X (e::es) t) (hn:x ≠ "__name__" := by decide) (hdb:(x==("__debug__" : Str))=false:=by decide)
  (he:yao (e::es) X.env=(false,eval e X.env)::yao es X.env:=by rfl) (hpl:(yau pos (yao es X.env)).any (·.1)=false:=by rfl):PE X (.Call (.Name x p) (e::es) [] pos) (EM r t):=by
 intro pins s σ H Q I h
 refine wpAny_Call_Name_kw (cV I hg hm hv ?_ hn hdb)
 exact PyProof.Rows.callWith_builtin1 (b5 (ha pos pins s σ H _ I h) fun us s1 ⟨vs,H1,I1,r1,q1⟩=>hc pins s1 σ H1 vs us Q I1 r1 q1) he hpl
theorem ux (hc:cg X (.type T) r) (hg:Gl X x) (hm:X.mg x=none) (hv:bootBuiltins x=some (.type T)) (ha:PA X (e::es) t) (hn:x ≠ "__name__" := by decide) (hdb:(x==("__debug__" : Str))=false:=by decide)
  (he:yao (e::es) X.env=(false,eval e X.env)::yao es X.env:=by rfl) (hpl:(yau pos (yao es X.env)).any (·.1)=false:=by rfl):PE X (.Call (.Name x p) (e::es) [] pos) (EM r t):=by
 intro pins s σ H Q I h
 refine wpAny_Call_Name_kw (cV I hg hm hv ?_ hn hdb)
 exact PyProof.Rows.callWith_type1 (b5 (ha pos pins s σ H _ I h) fun us s1 ⟨vs,H1,I1,r1,q1⟩=>hc pins s1 σ H1 vs us Q I1 r1 q1) he hpl
end
section
variable {κ:Type} [DecidableEq κ]
theorem KV.length {kvs:List (κ×V)}{vs:List (κ×yai)} (r:KV kvs vs):kvs.length=vs.length:=Paired.length r
end
section
variable {P:yaj}{w:yak}{H:Hp}{h:Heap}{a:Addr}
theorem Fg {u:HO} (ok:iw P w H h) (e:Rd H a u):bD P w H h a u:=e.ok ok
theorem F6 {kvs:List (Key×V)} (ok:iw P w H h) (e:Rd H a (.dK kvs)):kvs.length≤yag∧(a==yas)=false∧∃ vs,KV kvs vs∧h.DictOf (jf P w) a vs :=
 show bD P w H h a (.dK kvs) from Fg ok e
end
section
variable {X:Cx}{pins:List (Addr×Obj)}{σ:St}{H:Hp}{s:yah}{a:Addr}{y v:V}{u r:yai}{o:Option V}{A:yal}{E:yai→yah→Prop}
theorem Inv.big (I:Inv X pins σ H s):yas<s.heap.objs.size:=by
 have h:yaq<s.heap.objs.size:=(I.mod.glob.keeps I.bk).lt
 exact zbU (by decide) h
theorem AW {h':Heap}{t':Nat}{ob:HO} (I:Inv X pins σ H s) (mu:Gy (H a)) (hs:Heap.SameBut a s.heap h') (he:∃ q,h'.get? a=some q) (new:bD X.prog X.w (upd H a ob) h' a ob) :
  Inv X pins σ (upd H a ob) { s with heap:=h',toks:=t' } :=
 I.write (x:=a) (e:=a) mu (.inl rfl) (fun b q hb z=>(hs.2 b hb).trans z) he new
end
section
variable {X:Cx}{pins:List (Addr×Obj)}{σ:St}{H:Hp}{s:yah}{a:Addr}{kvs:List (Key×V)}{k:Key}{u:yai}{A:yal}{E:yai→yah→Prop}
theorem F7 {Q:yai→yah→Prop} (I:Inv X pins σ H s) (e:Rd H a (.dK kvs)) (h:∀ t s',Inv X pins σ H s'→Q (.int kvs.length t) s'):yar (model X.prog X.w) A (call (.builtin "len") [.ref a]) Q E s:=by
 obtain ⟨z,hd,vs,rel,dd⟩:=F6 I.hok e
 refine call_len_dict hd dd (by rw [← rel.length];rw [yaf] at z;lia) ?_
 rw [← rel.length]
 exact h _ _ (I.tok _)
end
def vE:List (TE×TE)→St→Hp→(List (V×V)→Hp→Prop)→Prop
 | [],_,H,Q=>Q [] H
 | (tk,tv)::r,σ,H,Q=>tk σ H fun x H1=>tv σ H1 fun y H2=>vE r σ H2 fun ps H3=>Q ((x,y)::ps) H3
abbrev VV:List (V×V)→List (yai×yai)→Prop:=Paired fun p q=>RelV p.1 q.1∧RelV p.2 q.2
def Im (X:Cx) (pos:Pos) (keys:List (Option Expr)) (values:List Expr) (Er:List (TE×TE)):Prop :=
 ∀ (pins:List (Addr×Obj)) (s:yah) (σ:St) (H:Hp) (Q:List (V×V)→Hp→Prop),Inv X pins σ H s→vE Er σ H Q →
  yar (model X.prog X.w) X.A (evalPairs (pairTrees keys values X.env pos)) (fun vs s'=>∃ ps H',Inv X pins σ H' s'∧VV ps vs∧Q ps H') X.xe s
theorem zZ {X:Cx}{pos:Pos}:Im X pos [] [] []:=fun pins s σ H Q I h=>pairTrees_nil_walk ⟨[],H,I,.nil,h⟩
theorem wW {X:Cx}{pos:Pos}{k v:Expr}{ks:List (Option Expr)}{vs:List Expr}{tk tv:TE}{Er:List (TE×TE)} (hk:PE X k tk) (hv:PE X v tv) (hr:Im X pos ks vs Er) :
  Im X pos (some k::ks) (v::vs) ((tk,tv)::Er):=fun pins s σ H Q I h =>
 pairTrees_cons_walk (b5 (hk pins s σ H _ I h) fun u s1 ⟨x,H1,I1,rx,q1⟩=>b5 (hv pins s1 σ H1 _ I1 q1) fun w2 s2 ⟨y,H2,I2,ry,q2⟩ =>
  b5 (hr pins s2 σ H2 _ I2 q2) fun ws s3 ⟨ps,H3,I3,rel,q3⟩=>⟨(x,y)::ps,H3,I3,.cons ⟨rx,ry⟩ rel,q3⟩)
end L2
namespace HT
open PySem PyProof.Rows
section
variable {prog:yaj}{w:yak}{A:yal}{E:yai→yah→Prop}{s:yah}
theorem A8 {t b:Addr}{vs ws:List yai}{Q:yai→yah→Prop} (ht:IsTup s.heap t vs.toArray) (hb:IsTup s.heap b ws.toArray) (hv:vs≠[])
  (h1:ws=[]→Q (.ref t) s) (h2:ws≠[]→Q (.ref s.heap.objs.size) { s with heap:=s.heap.push { cls:=.type "tuple",data:=.seq (vs++ws).toArray } })
  (hsz:vs.length+ws.length≤yag):yar (model prog w) A (binaryOp .Add (.ref t) (.ref b)) Q E s:=by
 obtain ⟨⟨cls,dd,data,sl⟩,ho,hc,n,hd⟩:=id ht
 obtain ⟨⟨cls2,dd2,data2,sl2⟩,ho2,hc2,n2,hd2⟩:=id hb
 simp only at hc hd hc2 hd2
 subst hc hd hc2 hd2
 have e:vs.toArray++ws.toArray=(vs++ws).toArray:=by simp
 by_cases hw:ws=[]
 ·exact concat_meets ⟨_,ho,rfl⟩ ⟨_,ho2,rfl⟩ noFill_tuple_add seq_tuple_add PySem.F.slot_tuple_add PySem.F.entry_tuple_add (PySem.F.args_tuple_add_2 _ _)
   (tuple_addW1 t b vs.toArray ws.toArray n n2 dd dd2 sl sl2 (by simpa using hv) (by simp [hw])) ⟨ho,ho2,h1 hw⟩
 ·refine concat_meets ⟨_,ho,rfl⟩ ⟨_,ho2,rfl⟩ noFill_tuple_add seq_tuple_add PySem.F.slot_tuple_add PySem.F.entry_tuple_add (PySem.F.args_tuple_add_2 _ _)
   (tuple_addW2 t b vs.toArray ws.toArray n n2 dd dd2 sl sl2 (by simpa using hv) (by simpa using hw) (by rw [zaO,zaO];exact hsz)) ⟨ho,ho2,?_⟩
  rw [e]
  exact h2 hw
noncomputable def bL (n d:Nat):Option Int→Nat
 | none=>d
 | some v=>if v<0 then (v+(n:Int)).toNat else min v.toNat n
theorem zS (n d k:Nat):bL n d (some (k:Int))=min k n:=by
 show (if (k:Int)<0 then ((k:Int)+(n:Int)).toNat else min (k:Int).toNat n)=min k n
 rw [yIn (by lia),zaY]
theorem CY (n d:Nat) (hd:d≤n) (o:Option Int):bL n d o≤n:=by
 cases o with
 | none=>exact hd
 | some v =>
  show (if v<0 then (v+(n:Int)).toNat else min v.toNat n)≤n
  by_cases hv:v<0
  ·rw [yIp hv];lia
  ·rw [yIn hv];exact Nat.min_le_right _ _
theorem tQ (v:Int) (n d:Nat):(if v<0 then max (v+(n:Int)) 0 else min v (n:Int))=((bL n d (some v):Nat):Int):=by
 show (if v<0 then max (v+(n:Int)) 0 else min v (n:Int))=(((if v<0 then (v+(n:Int)).toNat else min v.toNat n):Nat):Int)
 by_cases hv:v<0
 ·simp only [yIp hv];lia
 ·simp only [yIn hv];lia
theorem rE (lo hi:Option Int) (n:Nat):Builtin.Slice.sliceAdjust lo hi 1 (n:Int)=(((bL n 0 lo:Nat):Int),((bL n n hi:Nat):Int)):=by
 have h1 : ¬ ((1:Int)<0):=by lia
 unfold Builtin.Slice.sliceAdjust
 simp only [h1,if_false]
 refine Prod.ext ?_ ?_
 ·cases lo with
  | none=>rfl
  | some v=>exact tQ v n 0
 ·cases hi with
  | none=>rfl
  | some v=>exact tQ v n n
theorem qA (i j:Nat):Builtin.Slice.slicePlaces (i:Int) (j:Int) 1=j - i:=by
 unfold Builtin.Slice.slicePlaces
 have h1:(1:Int) > 0:=by lia
 simp only [h1,if_true,Int.ediv_one]
 split <;> lia
theorem jv {v:yai}{o:Option Int}{Q:Option Int→yah→Prop} (p:IsPart v o) (h:Q o s):yar (model prog w) A (Builtin.Slice.slicePartIndex v) Q E s:=by
 cases p with
 | none=>exact slicePart_none h
 | int i t=>exact slicePart_int h
theorem dF {sl:Addr}{vl vu:yai}{lo hi:Option Int}{n:Nat}{Q:Int×Int×Nat→yah→Prop} (hs:s.heap.IsSliceOf sl vl vu .none) (pl:IsPart vl lo) (pu:IsPart vu hi)
  (h:Q (((bL n 0 lo:Nat):Int),1,bL n n hi - bL n 0 lo) s):yar (model prog w) A (Builtin.Slice.sliceApplied (.ref sl) (pure (n:Int))) Q E s:=by
 obtain ⟨os,hos,hcs,hds⟩:=id hs
 unfold Builtin.Slice.sliceApplied Builtin.Slice.sliceFields
 refine yaa (yaa (wpAny_field hos hds (x:=vl) rfl (yaa (wpAny_field hos hds (x:=vu) rfl (yaa (wpAny_field hos hds (x:=.none) rfl (yab ?_)))))))
 refine yaa (slicePart_none ?_)
 show yar _ _ (if ((1:Int)==0)=true then _ else _) _ _ s
 rw [yIn (by decide)]
 refine yaa (jv pl (yaa (jv pu (yaa (yab ?_)))))
 show yar _ _ (match Builtin.Slice.sliceAdjust lo hi 1 (n:Int) with | (lo,hi)=>pure (lo,(1:Int),Builtin.Slice.slicePlaces lo hi 1)) _ _ s
 rw [rE lo hi n]
 show yar _ _ (pure (((bL n 0 lo:Nat):Int),(1:Int),Builtin.Slice.slicePlaces ((bL n 0 lo:Nat):Int) ((bL n n hi:Nat):Int) 1)) _ _ s
 rw [qA]
 exact yab h
theorem wX (xs:Array yai) (i k:Nat):((zce k).filterMap fun (m:Nat)=>xs[((i:Int)+(m:Int)*1).toNat]?).toArray=((xs.toList.drop i).take k).toArray:=by
 have e:(fun (m:Nat)=>xs[((i:Int)+(m:Int)*1).toNat]?)=fun m=>xs[i+m]? := by
  funext m
  have:((i:Int)+(m:Int)*1).toNat=i+m:=by lia
  rw [this]
 rw [e]
 have:=pick_run xs i k
 rw [List.filterMap_map] at this
 have e2:((fun x=>xs[x]?) ∘ fun x=>i+x)=fun m=>xs[i+m]? := rfl
 rw [e2] at this
 rw [this]
theorem gR {t sl:Addr}{items:Array yai}{vl vu:yai}{lo hi:Option Int}{Q:yai→yah→Prop} (ht:IsTup s.heap t items) (hs:s.heap.IsSliceOf sl vl vu .none) (pl:IsPart vl lo) (pu:IsPart vu hi)
  (hw : ¬ (bL items.size 0 lo=0∧bL items.size items.size hi=items.size))
  (h:Q (.ref s.heap.objs.size) { s with heap:=s.heap.push { cls:=.type "tuple",data:=.seq ((items.toList.drop (bL items.size 0 lo)).take (bL items.size items.size hi - bL items.size 0 lo)).toArray } })
  (hsz:items.size≤yag):yar (model prog w) A (getItem (.ref t) (.ref sl)) Q E s:=by
 have tw:sizeOk (.seq ((items.toList.drop (bL items.size 0 lo)).take (bL items.size items.size hi - bL items.size 0 lo)).toArray):=by
  show ((items.toList.drop (bL items.size 0 lo)).take (bL items.size items.size hi - bL items.size 0 lo)).toArray.size≤yag
  rw [zaO,zbb,zbc,zaB]
  lia
 have hj:bL items.size items.size hi≤items.size:=CY _ _ (zca _) hi
 obtain ⟨os,hos,hcs,hds⟩:=id hs
 have hTs:s.TypeIs (.ref sl) "slice" := ⟨os,hos,hcs⟩
 unfold getItem
 try with_reducible refine yad ?_
 first | refine yaa (yab ?_) | skip
 refine yaa (wpAny_sequenceKey ht.typeIs (by decide) ?_)
 refine yaa (wpAny_callSpecial?_slot (name:=Str.ofString "__getitem__") ht.typeIs PyProof.Rows.slot_tuple_getitem
  (wpAny_call_entry PyProof.Rows.slot_tuple_getitem ht.typeIs entry_tuple_getitem ?_ (args_tuple_getitem _ _)))
 show yar _ _ (Builtin.Tuple.tupleItemsOf (.ref t) >>= _) _ _ s
 refine yaa (tupleItemsOf_ ht ?_)
 refine yaa (wpAny_typeOf hTs ?_)
 rw [yIp (by decide)]
 refine yaa (dF hs pl pu ?_)
 have hno : ¬ ((((bL items.size 0 lo:Nat):Int)==0&&(1:Int)==1&&(bL items.size items.size hi - bL items.size 0 lo)==items.size)=true):=by
  intro q
  rw [zbm,zbm] at q
  have q1:((bL items.size 0 lo:Nat):Int)=0:=eq_of_beq q.1.1
  have q2:bL items.size items.size hi - bL items.size 0 lo=items.size:=eq_of_beq q.2
  exact hw ⟨by lia,by lia⟩
 show yar _ _ (if (((bL items.size 0 lo:Nat):Int)==0&&(1:Int)==1&&(bL items.size items.size hi - bL items.size 0 lo)==items.size)=true then _ else _) _ _ s
 rw [yIn hno,wX]
 first
  | exact yaa (m:=Builtin.Tuple.tupleExact _) (yae (yab ⟨_,rfl,yab h⟩) tw)
  | exact yaa (m:=Builtin.Tuple.tupleExact _) (yae (yaa (yab (yab ⟨_,rfl,yab h⟩))) tw)
  | exact yaa (yaa (m:=Builtin.Tuple.tupleExact _) (yae (yab (yab ⟨_,rfl,yab h⟩)) tw))
  | exact yaa (yaa (m:=Builtin.Tuple.tupleExact _) (yae (yab ⟨_,rfl,yab h⟩) tw))
end
end HT
namespace L2
open PySem PySem.Spec PyProof.Rows
abbrev TO:=St→Hp→(Option Int→Hp→Prop)→Prop
def PO (X:Cx) (e:Option Expr) (t:TO):Prop :=
 ∀ (pins:List (Addr×Obj)) (s:yah) (σ:St) (H:Hp) (Q:Option Int→Hp→Prop),Inv X pins σ H s→t σ H Q →
  yar (model X.prog X.w) X.A (evalPart e X.env) (fun u s'=>∃ o H',Inv X pins σ H' s'∧IsPart u o∧Q o H') X.xe s
def rP:TO:=fun _ H Q=>Q none H
def BD (t:TE):TO:=fun σ H Q=>t σ H fun x H1=>∃ i,x = .int i∧Q (some i) H1
theorem intsAre_of {ns:List Int}:∀ {us:List yai},Vals (ns.map V.int) us→IntsAre us ns:=by
 induction ns with
 | nil=>intro us r;rw [zbM] at r;cases r;exact .nil
 | cons n ns ih =>
  intro us r
  rw [zbC] at r
  cases r with
  | cons r1 r2 =>
   obtain ⟨t,e⟩:=r1
   subst e
   exact .cons n t (ih r2)
section
variable {X:Cx}{e:Expr}{te:TE}{lo hi:Option Expr}{tl th:TO}{pos p2:Pos}
theorem ja:PO X none rP:=by
 intro pins s σ H Q I h
 rw [evalPart_none]
 exact yab ⟨none,H,I,.none,h⟩
theorem i9 (h:PE X e te):PO X (some e) (BD te):=by
 intro pins s σ H Q I hw
 rw [evalPart_some]
 refine b5 (h pins s σ H _ I hw) fun u s1 ⟨x,H1,I1,r1,q1⟩ => ?_
 obtain ⟨i,rfl,q⟩:=q1
 obtain ⟨t,rfl⟩:=r1
 exact ⟨some i,H1,I1,.int i t,q⟩
def zo (X:Cx) (r:V→Option Int→Option Int→Hp→VK→Prop):Prop :=
 ∀ (pins:List (Addr×Obj)) (s:yah) (σ:St) (H:Hp) (x:V) (v vl vu:yai) (lo hi:Option Int) (sl:Addr) (Q:VK),Inv X pins σ H s→RelV x v→s.heap.IsSliceOf sl vl vu .none→IsPart vl lo→IsPart vu hi→r x lo hi H Q →
  ∃ T id,typeLookup (.type T) "__getitem__" = pure (some (.builtin id))∧s.TypeIs v T∧yar (model X.prog X.w) X.A (getItem v (.ref sl)) (EP X pins σ Q) X.xe s
theorem zo.or {r r':V→Option Int→Option Int→Hp→VK→Prop} (h:zo X r) (h':zo X r'):zo X (fun x lo hi H Q=>r x lo hi H Q∨r' x lo hi H Q):=by
 intro pins s σ H x v vl vu lo hi sl Q I rx hs pl pu q
 rcases q with q | q
 ·exact h pins s σ H x v vl vu lo hi sl Q I rx hs pl pu q
 ·exact h' pins s σ H x v vl vu lo hi sl Q I rx hs pl pu q
def Iu (r:V→Option Int→Option Int→Hp→VK→Prop) (te:TE) (tl th:TO):TE:=fun σ H Q=>te σ H fun x H1=>tl σ H1 fun l H2=>th σ H2 fun u H3=>r x l u H3 Q
theorem gG {r:V→Option Int→Option Int→Hp→VK→Prop} (hr:zo X r) (he:PE X e te) (hl:PO X lo tl) (hu:PO X hi th):PE X (.Subscript e (.Slice lo hi none p2) pos) (Iu r te tl th):=by
 intro pins s σ H Q I h
 refine Subscript_ (b5 (he pins s σ H _ I h) fun v s1 ⟨x,H1,I1,r1,q1⟩ => ?_)
 refine wpAny_Slice (b5 (hl pins s1 σ H1 _ I1 q1) fun vl s2 ⟨l,H2,I2,pl,q2⟩=>b5 (hu pins s2 σ H2 _ I2 q2) fun vu s3 ⟨u,H3,I3,pu,q3⟩ => ?_)
 rw [evalPart_none]
 refine yab ?_
 have I4:Inv X pins σ H3 { s3 with heap:=s3.heap.push { cls:=.type "slice",data:=.fields #[vl,vu,.none] } }:=I3.kept (t':=s3.toks) fun b ob q=>zak _ q
 obtain ⟨T,id,hT,ht,hg⟩:=hr pins { s3 with heap:=s3.heap.push { cls:=.type "slice",data:=.fields #[vl,vu,.none] } } σ H3 x v vl vu l u s3.heap.objs.size Q I4 r1 (Heap.IsSliceOf.new ..) pl pu q3
 show yar (model X.prog X.w) X.A (subscriptTail e (.Slice lo hi none p2) v (.ref s3.heap.objs.size)) (EP X pins σ Q) X.xe { s3 with heap:=s3.heap.push { cls:=.type "slice",data:=.fields #[vl,vu,.none] } }
 exact tail_any (ops:=[.ref s3.heap.objs.size,v]) ht hT hg (by with_unfolding_all rfl)
noncomputable def pB (xs:List V) (lo hi:Option Int):List V:=(xs.drop (HT.bL xs.length 0 lo)).take (HT.bL xs.length xs.length hi - HT.bL xs.length 0 lo)
theorem iM (xs:List V) (lo hi:Option Int):(pB xs lo hi).length≤xs.length:=by
 unfold pB
 rw [zbb,zbc]
 lia
def Hw (K:yaE):V→Option Int→Option Int→Hp→VK→Prop:=fun x lo hi H Q=>∃ a xs,x = .ref a∧ck K H a xs ∧
 ¬ (HT.bL xs.length 0 lo=0∧HT.bL xs.length xs.length hi=xs.length)∧∀ p,H p=none→Q (.ref p) (upd H p (.tup (pB xs lo hi)))
theorem CC:zo X (Hw X.K):=by
 intro pins s σ H x v vl vu lo hi sl Q I rx hs pl pu h
 obtain ⟨a,xs,rfl,hx,hw,q⟩:=h
 cases rx
 obtain ⟨its,r,ht,hz⟩:=I.tuple hx
 have hlen:its.toArray.size=xs.length:=by rw [zaO];exact r.length.symm
 refine ⟨"tuple",_,PyProof.Rows.slot_tuple_getitem.lookup,ht.typeIs,?_⟩
 refine HT.gR ht hs pl pu (by rw [hlen];exact hw) ?_ (by rw [hlen];exact hz)
 rw [hlen]
 refine ⟨.ref s.heap.objs.size,_,I.laid (t':=s.toks) (o:=.tup (pB xs lo hi)) (fun b ob q=>zak _ q) (zca _) ?_,rfl,q _ (I.hok.fresh (zca _))⟩
 exact ⟨zbR (iM xs lo hi) hz,_,(r.drop (HT.bL xs.length 0 lo)).take (HT.bL xs.length xs.length hi - HT.bL xs.length 0 lo),IsTup.new _ _⟩
def Fp (K:yaE):R2:=fun x y H Q=>∃ a b xs ys,x = .ref a∧y = .ref b∧ck K H a xs∧ck K H b ys∧xs≠[]∧xs.length+ys.length≤yag ∧
 (ys=[]→Q (.ref a) H)∧(ys≠[]→∀ p,H p=none→Q (.ref p) (upd H p (.tup (xs++ys))))
theorem Vals.nj {xs:List V}{us:List yai} (r:Vals xs us):us=[]↔xs=[]:=by
 cases r with
 | nil=>simp
 | cons _ _=>simp
theorem Ag:fV X (binaryOp .Add) (Fp X.K):=by
 intro pins s σ H x y v u Q I rx ry h
 obtain ⟨a,b,xs,ys,rfl,rfl,ha,hb,hx,hz,q1,q2⟩:=h
 cases rx
 cases ry
 obtain ⟨its,r1,p1,_⟩:=I.tuple ha
 obtain ⟨its2,r2,p2,_⟩:=I.tuple hb
 refine HT.A8 p1 p2 (fun z=>hx (r1.nj.mp z)) (fun z=>⟨.ref a,H,I,rfl,q1 (r2.nj.mp z)⟩) (fun z => ?_) (by rw [← r1.length,← r2.length];exact hz)
 refine ⟨.ref s.heap.objs.size,_,I.laid (t':=s.toks) (o:=.tup (xs++ys)) (fun b ob q=>zak _ q) (zca _) ?_,rfl,q2 (fun w=>z (r2.nj.mpr w)) _ (I.hok.fresh (zca _))⟩
 exact ⟨by rw [zaE];exact hz,_,r1.append r2,IsTup.new _ _⟩
end
noncomputable def B6 (n:Nat) (i:Int):Option Nat:=if 0≤i then (if i<n then some i.toNat else none) else if -(n:Int)≤i then some (i+n).toNat else none
noncomputable def fN {α:Type} (xs:List α) (i:Int):Option α:=(B6 xs.length i).bind fun j=>xs[j]?
theorem Ay {n:Nat}{i:Int}{j:Nat} (h:B6 n i=some j):seqIndex? i n=some j∧j<n ∧ -(n:Int)≤i∧i<n:=by
 unfold B6 at h
 by_cases h0:0≤i
 ·rw [yIp h0] at h
  by_cases h1:i<n
  ·rw [yIp h1] at h
   have e:i.toNat=j:=zcd.inj h
   exact ⟨by rw [seqIndex_of h0 h1,e],by lia,by lia,h1⟩
  ·rw [yIn h1] at h;cases h
 ·rw [yIn h0] at h
  by_cases h1 : -(n:Int)≤i
  ·rw [yIp h1] at h
   have e:(i+n).toNat=j:=zcd.inj h
   exact ⟨by rw [seqIndex_neg (by lia) h1,e],by lia,h1,by lia⟩
  ·rw [yIn h1] at h;cases h
theorem nK {α:Type}{xs:List α}{i:Int}{v:α} (h:fN xs i=some v):∃ j,seqIndex? i xs.length=some j∧xs[j]? = some v∧j<xs.length ∧ -(xs.length:Int)≤i∧i<xs.length:=by
 unfold fN at h
 cases e:B6 xs.length i with
 | none=>rw [e] at h;cases h
 | some j =>
  rw [e] at h
  obtain ⟨h1,h2,h3,h4⟩:=Ay e
  exact ⟨j,h1,h,h2,h3,h4⟩
theorem dh {α:Type}{xs:List α}{j:Nat}{v:α} (h:xs[j]? = some v):fN xs (j:Int)=some v:=by
 have hj:j<xs.length:=(zac.mp h).1
 have e:B6 xs.length (j:Int)=some j:=by
  unfold B6
  rw [yIp (by lia),yIp (by lia)];simp
 unfold fN;rw [e];exact h
def tX (b:Expr):Prop:=∀ o i,subscripted b false o i=operate [o,i] (getItem o i)
def zp (X:Cx) (r:R2):Prop :=
 ∀ (value slice:Expr) (pins:List (Addr×Obj)) (s:yah) (σ:St) (H:Hp) (x y:V) (v u:yai) (Q:VK),Inv X pins σ H s→RelV x v→RelV y u→r x y H Q →
  subscripted slice false v u=operate [v,u] (getItem v u)→yar (model X.prog X.w) X.A (subscriptTail value slice v u) (EP X pins σ Q) X.xe s
def vg (X:Cx) (id:String) (r:V→List V→Hp→VK→Prop):Prop :=
 ∀ (pins:List (Addr×Obj)) (s:yah) (σ:St) (H:Hp) (x:V) (xs:List V) (v:yai) (us:List yai) (Q:VK),Inv X pins σ H s→RelV x v→Vals xs us→r x xs H Q →
  yar (model X.prog X.w) X.A (call (.builtin id) (v::us)) (EP X pins σ Q) X.xe s
section
variable {X:Cx}{a b:Expr}{ta tb:TE}{pos:Pos}
theorem zp.or {r r':R2} (h:zp X r) (h':zp X r'):zp X (fun x y H Q=>r x y H Q∨r' x y H Q):=by
 intro value slice pins s σ H x y v u Q I rx ry q hs
 rcases q with q | q
 ·exact h value slice pins s σ H x y v u Q I rx ry q hs
 ·exact h' value slice pins s σ H x y v u Q I rx ry q hs
theorem vg.or {id:String}{r r':V→List V→Hp→VK→Prop} (h:vg X id r) (h':vg X id r'):vg X id (fun x xs H Q=>r x xs H Q∨r' x xs H Q):=by
 intro pins s σ H x xs v us Q I rx rs q
 rcases q with q | q
 ·exact h pins s σ H x xs v us Q I rx rs q
 ·exact h' pins s σ H x xs v us Q I rx rs q
theorem au {r:R2} (hr:zp X r) (ha:PE X a ta) (hb:PE X b tb) (hs:tX b):PE X (.Subscript a b pos) (EH r ta tb):=by
 intro pins s σ H Q I h
 exact Subscript_ (D7 ha hb I h fun v u s2 x y H2 I2 rx ry q=>hr a b pins s2 σ H2 x y v u Q I2 rx ry q (hs _ _))
def Fo (K:yaE):R2:=fun x y H Q=>∃ p xs i v,x = .ref p∧y = .int i∧cj K H p xs∧fN xs i=some v∧Q v H
def Fj (K:yaE):R2:=fun x y H Q=>∃ p xs i v,x = .ref p∧y = .int i∧ck K H p xs∧fN xs i=some v∧Q v H
def Fl:R2:=fun x y H Q=>∃ z i c,x = .str z∧y = .int i∧z.length≤yag∧fN z.cps.toList i=some c∧Q (.str ⟨#[c]⟩) H
theorem Ax:zp X (Fo X.K):=by
 intro value slice pins s σ H x y v u Q I rx ry h hs
 obtain ⟨p,xs,i,z,rfl,rfl,hq,he,q⟩:=h
 cases rx
 obtain ⟨t,rfl⟩:=ry
 obtain ⟨its,r,pl,hz⟩:=I.list hq
 obtain ⟨j,h1,h2,h3,h4,h5⟩:=nK he
 obtain ⟨w,ew,rw'⟩:=r.get h2
 have hl:=r.length
 have hn:=jV
 have fin:EP X pins σ Q w s:=⟨z,H,I,rw',q⟩
 by_cases h0:0≤i
 ·have hj:i.toNat=j:=by
   rw [seqIndex_of h0 h5] at h1
   exact zcd.inj h1
  exact item_listR pl.isList h0 (by lia) (by rw [hj];simpa using ew) fin hs
 ·have hj:(i+(its.toArray.size:Int)).toNat=j:=by
   rw [seqIndex_neg (by lia) h4] at h1
   rw [zaO,← hl]
   exact zcd.inj h1
  exact subscriptTail_builtinR (x:=w) pl.isList.typeIs slot_list_getitem.lookup
   (wpAny_getItem_list_neg (Q:=fun r s'=>r=w∧EP X pins σ Q r s') pl.isList (by lia) (by rw [zaO] <;> lia) (by lia) (by rw [hj];simpa using ew) ⟨rfl,fin⟩) hs
theorem aN:zp X (Fj X.K):=by
 intro value slice pins s σ H x y v u Q I rx ry h hs
 obtain ⟨p,xs,i,z,rfl,rfl,hq,he,q⟩:=h
 cases rx
 obtain ⟨t,rfl⟩:=ry
 obtain ⟨its,r,pl,hz⟩:=I.tuple hq
 obtain ⟨j,h1,h2,h3,h4,h5⟩:=nK he
 obtain ⟨w,ew,rw'⟩:=r.get h2
 have hl:=r.length
 have hn:=jV
 have fin:EP X pins σ Q w s:=⟨z,H,I,rw',q⟩
 exact subscriptTail_builtinR (x:=w) pl.typeIs slot_tuple_getitem.lookup
  (getItem_tuple (j:=j) (Q:=fun r s'=>r=w∧EP X pins σ Q r s') pl (by lia) (by lia) (by rw [zaO,← hl];exact h1) (by simpa using ew) ⟨rfl,fin⟩) hs
theorem DL:zp X Fl:=by
 intro value slice pins s σ H x y v u Q I rx ry h hs
 obtain ⟨z,i,c,rfl,rfl,hz,he,q⟩:=h
 obtain ⟨t,rfl⟩:=rx
 obtain ⟨t',rfl⟩:=ry
 obtain ⟨j,h1,h2,h3,h4,h5⟩:=nK he
 have hl:z.cps.toList.length=z.length:=by simp [Str.length]
 rw [hl] at h1 h4 h5
 have hn:=jV
 exact tail_any (typeIs_str s z t) slot_str_getitem.lookup (getItem_str (c:=c) (by
  have e1:decide (i < -(2 ^ 63:Int))=false:=yDf (by lia)
  have e2:decide (i≥2 ^ 63)=false:=yDf (by lia)
  rw [e1,e2,zbH]) (by rw [h1];simpa using h2) ⟨.str ⟨#[c]⟩,H,I.tok _,⟨_,rfl⟩,q⟩) hs
def rIx (K:yaE):R2:=fun x y H Q=>Fo K x y H Q∨Fj K x y H Q∨Fl x y H Q
theorem DM:zp X (rIx X.K):=Ax.or (aN.or DL)
theorem mJ (lo hi:Option Int) (n:Nat):(sliceBounds lo hi none n).1=((HT.bL n 0 lo:Nat):Int)∧(sliceBounds lo hi none n).2.1=((HT.bL n n hi:Nat):Int)∧(sliceBounds lo hi none n).2.2=1:=by
 refine ⟨?_,?_,rfl⟩
 ·cases lo with
  | none=>simp [sliceBounds,HT.bL]
  | some i =>
   simp only [sliceBounds,HT.bL,Option.getD_none,show (1:Int) > 0 by decide,if_true]
   by_cases h:i<0
   ·simp only [h,if_true] <;> lia
   ·simp only [h,if_false] <;> lia
 ·cases hi with
  | none=>simp [sliceBounds,HT.bL]
  | some i =>
   simp only [sliceBounds,HT.bL,Option.getD_none,show (1:Int) > 0 by decide,if_true]
   by_cases h:i<0
   ·simp only [h,if_true] <;> lia
   ·simp only [h,if_false] <;> lia
theorem kQ (its:List yai) (lo hi:Option Int):slicePick its.toArray lo hi none=((its.drop (HT.bL its.length 0 lo)).take (HT.bL its.length its.length hi - HT.bL its.length 0 lo)).toArray:=by
 obtain ⟨h1,h2,h3⟩:=mJ lo hi its.toArray.size
 unfold slicePick
 rw [h1,h2,h3]
 simp only [sliceRange_one,pick_run,zaO] <;> rfl
def Hx (K:yaE):V→Option Int→Option Int→Hp→VK→Prop:=fun x lo hi H Q=>∃ a xs,x = .ref a∧cj K H a xs∧∀ p,H p=none→Q (.ref p) (upd H p (.lst (pB xs lo hi)))
theorem zF:zo X (Hx X.K):=by
 intro pins s σ H x v vl vu lo hi sl Q I rx hs pl pu h
 obtain ⟨a,xs,rfl,hx,q⟩:=h
 cases rx
 obtain ⟨its,r,ht,hz⟩:=I.list hx
 have hlen:=r.length
 refine ⟨"list",_,slot_list_getitem.lookup,ht.isList.typeIs,?_⟩
 refine wpAny_getItem_list_slice ht.isList hs pl pu .none (by simp) ?_ (by rw [zaO] <;> lia)
 rw [kQ,← hlen]
 refine ⟨.ref s.heap.objs.size,_,I.laid (t':=s.toks) (o:=.lst (pB xs lo hi)) (fun b ob q=>zak _ q) (zca _) ?_,rfl,q _ (I.hok.fresh (zca _))⟩
 exact ⟨zbR (iM xs lo hi) hz,_,0,(r.drop (HT.bL xs.length 0 lo)).take (HT.bL xs.length xs.length hi - HT.bL xs.length 0 lo),zaC _ rfl⟩
theorem nG:cg X (.type "list") (fun xs H Q=>∃ p ys,xs=[.ref p]∧(cj X.K H p ys∨ck X.K H p ys)∧∀ l,H l=none→Q (.ref l) (upd H l (.lst ys))):=by
 intro pins s σ H xs us Q I r h
 obtain ⟨p,ys,rfl,hq,q⟩:=h
 obtain ⟨u,rfl,rx⟩:=vals1 r
 cases rx
 have fin:∀ (its:List yai),Vals ys its→ys.length≤yag→∀ (h':Heap) (c':Nat),(∀ b o',s.heap.get? b=some o'→h'.get? b=some o') →
   h'.get? s.heap.objs.size=some { cls:=.type "list",dict:=none,data:=.seq its.toArray c',slots := #[] }→EP X pins σ Q (.ref s.heap.objs.size) { s with heap:=h' }:=fun its r' hz h' c' kp e =>
  ⟨.ref s.heap.objs.size,_,I.laid (t':=s.toks) kp (zca _) (show bD X.prog X.w _ h' _ (.lst ys) from ⟨hz,its,c',r',e⟩),rfl,q _ (I.hok.fresh (zca _))⟩
 rcases hq with hq | hq
 ·obtain ⟨its,r',pl,hz⟩:=I.list hq
  have hlen:=r'.length
  obtain ⟨o,ho,hc,n,hd⟩:=pl.isList
  exact call_list_seq p (.inl rfl) ho hc hd (fun h' c' kp e=>fin its r' hz h' c' kp e) (by simp only [zaO] <;> lia)
 ·obtain ⟨its,r',pl,hz⟩:=I.tuple hq
  have hlen:=r'.length
  obtain ⟨o,ho,hc,n,hd⟩:=pl
  exact call_list_seq p (.inr rfl) ho hc hd (fun h' c' kp e=>fin its r' hz h' c' kp e) (by simp only [zaO] <;> lia)
theorem k8:cg X (.type "tuple") (fun xs H Q=>∃ p ys,xs=[.ref p]∧((cj X.K H p ys∧∀ l,H l=none→Q (.ref l) (upd H l (.tup ys)))∨(ck X.K H p ys∧Q (.ref p) H))):=by
 intro pins s σ H xs us Q I r h
 obtain ⟨p,ys,rfl,h⟩:=h
 obtain ⟨u,rfl,rx⟩:=vals1 r
 cases rx
 rcases h with ⟨hq,q⟩ | ⟨hq,q⟩
 ·obtain ⟨its,r',pl,hz⟩:=I.list hq
  have hlen:=r'.length
  refine call_tuple_list pl.isList (fun h' kp => ?_) (by simp only [zaO] <;> lia)
  have I1:Inv X pins σ H { s with heap:=h' }:=I.kept (t':=s.toks) kp
  have I2:Inv X pins σ (upd H h'.objs.size (.tup ys)) { s with heap:=h'.push { cls:=.type "tuple",data:=.seq its.toArray } } :=
   I1.laid (t':=s.toks) (fun b o e=>zak _ e) (zca _) (show bD X.prog X.w _ _ _ (.tup ys) from ⟨hz,its,r',IsTup.new _ _⟩)
  exact ⟨.ref h'.objs.size,_,I2,rfl,q _ (I1.hok.fresh (zca _))⟩
 ·obtain ⟨its,r',pl,hz⟩:=I.tuple hq
  exact call_tuple_same pl ⟨.ref p,H,I,rfl,q⟩
def GK (K:yaE) (T:String) (x:V) (H:Hp):Prop:=match x with
 | .str _=>T = "str"
 | .int _=>T = "int"
 | .ref p=>(T = "list" ∧ ∃ xs,cj K H p xs)∨(T = "tuple" ∧ ∃ o,K.lookup p=some o∧o.cls = .type "tuple" ∧ o.dict=none) ∨
   (T = "dict" ∧ ((∃ kvs,H p=some (.dK kvs))∨∃ kvs,H p=some (.dT kvs)))∨(T = "set" ∧ ∃ S n,H p=some (.set S n))
 | _=>False
theorem vq {pins:List (Addr×Obj)}{σ:St}{H:Hp}{s:yah}{T:String}{x:V}{v:yai} (I:Inv X pins σ H s) (r:RelV x v) (ty:GK X.K T x H) :
  s.TypeIs v T∧∀ a,v = .ref a→∃ ob,s.heap.get? a=some ob∧ob.dict=none:=by
 cases x with
 | str z =>
  obtain ⟨t,rfl⟩:=r
  cases (show T = "str" from ty)
  exact ⟨typeIs_str s z t,fun _ e=>nomatch e⟩
 | int i =>
  obtain ⟨t,rfl⟩:=r
  cases (show T = "int" from ty)
  exact ⟨typeIs_int s i t,fun _ e=>nomatch e⟩
 | ref p =>
  cases r
  rcases ty with ⟨rfl,xs,hq⟩ | ⟨rfl,o,hk,hc,hd⟩ | ⟨rfl,hk⟩ | ⟨rfl,S,n,hk⟩
  ·obtain ⟨its,_,pl,_⟩:=I.list hq
   refine ⟨pl.isList.typeIs,fun a e => ?_⟩
   cases e
   obtain ⟨o,n,e,c,hd,_⟩:=pl
   exact ⟨o,e,hd⟩
  ·refine ⟨⟨o,I.DK p o hk,hc⟩,fun a e => ?_⟩
   cases e
   exact ⟨o,I.DK _ o hk,hd⟩
  ·have z:∃ o,s.heap.get? p=some o∧o.ExactDict:=by
    rcases hk with ⟨kvs,hk⟩ | ⟨kvs,hk⟩
    ·obtain ⟨_,_,_,_,o,_,_,e,ex,_⟩:=I.hok p _ hk
     exact ⟨o,e,ex⟩
    ·obtain ⟨_,_,_,_,o,_,_,e,ex,_⟩:=I.hok p _ hk
     exact ⟨o,e,ex⟩
   obtain ⟨o,e,ex⟩:=z
   refine ⟨⟨o,e,ex.1⟩,fun a e2 => ?_⟩
   cases e2
   exact ⟨o,e,ex.2.1⟩
  ·obtain ⟨o,_,_,_,e,ex,_⟩:=I.hok p _ hk
   refine ⟨⟨o,e,ex.1⟩,fun a e2 => ?_⟩
   cases e2
   exact ⟨o,e,ex.2.1⟩
 | _=>exact False.elim ty
def Cy (K:yaE) (T:String) (r:V→List V→Hp→VK→Prop) (to:TE):TE:=fun σ H Q=>to σ H fun x H1=>GK K T x H1∧r x [] H1 Q
def G9 (K:yaE) (T:String) (r:V→List V→Hp→VK→Prop) (to:TE) (t:TA):TE:=fun σ H Q=>to σ H fun x H1=>GK K T x H1∧t σ H1 fun xs H2=>r x xs H2 Q
variable {o e:Expr}{es:List Expr}{to:TE}{t:TA}{name:Str}{apos cpos:Pos}{T id:String}{r:V→List V→Hp→VK→Prop}
theorem qB (pa:PlainAttrs T) (slot:Slot T name id) (hty:typeOf (.builtin id)=pure (.type "method_descriptor")) (hm:vg X id r) (ho:PE X o to)
  (hbase:attributeBase o name X.env (eval o X.env)=eval o X.env:=by rfl) (hline:(apos.endLine==cpos.line)=true:=by rfl):PE X (.Call (.Attribute o name apos) [] [] cpos) (Cy X.K T r to):=by
 intro pins s σ H Q I h
 refine wpAny_Call_method0_late hbase hline (b5 (ho pins s σ H _ I h) fun v s1 ⟨x,H1,I1,r1,ty,q1⟩ => ?_)
 obtain ⟨h1,h2⟩:=vq I1 r1 ty
 exact ⟨T,id,pa,slot,hty,h1,h2,Calls.callWith_builtin rfl (PySem.evalArgs_none (hm pins s1 σ H1 x [] v [] Q I1 r1 .nil q1))⟩
theorem cJ (pa:PlainAttrs T) (slot:Slot T name id) (hty:typeOf (.builtin id)=pure (.type "method_descriptor")) (hm:vg X id r) (ho:PE X o to) (ha:PA X (e::es) t)
  (hbase:attributeBase o name X.env (eval o X.env)=eval o X.env:=by rfl)
  (hfew:((yau cpos (yao (e::es) X.env)).all (fun x => !x.1)&&(backToKw cpos (keywordEach [] X.env)).all (fun x=>x.1.isSome)
   && decide ((e::es).length+([]:List Keyword).length+(if ([]:List Keyword).isEmpty then 0 else 1)<30))=true:=by rfl)
  (hline:(apos.endLine==cpos.line)=true:=by rfl) (hs:yao (e::es) X.env=(false,eval e X.env)::yao es X.env:=by rfl) (hplain:(yau cpos (yao es X.env)).any (·.1)=false:=by rfl) :
  PE X (.Call (.Attribute o name apos) (e::es) [] cpos) (G9 X.K T r to t):=by
 intro pins s σ H Q I h
 refine wpAny_Call_method_late hbase hfew hline rfl (b5 (ho pins s σ H _ I h) fun v s1 ⟨x,H1,I1,r1,ty,q1⟩ => ?_)
 obtain ⟨h1,h2⟩:=vq I1 r1 ty
 refine ⟨T,id,pa,slot,hty,h1,h2,?_⟩
 have hA:=ha cpos pins s1 σ H1 _ I1 q1
 rw [hs] at hA ⊢
 refine Calls.callWith_builtin (by show (false||(yau cpos (yao es X.env)).any (·.1))=false;rw [hplain] <;> rfl) (Calls.evalArgs_plain ?_)
 exact b5 hA fun us s2 ⟨vs,H2,I2,r2,q2⟩=>hm pins s2 σ H2 x vs v us Q I2 r1 r2 q2
end
def Io (X:Cx) (id:String) (r:V→List V→Hp→VK→Prop):Prop :=
 ∀ (pins:List (Addr×Obj)) (s:yah) (σ:St) (H:Hp) (x:V) (xs:List V) (v:yai) (us:List yai) (Q:VK),Inv X pins σ H s→RelV x v→Vals xs us→r x xs H Q →
  yar (model X.prog X.w) X.A (call (.builtin id) (v::us)) (EP X pins σ Q) X.xe s
theorem Vals.one:∀ {x:V}{us:List yai},Vals [x] us→∃ u,us=[u]∧RelV x u
 | _,_,.cons r .nil=>⟨_,rfl,r⟩
theorem Vals.zero:∀ {us:List yai},Vals [] us→us=[]
 | _,.nil=>rfl
theorem Vals.dropLast {xs:List V}{us:List yai} (h:Vals xs us):Vals xs.dropLast us.dropLast:=by
 induction h with
 | nil=>exact .nil
 | cons r t ih =>
  cases t with
  | nil=>exact .nil
  | cons q t'=>exact .cons r ih
theorem Vals.rep {xs:List V}{us:List yai} (h:Vals xs us):∀ k:Nat,Vals (zbx k xs).flatten (zbx k us).flatten
 | 0=>.nil
 | k+1=>by
  rw [zay,zay,zaQ,zaQ]
  exact Vals.append h (Vals.rep h k)
theorem qX {α:Type} (l:List α):l.eraseIdx (l.length - 1)=l.dropLast:=by
 induction l with
 | nil=>rfl
 | cons a r ih =>
  cases r with
  | nil=>rfl
  | cons b r =>
   have e:(a::b::r).length - 1=((b::r).length - 1)+1:=by
    have h1:(a::b::r).length=r.length+2:=rfl
    have h2:(b::r).length=r.length+1:=rfl
    lia
   rw [e,List.eraseIdx_cons_succ,ih]
   all_goals rfl
theorem foldl_rep (its:List yai):∀ (k:Nat) (acc:List yai),
  List.foldl (fun x1 x2=>x1++x2) acc.toArray (zbx k its.toArray)=(acc++(zbx k its).flatten).toArray
 | 0,acc=>by simp
 | k+1,acc=>by
  have e:acc.toArray++its.toArray=(acc++its).toArray:=by simp
  have e2:(acc++its)++(zbx k its).flatten=acc++(zbx (k+1) its).flatten:=by
   rw [zay,zaQ,zaR]
  rw [← e2,← foldl_rep its k (acc++its),← e,zay,List.foldl_cons]
section
variable {X:Cx}{pins:List (Addr×Obj)}{σ:St}{H:Hp}{s:yah}{l b:Addr}{xs ys zs:List V}
theorem Inv.Au {its its':List yai}{n:Nat}{f:Array yai→Array yai}{t':Nat} (I:Inv X pins σ H s) (hH:H l=some (.lst xs))
  (e:s.heap.get? l=some { cls:=.type "list",data:=.seq its.toArray n }) (hf:f its.toArray=its'.toArray) (hv:Vals ys its') (hz:ys.length≤yag) :
  Inv X pins σ (upd H l (.lst ys)) { s with heap:=s.heap.update l (Obj.mapSeq f),toks:=t' }:=by
 have q:=PySem.IsL.update e f
 rw [hf] at q
 refine I.write (x:=l) (e:=l) (by rw [hH];exact trivial) (.inl rfl) (fun b' u hb hu=>(zal s.heap (Obj.mapSeq f) (Ne.symm hb)).trans hu) ⟨_,q⟩ ?_
 exact ⟨hz,its',_,hv,q⟩
theorem Inv.FH {its:List yai}{t':Nat} (I:Inv X pins σ H s) (hv:Vals ys its) (hz:ys.length≤yag) :
  Inv X pins σ (upd H s.heap.objs.size (.lst ys)) { s with heap:=s.heap.push { cls:=.type "list",data:=.seq its.toArray },toks:=t' } :=
 I.laid (fun _ _ q=>zak _ q) (zca _) ⟨hz,its,0,hv,zaC _ rfl⟩
theorem Inv.fresh (I:Inv X pins σ H s):H s.heap.objs.size=none:=I.hok.fresh (zca _)
theorem Inv.oZ (I:Inv X pins σ H s) (hH:H l=some (.lst xs)):xs.length≤yag∧∃ (its:List yai) (n:Nat),Vals xs its∧xs.length=its.length∧s.heap.get? l=some { cls:=.type "list",data:=.seq its.toArray n }:=by
 obtain ⟨z,its,n,r,e⟩:=I.hok l _ hH
 exact ⟨z,its,n,r,r.length,e⟩
theorem jQ {n:Nat} (h:n≤yag):Builtin.List.listTooLong n=false:=by
 unfold Builtin.List.listTooLong
 exact yDf (by lia)
end
section
variable {X:Cx}
def sD:V→List V→Hp→VK→Prop:=fun x vs H Q=>∃ l xs y,x = .ref l∧vs=[y]∧H l=some (.lst xs)∧xs.length<yag∧Q .bP (upd H l (.lst (xs++[y])))
theorem uF:Io X "list.append" sD:=by
 intro pins s σ H x vs v us Q I rx rv h
 obtain ⟨l,xs,y,rfl,rfl,hH,hz,q⟩:=h
 cases rx
 obtain ⟨u,rfl,ru⟩:=rv.one
 obtain ⟨z,its,n,r,hl,e⟩:=I.oZ hH
 refine call_meets F.slot_list_append ⟨_,e,rfl⟩ F.entry_list_append (F.args_list_append_2 _ _) (PySem.list_append l its.toArray n u (by rw [zaO];lia)) ⟨e,?_⟩
 refine ⟨.bP,_,I.Au (its':=its++[u]) hH e (by simp) (r.append (.cons ru .nil)) ?_,rfl,q⟩
 rw [zaE,List.length_singleton]
 lia
def sC:V→List V→Hp→VK→Prop:=fun x vs H Q=>∃ l b xs zs,x = .ref l∧vs=[.ref b]∧H l=some (.lst xs)∧H b=some (.lst zs)∧xs.length+zs.length≤yag∧Q .bP (upd H l (.lst (xs++zs)))
theorem uE:Io X "list.extend" sC:=by
 intro pins s σ H x vs v us Q I rx rv h
 obtain ⟨l,b,xs,zs,rfl,rfl,hH,hB,hz,q⟩:=h
 cases rx
 obtain ⟨u,rfl,ru⟩:=rv.one
 cases ru
 obtain ⟨z,its,n,r,hl,e⟩:=I.oZ hH
 obtain ⟨z2,its2,n2,r2,hl2,e2⟩:=I.oZ hB
 have hsz:its.toArray.size+its2.toArray.size≤yag:=by rw [zaO,zaO];lia
 have o9 : ¬ (!its.toArray.isEmpty&&Builtin.List.listTooLong (its.toArray.size+its2.toArray.size))=true:=by
  rw [jQ hsz,Bool.and_false]
  exact zaJ
 refine call_meets F.slot_list_extend ⟨_,e,rfl⟩ F.entry_list_extend (F.args_list_extend_2 _ _)
  (AutoSeq1.list_extend_list_list_0 l its.toArray n b its2.toArray n2 o9 (by rw [zaO];lia) (by lia)) ⟨e,e2,?_⟩
 refine ⟨.bP,_,I.Au (its':=its++its2) hH e (by simp) (r.append r2) ?_,rfl,q⟩
 rw [zaE]
 lia
def Fi:V→List V→Hp→VK→Prop:=fun x vs H Q=>∃ l xs y,x = .ref l∧vs=[]∧H l=some (.lst xs)∧xs[xs.length - 1]? = some y∧Q y (upd H l (.lst xs.dropLast))
theorem DB:Io X "list.pop" Fi:=by
 intro pins s σ H x vs v us Q I rx rv h
 obtain ⟨l,xs,y,rfl,rfl,hH,hy,q⟩:=h
 cases rx
 have hus:=rv.zero
 subst hus
 obtain ⟨z,its,n,r,hl,e⟩:=I.oZ hH
 obtain ⟨u,hu,ru⟩:=r.get hy
 have hy':its.toArray[its.toArray.size - 1]? = some u:=by
  show its.toArray[its.length - 1]? = some u
  rw [← zap,← hl]
  exact hu
 refine call_meets F.slot_list_pop ⟨_,e,rfl⟩ F.entry_list_pop (F.args_list_pop_1 _) (MeetsSeq.list_pop_last l its.toArray n u hy' (by rw [zaO];lia)) ⟨e,?_⟩
 refine ⟨y,_,I.Au (its':=its.dropLast) hH e ?_ r.dropLast ?_,ru,q⟩
 ·show its.toArray.eraseIdxIfInBounds (its.toArray.size - 1)=its.dropLast.toArray
  rw [zaO,List.eraseIdxIfInBounds_toArray,qX]
 ·rw [List.length_dropLast]
  lia
def HC:R2:=fun x y H Q=>∃ l b xs zs,x = .ref l∧y = .ref b∧H l=some (.lst xs)∧H b=some (.lst zs)∧xs.length+zs.length≤yag∧∀ p,H p=none→Q (.ref p) (upd H p (.lst (xs++zs)))
theorem Dr:fV X (binaryOp .Add) HC:=by
 intro pins s σ H x y v u Q I rx ry h
 obtain ⟨l,b,xs,zs,rfl,rfl,hH,hB,hz,q⟩:=h
 cases rx
 cases ry
 obtain ⟨z,its,n,r,hl,e⟩:=I.oZ hH
 obtain ⟨z2,its2,n2,r2,hl2,e2⟩:=I.oZ hB
 refine PySem.P.add_list e e2 ?_ (by rw [zaO,zaO];lia)
 have ea:its.toArray++its2.toArray=(its++its2).toArray:=by simp
 rw [ea]
 exact ⟨.ref _,_,I.FH (t':=s.toks) (r.append r2) (by rw [zaE];lia),rfl,q _ I.fresh⟩
def Hy:R2:=fun x y H Q=>∃ l k xs,x = .ref l∧y = .int k∧H l=some (.lst xs) ∧ -(2 ^ 63)≤k∧k<2 ^ 63∧xs.length*k.toNat≤yag ∧
 ∀ p,H p=none→Q (.ref p) (upd H p (.lst (zbx k.toNat xs).flatten))
theorem len_rep {α:Type} (xs:List α) (k:Nat):(zbx k xs).flatten.length=k*xs.length:=by
 induction k with
 | zero=>simp
 | succ k ih=>rw [zay,zaQ,zaE,ih,Nat.succ_mul,Nat.add_comm]
theorem Dj:fV X (binaryOp .Mult) Hy:=by
 intro pins s σ H x y v u Q I rx ry h
 obtain ⟨l,k,xs,rfl,rfl,hH,h1,h2,hz,q⟩:=h
 cases rx
 obtain ⟨t,rfl⟩:=ry
 obtain ⟨z,its,n,r,hl,e⟩:=I.oZ hH
 have hlen:its.toArray.size*k.toNat≤yag:=by rw [zaO,← hl];exact hz
 have hcap : ¬ its.toArray.size*k.toNat > (2 ^ 63 - 1) / 8:=by
  have:(yag:Nat)≤(2 ^ 63 - 1) / 8:=by decide
  lia
 have hfit : ¬ (!Builtin.List.listFitsIndex k)=true:=by
  rw [fitsIndex_both h1 h2]
  exact zaJ
 have o9 : ¬ Builtin.List.listTooLong (its.toArray.size*k.toNat)=true:=by
  rw [jQ hlen]
  exact zaJ
 have hnew:List.foldl (fun x1 x2=>x1++x2) #[] (zbx (if its.toArray.isEmpty=true then 0 else k.toNat) its.toArray)=(zbx k.toNat its).flatten.toArray:=by
  have f0:∀ m:Nat,List.foldl (fun x1 x2=>x1++x2) #[] (zbx m its.toArray)=(zbx m its).flatten.toArray:=fun m=>by
   have:=foldl_rep its m []
   rw [zbs] at this
   exact this
  rw [f0]
  cases its with
  | nil=>simp
  | cons a r'=>rw [yIn (by simp)]
 refine wpAny_binaryOp_repeat_ref (T := "list") (U := "int") (by decide) ⟨_,e,rfl⟩ (fun s'=>typeIs_int s' k t) noFill_list_mul F.fills_int_mul F.slot_int_rmul repeat_list F.slot_int_index.lookup
  (call_meets F.slot_int_rmul (typeIs_int s k t) F.entry_int_rmul (F.args_int_rmul_2 _ _) (int___rmul___int_list k t l its.toArray n)
   ⟨e,rfl,⟨_,e,rfl⟩,call_meets F.slot_list_mul ⟨_,e,rfl⟩ F.entry_list_mul (F.args_list_mul_2 _ _) (AutoListH.list___mul___list_int_3 l its.toArray n k t hfit hcap o9) ⟨e,?_⟩⟩)
 rw [hnew]
 exact ⟨.ref _,_,I.FH (t':=s.toks) (r.rep k.toNat) (by rw [len_rep,Nat.mul_comm];exact hz),rfl,q _ I.fresh⟩
end
end L2
namespace Att
open PySem PySem.W PySem.Calls PyProof.Rows
theorem iR {P:Params}{h:Heap}:∀ (ns:List Int) (vs:List yai),WellAll P h vs (ns.map WData.int)→IntsAre vs ns:=by
 intro ns
 induction ns with
 | nil =>
  intro vs w
  rw [zbM] at w
  cases w
  exact .nil
 | cons n ns ih =>
  intro vs w
  rw [zbC] at w
  cases w with
  | cons a b =>
   cases a
   exact .cons _ _ (ih _ b)
theorem ur {l:OpenLaw}{n:Nat} (hn:l.most=some n) {P:Params}{h:Heap}{args:List WData}{vals:List yai}
  (hpre:l.row.toRowW.claim.pre args=true) (hwl:WellAll P h vals args) :
  ∃ a vs ns,vals=[Value.ref a]∧args=[WData.list (ns.map WData.int)]∧h.get? a=some { cls:=.type "list",data:=.seq vs.toArray }∧IntsAre vs ns∧ns.length≤n:=by
 have hsh:WShape.hasAll [] args [.list .int]=true:=(pre_splitW hpre).1
 have hc:l.pre.holds [] { args:=args }=true:=(pre_splitW hpre).2
 obtain ⟨d,r,rfl,h1,h2⟩:=hasAllW_cons hsh
 obtain rfl:=hasAllW_nil h2
 obtain ⟨xs,rfl,h3⟩:=hasW_list h1
 obtain ⟨ns,rfl⟩:=items_int h3
 have hlen:ns.length≤n:=by
  unfold OpenLaw.pre at hc
  have h4:(WTm.not (.lt (.lit (.int (n:Int))) (.len (.arg 0)))).holds [] { args:=[.list (ns.map .int)] }=true:=by
   have h4:=(holds_andW hc).1
   rw [hn] at h4
   exact h4
  have h5:=condW_of h4 (w_not (w_lt w_lit (w_len_list (w_arg rfl))))
  rw [zbr] at h5
  refine Nat.le_of_not_lt fun q => ?_
  have q':(n:Int)<((ns.length:Nat):Int):=by lia
  first
   | (rw [yDt q'] at h5;exact absurd h5 (by decide))
   | (simp at h5;lia)
 cases hwl with
 | cons w1 w2 =>
  cases w2
  cases w1 with
  | list ho hall=>exact ⟨_,_,ns,rfl,rfl,ho,iR ns _ hall,hlen⟩
theorem uw (l:OpenLaw) (args:List WData):l.row.toRowW.claim.post args (.bool true) args=true :=
 postW_of (r:=l.row.toRowW) (X:=(true==true))
  (show WShape.has [] (.bool true) .bool=true by first | rfl | decide | simp [WShape.has,WShape.arms,WShape.armsAll])
  (show (WTm.eq .res (.lit (.bool true))).value [] { args:=args,res:=some (.bool true),after:=args }=some (.bool (true==true)) from w_eq_bool (w_res rfl) w_lit) rfl
theorem pO {l:OpenLaw}{n:Nat}{q:yaj}{loose:List Str}{XP:(Str→Option yai)→Heap→Prop}{YP:yak→Heap→Prop}{d:DefRec}
  (hn:l.most=some n) (hdf:d.params.defaults=[])
  (call:∀ (w:yak) (s₀ s₁:yah) (mg mb:Str→Option yai) (fa:Addr) (o:Obj) (pm cd doc:yai) (a:Addr) (vs:List yai) (ns:List Int),
   Ground q loose [] XP w s₀ mg mb s₁.heap→YP w s₁.heap →
   s₁.heap.get? fa=some o→o.data = .func (docDef d.name d.params d.body d.scope pm cd doc)→s₁.heap.CodeRec cd d.name→mg d.name=some (.ref fa) →
   s₁.heap.get? a=some { cls:=.type "list",data:=.seq vs.toArray }→IntsAre vs ns→ns.length≤n→s₁.gens = #[] →
   codeAny (model l.prog w) callerA (.call (.ref fa) ⟨[.ref a],[]⟩) (fun r s'=>r = .ok (.ret (.bool true))∧OldK s₁.heap s'.heap∧s'.os=s₁.os∧AllBare s'.gens) s₁) :
  WalkO q loose XP YP l.row.toRowW d [] (fun f vs=>PySem.call f vs):=by
 intro w s₀ s₁ mg mb G Y fa o pm cd doc dV kV ho hd hcd hD hmg hg args vals as hpre hlay hrd hwl hlo
 obtain rfl:dV = .none:=Dflts.none hD hdf
 obtain rfl:kV = .none:=Dflts.noKw hD
 obtain ⟨a,vs,ns,rfl,rfl,hobj,hints,hlen⟩:=ur hn hpre hwl
 refine enter_call (yax (call w s₀ s₁ mg mb fa o pm cd doc a vs ns G Y ho (fd_plain hd) hcd hmg hobj hints hlen hg) fun r s' hq => ?_)
 obtain ⟨rfl,h2,h3,h4⟩:=hq
 exact ⟨.inl ⟨.bool true,.bool true,[],rfl,fun _=>rfl,.bool true,uw l _,fun _=>⟨List.Pairwise.nil,fun _ hm=>(nomatch hm)⟩⟩,h2,h3,h4⟩
end Att
namespace L2
open PySem PySem.Spec PyProof.Rows
theorem iz:∀ {vs:List yai}{ns:List Int},IntsAre vs ns→Vals (ns.map V.int) vs
 | _,_,.nil=>.nil
 | _,_,.cons n t h=>.cons ⟨t,rfl⟩ (iz h)
def En (H:Hp):Prop:=∀ b,H b=none∨∃ o xs,H b=some (.zj o (.lst xs))
theorem xP {P:yaj}{w:yak}{K:yaE}{mg mb:Str→Option yai}{CX:zd}{k:Nat}{fa a:Addr}{fd:yap}{x:Str}{sp:Sp}{s₁:yah}{vs:List yai}{ns:List Int}
  (KX:K.In s₁.heap) (hns:s₁.heap.Ns yaq mg) (hb:s₁.heap.Ns builtinsNs mb) (hbb:∀ x:Str,x ≠ "__name__" → mb x=bootBuiltins x) (hlim:s₁.heap.NoLimit) (hg:s₁.gens = #[])
  (ha:s₁.heap.get? a=some { cls:=.type "list",data:=.seq vs.toArray }) (hi:IntsAre vs ns) (hl:ns.length≤yag) (hr:bC k callerA)
  (F:∀ base:Heap,K.In base→base.Ns yaq mg→fu P w K mg base CX k fa fd [x] sp) (hbind:∀ (s:yah) (u:yai),yaz s fd ⟨[u],[]⟩ [(x,u)])
  (hsp:∀ H:Hp,En H→cj K H a (ns.map V.int)→sp [.ref a] H (fun v _=>v = .bl true) fun _ _ _=>False)
  (hCX:∀ H e s',CX [] H s₁ (fun _ _ _=>False) e s'→False) :
  codeAny (model P w) callerA (.call (.ref fa) ⟨[.ref a],[]⟩) (fun r s'=>r = .ok (.ret (.bool true))∧OldK s₁.heap s'.heap∧s'.os=s₁.os∧AllBare s'.gens) s₁:=by
 have rv:=iz hi
 have HK:=hi.length
 have core:∀ H:Hp,En H→cj K H a (ns.map V.int)→iw P w H s₁.heap→(∀ b,H b≠none→b=a)→(H a≠none→K.lookup a=none) →
   codeAny (model P w) callerA (.call (.ref fa) ⟨[.ref a],[]⟩) (fun r s'=>r = .ok (.ret (.bool true))∧OldK s₁.heap s'.heap∧s'.os=s₁.os∧AllBare s'.gens) s₁:=by
  intro H hO hS hok hA hK
  have tU:∀ {b:Addr}{o:Obj},s₁.heap.get? b=some o→H b=none→(nB s₁.heap H).get? b=some o:=fun e n=>xZ e n
  have noA:∀ {b:Addr}{o:Obj}{es:Array yav}{ep:Nat},s₁.heap.get? b=some o→o.data = .dict es ep→H b=none:=fun {b o es ep} e d=>by
   cases q:H b with
   | none=>rfl
   | some u =>
    have e':b=a:=hA b (by rw [q];simp)
    subst e'
    rw [ha] at e;cases e
    have d':Data.seq vs.toArray _=Data.dict es ep:=d
    cases d'
  have nsK:∀ {b:Addr}{m:Str→Option yai},s₁.heap.Ns b m→(nB s₁.heap H).Ns b m:=fun {b m} ⟨o,es,ep,e,d,r⟩=>⟨o,es,ep,tU e (noA e d),d,r⟩
  have hKb:K.In (nB s₁.heap H):=fun b o e=>tU (KX b o e) (by
   cases q:H b with
   | none=>rfl
   | some u =>
    have e':b=a:=hA b (by rw [q];simp)
    subst e'
    rw [hK (by rw [q];simp)] at e;cases e)
  have hM:Mod K mg (nB s₁.heap H):=⟨hKb,nsK hns,⟨mb,nsK hb,hbb⟩,let ⟨mc,h1,h2⟩:=hlim;⟨mc,nsK h1,h2⟩⟩
  have e0:Bx P w K mg (nB s₁.heap H) callerA [] s₁ H:=⟨rfl,hM,fun b o e=>Ai e,Nat.le_of_eq (uN _ _),trivial,fun b hb=>absurd (show b∈([]:List Addr) from hb) (by simp),hok,.of_eq hg⟩
  refine yax ((F _ hKb (nsK hns)).run callerA [] s₁ H ⟨[.ref a],[]⟩ [.ref a] [.ref a] _ _ hr e0 (hbind s₁ (.ref a)) (.cons rfl .nil) (hsp H hO hS)) fun r s' h => ?_
  cases r with
  | error e=>exact (hCX H e s' h).elim
  | ok fl =>
   cases fl with
   | next=>exact False.elim h
   | brk=>exact False.elim h
   | cont=>exact False.elim h
   | ret u =>
    obtain ⟨v,H',os,bare,un,hok',r',q⟩:=h
    have q':v = .bl true:=q
    subst q'
    obtain rfl:u=Value.bool true:=r'
    refine ⟨rfl,OldK.of_keep fun b o e => ?_,os,bare⟩
    cases q:H b with
    | none=>exact un.keep b o e q (by intro z;exact absurd (show b∈([]:List Addr) from z) (by simp)) (by simp)
    | some u =>
     rcases hO b with z | ⟨ob,xs,z⟩
     ·rw [q] at z;cases z
     ·have z2:=un.kW b ob _ z
      obtain ⟨e1,_⟩:=hok b _ z
      obtain ⟨e2,_⟩:=hok' b _ z2
      rw [e] at e1;cases e1
      exact e2
 cases hk:K.lookup a with
 | some o =>
  have e:=KX a o hk
  rw [ha] at e
  cases e
  refine core (fun _=>none) (fun _=>.inl rfl) (.inr ⟨_,vs.toArray,_,hk,rfl,rfl,rfl,by rw [zaO,HK];exact hl,by simpa using rv⟩) (fun b u z=>by have z':(none:Option HO)=some u:=z;cases z') (fun b z=>absurd rfl z) fun z=>absurd rfl z
 | none =>
  refine core (fun b=>if b=a then some (.zj { cls:=.type "list",data:=.seq vs.toArray } (.lst (ns.map V.int))) else none) (fun b => ?_) (.inl (.inr ⟨{ cls:=.type "list",data:=.seq vs.toArray },yIp rfl⟩)) (fun b u z => ?_) (fun b z => ?_) fun _=>hk
  ·by_cases hb:b=a
   ·exact .inr ⟨_,_,yIp hb⟩
   ·exact .inl (yIn hb)
  ·by_cases hb:b=a
   ·have z':=(yIp hb).symm.trans z
    cases z'
    subst hb
    exact ⟨ha,by rw [zbr];exact hl,vs,_,rv,ha⟩
   ·have z':=(yIn hb).symm.trans z
    cases z'
  ·by_cases hb:b=a
   ·exact hb
   ·exact absurd (yIn hb) z
theorem zx {l:PySem.W.OpenLaw}{n k:Nat}{q:yaj}{loose:List Str}{XP:(Str→Option yai)→Heap→Prop}{YP:yak→Heap→Prop}{d:DefRec}{K:Params→yaE}{CX:yak→zd}{sp:yak→Sp}{x:Str}
  (hn:l.most=some n) (hn2:n≤yag) (hdf:d.params.defaults=[]) (hr:bC k callerA)
  (hY:∀ (w:yak) (h:Heap),YP w h→(K w.params).In h)
  (F:∀ (w:yak) (mg:Str→Option yai) (fa:Addr) (h:Heap),(K w.params).In h→h.Ns yaq mg→mg d.name=some (.ref fa) →
   ∃ fd:yap,(∀ (s:yah) (u:yai),yaz s fd ⟨[u],[]⟩ [(x,u)]) ∧
    ∀ base:Heap,(K w.params).In base→base.Ns yaq mg→fu l.prog w (K w.params) mg base (CX w) k fa fd [x] (sp w))
  (hsp:∀ (w:yak) (H:Hp) (a:Addr) (ns:List Int),ns.length≤n→En H→cj (K w.params) H a (ns.map V.int)→sp w [.ref a] H (fun v _=>v = .bl true) fun _ _ _=>False)
  (hCX:∀ (w:yak) (H:Hp) (s:yah) (e:yai) (s':yah),CX w [] H s (fun _ _ _=>False) e s'→False) :
  PySem.W.WalkO q loose XP YP l.row.toRowW d [] (fun f vs=>PySem.call f vs):=by
 refine Att.pO hn hdf fun w s₀ s₁ mg mb fa o pm cd doc a vs ns G Y ho hd hcd hmg hobj hints hlen hg => ?_
 have KX:=hY w _ Y
 obtain ⟨fd,hb,hF⟩:=F w mg fa _ KX G.T.g hmg
 exact xP KX G.T.g G.T.b G.T.builtins G.T.nolimit hg hobj hints (zbR hlen hn2) hr hF hb (fun H hO hS=>hsp w H a ns hlen hO hS) fun H e s'=>hCX w H s₁ e s'
noncomputable def cz (s:Stmt):Arguments:=match s with
 | .FunctionDef _ a _ _ _ _ _ _ _ _=>a
 | _=>{ posonlyargs:=[],args:=[],vararg:=none,kwonlyargs:=[],kw_defaults:=[],kwarg:=none,defaults:=[] }
noncomputable def bO (s:Stmt):List Stmt:=match s with
 | .FunctionDef _ _ b _ _ _ _ _ _ _=>b
 | _=>[]
noncomputable def ak (s:Stmt):Scope:=match s with
 | .FunctionDef _ _ _ _ _ _ sc _ _ _=>sc
 | _=>{ kind:=.function,names:=[],isGenerator:=false,isCoroutine:=false }
abbrev qc:zd:=fun _ _ _ _ _ _=>False
abbrev E0:XK:=fun _ _ _=>False
theorem BS {X:Cx}:Passes qc X E0:=fun _ _ _ _ _ _ _ h=>h.elim
structure Cm (K:yaE) (x qual:Str) (st:Stmt) (f:Addr) (fd:yap):Prop where
 ex:∃ (oc:yai) (od:Option Addr) (kV doc pm:yai) (an:Option Addr) (cdv ct:yai) (osl:Array (Option yai)),
  fd=zbW x qual (cz st) (bO st) (ak st) .none kV doc pm an cdv ct∧K.lookup f=some ⟨oc,od,.func fd,osl⟩∧zbz K cdv qual=true
 kp:zby K (.ref f)=true
section
variable {P:yaj}{w:yak}{K:yaE}{mg:Str→Option yai}{base:Heap}
theorem Cm.ok {x qual:Str}{st:Stmt}{f:Addr}{fd:yap}{N ps:List Str}{k:Nat}{sp:Sp} (F:Cm K x qual st f fd) (S:aP N ps (ak st)) (len:∀ vs H Q E,sp vs H Q E→vs.length=ps.length)
  (hbody:∀ (cdv:yai) (A:yal) (outer:List Env) (s:yah) (H:Hp) (vs:List V) (Q:VK) (E:XK),bC k (A.deeper (envOfC qual (ak st) s.heap.objs.size f cdv))→sp vs H Q E →
   ∃ t,pU (kX qc P w K mg base N qual (ak st) f cdv A outer s H E).Du (bO st) t∧t { nx:=fun _ H'=>Q .bP H',rt:=Q } (start N vs) H):fu P w K mg base qc (k+1) f fd ps sp:=by
 obtain ⟨oc,od,kV,doc,pm,an,cdv,ct,osl,rfl,lk,hcd⟩:=F.ex
 refine F4 lk hcd S len fun A outer s H vs Q E hr hsp => ?_
 obtain ⟨t,h,q⟩:=hbody cdv A outer s H vs Q E hr hsp
 exact ⟨t,h.Du,q⟩
theorem Cm.binds {x qual:Str}{st:Stmt}{f:Addr}{fd:yap}{ps:List Str} (F:Cm K x qual st f fd)
  (h:∀ (kV doc pm:yai) (an:Option Addr) (cdv ct:yai) (us:List yai),us.length=ps.length→yay (zbW x qual (cz st) (bO st) (ak st) .none kV doc pm an cdv ct) ⟨us,[]⟩=pure (ps.zip us)):Binds K fd ps []:=by
 obtain ⟨oc,od,kV,doc,pm,an,cdv,ct,osl,rfl,lk,hcd⟩:=F.ex
 exact .all (h kV doc pm an cdv ct)
theorem qR {x qual:Str}{st:Stmt}{f:Addr}{oc:yai}{od an:Option Addr}{osl:Array (Option yai)}{kV doc pm cdv ct:yai} (l:K.lookup f=some ⟨oc,od,.func (zbW x qual (cz st) (bO st) (ak st) .none kV doc pm an cdv ct),osl⟩)
  (c:zbz K cdv qual=true) (k:zby K (.ref f)=true):Cm K x qual st f (zbW x qual (cz st) (bO st) (ak st) .none kV doc pm an cdv ct):=⟨⟨oc,od,kV,doc,pm,an,cdv,ct,osl,rfl,l,c⟩,k⟩
end
section
variable {X:Cx}
theorem uU:cg X (.builtin "len") (fun xs H Q=>∃ a kvs,xs=[V.ref a]∧H a=some (.dK kvs)∧Q (.int kvs.length) H):=by
 intro pins s σ H xs us Q I r h
 obtain ⟨a,kvs,rfl,ha,q⟩:=h
 obtain ⟨u,rfl,ru⟩:=vals1 r
 cases ru
 exact F7 I (.inl ha) fun t s' I'=>⟨.int kvs.length,H,I',⟨t,rfl⟩,q⟩
end
theorem uJ {A B:Prop} (h:B):if false=true then A else B:=by
 rw [yIn zaJ]
 exact h
theorem uI {A B:Prop} (h:A):if true=true then A else B:=by
 rw [yIp rfl]
 exact h
theorem d7 {c A B:Prop} [Decidable c] (h1:c→A) (h2 : ¬ c→B):if c then A else B:=by
 by_cases h:c
 ·rw [yIp h]
  exact h1 h
 ·rw [yIn h]
  exact h2 h
def eF (H H':Hp):Prop:=∀ b o,H b=some o→H' b=some o
theorem eF.refl (H:Hp):eF H H:=fun _ _ h=>h
theorem eF.trans {H H1 H2:Hp} (a:eF H H1) (b:eF H1 H2):eF H H2:=fun c o h=>b c o (a c o h)
theorem eF.free {H H':Hp} (e:eF H H') {l:Addr} (h:H' l=Option.none):H l=Option.none:=by
 cases q:H l with
 | none=>rfl
 | some o =>
  rw [e l o q] at h
  cases h
theorem eF.seq {K:yaE}{H H':Hp}{a:Addr}{xs:List V} (e:eF H H') (h:cj K H a xs):cj K H' a xs:=by
 rcases h with (h | ⟨o,h⟩) | h
 ·exact .inl (.inl (e _ _ h))
 ·exact .inl (.inr ⟨o,e _ _ h⟩)
 ·exact .inr h
end L2
set_option maxHeartbeats 4000000
namespace L2
open PySem PySem.Spec PyProof.Rows
section
variable {X:Cx}{pins:List (Addr×Obj)}{σ:List (Option V)}{H:Hp}{s:yah}
theorem iw.nZ {P:yaj}{w:yak}{h:Heap}{D:Addr}{o:HO} (ok:iw P w H h) (hn:H D=none) (new:bD P w (upd H D o) h D o):iw P w (upd H D o) h:=fun b u e=>by
 by_cases hb:b=D
 ·subst hb;rw [bH] at e;cases e;exact new
 ·rw [aH hb] at e
  refine (ok b u e).stay (fun _ _ _ q=>q) (fun c q => ?_) (fun c xs q => ?_)
  ·rw [aH (bg q hn)];exact q
  ·rw [aH (bg q hn)];exact q
theorem Inv.nZ {D:Addr}{o:HO} (I:Inv X pins σ H s) (hn:H D=none) (hD:X.s₀.heap.objs.size≤D) (hL:D≠X.env.locals) (hc:∀ x c,X.env.cells.lookup x=some c→c≠D) (hp:∀ p∈X.pn++pins,p.1≠D)
  (new:bD X.prog X.w (upd H D o) s.heap D o):Inv X pins σ (upd H D o) s:=by
 refine ⟨I.ok,I.os,I.bare,⟨I.base.keep,I.base.slot,fun b ob e n hx => ?_,I.base.there,fun b xs e => ?_,fun b ob u e => ?_,fun b ps e => ?_⟩,I.loc,I.cell,?_,fun x c e => ?_,fun p hp' => ?_,I.hok.nZ hn new,I.len⟩
 ·rw [aH (zbQ (zaH (zbY e) hD))];exact I.base.free b ob e n hx
 ·have q:=I.base.tups b xs e;rw [aH (bg q hn)];exact q
 ·have q:=I.base.kW b ob u e;rw [aH (bg q hn)];exact q
 ·obtain ⟨m,q⟩:=I.base.mF b ps e;exact ⟨m,by rw [aH (bg q hn)];exact q⟩
 ·rw [aH (Ne.symm hL)];exact I.free
 ·rw [aH (hc x c e)];exact I.d9 x c e
 ·obtain ⟨e,n,a,b,d⟩:=I.pin p hp'
  exact ⟨e,by rw [aH (hp p hp')];exact n,a,b,d⟩
end
noncomputable def gY (env:Env):List (Str×NameKind)→List (Str×Addr)→List (Str×Addr)
 | [],acc=>acc
 | (n,k)::r,acc=>gY env r (if k==NameKind.free then (n,(env.cells.lookup n).getD 0)::acc else acc)
theorem gn (env:Env):∀ (l:List (Str×NameKind)) (acc:List (Str×Addr)),(∀ n,(n,NameKind.free)∈l→∃ c,env.cells.lookup n=some c) →
  (forIn l acc (fun (x:Str×NameKind) (r:List (Str×Addr))=>if (x.2==NameKind.free)=true then (do let a ← cellOf env x.1;pure (ForInStep.yield ((x.1,a)::r))) else pure (ForInStep.yield r)):Sem (List (Str×Addr)))=pure (gY env l acc)
 | [],acc,_=>rfl
 | (n,k)::r,acc,h=>by
  rw [zbt]
  by_cases hk:(k==NameKind.free)=true
  ·have e:k = .free:=by simpa using hk
   subst e
   obtain ⟨c,hc⟩:=h n zaD
   have e1:cellOf env n=pure c:=by unfold cellOf;rw [hc]
   have e2:((NameKind.free==NameKind.free)=true)=True:=by simp
   simp only [e2,if_true,e1,pure_bind]
   rw [gn env r _ fun m hm=>h m (zar _ hm)]
   show _=pure (gY env r (if (NameKind.free==NameKind.free)=true then (n,(env.cells.lookup n).getD 0)::acc else acc))
   simp only [e2,if_true,hc,Option.getD_some]
  ·simp only [yIn hk,pure_bind]
   rw [gn env r _ fun m hm=>h m (zar _ hm)]
   show _=pure (gY env r (if (k==NameKind.free)=true then (n,(env.cells.lookup n).getD 0)::acc else acc))
   rw [yIn hk]
theorem kZ {scope:Scope}{env:Env} (h:∀ n,(n,NameKind.free)∈scope.names→∃ c,env.cells.lookup n=some c):closureFor scope env=pure (gY env scope.names []):=by
 unfold closureFor
 have e:=gn env scope.names [] h
 first
  | exact e
  | (simp only [bind_pure];exact e)
  | (rw [show (forIn scope.names ([]:List (Str×Addr)) _:Sem (List (Str×Addr)))=_ from e];rfl)
theorem pH (env:Env):∀ (l:List (Str×NameKind)) (acc:List (Str×Addr)) (x:Str) (c:Addr),(gY env l acc).lookup x=some c→acc.lookup x=some c∨(x,NameKind.free)∈l∧c=(env.cells.lookup x).getD 0
 | [],acc,x,c,h=>.inl h
 | (n,k)::r,acc,x,c,h=>by
  rcases pH env r _ x c h with e | ⟨e1,e2⟩
  ·by_cases hk:(k==NameKind.free)=true
   ·rw [yIp hk] at e
    have ek:k = .free:=by simpa using hk
    subst ek
    rw [zbd] at e
    by_cases hx:(x==n)=true
    ·have ex:x=n:=by simpa using hx
     subst ex
     rw [hx] at e
     exact .inr ⟨zaD,(zcd.inj e).symm⟩
    ·have hx':(x==n)=false:=by simpa using hx
     rw [hx'] at e
     exact .inl e
   ·rw [yIn hk] at e
    exact .inl e
  ·exact .inr ⟨zar _ e1,e2⟩
theorem kg (env:Env):∀ (l:List (Str×NameKind)) (acc:List (Str×Addr)) (x:Str),((x,NameKind.free)∈l∨∃ c,acc.lookup x=some c)→∃ c,(gY env l acc).lookup x=some c
 | [],acc,x,h=>by
  rcases h with h | h
  ·simp at h
  ·exact h
 | (n,k)::r,acc,x,h=>by
  refine kg env r _ x ?_
  rcases h with h | ⟨c,h⟩
  ·rcases zbB.mp h with e | e
   ·injection e with e1 e2
    subst e1 e2
    right
    exact ⟨(env.cells.lookup x).getD 0,by rw [yIp (by rfl),zbd];simp⟩
   ·exact .inl e
  ·right
   by_cases hk:(k==NameKind.free)=true
   ·rw [yIp hk,zbd]
    by_cases hx:(x==n)=true
    ·rw [hx];exact ⟨_,rfl⟩
    ·have hx':(x==n)=false:=by simpa using hx
     rw [hx'];exact ⟨c,h⟩
   ·rw [yIn hk];exact ⟨c,h⟩
theorem eW {scope:Scope}{env:Env}{x:Str}{k:NameKind}:∀ {names:List (Str×NameKind)},(names.map fun (n,k)=>if (k==NameKind.free&&env.scope.kind == .function&&env.kindOf n==some .cell) then (n,NameKind.cell) else (n,k)).lookup x=some k →
  names.lookup x=some k∨(k = .cell∧names.lookup x=some .free)
 | [],h=>by simp at h
 | (n,j)::r,h=>by
  have ih:=@eW scope env x k r
  rw [zbC,zbd] at h
  rw [zbd]
  by_cases hc:(j==NameKind.free&&env.scope.kind == .function&&env.kindOf n==some .cell)=true
  ·simp only [hc,if_true] at h
   cases hx:x==n with
   | true =>
    rw [hx] at h
    have ej:j = .free:=by
     simp only [zbm] at hc
     simpa using hc.1.1
    exact .inr ⟨(zcd.inj h).symm,by rw [ej]⟩
   | false=>rw [hx] at h;exact ih h
  ·simp only [yIn hc] at h
   cases hx:x==n with
   | true=>rw [hx] at h;exact .inl h
   | false=>rw [hx] at h;exact ih h
theorem gC {scope:Scope}{env:Env}{x:Str}:∀ {names:List (Str×NameKind)},names.lookup x=some .free→∃ k,(k=NameKind.cell∨k = .free) ∧
  (names.map fun (n,k)=>if (k==NameKind.free&&env.scope.kind == .function&&env.kindOf n==some .cell) then (n,NameKind.cell) else (n,k)).lookup x=some k
 | [],h=>by simp at h
 | (n,j)::r,h=>by
  have ih:=@gC scope env x r
  rw [zbd] at h
  rw [zbC,zbd]
  by_cases hc:(j==NameKind.free&&env.scope.kind == .function&&env.kindOf n==some .cell)=true
  ·simp only [hc,if_true]
   cases hx:x==n with
   | true=>exact ⟨.cell,.inl rfl,rfl⟩
   | false=>rw [hx] at h;exact ih h
  ·simp only [yIn hc]
   cases hx:x==n with
   | true=>rw [hx] at h;exact ⟨.free,.inr rfl,h⟩
   | false=>rw [hx] at h;exact ih h
noncomputable def k7 (caps:List (Option Nat)) (σ:St):St:=caps.map fun o=>o.bind fun i=>(σ[i]?).getD none
noncomputable def l5 (XN:List Str) (env:Env) (scope:Scope) (N:List Str) (caps:List (Option Nat)):Bool :=
 caps.length==N.length&&(caps.zip N).all fun p=>match p.1 with
  | none=>scope.names.lookup p.2==some .local
  | some i=>XN[i]? == some p.2&&scope.names.lookup p.2==some .free&&(env.scope.names.lookup p.2==some .cell||env.scope.names.lookup p.2==some .free)
noncomputable def nH (X:Cx) (scope:Scope) (N:List Str) (s₀:yah) (H₀:Hp) (C:Addr) (fp:List Addr):Cx where
 prog:=X.prog
 w:=X.w
 K:=X.K
 mg:=X.mg
 base:=X.base
 A:=X.A
 N:=N
 s₀:=s₀
 H₀:=H₀
 env:=compEnvC scope (gY X.env scope.names []) C X.env
 outer:=X.stack
 stack:=X.stack
 ex:=fp
 fn:=fun _=>false
 calm:=X.calm
 pn:=[]
 xe:=fun _ _=>False
structure fy (scope:Scope) (N:List Str):Prop where
 kind:scope.kind = .function
 nd:N.Nodup
 xy:∀ y∈scope.names,y.2 ≠ .cell
 names:∀ y∈scope.names,scope.names.lookup y.1=some y.2
section
variable {X:Cx}{pins:List (Addr×Obj)}{σ:List (Option V)}{H:Hp}{s:yah}
theorem yv {XN:List Str}{env:Env}{scope:Scope}{N:List Str}{caps:List (Option Nat)} (h:l5 XN env scope N caps=true) :
  caps.length=N.length∧∀ (j i:Nat) (x:Str),caps[j]? = some (some i)→N[j]? = some x→XN[i]? = some x∧scope.names.lookup x=some .free∧(env.kindOf x=some .cell∨env.kindOf x=some .free):=by
 unfold l5 at h
 rw [zbm] at h
 obtain ⟨h1,h2⟩:=h
 refine ⟨by simpa using h1,fun j i x e1 e2 => ?_⟩
 have hm:(some i,x)∈caps.zip N:=by
  refine zau (i:=j) ?_
  rw [zae]
  exact ⟨e1,e2⟩
 have q:=zbe.mp h2 _ hm
 simp only [zbm,Bool.or_eq_true,beq_iff_eq] at q
 exact ⟨q.1.1,q.1.2,q.2⟩
theorem Inv.block {scope:Scope}{N:List Str}{caps:List (Option Nat)}{C:Addr}{fp:List Addr}{s1:yah}{h1:Heap}{tk:Nat}{m:Str→Option yai} (S:fy scope N) (hcap:l5 X.N X.env scope N caps=true)
  (hfree:∀ n,(n,NameKind.free)∈scope.names→∃ c,X.env.cells.lookup n=some c)
  (I:Inv X pins σ H s) (hf:∀ b∈fp,iW X pins H b) (hfl:∀ b∈fp,b<s.heap.objs.size) (hC:s.heap.objs.size≤C) (hk:∀ b o,s.heap.get? b=some o→h1.get? b=some o) (hn:h1.Ns C m) :
  Inv (nH X scope N s H C fp) [] (k7 caps σ) H { s with heap:=h1,toks:=tk }:=by
 obtain ⟨hlen,hat⟩:=yv hcap
 have lY:∀ x c,(gY X.env scope.names []).lookup x=some c→X.env.cells.lookup x=some c:=fun x c e=>by
  rcases pH X.env scope.names [] x c e with z | ⟨z1,z2⟩
  ·simp at z
  ·obtain ⟨c',hc'⟩:=hfree x z1
   rw [hc',z2,hc'];rfl
 have clt:∀ x c,X.env.cells.lookup x=some c→c<s.heap.objs.size:=fun x c e=>by
  obtain ⟨v,o,ho,_⟩:=I.cell x c e
  exact zbY ho
 have Hu:∀ x,((compEnvC scope (gY X.env scope.names []) C X.env).kindOf x=some .cell∨(compEnvC scope (gY X.env scope.names []) C X.env).kindOf x=some .free)→(x,NameKind.free)∈scope.names:=fun x hx=>by
  have sub:∀ k,(compEnvC scope (gY X.env scope.names []) C X.env).kindOf x=some k→scope.names.lookup x=some k∨(k = .cell∧scope.names.lookup x=some .free):=fun k e=>eW (scope:=scope) (env:=X.env) e
  rcases hx with e | e
  ·rcases sub _ e with z | ⟨_,z⟩
   ·exact absurd rfl (S.xy _ (PySem.mem_of_lookup z))
   ·exact PySem.mem_of_lookup z
  ·rcases sub _ e with z | ⟨z,_⟩
   ·exact PySem.mem_of_lookup z
   ·cases z
 refine ⟨⟨I.ok.mod,S.kind,I.ok.glob,I.ok.blt,hC,fun x y c e1 e2=>I.ok.inj x y c (lY x c e1) (lY y c e2),fun x hx => ?_,fun x c z _=>absurd (show false=true from z) zaJ,I.ok.hd,I.ok.frames,.inl rfl,fun b hb => ?_,I.bs,zbR I.ok.Cg I.sz,fun b o e hb => ?_,fun b hb hb2 => ?_,I.stack,I.rR⟩,
  rfl,I.bare,Un.kept hk,⟨m,hn,fun j x v e1 e2 e3 => ?_⟩,fun x c e => ?_,I.hok.fresh hC,fun x c e=>I.d9 x c (lY x c e),fun p hp=>absurd (show p∈([]:List (Addr×Obj)) from hp) (by simp),I.hok.kept hk,?_⟩
 ·exact kg X.env scope.names [] x (.inl (Hu x hx))
 ·exact ⟨zbQ (zaH (hfl b hb) hC),fun x c e=>(hf b hb).2.2.2.2.1 x c (lY x c e)⟩
 ·rcases (hf b hb).2.2.2.1 with z | z
  ·exact I.ok.xx b o e z
  ·exact absurd (zaH (zbY e) (zbR I.ok.Cg z)) (zbF _)
 ·rcases zbB.mp (I.jt b hb2) with z | z
  ·exact (hf b hb).2.1 z
  ·exact (hf b hb).2.2.1 z
 ·have e2':(k7 caps σ)[j]? = some (some v):=e2
  unfold k7 at e2'
  rw [zaP] at e2'
  cases hc:caps[j]? with
  | none=>rw [hc] at e2';cases e2'
  | some o =>
   rw [hc] at e2'
   cases o with
   | none=>cases e2'
   | some i =>
    have e4:(σ[i]?).getD none=some v:=zcd.inj e2'
    have e5:σ[i]? = some (some v):=by
     cases q:σ[i]? with
     | none=>rw [q] at e4;cases e4
     | some y=>rw [q] at e4;exact congrArg some e4
    obtain ⟨a1,a2,a3⟩:=hat j i x hc e1
    obtain ⟨mX,hnX,hl⟩:=I.loc
    obtain ⟨u,r,l⟩:=hl i x v a1 e5 (a3.elim (fun z=>.inr (.inl z)) fun z=>.inr (.inr z))
    refine ⟨u,r,.inr ?_⟩
    obtain ⟨c,hcx,cell⟩:∃ c,X.env.cells.lookup x=some c∧s.heap.IsCell c (some u):=by
     rcases l with ⟨k,_⟩ | ⟨_,z⟩
     ·rw [k] at a3;rcases a3 with z | z <;> cases z
     ·exact z
    obtain ⟨k,hk2,hk3⟩:=gC (scope:=scope) (env:=X.env) a2
    obtain ⟨c',hc'⟩:=kg X.env scope.names [] x (.inl (PySem.mem_of_lookup a2))
    have hcc:c'=c:=zcd.inj ((lY x c' hc').symm.trans hcx)
    subst hcc
    refine ⟨?_,c',hc',?_⟩
    ·rcases hk2 with z | z
     ·subst z;exact .inl hk3
     ·subst z;exact .inr hk3
    ·obtain ⟨o,ho,hd⟩:=cell
     exact ⟨o,hk _ _ ho,hd⟩
 ·obtain ⟨v,o,ho,hd⟩:=I.cell x c (lY x c e)
  exact ⟨v,o,hk _ _ ho,hd⟩
 ·show (k7 caps σ).length=N.length
  unfold k7;rw [zbr];exact hlen
end
theorem e8 {prog:yaj}{w:yak}{A:yal}{R:Result→yah→Prop}{s:yah}{elt target iter:Expr}{ifs:List Expr}{scope:Scope}{pos:Pos}{it acc:yai}{env:Env} (I:Nat→yah→Prop)
  (turn:∀ n s,I n s→yar (model prog w) A (pyNext it) (fun r s₁=>match r with
   | none=>R (.ok .next) s₁
   | some v=>yar (model prog w) A (letOwnedTupleGo target it v) (fun _ s₁'=>yar (model prog w) A (assign target env v) (fun _ s₂ =>
     yar (model prog w) A (forIn ifs true fun c r=>if r=true then do let ok ← isTrue c env (eval c env);pure (ForInStep.yield ok) else pure (ForInStep.yield r)) (fun ok s₃ =>
      if ok=true then yar (model prog w) A (eval elt env) (fun x s₄ =>
       yar (model prog w) A (call (.builtin "list.append") [acc,x]) (fun _ s₅=>∃ m,m<n∧I m s₅) (fun _ _=>False) s₄) (fun _ _=>False) s₃
      else ∃ m,m<n∧I m s₃) (fun _ _=>False) s₂) (fun _ _=>False) s₁') (fun _ _=>False) s₁) (fun _ _=>False) s)
  (n:Nat) (h:I n s) :
  codeAny (model prog w) A (.compLoop (.ListComp elt [⟨target,iter,ifs,0⟩] scope pos) 0 it acc env) R s:=by
 refine codeAny_loop rfl I (fun n s hI => ?_) n h
 show yar _ A ((compTurn (.ListComp elt [⟨target,iter,ifs,0⟩] scope pos) 0 it acc env).onRaise (fun x=>do noteFrame x env;theTreesLotGoes x)) _ _ s
 refine wpAny_noted ?_
 rw [compTurn_list]
 refine wpAny_noRaise ?_
 refine yaa (wpAny_standAt (yaa (yac (turn n s hI) (fun r s₁ h₁ => ?_) fun _ _ h'=>h')))
 cases r with
 | none=>exact yab h₁
 | some v =>
  refine yaa (yac h₁ (fun _ s₁' h₁' => ?_) fun _ _ h'=>h')
  refine yaa (yac h₁' (fun _ s₂ h₂=>yaa (yac h₂ (fun ok s₃ h₃ => ?_) fun _ _ h'=>h')) fun _ _ h'=>h')
  cases ok with
  | false=>exact yab ⟨rfl,h₃⟩
  | true =>
   exact yaa (yaa (yac h₃ (fun x s₄ h₄=>yaa (yac h₄ (fun _ s₅ h₅=>yab (yab ⟨rfl,h₅⟩)) fun _ _ h'=>h')) fun _ _ h'=>h'))
def El (X:Cx) (ifs:List Expr) (t:TT):Prop :=
 ∀ (pins:List (Addr×Obj)) (s:yah) (σ:St) (H:Hp) (Q:Bool→Hp→Prop),Inv X pins σ H s→t σ H Q →
  yar (model X.prog X.w) X.A (forIn ifs true fun c r=>if r=true then do let ok ← isTrue c X.env (eval c X.env);pure (ForInStep.yield ok) else pure (ForInStep.yield r)) (TP X pins σ Q) X.xe s
def EB:TT:=fun _ H Q=>Q true H
theorem i8 {X:Cx}:El X [] EB:=fun _ _ _ H _ I h=>wpAny_tests_nil ⟨H,I,h⟩
theorem gE {X:Cx}{c:Expr}{t:TT} (h:PT X c t):El X [c] t:=fun pins s σ H Q I hw=>wpAny_tests_one (h pins s σ H Q I hw)
def BF (J:It) (g:TG) (tt:TT) (te:TE) (τ0:St) (H:Hp) (Qd:List V→Hp→Prop):Prop :=
 ∃ W:Nat→Nat→List V→St→Hp→Prop,(∃ m,W 0 m [] τ0 H)∧∀ i m xs τ H,W i m xs τ H →
  (J.stop i H∧Qd xs H)∨(J.go i H∧∃ M:List V→St→Hp→Prop,(∀ ys τ' H',M ys τ' H'→∃ m',m'<m∧W (i+1) m' ys τ' H')∧∀ x H',J.vm i H x H'→g x τ H' fun τ2 H2=>tt τ2 H2 fun b H3 =>
   if b=true then te τ2 H3 fun v H4=>xs.length<yag∧M (xs++[v]) τ2 H4 else M xs τ2 H3)
section
variable {X:Cx}{pins:List (Addr×Obj)}{σ:List (Option V)}{s:yah}
noncomputable abbrev lobj (its:List yai) (k:Nat):Obj:={ cls:=.type "list",data:=.seq its.toArray k }
theorem yu {elt tg iter:Expr}{ifs:List Expr}{scope:Scope}{N:List Str}{caps:List (Option Nat)}{pos:Pos}{g:TG}{tt:TT}{te:TE}{J:It}{fp:List Addr}{it:Addr}{tn:Nat→Heap→Prop}{H2:Hp}{s2:yah}{Qd:List V→Hp→Prop}
  {E:yai→yah→Prop}{RR:yai→Addr→Result→yah→Prop}
  (S:fy scope N) (hcap:l5 X.N X.env scope N caps=true) (hfree:∀ n,(n,NameKind.free)∈scope.names→∃ c,X.env.cells.lookup n=some c) (hc:X.calm=true)
  (hg:∀ s₀ H₀ C fp,PG (nH X scope N s₀ H₀ C fp) tg g) (ht:∀ s₀ H₀ C fp,El (nH X scope N s₀ H₀ C fp) ifs tt) (he:∀ s₀ H₀ C fp,PE (nH X scope N s₀ H₀ C fp) elt te)
  (I2:Inv X pins σ H2 s2) (T:Turn X.prog X.w X.K tg J fp it tn) (st2:tn 0 s2.heap) (f2:∀ b∈fp,iW X pins H2 b) (h:BF J g tt te (k7 caps σ) H2 Qd)
  (hRR:∀ (D C:Addr) m xs H3 (s4:yah),Inv X pins σ (upd H3 D (.lst xs)) s4→H3 D=none→s4.heap.Ns C m→iW X pins (upd H3 D (.lst xs)) C→Qd xs H3→RR (.ref D) C (.ok .next) s4) :
  yar (model X.prog X.w) X.A (newList []) (fun acc s₃=>yar (model X.prog X.w) X.A (newFunctionEnv scope X.env.globals (gY X.env scope.names []) [] X.env.qual none .none (some X.env)) (fun cenv s₄ =>
   codeAny (model X.prog X.w) X.A (.compStart (.ListComp elt [⟨tg,iter,ifs,0⟩] scope pos) 0 (.ref it) acc { cenv with scope:=relabel scope X.env }) (RR acc cenv.locals) s₄) E s₃) E s2:=by
 have hfl:∀ b∈fp,b<s2.heap.objs.size:=fun b hb=>by
  obtain ⟨o,e,_⟩:=T.obj 0 s2.heap st2 b hb
  exact zbY e
 refine yae (wpAny_newFunctionEnv S.xy (by intro y hy;simp at hy) (fun h₁ hns hsb => ?_) S.kind)
 dsimp only at hns hsb ⊢
 generalize hHD:s2.heap.push { cls:=.type "list",dict:=none,data:=.seq ([]:List yai).toArray }=HD at hns hsb ⊢
 have hC:HD.objs.size=s2.heap.objs.size+1:=by rw [← hHD,zbA]
 have hDC:s2.heap.objs.size≠HD.objs.size:=by rw [hC];exact zbQ (Nat.lt_succ_self _)
 have DS:s2.heap.objs.size≤HD.objs.size:=by rw [hC];exact zcb _
 have old:∀ b o,s2.heap.get? b=some o→h₁.get? b=some o:=fun b o e =>
  hsb.extBut b o (by rw [hC];exact zbQ (zaW (zbY e))) (zak _ (hHD ▸ zak _ e))
 have hacc:h₁.get? s2.heap.objs.size=some (lobj [] 0):=hsb.extBut _ _ hDC (zak _ (hHD ▸ zaC _ rfl))
 obtain ⟨W,⟨m0,w0⟩,turn⟩:=h
 have IY0:=Inv.block (caps:=caps) (C:=HD.objs.size) (fp:=fp) (s1:=s2) (h1:=h₁) (tk:=s2.toks+([]:List (Str×yai)).length) S hcap hfree I2 f2 hfl DS old hns
 have freshD:H2 s2.heap.objs.size=none:=I2.hok.fresh (zca _)
 have BQ:∀ {τ:St}{H':Hp}{s':yah}{its:List yai}{k:Nat},Inv (nH X scope N s2 H2 HD.objs.size fp) [] τ H' s'→H' s2.heap.objs.size=none→s'.heap.get? s2.heap.objs.size=some (lobj its k) →
   Inv (nH X scope N s2 H2 HD.objs.size fp) [(s2.heap.objs.size,lobj its k)] τ H' s':=fun {τ H' s' its k} I hn e=>I.jb fun p hp=>by
  have ep:p=(s2.heap.objs.size,lobj its k):=by simpa using hp
  subst ep
  exact ⟨e,hn,hDC,fun z=>by
   rcases zbB.mp (I2.jt _ z) with q | q
   ·exact absurd (q ▸ I2.lt) (zbF _)
   ·exact I2.FD (zca _) q,fun v z=>by cases z⟩
 have fY:∀ {H':Hp}{its:List yai}{k:Nat},(∀ b∈fp,H' b=none)→∀ b∈fp,iW (nH X scope N s2 H2 HD.objs.size fp) [(s2.heap.objs.size,lobj its k)] H' b:=fun {H' its k} hn b hb=>by
  have z:=f2 b hb
  refine ⟨hn b hb,zbQ (zaH (hfl b hb) DS),fun q => ?_,.inl hb,fun x c e=>IY0.ok.HZ b hb |>.2 x c e,fun p hp => ?_⟩
  ·rcases zbB.mp (I2.jt b q) with q | q
   ·exact z.2.1 q
   ·exact z.2.2.1 q
  ·have ep:p=(s2.heap.objs.size,lobj its k):=by
    have:p∈[]++[(s2.heap.objs.size,lobj its k)]:=hp
    simpa using this
   subst ep
   exact zbT (hfl b hb)
 have fin:∀ {τ:St}{H3:Hp}{s4:yah}{xs:List V}{its:List yai}{k:Nat},Inv (nH X scope N s2 H2 HD.objs.size fp) [(s2.heap.objs.size,lobj its k)] τ H3 s4→Vals xs its→xs.length≤yag→Qd xs H3 →
   RR (.ref s2.heap.objs.size) HD.objs.size (.ok .next) s4:=fun {τ H3 s4 xs its k} I r hz q=>by
  have hD:=I.pin (s2.heap.objs.size,lobj its k) (by show _∈[]++[_];simp)
  have IX:Inv X pins σ H3 s4:=I2.Ge (s':=s4) (ch:=fp) I.os I.base I.hok I.bare fun b hb=>⟨(f2 b hb).2.2.2.1,(f2 b hb).2.1,(f2 b hb).2.2.2.2.1,(f2 b hb).2.2.2.2.2⟩
  have fD:iW X pins H3 s2.heap.objs.size:=I2.qS (zca _) hD.2.1
  have fC:iW X pins H3 HD.objs.size:=I2.qS DS I.free
  have IT:Inv X pins σ (upd H3 s2.heap.objs.size (.lst xs)) s4:=IX.nZ hD.2.1 I2.sz fD.2.1 (fun x c e=>fD.2.2.2.2.1 x c e) (fun p hp=>fD.2.2.2.2.2 p hp) ⟨hz,its,k,r,hD.1⟩
  obtain ⟨m,hn,_⟩:=I.loc
  exact hRR _ _ m xs H3 s4 IT hD.2.1 hn ⟨by rw [aH (Ne.symm hDC)];exact fC.1,fC.2⟩ q
 have loop:∀ s₃:yah,s₃={ s2 with heap:=h₁,toks:=s2.toks+([]:List (Str×yai)).length } →
   codeAny (model X.prog X.w) X.A (.compLoop (.ListComp elt [⟨tg,iter,ifs,0⟩] scope pos) 0 (.ref it) (.ref s2.heap.objs.size) (compEnvC scope (gY X.env scope.names []) HD.objs.size X.env)) (RR (.ref s2.heap.objs.size) HD.objs.size) s₃:=by
  rintro s₃ rfl
  refine e8 (fun n s'=>∃ i xs its k τ H',Inv (nH X scope N s2 H2 HD.objs.size fp) [(s2.heap.objs.size,lobj its k)] τ H' s'∧tn i s'.heap∧(∀ b∈fp,H' b=none)∧Vals xs its∧xs.length≤yag∧W i n xs τ H') ?_ m0
   ⟨0,[],[],0,_,_,BQ IY0 freshD hacc,T.keep 0 _ _ st2 fun b _ o e=>old b o e,fun b hb=>(f2 b hb).1,.nil,zcc _,w0⟩
  rintro n s3 ⟨i,xs,its,k,τ,H3,I3,st3,fr3,r3,z3,w3⟩
  rcases turn i n xs τ H3 w3 with ⟨stop,qn⟩ | ⟨go,M,hM,step⟩
  ·refine yac (T.done (nH X scope N s2 H2 HD.objs.size fp) rfl rfl rfl hc i _ s3 τ H3 (fun _ _=>False) I3 (fY fr3) st3 stop) (fun r s4 ⟨hr,I4⟩ => ?_) fun _ _ z=>z
   subst hr
   exact fin I4 r3 z3 qn
  ·refine yac (T.item (nH X scope N s2 H2 HD.objs.size fp) rfl rfl rfl hc i _ s3 τ H3 (fun _ _=>False) I3 (fY fr3) st3 go) (fun r s4 ⟨u,hr,h4⟩ => ?_) fun _ _ z=>z
   subst hr
   refine yac h4 (fun _ s5 ⟨x,H5,I5,r5,y5,st5,fr5⟩ => ?_) fun _ _ z=>z
   have I5':=I5.pinned (fY fr5) (T.obj _ _ st5)
   have B5:∀ {τ7:St}{H7:Hp}{s7:yah},Inv (nH X scope N s2 H2 HD.objs.size fp) ([(s2.heap.objs.size,lobj its k)]++jH fp s5.heap) τ7 H7 s7→tn (i+1) s7.heap∧∀ b∈fp,H7 b=none:=fun {τ7 H7 s7} I7=>by
    refine ⟨T.keep _ _ _ st5 fun b hb o e=>(I7.pin (b,o) (zam _ (zam _ (dY hb e)))).1,fun b hb => ?_⟩
    obtain ⟨o,e,d⟩:=T.obj _ _ st5 b hb
    exact (I7.pin (b,o) (zam _ (zam _ (dY hb e)))).2.1
   refine yac (hg _ _ _ _ _ s5 τ H5 x u _ I5' r5 (step x H5 y5)) (fun _ s6 ⟨τ6,H6,I6,q6⟩ => ?_) fun _ _ z=>z
   refine yac (ht _ _ _ _ _ s6 τ6 H6 _ I6 q6) (fun ok s7 ⟨H7,I7,q7⟩ => ?_) fun _ _ z=>z
   cases ok with
   | false =>
    rw [yIn zaJ] at q7 ⊢
    obtain ⟨m',hm,w7⟩:=hM _ _ _ q7
    obtain ⟨a1,a2⟩:=B5 I7
    exact ⟨m',hm,i+1,xs,its,k,τ6,H7,I7.gu,a1,a2,r3,z3,w7⟩
   | true =>
    rw [yIp rfl] at q7 ⊢
    refine yac (he _ _ _ _ _ s7 τ6 H7 _ I7 q7) (fun v s8 ⟨y,H8,I8,r8,q8⟩ => ?_) fun _ _ z=>z
    obtain ⟨hz,q8⟩:=q8
    obtain ⟨m',hm,w8⟩:=hM _ _ _ q8
    obtain ⟨a1,a2⟩:=B5 I8
    have hD:=I8.pin (s2.heap.objs.size,lobj its k) (zam _ (zas _ (by simp)))
    have hlen:=r3.length
    refine wpAny_list_append_plain (items:=its.toArray) ⟨k,hD.1⟩ (fun h' hp hs => ?_) (by rw [zaO];lia)
    obtain ⟨k',hp⟩:=hp
    have I9:Inv (nH X scope N s2 H2 HD.objs.size fp) [] τ6 H8 { s8 with heap:=h' } :=
     (I8.jb (pins':=[]) (by simp)).turned (t':=s8.toks) (it:=s2.heap.objs.size) (fun b o hb e=>(hs.2 b hb).trans e) hD.2.1 hD.2.2.1 (.inr (zca _))
      (fun x c e z=>by
       have q:=IY0.cell x c e
       obtain ⟨v,o,ho,hd⟩:=I8.cell x c e
       have e1:s8.heap.get? s2.heap.objs.size=some (lobj its k):=hD.1
       rw [z,e1] at ho
       cases ho
       cases hd) (by intro p hp;exact absurd (show p∈([]:List (Addr×Obj))++[] from hp) (by simp))
    have hp':({ s8 with heap:=h' }:yah).heap.get? s2.heap.objs.size=some (lobj (its++[v]) k'):=by
     show h'.get? _=_
     rw [hp];simp
    have hkt:tn (i+1) h':=T.keep _ _ _ a1 fun b hb o e=>(hs.2 b (zbQ (hfl b hb))).trans e
    refine ⟨m',hm,i+1,xs++[y],its++[v],k',τ6,H8,BQ I9 hD.2.1 hp',hkt,a2,r3.append (.cons r8 .nil),?_,w8⟩
    rw [zaE]
    exact hz
 exact codeAny_compStart_list (loop _ rfl) (T.self X.A 0 _ _ _ (T.keep 0 _ _ st2 fun b _ o e=>old b o e) (loop _ rfl))
noncomputable def freeOk (env:Env) (scope:Scope):Bool:=scope.names.all fun p=>p.2 != .free||env.scope.names.lookup p.1==some .cell||env.scope.names.lookup p.1==some .free
theorem Inv.freeOk {H:Hp}{scope:Scope} (I:Inv X pins σ H s) (h:freeOk X.env scope=true):∀ n,(n,NameKind.free)∈scope.names→∃ c,X.env.cells.lookup n=some c:=fun n hn=>by
 have q:=zbe.mp h _ hn
 simp only [Bool.or_eq_true,beq_iff_eq,bne_iff_ne] at q
 refine I.ok.has n ?_
 rcases q with (q | q) | q
 ·exact absurd rfl q
 ·exact .inl q
 ·exact .inr q
def BH (caps:List (Option Nat)) (wi:TI) (g:TG) (tt:TT) (te:TE):TE:=fun σ H Q=>wi σ H fun J H1=>BF J g tt te (k7 caps σ) H1 fun xs H3=>∀ p,H3 p=none→Q (.ref p) (upd H3 p (.lst xs))
theorem dX {elt tg iter:Expr}{ifs:List Expr}{scope:Scope}{N:List Str}{caps:List (Option Nat)}{pos:Pos}{wi:TI}{g:TG}{tt:TT}{te:TE}
  (S:fy scope N) (hcap:l5 X.N X.env scope N caps=true) (hfr:L2.freeOk X.env scope=true) (hc:X.calm=true) (hi:PI X tg iter wi)
  (hg:∀ s₀ H₀ C fp,PG (nH X scope N s₀ H₀ C fp) tg g) (ht:∀ s₀ H₀ C fp,El (nH X scope N s₀ H₀ C fp) ifs tt) (he:∀ s₀ H₀ C fp,PE (nH X scope N s₀ H₀ C fp) elt te)
  (hs:∀ x,foldedSetIterable iter X.env x=pure x:=by intro _;rfl):PE X (.ListComp elt [⟨tg,iter,ifs,0⟩] scope pos) (BH caps wi g tt te):=by
 intro pins s σ H Q I h
 rw [eval_ListComp]
 refine wpAny_comprehension_free (use:=none) rfl hs (kZ (I.freeOk hfr)) S.kind (fun x hx hl=>hl ▸ S.names x hx) ?_
 refine b5 (hi pins s σ H _ I h) fun v s1 h1=>b5 h1 fun itv s2 h2 => ?_
 obtain ⟨it,fp,tn,J,H2,rfl,I2,T,st2,f2,hl⟩:=h2
 refine yu (RR:=fun acc C=>compPost (model X.prog X.w) X.A X.xe none (EP X pins σ Q) acc C) S hcap (I.freeOk hfr) hc hg ht he I2 T st2 f2 hl ?_
 intro D C m xs H3 s4 IT hD hn fC q
 refine ⟨m,hn,fun h' sb=>⟨.ref D,_,?_,rfl,q D hD⟩⟩
 exact IT.turned (t':=s4.toks) (it:=C) (fun b o hb e=>(sb.2 b hb).trans e) fC.1 fC.2.1 fC.2.2.2.1 fC.2.2.2.2.1 fC.2.2.2.2.2
end
noncomputable def G6 (x:Str):It:=⟨fun i _=>i<x.cps.size,fun i H v H'=>H'=H∧∃ c,x.cps[i]? = some c∧v = .str ⟨#[c]⟩,fun i _=>i=x.cps.size⟩
theorem lA {prog:yaj}{w:yak}{A:yal} (hh:A.handled=none) (I:Addr) (x:Str) (t:Tok):Walks prog w A I [I] [I] x.cps.size (SignAt x) (fun i h=>h.IsStrIter I (strIterType x) x t i):=by
 unfold strIterType
 split
 ·exact Walks.strAscii hh I x t
 ·exact Walks.strWide hh I x t
theorem vt {P:yaj}{w:yak}{K:yaE}{tg:Expr} (it:Addr) (x:Str) (t:Tok):Turn P w K tg (G6 x) [it] it (fun i h=>h.IsStrIter it (strIterType x) x t i) where
 mem:=by simp
 obj:=fun i h st b hb=>by
  have e:b=it:=by simpa using hb
  subst e
  obtain ⟨o,e,c,d⟩:=st
  exact ⟨o,e,fun v z=>by rw [d] at z;cases z⟩
 keep:=fun i h h' st k=>let ⟨o,ho,r⟩:=st;⟨o,k it (by simp) o ho,r⟩
 item:=by
  intro X hP hw hK hc i pins s σ H E I hf st hg
  subst hP hw hK
  obtain ⟨f0,f1,f2,f3,f4,f5⟩:=hf it (by simp)
  have W:=lA (prog:=X.prog) (w:=X.w) (I.ok.hd hc) it x t
  refine W.item i s _ _ hg st fun v h' tk hv st' kk => ?_
  obtain ⟨c,u,hcx,rfl⟩:=hv
  have I1:Inv X pins σ H { s with heap:=h',toks:=tk }:=I.turned (fun b o hb e=>kk b o (by simpa using hb) e) f0 f1 f3 f4 f5
  obtain ⟨o,ho,hcl,hda⟩:=id st'
  refine ⟨_,rfl,tE (s:={ s with heap:=h',toks:=tk }) ho hcl hda (by unfold strIterType;split <;> decide) ⟨.str ⟨#[c]⟩,H,I1,⟨u,rfl⟩,⟨rfl,c,hcx,rfl⟩,st',fun b hb=>(hf b hb).1⟩⟩
 done:=by
  intro X hP hw hK hc i pins s σ H E I hf st hg
  subst hP hw hK
  obtain ⟨f0,f1,f2,f3,f4,f5⟩:=hf it (by simp)
  have W:=lA (prog:=X.prog) (w:=X.w) (I.ok.hd hc) it x t
  have e:i=x.cps.size:=hg
  subst e
  exact W.done s _ _ st fun h' tk kk=>⟨rfl,I.turned (t':=tk) (fun b o hb e=>kk b o (by simpa using hb) e) f0 f1 f3 f4 f5⟩
 self:=fun A i s Q E st h=>by
  have st:s.heap.IsStrIter it (strIterType x) x t i:=st
  unfold strIterType at st
  split at st
  ·exact wpAny_pyIter_striter_ascii st h
  ·exact wpAny_pyIter_striter_wide st h
mutual
def bJ (K:yaE) (H:Hp):yam→V→Prop
 | .none,v=>v = .bP
 | .bool b,v=>v = .bl b
 | .int i,v=>v = .int i
 | .str x,v=>v = .str x
 | .list ds,v=>∃ a xs,v = .ref a∧cj K H a xs∧cZ K H ds xs
 | .tuple ds,v=>∃ a xs,v = .ref a∧ck K H a xs∧cZ K H ds xs
 | .dict _,_=>False
def cZ (K:yaE) (H:Hp):List yam→List V→Prop
 | [],xs=>xs=[]
 | d::ds,xs=>∃ x r,xs=x::r∧bJ K H d x∧cZ K H ds r
end
theorem ck.same {K:yaE}{H H':Hp}{a:Addr}{xs:List V} (e:∀ b o,H b=some o→H' b=some o) (h:ck K H a xs):ck K H' a xs:=by
 rcases h with (h | ⟨o,h⟩) | h
 ·exact .inl (.inl (e _ _ h))
 ·exact .inl (.inr ⟨o,e _ _ h⟩)
 ·exact .inr h
section
variable {X:Cx}{pins:List (Addr×Obj)}{σ:St}{H:Hp}{s:yah}
mutual
theorem Inv.reads (I:Inv X pins σ H s):∀ (d:yam) (v:V) (u:yai),bJ X.K H d v→RelV v u→∃ as,Reads s.heap u d as
 | .none,v,u,h,r=>by
  simp only [bJ] at h
  subst h
  cases r
  exact ⟨_,.none⟩
 | .bool b,v,u,h,r=>by
  simp only [bJ] at h
  subst h
  cases r
  exact ⟨_,.bool b⟩
 | .int i,v,u,h,r=>by
  simp only [bJ] at h
  subst h
  obtain ⟨t,rfl⟩:=r
  exact ⟨_,.int i t⟩
 | .str x,v,u,h,r=>by
  simp only [bJ] at h
  subst h
  obtain ⟨t,rfl⟩:=r
  exact ⟨_,.str x t⟩
 | .list ds,v,u,h,r=>by
  simp only [bJ] at h
  obtain ⟨a,xs,rfl,h2,h3⟩:=h
  cases r
  obtain ⟨its,rv,⟨o,n,e,hc,_,hd⟩,_⟩:=I.list h2
  obtain ⟨as,q⟩:=Inv.readsAll I ds xs its h3 rv
  exact ⟨_,.list e hc hd (by simpa using q)⟩
 | .tuple ds,v,u,h,r=>by
  simp only [bJ] at h
  obtain ⟨a,xs,rfl,h2,h3⟩:=h
  cases r
  obtain ⟨its,rv,⟨o,e,hc,n,hd⟩,_⟩:=I.tuple h2
  obtain ⟨as,q⟩:=Inv.readsAll I ds xs its h3 rv
  exact ⟨_,.tuple e hc hd (by simpa using q)⟩
 | .dict _,_,_,h,_=>by simp only [bJ] at h
theorem Inv.readsAll (I:Inv X pins σ H s):∀ (ds:List yam) (xs:List V) (us:List yai),cZ X.K H ds xs→Vals xs us→∃ as,ReadsAll s.heap us ds as
 | [],xs,us,h,r=>by
  simp only [cZ] at h
  subst h
  cases r
  exact ⟨_,.nil⟩
 | d::ds,xs,us,h,r=>by
  simp only [cZ] at h
  obtain ⟨x,rr,rfl,h2,h3⟩:=h
  cases r with
  | cons r1 r2 =>
   obtain ⟨as,q1⟩:=Inv.reads I d x _ h2 r1
   obtain ⟨bs,q2⟩:=Inv.readsAll I ds rr _ h3 r2
   exact ⟨_,.cons q1 q2⟩
end
theorem qC:fV X (binaryOp .Mult) (fun x y H Q=>∃ i n,x = .str i∧y = .int n∧MulOk i n∧Q (.str (Txt.mul i n)) H):=by
 intro pins s σ H x y v u Q I rx ry h
 obtain ⟨i,n,rfl,rfl,hk,q⟩:=h
 obtain ⟨t,rfl⟩:=rx
 obtain ⟨t',rfl⟩:=ry
 exact SB.mul hk fun t' k=>⟨.str _,H,I.tok _,⟨_,rfl⟩,q⟩
theorem CD:zo X (fun x lo hi H Q=>∃ y,x = .str y∧y.length≤yag∧Q (.str (Txt.slice y lo hi)) H):=by
 intro pins s σ H x v vl vu lo hi sl Q I rx hs pl pu h
 obtain ⟨y,rfl,hz,q⟩:=h
 obtain ⟨t,rfl⟩:=rx
 have fin:∀ (l u:Option (Int×Tok)),vl=partValue l→vu=partValue u→lo=l.map (·.1)→hi=u.map (·.1)→yar (model X.prog X.w) X.A (getItem (.str y t) (.ref sl)) (EP X pins σ Q) X.xe s:=fun l u e1 e2 e3 e4=>by
  obtain ⟨o,ho,hc,hd⟩:=hs
  refine wpAny_getItem_str_slice (l:=l) (u:=u) (st:=none) ⟨o,ho,hc,by rw [hd,e1,e2];rfl⟩ rfl ?_
  subst e3 e4
  exact post_val_or_str ⟨zbR (Txt.slice_le y _ _) hz,fun t' k=>⟨.str _,H,I.tok _,⟨_,rfl⟩,q⟩⟩
 refine ⟨"str",_,PySem.F.slot_str_getitem.lookup,typeIs_str _ _ _,?_⟩
 cases pl with
 | none =>
  cases pu with
  | none=>exact fin none none rfl rfl rfl rfl
  | int j tj=>exact fin none (some (j,tj)) rfl rfl rfl rfl
 | int i ti =>
  cases pu with
  | none=>exact fin (some (i,ti)) none rfl rfl rfl rfl
  | int j tj=>exact fin (some (i,ti)) (some (j,tj)) rfl rfl rfl rfl
theorem i0:∀ {ys:List Str}{its:List yai},Vals (ys.map V.str) its→StrsAre its ys
 | [],_,.nil=>.nil
 | y::ys,_,.cons r t=>by
  obtain ⟨tk,e⟩:=(show ∃ t,_=Value.str y t from r)
  subst e
  exact .cons y tk (i0 t)
end
noncomputable def notStar:Expr→Bool
 | .Starred _ _=>false
 | _=>true
theorem aM {e:Expr} (es:List Expr) (env:Env) (h:notStar e=true):yao (e::es) env=(false,eval e env)::yao es env:=by
 cases e <;> first | rfl | cases h
theorem dD {pos:Pos}{env:Env}:∀ (es:List Expr),es.all notStar=true→(yau pos (yao es env)).any (·.1)=false
 | [],_=>rfl
 | e::es,h=>by
  rw [zbD,zbm] at h
  rw [aM es env h.1]
  show (false||(yau pos (yao es env)).any (·.1))=false
  rw [dD es h.2];rfl
theorem oh {pos:Pos}{env:Env}:∀ (es:List Expr),es.all notStar=true→(yau pos (yao es env)).all (fun x => !x.1)=true
 | [],_=>rfl
 | e::es,h=>by
  rw [zbD,zbm] at h
  rw [aM es env h.1]
  show (true&&(yau pos (yao es env)).all (fun x => !x.1))=true
  rw [oh es h.2];rfl
section
variable {X:Cx}{e:Expr}{es:List Expr}{te:TE}{t:TA}{x:Str}{p pos:Pos}{id T:String}{r:List V→Hp→VK→Prop}
theorem ao (ha:PE X e te) (hr:PA X es t) (hs:notStar e=true:=by rfl):PA X (e::es) (vG te t):=Ad ha hr (aM es X.env hs)
theorem sG (hc:cg X (.builtin id) r) (hg:Gl X x) (hm:X.mg x=none) (hv:bootBuiltins x=some (.builtin id)) (ha:PA X (e::es) t) (hn:x ≠ "__name__" := by decide +kernel) (hdb:(x==("__debug__" : Str))=false:=by decide +kernel)
  (hs:(e::es).all notStar=true:=by rfl):PE X (.Call (.Name x p) (e::es) [] pos) (EM r t):=by
 have h2:=hs
 rw [zbD,zbm] at h2
 exact wY hc hg hm hv ha hn hdb (aM es X.env h2.1) (dD es h2.2)
theorem xg (hc:cg X (.type T) r) (hg:Gl X x) (hm:X.mg x=none) (hv:bootBuiltins x=some (.type T)) (ha:PA X (e::es) t) (hn:x ≠ "__name__" := by decide +kernel) (hdb:(x==("__debug__" : Str))=false:=by decide +kernel)
  (hs:(e::es).all notStar=true:=by rfl):PE X (.Call (.Name x p) (e::es) [] pos) (EM r t):=by
 have h2:=hs
 rw [zbD,zbm] at h2
 exact ux hc hg hm hv ha hn hdb (aM es X.env h2.1) (dD es h2.2)
end
structure Src (K:yaE) (mg:Str→Option yai) (x:Str) (ps:List Str) (st:Stmt):Prop where
 ex:∃ f fd,Cm K x x st f fd∧mg x=some (.ref f)∧Binds K fd ps []
structure Def (P:yaj) (w:yak) (K:yaE) (mg:Str→Option yai) (base:Heap) (k:Nat) (x:Str) (ps:List Str) (sp:Sp):Prop where
 ex:∃ f fd,fu P w K mg base qc k f fd ps sp∧mg x=some (.ref f)∧zby K (.ref f)=true∧Binds K fd ps []
section
variable {P:yaj}{w:yak}{K:yaE}{mg:Str→Option yai}{base:Heap}
theorem Src.def {x:Str}{st:Stmt}{N ps:List Str}{k:Nat}{sp:Sp} (F:Src K mg x ps st) (S:aP N ps (ak st)) (len:∀ vs H Q E,sp vs H Q E→vs.length=ps.length)
  (hbody:∀ (f:Addr) (cdv:yai) (A:yal) (outer:List Env) (s:yah) (H:Hp) (vs:List V) (Q:VK) (E:XK),bC k (A.deeper (envOfC x (ak st) s.heap.objs.size f cdv))→sp vs H Q E →
   ∃ t,pU (kX qc P w K mg base N x (ak st) f cdv A outer s H E).Du (bO st) t∧t { nx:=fun _ H'=>Q .bP H',rt:=Q } (start N vs) H):Def P w K mg base (k+1) x ps sp:=by
 obtain ⟨f,fd,F,hm,hb⟩:=F.ex
 exact ⟨f,fd,F.ok S len (hbody f),hm,F.kp,hb⟩
end
theorem Def.imp {P:yaj}{w:yak}{K:yaE}{mg:Str→Option yai}{base:Heap}{k:Nat}{x:Str}{ps:List Str}{sp sp':Sp} (D:Def P w K mg base k x ps sp) (h:∀ vs H Q E,sp' vs H Q E→sp vs H Q E):Def P w K mg base k x ps sp':=by
 obtain ⟨f,fd,F,hm,hk,hb⟩:=D.ex
 exact ⟨f,fd,F.imp h,hm,hk,hb⟩
section
variable {X:Cx}{e:Expr}{es:List Expr}{t:TA}{x:Str}{p pos:Pos}{k:Nat}{ps:List Str}{sp:Sp}
theorem cS (D:Def X.prog X.w X.K X.mg X.base k x ps sp) (hr:bC k X.A) (hg:Gl X x) (hx:Passes qc X E0) (ha:PA X (e::es) t) (hdb:(x==("__debug__" : Str))=false:=by decide +kernel) (hs:(e::es).all notStar=true:=by rfl) :
  PE X (.Call (.Name x p) (e::es) [] pos) (rQ sp [] E0 t):=by
 obtain ⟨f,fd,F,hm,hk,hb⟩:=D.ex
 have h2:=hs
 rw [zbD,zbm] at h2
 exact Ab F hr hg hm hk hb .nil hx ha hdb (aM es X.env h2.1) (dD es h2.2)
end
noncomputable def Gi (scope:Scope) (N:List Str):Bool :=
 (match scope.kind with | .function=>true | _=>false)&&decide N.Nodup&&scope.names.all fun y=>y.2 != .cell&&scope.names.lookup y.1==some y.2
theorem pN {scope:Scope}{N:List Str} (h:Gi scope N=true):fy scope N:=by
 unfold Gi at h
 rw [zbm,zbm] at h
 obtain ⟨⟨h1,h2⟩,h3⟩:=h
 have h3:=zbe.mp h3
 refine ⟨?_,of_decide_eq_true h2,fun y hy => ?_,fun y hy => ?_⟩
 ·cases e:scope.kind <;> rw [e] at h1 <;> first | rfl | cases h1
 ·have:=h3 y hy
  rw [zbm] at this
  simpa using this.1
 ·have:=h3 y hy
  rw [zbm] at this
  simpa using this.2
section
variable {X:Cx}{K:yaE}
variable {o e:Expr}{es:List Expr}{to:TE}{t:TA}{name:Str}{apos cpos:Pos}{T id:String}{r:V→List V→Hp→VK→Prop}
theorem Ac (pa:PlainAttrs T) (slot:Slot T name id) (hty:typeOf (.builtin id)=pure (.type "method_descriptor")) (hm:vg X id r) (ho:PE X o to)
  (hbase:attributeBase o name X.env (eval o X.env)=eval o X.env:=by rfl) (hline:(apos.endLine==cpos.line)=true:=by rfl) (hK:X.K=K:=by rfl):PE X (.Call (.Attribute o name apos) [] [] cpos) (Cy K T r to):=by
 subst hK;exact qB pa slot hty hm ho hbase hline
theorem Df (pa:PlainAttrs T) (slot:Slot T name id) (hty:typeOf (.builtin id)=pure (.type "method_descriptor")) (hm:vg X id r) (ho:PE X o to) (ha:PA X (e::es) t)
  (hbase:attributeBase o name X.env (eval o X.env)=eval o X.env:=by rfl) (hs:(e::es).all notStar=true:=by rfl) (hfew:decide ((e::es).length+0+0<30)=true:=by rfl)
  (hline:(apos.endLine==cpos.line)=true:=by rfl) (hK:X.K=K:=by rfl):PE X (.Call (.Attribute o name apos) (e::es) [] cpos) (G9 K T r to t):=by
 subst hK
 have h2:=hs
 rw [zbD,zbm] at h2
 refine cJ pa slot hty hm ho ha hbase ?_ hline (aM es X.env h2.1) (dD es h2.2)
 rw [oh _ hs]
 show (true&&true&&decide ((e::es).length+0+0<30))=true
 rw [hfew];rfl
end
end L2
set_option maxHeartbeats 400000
namespace PySem.W
open PySem PySem.Calls PyProof.Rows Builtin Builtin.ObjectAttr
noncomputable abbrev F5 (C:Addr) (od:Option Addr) (vs:Array yai):Obj:={ cls:=.ref C,dict:=od,data:=.fields vs }
end PySem.W
set_option maxHeartbeats 1000000
set_option maxHeartbeats 4000000
namespace J
open PySem PySem.Spec PyProof.Rows L2
section
variable {P:yaj}{w:yak}{K:yaE}{mg:Str→Option yai}{base:Heap}
theorem Eu {p:List yai→Prop} (h:∀ a,p [a]) (us:List yai) (e:us.length=1):p us:=by
 cases us with
 | nil=>cases e
 | cons a r =>
  have e:r=[]:=zaa (Nat.succ.inj e)
  subst e;exact h a
theorem Et {p:List yai→Prop} (h:∀ a b,p [a,b]) (us:List yai) (e:us.length=2):p us:=by
 cases us with
 | nil=>cases e
 | cons a r=>exact Eu (p:=fun r=>p (a::r)) (h a) r (Nat.succ.inj e)
theorem G0 {p:List yai→Prop} (h:∀ a b c,p [a,b,c]) (us:List yai) (e:us.length=3):p us:=by
 cases us with
 | nil=>cases e
 | cons a r=>exact Et (p:=fun r=>p (a::r)) (h a) r (Nat.succ.inj e)
theorem by4 {p:List yai→Prop} (h:∀ a b c d,p [a,b,c,d]) (us:List yai) (e:us.length=4):p us:=by
 cases us with
 | nil=>cases e
 | cons a r=>exact G0 (p:=fun r=>p (a::r)) (h a) r (Nat.succ.inj e)
theorem CB {x:Str}{st:Stmt}{f:Addr}{oc:yai}{od an:Option Addr}{osl:Array (Option yai)}{kV doc pm cdv ct:yai}{h:Heap}{ps:List Str} (X:K.In h) (G:h.Ns yaq mg)
  (a:zbX K yaq x=some (some (.ref f))) (l:K.lookup f=some ⟨oc,od,.func (zbW x x (cz st) (bO st) (ak st) .none kV doc pm an cdv ct),osl⟩)
  (c:zbz K cdv x=true) (k:zby K (.ref f)=true)
  (b:∀ (kV doc pm:yai) (an:Option Addr) (cdv ct:yai) (us:List yai),us.length=ps.length→yay (zbW x x (cz st) (bO st) (ak st) .none kV doc pm an cdv ct) ⟨us,[]⟩=pure (ps.zip us)):Src K mg x ps st :=
 ⟨f,_,qR (st:=st) l c k,zbL X G a,(qR (st:=st) l c k).binds b⟩
end
end J
namespace M
open PySem L2
inductive D where
 | bP | bl (b:Bool) | int (i:Int) | str (x:Str) | tup (ds:List D) | lst (ds:List D) | dct (ks:List Key) (ds:List D) | loc (n:Nat) | ty (n:String) | i6 (ns:List Int) | ju (xs:List Str) | fd | fn (a:Addr)
inductive MO where
 | lst (ds:List D) | dct (ks:List Key) (ds:List D) | feed (n:Nat) | ins (C:Addr) (ks:List Str) (ds:List D) | zk (F:Addr→List Addr→Heap→Prop) (ks:List D)
noncomputable def fd3 (l s d:Int):List (Key×V):=[(.inr "left",.int l),(.inr "seed",.int s),(.inr "drawn",.int d)]
abbrev aJ:=List (Option MO)
noncomputable def MO.d:MO→D
 | .lst ds=>.lst ds
 | .dct ks ds=>.dct ks ds
 | .feed _=>.fd
 | .ins _ _ _=>.fd
 | .zk _ _=>.fd
inductive R where
 | dat (d:D) | new (o:MO)
noncomputable def R.d:R→D
 | .dat d=>d
 | .new o=>o.d
theorem al {H:Hp}{p:Addr}{o:HO} (hp:H p=none):eF H (upd H p o):=fun b o' e=>by rw [aH (bg e hp)];exact e
structure Wd where
 B:Hp
 r:Nat→Option Addr
structure Wd.le (w w':Wd):Prop where
 b:eF w.B w'.B
 r:∀ n a,w.r n=some a→w'.r n=some a
theorem Wd.le.refl {w:Wd}:w.le w:=⟨eF.refl _,fun _ _ h=>h⟩
theorem Wd.le.trans {w w1 w2:Wd} (h:w.le w1) (g:w1.le w2):w.le w2:=⟨h.b.trans g.b,fun n a e=>g.r n a (h.r n a e)⟩
mutual
def Rep (K:yaE) (w:Wd):D→V→Prop
 | .bP,v=>v = .bP
 | .bl b,v=>v = .bl b
 | .int i,v=>v = .int i
 | .str x,v=>v = .str x
 | .ty n,v=>v = .ty n
 | .fd,v=>∃ a,v = .ref a
 | .fn a,v=>v = .ref a
 | .loc n,v=>∃ a,w.r n=some a∧v = .ref a
 | .tup ds,v=>∃ a xs,v = .ref a∧w.B a=some (.tup xs)∧aj K w ds xs
 | .ju ss,v=>∃ a,v = .ref a∧ck K w.B a (ss.map V.str)
 | .lst ds,v=>∃ a xs,v = .ref a∧w.B a=some (.lst xs)∧aj K w ds xs
 | .i6 ns,v=>∃ a,v = .ref a∧cj K w.B a (ns.map V.int)
 | .dct ks ds,v=>∃ a kvs,v = .ref a∧w.B a=some (.dK kvs)∧kvs.map (·.1)=ks∧aj K w ds (kvs.map (·.2))
def aj (K:yaE) (w:Wd):List D→List V→Prop
 | [],xs=>xs=[]
 | d::ds,xs=>∃ x r,xs=x::r∧Rep K w d x∧aj K w ds r
end
mutual
theorem Rep.le {K:yaE}{w w':Wd} (e:w.le w'):∀ (d:D) (v:V),Rep K w d v→Rep K w' d v
 | .bP,_,h=>by simpa [Rep] using h
 | .bl b,_,h=>by simpa [Rep] using h
 | .int i,_,h=>by simpa [Rep] using h
 | .str x,_,h=>by simpa [Rep] using h
 | .ty x,_,h=>by simpa [Rep] using h
 | .fd,_,h=>by simpa [Rep] using h
 | .fn _,_,h=>by simpa [Rep] using h
 | .loc n,v,h=>by
  simp only [Rep] at h ⊢
  obtain ⟨a,h1,h2⟩:=h
  exact ⟨a,e.r _ _ h1,h2⟩
 | .lst ds,v,h=>by
  simp only [Rep] at h ⊢
  obtain ⟨a,xs,h1,h2,h3⟩:=h
  exact ⟨a,xs,h1,e.b _ _ h2,aj.le e ds xs h3⟩
 | .i6 ns,v,h=>by
  simp only [Rep] at h ⊢
  obtain ⟨a,h1,h2⟩:=h
  exact ⟨a,h1,e.b.seq h2⟩
 | .tup ds,v,h=>by
  simp only [Rep] at h ⊢
  obtain ⟨a,xs,h1,h2,h3⟩:=h
  exact ⟨a,xs,h1,e.b _ _ h2,aj.le e ds xs h3⟩
 | .ju ns,v,h=>by
  simp only [Rep] at h ⊢
  obtain ⟨a,h1,h2⟩:=h
  exact ⟨a,h1,ck.same e.b h2⟩
 | .dct ks ds,v,h=>by
  simp only [Rep] at h ⊢
  obtain ⟨a,xs,h1,h2,h3,h4⟩:=h
  exact ⟨a,xs,h1,e.b _ _ h2,h3,aj.le e ds _ h4⟩
theorem aj.le {K:yaE}{w w':Wd} (e:w.le w'):∀ (ds:List D) (xs:List V),aj K w ds xs→aj K w' ds xs
 | [],_,h=>by simpa [aj] using h
 | d::ds,xs,h=>by
  simp only [aj] at h ⊢
  obtain ⟨x,r,h1,h2,h3⟩:=h
  exact ⟨x,r,h1,Rep.le e d x h2,aj.le e ds r h3⟩
end
section
variable {K:yaE}{w w':Wd}
theorem aj.nil:aj K w [] []:=by simp [aj]
theorem aj.cons {d:D}{v:V}{ds:List D}{vs:List V} (h:Rep K w d v) (t:aj K w ds vs):aj K w (d::ds) (v::vs):=by
 simp only [aj];exact ⟨v,vs,rfl,h,t⟩
theorem aj.length:∀ {ds:List D}{vs:List V},aj K w ds vs→vs.length=ds.length
 | [],_,h=>by simp only [aj] at h;subst h;rfl
 | d::ds,vs,h=>by
  simp only [aj] at h
  obtain ⟨x,r,rfl,_,h⟩:=h
  simp [aj.length h]
theorem aj.get:∀ {ds:List D}{vs:List V}{i:Nat}{d:D},aj K w ds vs→ds[i]? = some d→∃ v,vs[i]? = some v∧Rep K w d v
 | [],_,_,_,_,e=>by simp at e
 | d::ds,vs,0,d',h,e=>by
  simp only [aj] at h
  obtain ⟨x,r,rfl,h1,h⟩:=h
  simp at e;subst e
  exact ⟨x,rfl,h1⟩
 | d::ds,vs,i+1,d',h,e=>by
  simp only [aj] at h
  obtain ⟨x,r,rfl,h1,h⟩:=h
  obtain ⟨v,e1,e2⟩:=aj.get (i:=i) h (by simpa using e)
  exact ⟨v,by simpa using e1,e2⟩
theorem aj.append:∀ {ds es:List D}{vs us:List V},aj K w ds vs→aj K w es us→aj K w (ds++es) (vs++us)
 | [],_,_,_,h,g=>by simp only [aj] at h;subst h;exact g
 | d::ds,es,vs,us,h,g=>by
  simp only [aj] at h
  obtain ⟨x,r,rfl,h1,h⟩:=h
  exact aj.cons h1 (aj.append h g)
theorem aj.snoc {ds:List D}{vs:List V}{d:D}{v:V} (h:aj K w ds vs) (g:Rep K w d v):aj K w (ds++[d]) (vs++[v]):=h.append (.cons g .nil)
theorem aj.take:∀ (n:Nat) {ds:List D}{vs:List V},aj K w ds vs→aj K w (ds.take n) (vs.take n)
 | 0,_,_,_=>by simp [aj]
 | n+1,[],_,h=>by simp only [aj] at h;subst h;simp [aj]
 | n+1,d::ds,vs,h=>by
  simp only [aj] at h
  obtain ⟨x,r,rfl,h1,h⟩:=h
  exact aj.cons h1 (aj.take n h)
theorem aj.drop:∀ (n:Nat) {ds:List D}{vs:List V},aj K w ds vs→aj K w (ds.drop n) (vs.drop n)
 | 0,_,_,h=>h
 | n+1,[],_,h=>by simp only [aj] at h;subst h;simp [aj]
 | n+1,d::ds,vs,h=>by
  simp only [aj] at h
  obtain ⟨x,r,rfl,h1,h⟩:=h
  exact aj.drop n h
end
def kF (K:yaE) (w:Wd):MO→HO→Prop
 | .lst ds,u=>∃ xs,u = .lst xs∧aj K w ds xs
 | .dct ks ds,u=>∃ kvs,u = .dK kvs∧kvs.map (·.1)=ks∧aj K w ds (kvs.map (·.2))
 | .feed n,u=>∃ l s:Int,u = .dK (fd3 l s n)∧0≤l∧0≤s∧s<1000003
 | .ins C ks ds,u=>∃ dx fs,u = .ins C dx fs∧fs.map (·.1)=ks∧aj K w ds (fs.map (·.2))
 | .zk F ks,u=>∃ (a:Addr) (bs:List Addr),u = .ext (F a bs)∧aj K w ks (bs.map V.ref)
theorem kF.le {K:yaE}{w w':Wd} (e:w.le w'):∀ {o:MO}{u:HO},kF K w o u→kF K w' o u
 | .lst ds,u,⟨xs,h1,h2⟩=>⟨xs,h1,h2.le e⟩
 | .dct ks ds,u,⟨xs,h1,h2,h3⟩=>⟨xs,h1,h2,h3.le e⟩
 | .feed n,u,h=>h
 | .ins C ks ds,u,⟨dx,fs,h1,h2,h3⟩=>⟨dx,fs,h1,h2,h3.le e⟩
 | .zk F ks,u,⟨a,bs,h1,h2⟩=>⟨a,bs,h1,h2.le e⟩
structure Ok (K:yaE) (w:Wd) (H:Hp) (S:aJ):Prop where
 base:eF w.B H
 live:∀ n o,S[n]? = some (some o)→∃ a u,w.r n=some a∧w.B a=none∧H a=some u∧kF K w o u
 inj:∀ n m o o',S[n]? = some (some o)→S[m]? = some (some o')→w.r n=w.r m→n=m
 top:∀ n,S.length≤n→w.r n=none
def vf (K:yaE) (w:Wd) (H:Hp) (S:aJ):R→V→Prop
 | .dat d,v=>Rep K w d v
 | .new o,v=>∃ a u,v = .ref a∧w.B a=none∧H a=some u∧kF K w o u∧∀ n o',S[n]? = some (some o')→w.r n≠some a
def cN (K:yaE) (w:Wd) (δ:List (Option D)) (σ:St):Prop:=δ.length=σ.length∧∀ (i:Nat) (d:D),δ[i]? = some (some d)→∃ v,σ[i]? = some (some v)∧Rep K w d v
theorem cN.le {K:yaE}{w w':Wd}{δ:List (Option D)}{σ:St} (h:cN K w δ σ) (e:w.le w'):cN K w' δ σ:=⟨h.1,fun i d q=>by
 obtain ⟨v,h1,h2⟩:=h.2 i d q
 exact ⟨v,h1,h2.le e⟩⟩
theorem cN.set {K:yaE}{w:Wd}{δ:List (Option D)}{σ:St}{d:D}{v:V} (h:cN K w δ σ) (g:Rep K w d v) (i:Nat):cN K w (δ.set i (some d)) (σ.set i (some v)):=by
 refine ⟨by simp [h.1],fun j e q => ?_⟩
 by_cases hij:i=j
 ·subst hij
  rw [zaS] at q ⊢
  rw [yIp rfl] at q ⊢
  by_cases hl:i<δ.length
  ·rw [yIp hl] at q
   rw [yIp (by rw [← h.1];exact hl)]
   have:d=e:=by simpa using q
   subst this
   exact ⟨v,rfl,g⟩
  ·rw [yIn hl] at q;cases q
 ·rw [zat hij] at q ⊢
  exact h.2 j e q
section
variable {K:yaE}{w w':Wd}{H H':Hp}{S S':aJ}
theorem freeze {r:R}{v:V} (k:Ok K w H S) (h:vf K w H S r v):∃ w',w.le w'∧Ok K w' H S∧Rep K w' r.d v:=by
 cases r with
 | dat d=>exact ⟨w,.refl,k,h⟩
 | new o =>
  obtain ⟨a,u,rfl,hb,ha,ho,hn⟩:=h
  have le:w.le ⟨upd w.B a u,w.r⟩:=⟨al hb,fun _ _ e=>e⟩
  refine ⟨⟨upd w.B a u,w.r⟩,le,⟨fun b o' e => ?_,fun n o' e => ?_,k.inj,k.top⟩,?_⟩
  ·by_cases hba:b=a
   ·subst hba
    have e:upd w.B b u b=some o':=e
    rw [bH] at e;rw [ha];exact e
   ·have e:upd w.B a u b=some o':=e
    rw [aH hba] at e;exact k.base b o' e
  ·obtain ⟨a',u',h1,h2,h3,h4⟩:=k.live n o' e
   have:a'≠a:=by intro z;subst z;exact hn n o' e h1
   exact ⟨a',u',h1,by show upd w.B a u a'=none;rw [aH this];exact h2,h3,h4.le le⟩
  ·cases o with
   | lst ds =>
    obtain ⟨xs,rfl,h⟩:=ho
    show Rep K _ (.lst ds) _
    simp only [Rep]
    exact ⟨a,xs,rfl,bH,h.le le⟩
   | dct ks ds =>
    obtain ⟨kvs,rfl,h1,h⟩:=ho
    show Rep K _ (.dct ks ds) _
    simp only [Rep]
    exact ⟨a,kvs,rfl,bH,h1,h.le le⟩
   | feed n =>
    show Rep K _ .fd _
    simp only [Rep]
    exact ⟨a,rfl⟩
   | ins C ks ds =>
    show Rep K _ .fd _
    simp only [Rep]
    exact ⟨a,rfl⟩
   | zk F ks =>
    show Rep K _ .fd _
    simp only [Rep]
    exact ⟨a,rfl⟩
theorem store {o:MO}{v:V} (k:Ok K w H S) (h:vf K w H S (.new o) v):∃ w',w.le w'∧Ok K w' H (S++[some o])∧Rep K w' (.loc S.length) v:=by
 obtain ⟨a,u,rfl,hb,ha,ho,hn⟩:=h
 let r':Nat→Option Addr:=fun n=>if n=S.length then some a else w.r n
 have le:w.le ⟨w.B,r'⟩:=⟨eF.refl _,fun n b e=>by
  have:n≠S.length:=by
   intro z;subst z
   rw [k.top _ (zca _)] at e;cases e
  show (if n=S.length then some a else w.r n)=some b
  rw [yIn this];exact e⟩
 have at_:∀ n o',(S++[some o])[n]? = some (some o')→(n=S.length∧o'=o)∨(n<S.length∧S[n]? = some (some o')):=fun n o' e=>by
  by_cases hl:n<S.length
  ·rw [zad hl] at e
   exact .inr ⟨hl,e⟩
  ·rw [zab (by lia)] at e
   have:n - S.length=0:=by
    cases q:n - S.length with
    | zero=>rfl
    | succ j=>rw [q] at e;simp at e
   rw [this] at e
   have e:o=o':=by simpa using e
   exact .inl ⟨by lia,e.symm⟩
 refine ⟨⟨w.B,r'⟩,le,⟨k.base,fun n o' e => ?_,fun n m o1 o2 e1 e2 e => ?_,fun n hn => ?_⟩,?_⟩
 ·rcases at_ n o' e with ⟨rfl,rfl⟩ | ⟨hl,e⟩
  ·exact ⟨a,u,by show (if _ then _ else _)=_;rw [yIp rfl],hb,ha,ho.le le⟩
  ·obtain ⟨a',u',h1,h2,h3,h4⟩:=k.live n o' e
   exact ⟨a',u',le.r _ _ h1,h2,h3,h4.le le⟩
 ·rcases at_ n o1 e1 with ⟨rfl,rfl⟩ | ⟨hl,q1⟩
  ·rcases at_ m o2 e2 with ⟨rfl,rfl⟩ | ⟨hl2,q2⟩
   ·rfl
   ·exfalso
    have e:(if S.length=S.length then some a else w.r S.length)=(if m=S.length then some a else w.r m):=e
    rw [yIp rfl,yIn (by lia)] at e
    exact hn m o2 q2 e.symm
  ·rcases at_ m o2 e2 with ⟨rfl,rfl⟩ | ⟨hl2,q2⟩
   ·exfalso
    have e:(if n=S.length then some a else w.r n)=(if S.length=S.length then some a else w.r S.length):=e
    rw [yIp rfl,yIn (by lia)] at e
    exact hn n o1 q1 e
   ·have e:(if n=S.length then some a else w.r n)=(if m=S.length then some a else w.r m):=e
    rw [yIn (by lia),yIn (by lia)] at e
    exact k.inj n m o1 o2 q1 q2 e
 ·rw [zaE] at hn
  have:n≠S.length:=by simp at hn;lia
  show (if n=S.length then some a else w.r n)=none
  rw [yIn this]
  exact k.top n (by simp at hn;lia)
 ·simp only [Rep]
  exact ⟨a,by show (if _ then _ else _)=_;rw [yIp rfl],rfl⟩
theorem Ok.alloc {p:Addr}{o:HO} (k:Ok K w H S) (hp:H p=none):Ok K w (upd H p o) S :=
 ⟨k.base.trans (al hp),fun n o' e=>by
  obtain ⟨a,u,h1,h2,h3,h4⟩:=k.live n o' e
  exact ⟨a,u,h1,h2,al hp _ _ h3,h4⟩,k.inj,k.top⟩
theorem Ok.free {p:Addr} (k:Ok K w H S) (hp:H p=none):w.B p=none:=k.base.free hp
theorem Ok.fresh {p:Addr}{o:HO}{m:MO} (k:Ok K w H S) (hp:H p=none) (h:kF K w m o):vf K w (upd H p o) S (.new m) (.ref p) :=
 ⟨p,o,rfl,k.free hp,bH,h,fun n o' e z=>by
  obtain ⟨a,u,h1,h2,h3,h4⟩:=k.live n o' e
  rw [z] at h1;cases h1
  rw [hp] at h3;cases h3⟩
theorem Ok.jU {p:Addr}{ds:List D}{xs:List V} (k:Ok K w H S) (hp:H p=none) (h:aj K w ds xs):∃ w',w.le w'∧Ok K w' (upd H p (.tup xs)) S∧Rep K w' (.tup ds) (.ref p):=by
 have hb:=k.free hp
 have le:w.le ⟨upd w.B p (.tup xs),w.r⟩:=⟨al hb,fun _ _ e=>e⟩
 refine ⟨⟨upd w.B p (.tup xs),w.r⟩,le,⟨fun b o e => ?_,fun n o e => ?_,k.inj,k.top⟩,?_⟩
 ·by_cases hbp:b=p
  ·subst hbp
   have e:upd w.B b (.tup xs) b=some o:=e
   rw [bH] at e ⊢;exact e
  ·have e:upd w.B p (.tup xs) b=some o:=e
   rw [aH hbp] at e ⊢;exact k.base b o e
 ·obtain ⟨a,u,h1,h2,h3,h4⟩:=k.live n o e
  have hne:a≠p:=bg h3 hp
  exact ⟨a,u,h1,by show upd w.B p _ a=none;rw [aH hne];exact h2,by rw [aH hne];exact h3,h4.le le⟩
 ·simp only [Rep]
  exact ⟨p,xs,rfl,bH,h.le le⟩
theorem Ok.put {n:Nat}{a:Addr}{o o':MO}{u':HO} (k:Ok K w H S) (e:S[n]? = some (some o)) (ha:w.r n=some a) (h:kF K w o' u'):Ok K w (upd H a u') (S.set n (some o')):=by
 have hn:n<S.length:=by
  rcases zbV n S.length with h | h
  ·exact h
  ·rw [zan h] at e;cases e
 have at_:∀ m q,(S.set n (some o'))[m]? = some (some q)→(m=n∧q=o')∨(m≠n∧S[m]? = some (some q)):=fun m q z=>by
  by_cases hm:n=m
  ·subst hm
   rw [zaS,yIp rfl,yIp hn] at z
   have z:o'=q:=by simpa using z
   exact .inl ⟨rfl,z.symm⟩
  ·rw [zat hm] at z
   exact .inr ⟨fun y=>hm y.symm,z⟩
 obtain ⟨a0,u0,h1,h2,h3,_⟩:=k.live n o e
 rw [ha] at h1;cases h1
 refine ⟨fun b q z => ?_,fun m q z => ?_,fun m l q q' z z' y => ?_,fun m hm=>k.top m (by simpa using hm)⟩
 ·rw [aH (by intro y;subst y;rw [h2] at z;cases z)]
  exact k.base b q z
 ·rcases at_ m q z with ⟨rfl,rfl⟩ | ⟨hm,z⟩
  ·exact ⟨a,u',ha,h2,bH,h⟩
  ·obtain ⟨b,u,g1,g2,g3,g4⟩:=k.live m q z
   have:b≠a:=by
    intro y;subst y
    exact hm (k.inj m n q o z e (g1.trans ha.symm))
   exact ⟨b,u,g1,g2,by rw [aH this];exact g3,g4⟩
 ·have old:∀ m q,(S.set n (some o'))[m]? = some (some q)→∃ q0,S[m]? = some (some q0):=fun m q z=>by
   rcases at_ m q z with ⟨rfl,rfl⟩ | ⟨hm,z⟩
   ·exact ⟨o,e⟩
   ·exact ⟨q,z⟩
  obtain ⟨q0,z0⟩:=old m q z
  obtain ⟨q1,z1⟩:=old l q' z'
  exact k.inj m l q0 q1 z0 z1 y
end
noncomputable def aU (S:aJ):D→D
 | .loc n=>match S[n]? with
  | some (some o)=>o.d
  | _=>.loc n
 | d=>d
section
variable {K:yaE}{w:Wd}{H:Hp}{S:aJ}{v:V}
theorem bq {d:D}{ds:List D} (k:Ok K w H S) (h:Rep K w d v) (e:aU S d = .lst ds):∃ a xs,v = .ref a∧H a=some (.lst xs)∧aj K w ds xs:=by
 cases d with
 | loc n =>
  simp only [Rep] at h
  obtain ⟨a,h1,rfl⟩:=h
  simp only [aU] at e
  split at e
  next o q =>
   obtain ⟨a',u,g1,g2,g3,g4⟩:=k.live n o q
   rw [h1] at g1;cases g1
   cases o with
   | lst es =>
    have:es=ds:=by simpa [MO.d] using e
    subst this
    obtain ⟨xs,rfl,g⟩:=g4
    exact ⟨a,xs,rfl,g3,g⟩
   | dct ks es=>simp [MO.d] at e
   | feed n=>simp [MO.d] at e
   | ins C ks ds=>simp [MO.d] at e
   | zk F ks=>simp [MO.d] at e
  next=>cases e
 | lst es =>
  have:es=ds:=by simpa [aU] using e
  subst this
  simp only [Rep] at h
  obtain ⟨a,xs,h1,h2,h3⟩:=h
  exact ⟨a,xs,h1,k.base _ _ h2,h3⟩
 | _=>simp [aU] at e
theorem b6 {d:D}{ds:List D} (k:Ok K w H S) (h:Rep K w d v) (e:aU S d = .tup ds):∃ a xs,v = .ref a∧H a=some (.tup xs)∧aj K w ds xs:=by
 cases d with
 | loc n =>
  simp only [aU] at e
  split at e
  next o q=>cases o <;> simp [MO.d] at e
  next=>cases e
 | tup es =>
  have:es=ds:=by simpa [aU] using e
  subst this
  simp only [Rep] at h
  obtain ⟨a,xs,h1,h2,h3⟩:=h
  exact ⟨a,xs,h1,k.base _ _ h2,h3⟩
 | _=>simp [aU] at e
theorem mL {d:D}{ks:List Key}{ds:List D} (k:Ok K w H S) (h:Rep K w d v) (e:aU S d = .dct ks ds):∃ a kvs,v = .ref a∧H a=some (.dK kvs)∧kvs.map (·.1)=ks∧aj K w ds (kvs.map (·.2)):=by
 cases d with
 | loc n =>
  simp only [Rep] at h
  obtain ⟨a,h1,rfl⟩:=h
  simp only [aU] at e
  split at e
  next o q =>
   obtain ⟨a',u,g1,g2,g3,g4⟩:=k.live n o q
   rw [h1] at g1;cases g1
   cases o with
   | lst es=>simp [MO.d] at e
   | feed n=>simp [MO.d] at e
   | ins C ks ds=>simp [MO.d] at e
   | zk F ks=>simp [MO.d] at e
   | dct ks' es =>
    have:ks'=ks∧es=ds:=by simpa [MO.d] using e
    obtain ⟨rfl,rfl⟩:=this
    obtain ⟨kvs,rfl,g⟩:=g4
    exact ⟨a,kvs,rfl,g3,g⟩
  next=>cases e
 | dct ks' es =>
  have:ks'=ks∧es=ds:=by simpa [aU] using e
  obtain ⟨rfl,rfl⟩:=this
  simp only [Rep] at h
  obtain ⟨a,xs,h1,h2,h3⟩:=h
  exact ⟨a,xs,h1,k.base _ _ h2,h3⟩
 | _=>simp [aU] at e
end
abbrev bQ:=List (Option D)
abbrev AK:=R→aJ→Prop
abbrev AE:=bQ→aJ→AK→Prop
abbrev AT:=bQ→aJ→(Bool→aJ→Prop)→Prop
abbrev AA:=bQ→aJ→(List D→aJ→Prop)→Prop
abbrev AO:=bQ→aJ→(Option Int→aJ→Prop)→Prop
structure p7 where
 nx:bQ→aJ→Prop
 rt:AK
 bk:bQ→aJ→Prop:=fun _ _=>False
 ct:bQ→aJ→Prop:=fun _ _=>False
abbrev AS:=p7→bQ→aJ→Prop
abbrev AG:=D→bQ→aJ→(bQ→aJ→Prop)→Prop
abbrev zu:=List D→bQ→aJ→(bQ→aJ→Prop)→Prop
abbrev AI:=bQ→aJ→(List D→(aJ→Prop)→aJ→Prop)→Prop
abbrev A2:=D→D→aJ→AK→Prop
abbrev A1:=D→aJ→AK→Prop
abbrev AN:=List D→aJ→AK→Prop
section
variable (K:yaE) (w:Wd)
def dj (Qa:AK) (Q:VK):Prop:=∀ r S' v w' H',w.le w'→Ok K w' H' S'→vf K w' H' S' r v→Qa r S'→Q v H'
def ue (Qa:Bool→aJ→Prop) (Q:Bool→Hp→Prop):Prop:=∀ b S' w' H',w.le w'→Ok K w' H' S'→Qa b S'→Q b H'
def GH (Qa:List D→aJ→Prop) (Q:List V→Hp→Prop):Prop:=∀ ds S' vs w' H',w.le w'→Ok K w' H' S'→aj K w' ds vs→Qa ds S'→Q vs H'
def GF (Qa:Option Int→aJ→Prop) (Q:Option Int→Hp→Prop):Prop:=∀ i S' w' H',w.le w'→Ok K w' H' S'→Qa i S'→Q i H'
def iO (Qa:bQ→aJ→Prop) (Q:St→Hp→Prop):Prop:=∀ δ S' σ w' H',w.le w'→Ok K w' H' S'→cN K w' δ σ→Qa δ S'→Q σ H'
structure ud (Da:p7) (D:Ends):Prop where
 nx:iO K w Da.nx D.nx
 rt:dj K w Da.rt D.rt
 bk:iO K w Da.bk D.bk
 ct:iO K w Da.ct D.ct
structure GC (J:It) (ds:List D) (P:aJ→Prop):Prop where
 go:∀ i H S w' d,w.le w'→Ok K w' H S→P S→ds[i]? = some d→J.go i H
 vm:∀ i H S w' d x H',w.le w'→Ok K w' H S→P S→ds[i]? = some d→J.vm i H x H'→∃ w3,w'.le w3∧Ok K w3 H' S∧Rep K w3 d x
 stop:∀ i H S w',w.le w'→Ok K w' H S→P S→i=ds.length→J.stop i H
def GJ (Qa:List D→(aJ→Prop)→aJ→Prop) (R:It→Hp→Prop):Prop:=∀ ds P S' J w' H',w.le w'→Ok K w' H' S'→GC K w' J ds P→Qa ds P S'→R J H'
end
section
variable {K:yaE}{w w':Wd}
theorem dj.le {Qa:AK}{Q:VK} (h:dj K w Qa Q) (e:w.le w'):dj K w' Qa Q:=fun r S v w2 H l=>h r S v w2 H (e.trans l)
theorem ue.le {Qa}{Q} (h:ue K w Qa Q) (e:w.le w'):ue K w' Qa Q:=fun r S w2 H l=>h r S w2 H (e.trans l)
theorem iO.le {Qa}{Q} (h:iO K w Qa Q) (e:w.le w'):iO K w' Qa Q:=fun r S v w2 H l=>h r S v w2 H (e.trans l)
theorem ud.le {Da:p7}{D:Ends} (h:ud K w Da D) (e:w.le w'):ud K w' Da D:=⟨h.nx.le e,h.rt.le e,h.bk.le e,h.ct.le e⟩
end
section
variable (K:yaE)
def bu (a:AE):TE:=fun σ H Q=>∃ w δ S Qa,Ok K w H S∧cN K w δ σ∧a δ S Qa∧dj K w Qa Q
def eE (a:AT):TT:=fun σ H Q=>∃ w δ S Qa,Ok K w H S∧cN K w δ σ∧a δ S Qa∧ue K w Qa Q
def iU (a:AA):TA:=fun σ H Q=>∃ w δ S Qa,Ok K w H S∧cN K w δ σ∧a δ S Qa∧GH K w Qa Q
def yq (a:AO):TO:=fun σ H Q=>∃ w δ S Qa,Ok K w H S∧cN K w δ σ∧a δ S Qa∧GF K w Qa Q
def eZ (a:AS):TS:=fun D σ H=>∃ w δ S Da,Ok K w H S∧cN K w δ σ∧a Da δ S∧ud K w Da D
def qZ (a:AG):TG:=fun x σ H Q=>∃ w d δ S Qa,Ok K w H S∧cN K w δ σ∧Rep K w d x∧a d δ S Qa∧iO K w Qa Q
def pC (a:zu):Bp:=fun xs σ H Q=>∃ w ds δ S Qa,Ok K w H S∧cN K w δ σ∧aj K w ds xs∧a ds δ S Qa∧iO K w Qa Q
def yr (a:AI):TI:=fun σ H R=>∃ w δ S Qa,Ok K w H S∧cN K w δ σ∧a δ S Qa∧GJ K w Qa R
def yt (a:A2):R2:=fun x y H Q=>∃ w d e S Qa,Ok K w H S∧Rep K w d x∧Rep K w e y∧a d e S Qa∧dj K w Qa Q
def D4 (a:AN):List V→Hp→VK→Prop:=fun xs H Q=>∃ w ds S Qa,Ok K w H S∧aj K w ds xs∧a ds S Qa∧dj K w Qa Q
def D5 (a:D→List D→aJ→AK→Prop):V→List V→Hp→VK→Prop:=fun x xs H Q=>∃ w d ds S Qa,Ok K w H S∧Rep K w d x∧aj K w ds xs∧a d ds S Qa∧dj K w Qa Q
def aF (a:AN):Sp:=fun vs H Q _=>D4 K a vs H Q
end
structure GE (X:Cx) (e:Expr) (a:AE):Prop where
 p:PE X e (bu X.K a)
structure GT (X:Cx) (e:Expr) (a:AT):Prop where
 p:PT X e (eE X.K a)
structure GW (X:Cx) (e:Expr) (a:AT):Prop where
 p:PW X e (eE X.K a)
structure GA (X:Cx) (e:List Expr) (a:AA):Prop where
 p:PA X e (iU X.K a)
structure GO (X:Cx) (e:Option Expr) (a:AO):Prop where
 p:PO X e (yq X.K a)
structure GS (X:Cx) (s:Stmt) (a:AS):Prop where
 p:PS X s (eZ X.K a)
structure zq (X:Cx) (s:List Stmt) (a:AS):Prop where
 p:pU X s (eZ X.K a)
structure GG (X:Cx) (e:Expr) (a:AG):Prop where
 p:PG X e (qZ X.K a)
structure G7 (X:Cx) (e:List Expr) (a:zu):Prop where
 p:Em X e (pC X.K a)
structure GI (X:Cx) (tg e:Expr) (a:AI):Prop where
 p:PI X tg e (yr X.K a)
structure Ir (X:Cx) (e:List Expr) (a:AT):Prop where
 p:El X e (eE X.K a)
structure qb (X:Cx) (f:yai→yai→Sem yai) (a:A2):Prop where
 p:fV X f (yt X.K a)
structure Bw (X:Cx) (f:yai) (a:AN):Prop where
 p:cg X f (D4 X.K a)
structure IM (X:Cx) (a:A2):Prop where
 p:zp X (yt X.K a)
section
variable {X:Cx}
theorem mE {e:Expr}{t u:TE} (h:PE X e t) (m:∀ σ H Q,u σ H Q→t σ H Q):PE X e u:=fun pins s σ H Q I q=>h pins s σ H Q I (m σ H Q q)
theorem mT {e:Expr}{t u:TT} (h:PT X e t) (m:∀ σ H Q,u σ H Q→t σ H Q):PT X e u:=fun pins s σ H Q I q=>h pins s σ H Q I (m σ H Q q)
theorem mW {e:Expr}{t u:TT} (h:PW X e t) (m:∀ σ H Q,u σ H Q→t σ H Q):PW X e u:=fun wh pins s σ H Q I q=>h wh pins s σ H Q I (m σ H Q q)
theorem mA {e:List Expr}{t u:TA} (h:PA X e t) (m:∀ σ H Q,u σ H Q→t σ H Q):PA X e u:=fun pos pins s σ H Q I q=>h pos pins s σ H Q I (m σ H Q q)
theorem mO {e:Option Expr}{t u:TO} (h:PO X e t) (m:∀ σ H Q,u σ H Q→t σ H Q):PO X e u:=fun pins s σ H Q I q=>h pins s σ H Q I (m σ H Q q)
theorem mS {e:Stmt}{t u:TS} (h:PS X e t) (m:∀ D σ H,u D σ H→t D σ H):PS X e u:=fun pins s σ H D I q=>h pins s σ H D I (m D σ H q)
theorem IB {e:List Stmt}{t u:TS} (h:pU X e t) (m:∀ D σ H,u D σ H→t D σ H):pU X e u:=fun pins s σ H D I q=>h pins s σ H D I (m D σ H q)
theorem mG {e:Expr}{t u:TG} (h:PG X e t) (m:∀ x σ H Q,u x σ H Q→t x σ H Q):PG X e u:=fun pins s σ H x v Q I r q=>h pins s σ H x v Q I r (m x σ H Q q)
theorem IC {e:List Expr}{t u:Bp} (h:Em X e t) (m:∀ x σ H Q,u x σ H Q→t x σ H Q):Em X e u:=fun pins s σ H x v Q I r q=>h pins s σ H x v Q I r (m x σ H Q q)
theorem mI {g e:Expr}{t u:TI} (h:PI X g e t) (m:∀ σ H R,u σ H R→t σ H R):PI X g e u:=fun pins s σ H R I q=>h pins s σ H R I (m σ H R q)
theorem mTs {e:List Expr}{t u:TT} (h:El X e t) (m:∀ σ H Q,u σ H Q→t σ H Q):El X e u:=fun pins s σ H Q I q=>h pins s σ H Q I (m σ H Q q)
theorem m2 {f:yai→yai→Sem yai}{t u:R2} (h:fV X f t) (m:∀ x y H Q,u x y H Q→t x y H Q):fV X f u:=fun pins s σ H x y v u Q I r r' q=>h pins s σ H x y v u Q I r r' (m x y H Q q)
theorem mC {f:yai}{t u:List V→Hp→VK→Prop} (h:cg X f t) (m:∀ x H Q,u x H Q→t x H Q):cg X f u:=fun pins s σ H x v Q I r q=>h pins s σ H x v Q I r (m x H Q q)
end
def fU (i:Nat):AE:=fun δ S Q=>∃ d,δ[i]? = some (some d)∧Q (.dat d) S
def aC (d:D):AE:=fun _ S Q=>Q (.dat d) S
def qa (r:A2) (a b:AE):AE:=fun δ S Q=>a δ S fun x S1=>b δ S1 fun y S2=>r x.d y.d S2 Q
def aUn (r:A1) (a:AE):AE:=fun δ S Q=>a δ S fun x S1=>r x.d S1 Q
def nQ:AA:=fun _ S Q=>Q [] S
def iN (a:AE) (b:AA):AA:=fun δ S Q=>a δ S fun x S1=>b δ S1 fun xs S2=>Q (x.d::xs) S2
def Bh (a:AA):AE:=fun δ S Q=>a δ S fun ds S1=>ds.length≤yag∧Q (.dat (.tup ds)) S1
def Bl (a:AA):AE:=fun δ S Q=>a δ S fun ds S1=>ds.length≤yag∧Q (.new (.lst ds)) S1
def cY (a:AE):AE:=fun δ S Q=>a δ S fun r S1=>match r with
 | .new o=>Q (.dat (.loc S1.length)) (S1++[some o])
 | .dat d=>Q (.dat d) S1
def aCall (sp:AN) (a:AA):AE:=fun δ S Q=>a δ S fun ds S1=>sp ds S1 Q
def aB (a:AE):AT:=fun δ S Q=>a δ S fun r S1=>∃ b,r.d = .bl b∧Q b S1
noncomputable def cX:D→Option Bool
 | .bP=>some false
 | .bl b=>some b
 | .int i=>some (i != 0)
 | .str y=>if y.length≤yag then some ((y.length:Int) != 0) else none
 | .tup ds=>some (!ds.isEmpty)
 | .lst ds=>some (!ds.isEmpty)
 | .dct ks _=>some (!ks.isEmpty)
 | _=>none
def Ea (a:AE):AT:=fun δ S Q=>a δ S fun r S1=>∃ b,cX (aU S1 r.d)=some b∧Q b S1
def Gv (a b:AE):AE:=fun δ S Q=>a δ S fun x S1=>∃ c,x.d = .bl c∧if c=true then b δ S1 Q else Q (.dat (.bl false)) S1
def Ie (a b:AE):AE:=fun δ S Q=>a δ S fun x S1=>∃ c,x.d = .bl c∧if c=true then Q (.dat (.bl true)) S1 else b δ S1 Q
def Gq (a:AE):AE:=fun δ S Q=>a δ S fun x S1=>∃ c,x.d = .bl c∧Q (.dat (.bl (!c))) S1
def Bo (a b:AT):AT:=fun δ S Q=>a δ S fun c S1=>if c=true then b δ S1 Q else Q false S1
def Ig (a b:AT):AT:=fun δ S Q=>a δ S fun c S1=>if c=true then Q true S1 else b δ S1 Q
def Ef (a:AT):AT:=fun δ S Q=>a δ S fun c S1=>Q (!c) S1
def Ij (t:AT) (a b:AE):AE:=fun δ S Q=>t δ S fun c S1=>if c=true then a δ S1 Q else b δ S1 Q
def Ej (r r':A2) (a b c:AE):AE:=fun δ S Q=>a δ S fun x S1=>b δ S1 fun y S2=>r x.d y.d S2 fun z S3=>∃ k,z.d = .bl k∧if k=true then c δ S3 fun z' S4=>r' y.d z'.d S4 Q else Q (.dat (.bl false)) S3
def nP:AO:=fun _ S Q=>Q none S
def yI (a:AE):AO:=fun δ S Q=>a δ S fun r S1=>∃ i,r.d = .int i∧Q (some i) S1
def Ic (r:D→Option Int→Option Int→aJ→AK→Prop) (a:AE) (l u:AO):AE:=fun δ S Q=>a δ S fun x S1=>l δ S1 fun i S2=>u δ S2 fun j S3=>r x.d i j S3 Q
def yJ:AS:=fun D δ S=>D.nx δ S
def Ec (a b:AS):AS:=fun D δ S=>a { D with nx:=b D } δ S
def Bj (a:AE):AS:=fun D δ S=>a δ S D.rt
def Gn:AS:=fun D _ S=>D.rt (.dat .bP) S
def yN (a:AE):AS:=fun D δ S=>a δ S fun _ S1=>D.nx δ S1
def Eh (c:AT) (a b:AS):AS:=fun D δ S=>c δ S fun k S1=>if k=true then a D δ S1 else b D δ S1
def cI (i:Nat):AG:=fun d δ S Q=>Q (δ.set i (some d)) S
def pQ:zu:=fun ds δ S Q=>ds=[]∧Q δ S
def ku (a:AG) (b:zu):zu:=fun ds δ S Q=>∃ d r,ds=d::r∧a d δ S fun δ1 S1=>b r δ1 S1 Q
def pP (n:Nat) (a:zu):AG:=fun d δ S Q=>∃ ds,d = .tup ds∧ds.length=n∧a ds δ S Q
def yO (a:AE) (g:AG):AS:=fun D δ S=>a δ S fun r S1=>g r.d δ S1 D.nx
def lT (P:aJ→Prop) (g:AG) (b:AS):List D→p7→bQ→aJ→Prop
 | [],D,δ,S=>P S∧D.nx δ S
 | x::xs,D,δ,S=>P S∧g x δ S fun δ2 S2=>b { D with nx:=lT P g b xs D,ct:=lT P g b xs D,bk:=D.nx } δ2 S2
def fc (i:AI) (g:AG) (b:AS):AS:=fun D δ S=>i δ S fun ds P S1=>lT P g b ds D δ S1
def yH (c:AT) (b:AS):AS:=fun D δ S=>∃ W:Nat→bQ→aJ→Prop,(∃ m,W m δ S)∧∀ m δ S,W m δ S →
 c δ S fun k S1=>if k=true then ∃ N:bQ→aJ→Prop,(∀ δ' S',N δ' S'→∃ m',m'<m∧W m' δ' S')∧b { D with nx:=N,ct:=N,bk:=D.nx } δ S1 else D.nx δ S1
def uX:AT:=fun _ S Q=>Q true S
def e7 (P:aJ→Prop) (g:AG) (t:AT) (e:AE):List D→List D→bQ→aJ→(List D→aJ→Prop)→Prop
 | [],acc,_,S,Q=>P S∧Q acc S
 | x::xs,acc,δ,S,Q=>P S∧g x δ S fun δ2 S2=>t δ2 S2 fun b S3=>if b=true then e δ2 S3 fun r S4=>acc.length<yag∧e7 P g t e xs (acc++[r.d]) δ2 S4 Q else e7 P g t e xs acc δ2 S3 Q
noncomputable def pL (caps:List (Option Nat)) (δ:bQ):bQ:=caps.map fun o=>o.bind fun i=>(δ[i]?).getD none
def mj (caps:List (Option Nat)) (i:AI) (g:AG) (t:AT) (e:AE):AE:=fun δ S Q=>i δ S fun ds P S1=>e7 P g t e ds [] (pL caps δ) S1 fun ds' S2=>Q (.new (.lst ds')) S2
noncomputable def j5 (lo:Int) (n:Nat):List D:=(zce n).map fun k:Nat=>.int (lo+(k:Int))
def xW (a:AA):AI:=fun δ S Q=>a δ S fun ds S1=>∃ j:Int,ds=[.int j]∧(-(2 ^ 62)≤j∧j<2 ^ 62)∧Q (j5 0 j.toNat) (fun _=>True) S1
noncomputable def signs (x:Str):List D:=x.cps.toList.map fun c=>.str ⟨#[c]⟩
section
variable {K:yaE}
theorem dj.go {w:Wd}{Qa:AK}{Q:VK} (h:∀ r S' v w' H',w.le w'→Ok K w' H' S'→Rep K w' r.d v→Qa r S'→Q v H'):dj K w Qa Q:=fun r S' v w' H' le ok rep q=>by
 obtain ⟨w2,le2,ok2,rep2⟩:=freeze ok rep
 exact h r S' v w2 H' (le.trans le2) ok2 rep2 q
theorem dj.dat {w w':Wd}{Qa:AK}{Q:VK}{d:D}{v:V}{S:aJ}{H:Hp} (h:dj K w Qa Q) (le:w.le w') (ok:Ok K w' H S) (rep:Rep K w' d v) (q:Qa (.dat d) S):Q v H:=h (.dat d) S v w' H le ok rep q
theorem EZ {i:Nat}:∀ σ H Q,bu K (fU i) σ H Q→EC i σ H Q:=by
 rintro σ H Q ⟨w,δ,S,Qa,ok,env,⟨d,e,q⟩,bk⟩
 obtain ⟨v,e1,e2⟩:=env.2 i d e
 exact ⟨v,e1,bk.dat .refl ok e2 q⟩
theorem GP {d:D}{v:V} (h:∀ w,Rep K w d v):∀ σ H Q,bu K (aC d) σ H Q→tC v σ H Q:=by
 rintro σ H Q ⟨w,δ,S,Qa,ok,env,q,bk⟩
 exact bk.dat .refl ok (h w) q
theorem zN {r:A2}{a b:AE}:∀ σ H Q,bu K (qa r a b) σ H Q→EH (yt K r) (bu K a) (bu K b) σ H Q:=by
 rintro σ H Q ⟨w,δ,S,Qa,ok,env,q,bk⟩
 refine ⟨w,δ,S,_,ok,env,q,.go fun r1 S1 v1 w1 H1 le1 ok1 rep1 q1 => ?_⟩
 refine ⟨w1,δ,S1,_,ok1,env.le le1,q1,.go fun r2 S2 v2 w2 H2 le2 ok2 rep2 q2 => ?_⟩
 exact ⟨w2,r1.d,r2.d,S2,Qa,ok2,rep1.le le2,rep2,q2,bk.le (le1.trans le2)⟩
theorem E7:∀ σ H Q,iU K nQ σ H Q→Cw σ H Q:=by
 rintro σ H Q ⟨w,δ,S,Qa,ok,env,q,bk⟩
 exact bk [] S [] w H .refl ok .nil q
theorem CS {a:AE}{b:AA}:∀ σ H Q,iU K (iN a b) σ H Q→vG (bu K a) (iU K b) σ H Q:=by
 rintro σ H Q ⟨w,δ,S,Qa,ok,env,q,bk⟩
 refine ⟨w,δ,S,_,ok,env,q,.go fun r1 S1 v1 w1 H1 le1 ok1 rep1 q1 => ?_⟩
 refine ⟨w1,δ,S1,_,ok1,env.le le1,q1,fun ds S2 vs w2 H2 le2 ok2 rep2 q2 => ?_⟩
 exact bk _ S2 _ w2 H2 (le1.trans le2) ok2 (.cons (rep1.le le2) rep2) q2
theorem E1 {a:AA}:∀ σ H Q,bu K (Bh a) σ H Q→ED (iU K a) σ H Q:=by
 rintro σ H Q ⟨w,δ,S,Qa,ok,env,q,bk⟩
 refine ⟨w,δ,S,_,ok,env,q,fun ds S1 vs w1 H1 le1 ok1 rep1 ⟨hl,q1⟩=>⟨by rw [rep1.length];exact hl,fun p hp => ?_⟩⟩
 obtain ⟨w2,le2,ok2,rep2⟩:=ok1.jU hp rep1
 exact bk.dat (le1.trans le2) ok2 rep2 q1
theorem E8 {a:AA}:∀ σ H Q,bu K (Bl a) σ H Q→EJ (iU K a) σ H Q:=by
 rintro σ H Q ⟨w,δ,S,Qa,ok,env,q,bk⟩
 refine ⟨w,δ,S,_,ok,env,q,fun ds S1 vs w1 H1 le1 ok1 rep1 ⟨hl,q1⟩=>⟨by rw [rep1.length];exact hl,fun p hp => ?_⟩⟩
 exact bk (.new (.lst ds)) S1 _ w1 _ le1 (ok1.alloc hp) (ok1.fresh hp ⟨vs,rfl,rep1⟩) q1
theorem s_alloc {a:AE}:∀ σ H Q,bu K (cY a) σ H Q→bu K a σ H Q:=by
 rintro σ H Q ⟨w,δ,S,Qa,ok,env,q,bk⟩
 refine ⟨w,δ,S,_,ok,env,q,fun r S1 v w1 H1 le1 ok1 rep1 q1 => ?_⟩
 cases r with
 | dat d=>exact bk.dat le1 ok1 rep1 q1
 | new o =>
  obtain ⟨w2,le2,ok2,rep2⟩:=store ok1 rep1
  exact bk.dat (le1.trans le2) ok2 rep2 q1
theorem s_call {sp:AN}{a:AA}{E:XK}:∀ σ H Q,bu K (aCall sp a) σ H Q→rQ (aF K sp) [] E (iU K a) σ H Q:=by
 rintro σ H Q ⟨w,δ,S,Qa,ok,env,q,bk⟩
 refine ⟨w,δ,S,_,ok,env,q,fun ds S1 vs w1 H1 le1 ok1 rep1 q1 => ?_⟩
 exact ⟨w1,ds,S1,Qa,ok1,by rw [zbo];exact rep1,q1,bk.le le1⟩
theorem Fd {r:AN}{a:AA}:∀ σ H Q,bu K (aCall r a) σ H Q→EM (D4 K r) (iU K a) σ H Q:=by
 rintro σ H Q ⟨w,δ,S,Qa,ok,env,q,bk⟩
 refine ⟨w,δ,S,_,ok,env,q,fun ds S1 vs w1 H1 le1 ok1 rep1 q1 => ?_⟩
 exact ⟨w1,ds,S1,Qa,ok1,rep1,q1,bk.le le1⟩
theorem qx {w:Wd}{b:Bool}{v:V}{d:D} (h:Rep K w d v) (e:d = .bl b):v = .bl b:=by subst e;simpa [Rep] using h
theorem aZ {w:Wd}{b:Int}{v:V}{d:D} (h:Rep K w d v) (e:d = .int b):v = .int b:=by subst e;simpa [Rep] using h
theorem i7 {w:Wd}{b:Str}{v:V}{d:D} (h:Rep K w d v) (e:d = .str b):v = .str b:=by subst e;simpa [Rep] using h
theorem Rep.bl {w:Wd}{b:Bool}:Rep K w (.bl b) (.bl b):=by simp [Rep]
theorem Rep.int {w:Wd}{b:Int}:Rep K w (.int b) (.int b):=by simp [Rep]
theorem Rep.str {w:Wd}{b:Str}:Rep K w (.str b) (.str b):=by simp [Rep]
theorem Rep.bP {w:Wd}:Rep K w .bP .bP:=by simp [Rep]
theorem s_b {a:AE}:∀ σ H Q,eE K (aB a) σ H Q→tB (bu K a) σ H Q:=by
 rintro σ H Q ⟨w,δ,S,Qa,ok,env,q,bk⟩
 refine ⟨w,δ,S,_,ok,env,q,.go fun r1 S1 v1 w1 H1 le1 ok1 rep1 ⟨b,e,q1⟩=>⟨b,qx rep1 e,bk b S1 w1 H1 le1 ok1 q1⟩⟩
theorem zB {w:Wd}{H:Hp}{S:aJ}{d:D}{v:V}{b:Bool} (ok:Ok K w H S) (h:Rep K w d v) (e:cX (aU S d)=some b):yP K v H b:=by
 cases q:aU S d with
 | lst ds =>
  rw [q] at e
  obtain ⟨a,xs,rfl,h1,h2⟩:=bq ok h q
  refine Or.inl ⟨xs,cj.of h1,?_⟩
  have:b = !ds.isEmpty:=by simpa [cX] using e.symm
  rw [this]
  have:=h2.length
  cases ds <;> cases xs <;> simp at this ⊢
 | tup ds =>
  rw [q] at e
  obtain ⟨a,xs,rfl,h1,h2⟩:=b6 ok h q
  refine Or.inr (Or.inl ⟨xs,ck.of h1,?_⟩)
  have:b = !ds.isEmpty:=by simpa [cX] using e.symm
  rw [this]
  have:=h2.length
  cases ds <;> cases xs <;> simp at this ⊢
 | dct ks ds =>
  rw [q] at e
  obtain ⟨a,kvs,rfl,h1,h2,h3⟩:=mL ok h q
  refine Or.inr (Or.inr ⟨kvs,h1,?_⟩)
  have:b = !ks.isEmpty:=by simpa [cX] using e.symm
  rw [this,← h2]
  cases kvs <;> simp
 | _ =>
  rw [q] at e
  cases d <;> simp [aU] at q <;> first
   | (subst q;simp only [Rep] at h;subst h;simp [cX] at e;simp [yP,e];done)
   | (simp [cX] at e;done)
   | skip
  all_goals first
   | (simp only [Rep] at h;subst h;subst q;simp only [cX,zcd.injEq] at e;subst e;rfl)
   | (simp only [Rep] at h;subst h;simp only [cX,zcd.injEq] at e;subst e;rfl)
   | (split at q <;> first | (rename_i o _;cases o <;> simp [MO.d] at q) | (cases q;simp [cX] at e) | cases q)
   | (simp only [Rep] at h;subst h;subst q;simp only [cX] at e;split at e;next hl=>exact ⟨hl,by simpa using e.symm⟩;next=>cases e)
   | skip
theorem E3 {a:AE}:∀ σ H Q,eE K (Ea a) σ H Q→(bu K a) σ H (fun x H'=>∃ k,yP K x H' k∧Q k H'):=by
 rintro σ H Q ⟨w,δ,S,Qa,ok,env,q,bk⟩
 exact ⟨w,δ,S,_,ok,env,q,.go fun r1 S1 v1 w1 H1 le1 ok1 rep1 ⟨b,e,q1⟩=>⟨b,zB ok1 rep1 e,bk b S1 w1 H1 le1 ok1 q1⟩⟩
theorem Ff {a b:AT}:∀ σ H Q,eE K (Bo a b) σ H Q→EN (eE K a) (eE K b) σ H Q:=by
 rintro σ H Q ⟨w,δ,S,Qa,ok,env,q,bk⟩
 refine ⟨w,δ,S,_,ok,env,q,fun c S1 w1 H1 le1 ok1 q1 => ?_⟩
 cases c with
 | true=>exact uI ⟨w1,δ,S1,Qa,ok1,env.le le1,by simpa using q1,bk.le le1⟩
 | false=>exact uJ (bk _ S1 w1 H1 le1 ok1 (by simpa using q1))
theorem Hq {a b:AT}:∀ σ H Q,eE K (Ig a b) σ H Q→Iv (eE K a) (eE K b) σ H Q:=by
 rintro σ H Q ⟨w,δ,S,Qa,ok,env,q,bk⟩
 refine ⟨w,δ,S,_,ok,env,q,fun c S1 w1 H1 le1 ok1 q1 => ?_⟩
 cases c with
 | false=>exact uJ ⟨w1,δ,S1,Qa,ok1,env.le le1,by simpa using q1,bk.le le1⟩
 | true=>exact uI (bk _ S1 w1 H1 le1 ok1 (by simpa using q1))
theorem E6 {a:AT}:∀ σ H Q,eE K (Ef a) σ H Q→EI (eE K a) σ H Q:=by
 rintro σ H Q ⟨w,δ,S,Qa,ok,env,q,bk⟩
 exact ⟨w,δ,S,_,ok,env,q,fun c S1 w1 H1 le1 ok1 q1=>bk _ S1 w1 H1 le1 ok1 q1⟩
theorem Hr {t:AT}{a b:AE}:∀ σ H Q,bu K (Ij t a b) σ H Q→Iw (eE K t) (bu K a) (bu K b) σ H Q:=by
 rintro σ H Q ⟨w,δ,S,Qa,ok,env,q,bk⟩
 refine ⟨w,δ,S,_,ok,env,q,fun c S1 w1 H1 le1 ok1 q1 => ?_⟩
 cases c with
 | true=>exact uI ⟨w1,δ,S1,Qa,ok1,env.le le1,by simpa using q1,bk.le le1⟩
 | false=>exact uJ ⟨w1,δ,S1,Qa,ok1,env.le le1,by simpa using q1,bk.le le1⟩
theorem vY:∀ σ H Q,yq K nP σ H Q→rP σ H Q:=by
 rintro σ H Q ⟨w,δ,S,Qa,ok,env,q,bk⟩
 exact bk none S w H .refl ok q
theorem CK {a:AE}:∀ σ H Q,yq K (yI a) σ H Q→BD (bu K a) σ H Q:=by
 rintro σ H Q ⟨w,δ,S,Qa,ok,env,q,bk⟩
 exact ⟨w,δ,S,_,ok,env,q,.go fun r1 S1 v1 w1 H1 le1 ok1 rep1 ⟨i,e,q1⟩=>⟨i,aZ rep1 e,bk _ S1 w1 H1 le1 ok1 q1⟩⟩
def Cf (K:yaE) (a:D→Option Int→Option Int→aJ→AK→Prop):V→Option Int→Option Int→Hp→VK→Prop:=fun x i j H Q=>∃ w d S Qa,Ok K w H S∧Rep K w d x∧a d i j S Qa∧dj K w Qa Q
theorem Ho {r:D→Option Int→Option Int→aJ→AK→Prop}{a:AE}{l u:AO}:∀ σ H Q,bu K (Ic r a l u) σ H Q→Iu (Cf K r) (bu K a) (yq K l) (yq K u) σ H Q:=by
 rintro σ H Q ⟨w,δ,S,Qa,ok,env,q,bk⟩
 refine ⟨w,δ,S,_,ok,env,q,.go fun r1 S1 v1 w1 H1 le1 ok1 rep1 q1 => ?_⟩
 refine ⟨w1,δ,S1,_,ok1,env.le le1,q1,fun i S2 w2 H2 le2 ok2 q2 => ?_⟩
 refine ⟨w2,δ,S2,_,ok2,env.le (le1.trans le2),q2,fun j S3 w3 H3 le3 ok3 q3 => ?_⟩
 exact ⟨w3,r1.d,S3,Qa,ok3,rep1.le (le2.trans le3),q3,bk.le (le1.trans (le2.trans le3))⟩
theorem CL:∀ D σ H,eZ K yJ D σ H→BE D σ H:=by
 rintro D σ H ⟨w,δ,S,Da,ok,env,q,bk⟩
 exact bk.nx δ S σ w H .refl ok env q
theorem E4 {a b:AS}:∀ D σ H,eZ K (Ec a b) D σ H→EF (eZ K a) (eZ K b) D σ H:=by
 rintro D σ H ⟨w,δ,S,Da,ok,env,q,bk⟩
 refine ⟨w,δ,S,_,ok,env,q,⟨fun δ1 S1 σ1 w1 H1 le1 ok1 env1 q1 => ?_,bk.rt,bk.bk,bk.ct⟩⟩
 exact ⟨w1,δ1,S1,Da,ok1,env1,q1,bk.le le1⟩
theorem E5 {a:AE}:∀ D σ H,eZ K (Bj a) D σ H→EG (bu K a) D σ H:=by
 rintro D σ H ⟨w,δ,S,Da,ok,env,q,bk⟩
 exact ⟨w,δ,S,_,ok,env,q,bk.rt⟩
theorem CQ {a:AE}:∀ D σ H,eZ K (yN a) D σ H→BG (bu K a) D σ H:=by
 rintro D σ H ⟨w,δ,S,Da,ok,env,q,bk⟩
 exact ⟨w,δ,S,_,ok,env,q,.go fun r1 S1 v1 w1 H1 le1 ok1 rep1 q1=>bk.nx δ S1 σ w1 H1 le1 ok1 (env.le le1) q1⟩
theorem E9 {c:AT}{a b:AS}:∀ D σ H,eZ K (Eh c a b) D σ H→EK (eE K c) (eZ K a) (eZ K b) D σ H:=by
 rintro D σ H ⟨w,δ,S,Da,ok,env,q,bk⟩
 refine ⟨w,δ,S,_,ok,env,q,fun k S1 w1 H1 le1 ok1 q1 => ?_⟩
 cases k with
 | true=>exact uI ⟨w1,δ,S1,Da,ok1,env.le le1,by simpa using q1,bk.le le1⟩
 | false=>exact uJ ⟨w1,δ,S1,Da,ok1,env.le le1,by simpa using q1,bk.le le1⟩
theorem sq {i:Nat}:∀ x σ H Q,qZ K (cI i) x σ H Q→yb i x σ H Q:=by
 rintro x σ H Q ⟨w,d,δ,S,Qa,ok,env,rep,q,bk⟩
 exact bk _ S _ w H .refl ok (env.set rep i) q
theorem CP:∀ x σ H Q,pC K pQ x σ H Q→F0 x σ H Q:=by
 rintro x σ H Q ⟨w,ds,δ,S,Qa,ok,env,rep,⟨rfl,q⟩,bk⟩
 exact ⟨by simpa [aj] using rep,bk _ S _ w H .refl ok env q⟩
theorem zQ {a:AG}{b:zu}:∀ x σ H Q,pC K (ku a b) x σ H Q→Cc (qZ K a) (pC K b) x σ H Q:=by
 rintro x σ H Q ⟨w,ds,δ,S,Qa,ok,env,rep,⟨d,r,rfl,q⟩,bk⟩
 simp only [aj] at rep
 obtain ⟨v,vs,rfl,h1,h2⟩:=rep
 refine ⟨v,vs,rfl,w,d,δ,S,_,ok,env,h1,q,fun δ1 S1 σ1 w1 H1 le1 ok1 env1 q1 => ?_⟩
 exact ⟨w1,r,δ1,S1,Qa,ok1,env1,h2.le le1,q1,bk.le le1⟩
theorem CO {n:Nat}{a:zu}:∀ x σ H Q,qZ K (pP n a) x σ H Q→FZ K n (pC K a) x σ H Q:=by
 rintro x σ H Q ⟨w,d,δ,S,Qa,ok,env,rep,⟨ds,rfl,hl,q⟩,bk⟩
 simp only [Rep] at rep
 obtain ⟨p,xs,rfl,h1,h2⟩:=rep
 exact ⟨p,xs,rfl,ck.of (ok.base _ _ h1),by rw [h2.length];exact hl,w,ds,δ,S,Qa,ok,env,h2,q,bk⟩
theorem BN {a:AE}{g:AG}:∀ D σ H,eZ K (yO a g) D σ H→Cz (bu K a) (qZ K g) D σ H:=by
 rintro D σ H ⟨w,δ,S,Da,ok,env,q,bk⟩
 refine ⟨w,δ,S,_,ok,env,q,.go fun r1 S1 v1 w1 H1 le1 ok1 rep1 q1 => ?_⟩
 exact ⟨w1,r1.d,δ,S1,_,ok1,env.le le1,rep1,q1,bk.nx.le le1⟩
theorem Fc {i:AI}{g:AG}{b:AS}:∀ D σ H,eZ K (fc i g b) D σ H→EL (yr K i) (qZ K g) (eZ K b) D σ H:=by
 rintro D σ H ⟨w,δ,S,Da,ok,env,q,bk⟩
 refine ⟨w,δ,S,_,ok,env,q,fun ds P S1 J w1 H1 le1 ok1 it q1 => ?_⟩
 refine ⟨fun i m σ H=>m=ds.length - i∧i≤ds.length∧∃ w2 δ2 S2,w1.le w2∧Ok K w2 H S2∧cN K w2 δ2 σ∧lT P g b (ds.drop i) Da δ2 S2,⟨ds.length,by simp,zcc _,w1,δ,S1,.refl,ok1,env.le le1,by simpa using q1⟩,?_⟩
 rintro i m σ2 H2 ⟨rfl,hi,w2,δ2,S2,le2,ok2,env2,lp⟩
 by_cases hlt:i<ds.length
 ·rw [zaf hlt] at lp
  obtain ⟨hP,lp⟩:=lp
  have hd:ds[i]? = some ds[i]:=zah hlt
  refine .inr ⟨it.go i H2 S2 w2 _ le2 ok2 hP hd,fun σ' H'=>∃ w3 δ3 S3,w1.le w3∧Ok K w3 H' S3∧cN K w3 δ3 σ'∧lT P g b (ds.drop (i+1)) Da δ3 S3,fun σ' H' h=>⟨_,by lia,rfl,hlt,h⟩,fun x H' y => ?_⟩
  obtain ⟨w2',le2',ok2,rx⟩:=it.vm i H2 S2 w2 _ x H' le2 ok2 hP hd y
  replace env2:=env2.le le2'
  replace le2:=le2.trans le2'
  refine ⟨w2',ds[i],δ2,S2,_,ok2,env2,rx,lp,fun δ3 S3 σ3 w3 H3 le3 ok3 env3 q3 => ?_⟩
  have lew:=le1.trans (le2.trans le3)
  refine ⟨w3,δ3,S3,_,ok3,env3,q3,⟨?_,bk.rt.le lew,bk.nx.le lew,?_⟩⟩
  ·exact fun δ4 S4 σ4 w4 H4 le4 ok4 env4 q4=>⟨w4,δ4,S4,le2.trans (le3.trans le4),ok4,env4,q4⟩
  ·exact fun δ4 S4 σ4 w4 H4 le4 ok4 env4 q4=>⟨w4,δ4,S4,le2.trans (le3.trans le4),ok4,env4,q4⟩
 ·have e:i=ds.length:=by lia
  subst e
  rw [List.drop_length] at lp
  exact .inl ⟨it.stop _ H2 S2 w2 le2 ok2 lp.1 rfl,bk.nx δ2 S2 σ2 w2 H2 (le1.trans le2) ok2 env2 lp.2⟩
theorem zL {c:AT}{b:AS}:∀ D σ H,eZ K (yH c b) D σ H→vB (eE K c) (eZ K b) D σ H:=by
 rintro D σ H ⟨w,δ,S,Da,ok,env,⟨W,⟨m0,w0⟩,turn⟩,bk⟩
 refine ⟨fun m σ H=>∃ w1 δ1 S1,w.le w1∧Ok K w1 H S1∧cN K w1 δ1 σ∧W m δ1 S1,⟨m0,w,δ,S,.refl,ok,env,w0⟩,?_⟩
 rintro m σ1 H1 ⟨w1,δ1,S1,le1,ok1,env1,h1⟩
 refine ⟨w1,δ1,S1,_,ok1,env1,turn m δ1 S1 h1,fun k S2 w2 H2 le2 ok2 q2 => ?_⟩
 cases k with
 | false=>exact uJ (bk.nx δ1 S2 σ1 w2 H2 (le1.trans le2) ok2 (env1.le le2) (by simpa using q2))
 | true =>
  rw [yIp rfl] at q2
  obtain ⟨N,hN,q2⟩:=q2
  have lew:=le1.trans le2
  refine uI ⟨fun σ' H'=>∃ w3 δ3 S3,w.le w3∧Ok K w3 H' S3∧cN K w3 δ3 σ'∧N δ3 S3,?_,w2,δ1,S2,_,ok2,env1.le le2,q2,⟨?_,bk.rt.le lew,bk.nx.le lew,?_⟩⟩
  ·rintro σ' H' ⟨w3,δ3,S3,le3,ok3,env3,n3⟩
   obtain ⟨m',hm,h3⟩:=hN δ3 S3 n3
   exact ⟨m',hm,w3,δ3,S3,le3,ok3,env3,h3⟩
  ·exact fun δ4 S4 σ4 w4 H4 le4 ok4 env4 q4=>⟨w4,δ4,S4,lew.trans le4,ok4,env4,q4⟩
  ·exact fun δ4 S4 σ4 w4 H4 le4 ok4 env4 q4=>⟨w4,δ4,S4,lew.trans le4,ok4,env4,q4⟩
theorem EY:∀ σ H Q,eE K uX σ H Q→EB σ H Q:=by
 rintro σ H Q ⟨w,δ,S,Qa,ok,env,q,bk⟩
 exact bk true S w H .refl ok q
theorem yf {w:Wd}{δ:bQ}{σ:St} (h:cN K w δ σ) (caps:List (Option Nat)):cN K w (pL caps δ) (k7 caps σ):=by
 refine ⟨by simp [pL,k7],fun i d e => ?_⟩
 simp only [pL,zaP] at e
 cases q:caps[i]? with
 | none=>rw [q] at e;cases e
 | some o =>
  rw [q] at e
  cases o with
  | none=>simp at e
  | some j =>
   cases z:δ[j]? with
   | none=>rw [Option.map_some] at e;simp [z] at e
   | some d' =>
    simp [z] at e
    subst e
    obtain ⟨v,h1,h2⟩:=h.2 j d z
    exact ⟨v,by simp [k7,zaP,q,h1],h2⟩
theorem CT {caps:List (Option Nat)}{i:AI}{g:AG}{t:AT}{e:AE}:∀ σ H Q,bu K (mj caps i g t e) σ H Q→BH caps (yr K i) (qZ K g) (eE K t) (bu K e) σ H Q:=by
 rintro σ H Q ⟨w,δ,S,Qa,ok,env,q,bk⟩
 refine ⟨w,δ,S,_,ok,env,q,fun ds P S1 J w1 H1 le1 ok1 it q1 => ?_⟩
 refine ⟨fun i m xs τ H=>m=ds.length - i∧i≤ds.length∧∃ w2 δ2 S2 acc,w1.le w2∧Ok K w2 H S2∧cN K w2 δ2 τ∧aj K w2 acc xs∧e7 P g t e (ds.drop i) acc δ2 S2 (fun ds' S2=>Qa (.new (.lst ds')) S2),
  ⟨ds.length,by simp,zcc _,w1,pL caps δ,S1,[],.refl,ok1,yf (env.le le1) caps,.nil,by simpa using q1⟩,?_⟩
 rintro i m xs τ2 H2 ⟨rfl,hi,w2,δ2,S2,acc,le2,ok2,env2,reps,lp⟩
 by_cases hlt:i<ds.length
 ·rw [zaf hlt] at lp
  obtain ⟨hP,lp⟩:=lp
  have hd:ds[i]? = some ds[i]:=zah hlt
  refine .inr ⟨it.go i H2 S2 w2 _ le2 ok2 hP hd,fun ys τ' H'=>∃ w3 δ3 S3 acc,w1.le w3∧Ok K w3 H' S3∧cN K w3 δ3 τ'∧aj K w3 acc ys∧e7 P g t e (ds.drop (i+1)) acc δ3 S3 (fun ds' S2=>Qa (.new (.lst ds')) S2),fun ys σ' H' h=>⟨_,by lia,rfl,hlt,h⟩,fun x H' y => ?_⟩
  obtain ⟨w2',le2',ok2,rx⟩:=it.vm i H2 S2 w2 _ x H' le2 ok2 hP hd y
  replace env2:=env2.le le2'
  replace le2:=le2.trans le2'
  replace reps:=reps.le le2'
  refine ⟨w2',ds[i],δ2,S2,_,ok2,env2,rx,lp,fun δ3 S3 σ3 w3 H3 le3 ok3 env3 q3 => ?_⟩
  refine ⟨w3,δ3,S3,_,ok3,env3,q3,fun k S4 w4 H4 le4 ok4 q4 => ?_⟩
  cases k with
  | false =>
   exact uJ ⟨w4,δ3,S4,acc,le2.trans (le3.trans le4),ok4,env3.le le4,reps.le (le3.trans le4),by simpa using q4⟩
  | true =>
   rw [yIp rfl] at q4
   refine uI ⟨w4,δ3,S4,_,ok4,env3.le le4,q4,.go fun r5 S5 v5 w5 H5 le5 ok5 rep5 ⟨hz,q5⟩ => ?_⟩
   exact ⟨by rw [reps.length];exact hz,w5,δ3,S5,acc++[r5.d],le2.trans (le3.trans (le4.trans le5)),ok5,env3.le (le4.trans le5),(reps.le (le3.trans (le4.trans le5))).snoc rep5,q5⟩
 ·have e:i=ds.length:=by lia
  subst e
  rw [List.drop_length] at lp
  refine .inl ⟨it.stop _ H2 S2 w2 le2 ok2 lp.1 rfl,fun p hp => ?_⟩
  exact bk (.new (.lst acc)) S2 _ w2 _ (le1.trans le2) (ok2.alloc hp) (ok2.fresh hp ⟨xs,rfl,reps⟩) lp.2
theorem AD {w:Wd}{p:Addr}{xs:List V}{ds:List D} (h1:w.B p=some (.lst xs)) (h:aj K w ds xs):GC K w (GB K p) ds (fun _=>True) where
 go:=fun i H S w' d le ok hP e=>by
  obtain ⟨v,e1,_⟩:=h.get e
  exact ⟨xs,v,cj.of ((le.b.trans ok.base) _ _ h1),e1⟩
 vm:=fun i H S w' d x H' le ok hP e y=>by
  obtain ⟨v,e1,e2⟩:=h.get e
  obtain ⟨y1,y2⟩:=y
  have:=y2 xs (cj.of ((le.b.trans ok.base) _ _ h1))
  rw [e1] at this;cases this
  subst y1
  exact ⟨w',.refl,ok,e2.le le⟩
 stop:=fun i H S w' le ok hP e=>⟨xs,cj.of ((le.b.trans ok.base) _ _ h1),by rw [h.length];lia⟩
theorem AF {w:Wd}{p:Addr}{n:Nat}{ds:List D} (hp:w.r n=some p):GC K w (GB K p) ds (fun S=>S[n]? = some (some (.lst ds))) where
 go:=fun i H S w' d le ok hP e=>by
  obtain ⟨b,u,k1,k2,k3,ys,rfl,k5⟩:=ok.live n _ hP
  rw [le.r n p hp] at k1;cases k1
  obtain ⟨v,e1,_⟩:=k5.get e
  exact ⟨ys,v,cj.of k3,e1⟩
 vm:=fun i H S w' d x H' le ok hP e y=>by
  obtain ⟨b,u,k1,k2,k3,ys,rfl,k5⟩:=ok.live n _ hP
  rw [le.r n p hp] at k1;cases k1
  obtain ⟨v,e1,e2⟩:=k5.get e
  obtain ⟨y1,y2⟩:=y
  have:=y2 ys (cj.of k3)
  rw [e1] at this;cases this
  subst y1
  exact ⟨w',.refl,ok,e2⟩
 stop:=fun i H S w' le ok hP e=>by
  obtain ⟨b,u,k1,k2,k3,ys,rfl,k5⟩:=ok.live n _ hP
  rw [le.r n p hp] at k1;cases k1
  exact ⟨ys,cj.of k3,by rw [k5.length];lia⟩
theorem Az {w:Wd}{p:Addr}{xs:List V}{ds:List D} (h1:w.B p=some (.tup xs)) (h2:aj K w ds xs):GC K w (G5 K p) ds (fun _=>True) where
 go:=fun i H S w' d le ok hP e=>by
  obtain ⟨v,e1,_⟩:=h2.get e
  exact ⟨xs,v,ck.of ((le.b.trans ok.base) _ _ h1),e1⟩
 vm:=fun i H S w' d x H' le ok hP e y=>by
  obtain ⟨v,e1,e2⟩:=h2.get e
  obtain ⟨y1,y2⟩:=y
  have:=y2 xs (ck.of ((le.b.trans ok.base) _ _ h1))
  rw [e1] at this;cases this
  subst y1
  exact ⟨w',.refl,ok,e2.le le⟩
 stop:=fun i H S w' le ok hP e=>⟨xs,ck.of ((le.b.trans ok.base) _ _ h1),by rw [h2.length];lia⟩
theorem AB {w:Wd}{x:Str}:GC K w (G6 x) (signs x) (fun _=>True) where
 go:=fun i H S w' d le ok hP e=>by
  have:i<(signs x).length:=by
   rcases zbV i (signs x).length with h | h
   ·exact h
   ·rw [zan h] at e;cases e
  show i<x.cps.size
  simpa [signs] using this
 vm:=fun i H S w' d y H' le ok hP e z=>by
  obtain ⟨z1,c,z2,rfl⟩:=z
  subst z1
  refine ⟨w',.refl,ok,?_⟩
  rw [signs,zaP] at e
  have z2':x.cps.toList[i]? = some c:=by simpa using z2
  rw [z2'] at e
  have:D.str ⟨#[c]⟩=d:=by simpa using e
  subst this
  exact .str
 stop:=fun i H S w' le ok hP e=>by
  show _=_
  rw [e];simp [signs]
def cK (S1:aJ) (Q:List D→(aJ→Prop)→aJ→Prop):D→Prop
 | .lst ds=>Q ds (fun _=>True) S1
 | .tup ds=>Q ds (fun _=>True) S1
 | .str x=>Q (signs x) (fun _=>True) S1
 | .loc n=>∃ ds,S1[n]? = some (some (.lst ds))∧Q ds (fun S=>S[n]? = some (some (.lst ds))) S1
 | _=>False
def eB (t:AE):AI:=fun δ S Q=>t δ S fun r S1=>cK S1 Q r.d
theorem CN {t:AE}:∀ σ H R,yr K (eB t) σ H R→(bu K t) σ H fun x H1=>(∃ a,x = .ref a∧(∃ xs,cj K H1 a xs)∧R (GB K a) H1)∨(∃ a,x = .ref a∧(∃ xs,ck K H1 a xs)∧R (G5 K a) H1)∨∃ y,x = .str y∧R (G6 y) H1:=by
 rintro σ H R ⟨w,δ,S,Qa,ok,env,q,bk⟩
 refine ⟨w,δ,S,_,ok,env,q,.go fun r1 S1 v1 w1 H1 le1 ok1 rep1 q1 => ?_⟩
 generalize r1.d=d at rep1 q1
 cases d with
 | lst ds =>
  simp only [Rep] at rep1
  obtain ⟨p,xs,rfl,h1,h2⟩:=rep1
  exact .inl ⟨p,rfl,⟨xs,cj.of (ok1.base _ _ h1)⟩,bk ds _ S1 _ w1 H1 le1 ok1 (AD h1 h2) q1⟩
 | tup ds =>
  simp only [Rep] at rep1
  obtain ⟨p,xs,rfl,h1,h2⟩:=rep1
  exact .inr (.inl ⟨p,rfl,⟨xs,ck.of (ok1.base _ _ h1)⟩,bk ds _ S1 _ w1 H1 le1 ok1 (Az h1 h2) q1⟩)
 | str x=>exact .inr (.inr ⟨x,i7 rep1 rfl,bk _ _ S1 _ w1 H1 le1 ok1 AB q1⟩)
 | loc n =>
  simp only [Rep] at rep1
  obtain ⟨p,hp,rfl⟩:=rep1
  obtain ⟨ds,e,q1⟩:=q1
  obtain ⟨p',u,g1,g2,g3,xs,rfl,g5⟩:=ok1.live n _ e
  rw [hp] at g1;cases g1
  exact .inl ⟨p,rfl,⟨xs,cj.of g3⟩,bk ds _ S1 _ w1 H1 le1 ok1 (AF hp) q1⟩
 | _=>exact q1.elim
theorem wG {lo:Int}{n i:Nat}{d:D} (e:(j5 lo n)[i]? = some d):i<n∧d = .int (lo+(i:Int)):=by
 unfold j5 at e
 rw [zaP] at e
 by_cases h:i<n
 ·rw [List.getElem?_range h] at e
  exact ⟨h,by simpa using e.symm⟩
 ·rw [zan (by simpa using h)] at e;cases e
theorem CM {a:AA}:∀ σ H R,yr K (xW a) σ H R→B7 (iU K a) σ H R:=by
 rintro σ H R ⟨w,δ,S,Qa,ok,env,q,bk⟩
 refine ⟨w,δ,S,_,ok,env,q,fun ds S1 vs w1 H1 le1 ok1 rep1 ⟨j,hd,⟨h1,h2⟩,q1⟩=>⟨j,?_,h1,h2,?_⟩⟩
 ·subst hd
  simp only [aj,Rep] at rep1
  obtain ⟨x,r,rfl,rfl,rfl⟩:=rep1
  rfl
 ·refine bk _ _ S1 _ w1 H1 le1 ok1 ⟨fun i H S w' d le ok hP e => ?_,fun i H S w' d x H' le ok hP e y => ?_,fun i H S w' le ok hP e => ?_⟩ q1
  ·exact (wG e).1
  ·obtain ⟨y1,y2⟩:=y
   obtain ⟨e1,rfl⟩:=wG e
   subst y2 y1
   exact ⟨w',.refl,ok,.int⟩
  ·show _≤_
   rw [e];simp [j5]
end
end M
namespace M
open PySem PySem.Spec PyProof.Rows L2
section
variable {X:Cx}{pos:Pos}{e a b c:Expr}{es:List Expr}
theorem pv (i:Nat) {x:Str} (hN:X.N[i]? = some x:=by rfl) (hv:G1 X.env.scope x:=by first | exact Or.inl rfl | exact Or.inr (Or.inl rfl) | exact Or.inr (Or.inr rfl)) (hd:(x==("__debug__" : Str))=false:=by decide)
  (hcd:(x==("__classdict__" : Str))=false:=by decide):GE X (.Name x pos) (fU i):=⟨mE (L2.De hN hv hd hcd) EZ⟩
theorem ah {i j}:GE X (.Constant (.int i) j pos) (aC (.int i)):=⟨mE L2.ah (GP fun _=>.int)⟩
theorem iH {i j}:GE X (.Constant (.bool i) j pos) (aC (.bl i)):=⟨mE L2.iH (GP fun _=>.bl)⟩
theorem av {i j}:GE X (.Constant (.str i) j pos) (aC (.str i)):=⟨mE L2.av (GP fun _=>.str)⟩
theorem jc {x:Str}{d:D}{v:V}{u:yai} (hg:Gl X x) (hm:X.mg x=some u) (r:RelV v u) (h:∀ w,Rep X.K w d v) (hd:(x==("__debug__" : Str))=false:=by decide):GE X (.Name x pos) (aC d) :=
 ⟨mE (L2.jc hg hm r hd) (GP h)⟩
theorem aD {op:Operator}{r:A2}{ta tb:AE} (ho:qb X (binaryOp op) r) (ha:GE X a ta) (hb:GE X b tb):GE X (.BinOp a op b pos) (qa r ta tb):=⟨mE (L2.aD ho.p ha.p hb.p) zN⟩
theorem fH {op:CmpOp}{r:A2}{ta tb:AE} (ho:qb X (yan op) r) (ha:GE X a ta) (hb:GE X b tb) (hm:behindInMarks op b=false):GE X (.Compare a [op] [b] pos) (qa r ta tb):=⟨mE (L2.fH ho.p ha.p hb.p hm) zN⟩
theorem au {r:A2}{ta tb:AE} (ho:IM X r) (ha:GE X a ta) (hb:GE X b tb) (hs:tX b):GE X (.Subscript a b pos) (qa r ta tb):=⟨mE (L2.au ho.p ha.p hb.p hs) zN⟩
theorem aa:GA X [] nQ:=⟨mA L2.aa E7⟩
theorem ao {ta:AE}{t:AA} (ha:GE X e ta) (hr:GA X es t) (hs:notStar e=true:=by rfl):GA X (e::es) (iN ta t):=⟨mA (L2.ao ha.p hr.p hs) CS⟩
theorem aE {k:Nat}{t:AA} (h:GA X es t):GE X (.Tuple es k pos) (Bh t):=⟨mE (L2.aE h.p) E1⟩
theorem aO {t:AA} (h:GA X es t):GE X (.List es pos) (Bl t):=⟨mE (L2.aO h.p) E8⟩
theorem Bd {t:AE} (h:GE X e t):GE X e (cY t):=⟨mE h.p s_alloc⟩
theorem jJ {t:AT}{ta tb:AE} (hc:GT X c t) (ha:GE X a ta) (hb:GE X b tb):GE X (.IfExp c a b pos) (Ij t ta tb):=⟨mE (L2.jJ hc.p ha.p hb.p) Hr⟩
theorem ja:GO X none nP:=⟨mO L2.ja vY⟩
theorem i9 {t:AE} (h:GE X e t):GO X (some e) (yI t):=⟨mO (L2.i9 h.p) CK⟩
structure IL (X:Cx) (r:D→Option Int→Option Int→aJ→AK→Prop):Prop where
 p:zo X (Cf X.K r)
theorem gG {lo hi:Option Expr}{p2:Pos}{r:D→Option Int→Option Int→aJ→AK→Prop}{te:AE}{tl th:AO} (hr:IL X r) (he:GE X e te) (hl:GO X lo tl) (hu:GO X hi th):GE X (.Subscript e (.Slice lo hi none p2) pos) (Ic r te tl th) :=
 ⟨mE (L2.gG hr.p he.p hl.p hu.p) Ho⟩
theorem sG {id:String}{r:AN}{t:AA}{x:Str}{p:Pos} (hc:Bw X (.builtin id) r) (hg:Gl X x) (hm:X.mg x=none) (hv:bootBuiltins x=some (.builtin id)) (ha:GA X (e::es) t) (hn:x ≠ "__name__" := by decide +kernel) (hdb:(x==("__debug__" : Str))=false:=by decide +kernel)
  (hs:(e::es).all notStar=true:=by rfl):GE X (.Call (.Name x p) (e::es) [] pos) (aCall r t):=⟨mE (L2.sG hc.p hg hm hv ha.p hn hdb hs) Fd⟩
theorem xg {T:String}{r:AN}{t:AA}{x:Str}{p:Pos} (hc:Bw X (.type T) r) (hg:Gl X x) (hm:X.mg x=none) (hv:bootBuiltins x=some (.type T)) (ha:GA X (e::es) t) (hn:x ≠ "__name__" := by decide +kernel) (hdb:(x==("__debug__" : Str))=false:=by decide +kernel)
  (hs:(e::es).all notStar=true:=by rfl):GE X (.Call (.Name x p) (e::es) [] pos) (aCall r t):=⟨mE (L2.xg hc.p hg hm hv ha.p hn hdb hs) Fd⟩
theorem cS {k:Nat}{ps:List Str}{sp:AN}{t:AA}{x:Str}{p:Pos} (D:Def X.prog X.w X.K X.mg X.base k x ps (aF X.K sp)) (hr:bC k X.A) (hg:Gl X x) (ha:GA X (e::es) t) (hdb:(x==("__debug__" : Str))=false:=by decide +kernel) (hs:(e::es).all notStar=true:=by rfl) :
  GE X (.Call (.Name x p) (e::es) [] pos) (aCall sp t):=⟨mE (L2.cS D hr hg BS ha.p hdb hs) s_call⟩
theorem qz {t:AE} (h:GE X e t) (he:∀ whole,isTrue e X.env whole=(do let v ← whole;standAt e.pos;holding [v] (truthy v)):=by intro _;rfl):GT X e (Ea t):=⟨mT (L2.wV h.p he) E3⟩
theorem az {op:CmpOp}{r:A2}{ta tb:AE} (ho:qb X (yan op) r) (ha:GE X a ta) (hb:GE X b tb) (hm:behindInMarks op b=false):GT X (.Compare a [op] [b] pos) (aB (qa r ta tb)) :=
 ⟨mT (L2.az ho.p ha.p hb.p hm) fun σ H Q h=>by
  obtain ⟨w,δ,S,Qa,ok,env,q,bk⟩:=s_b σ H Q h
  exact zN σ H _ ⟨w,δ,S,Qa,ok,env,q,bk⟩⟩
theorem pw_pt {t:AT} (h:GW X e t):GT X e t:=⟨h.p.pt⟩
theorem pw_and1 {t:AT} (h:GT X a t):GW X (.BoolOp .And [a] pos) t:=⟨L2.pw_and1 h.p⟩
theorem pw_or1 {t:AT} (h:GT X a t):GW X (.BoolOp .Or [a] pos) t:=⟨L2.pw_or1 h.p⟩
theorem pw_and {rest:List Expr}{t u:AT} (ha:GT X a t) (hb:GW X (.BoolOp .And (b::rest) pos) u):GW X (.BoolOp .And (a::b::rest) pos) (Bo t u):=⟨mW (L2.pw_and ha.p hb.p) Ff⟩
theorem pw_or {rest:List Expr}{t u:AT} (ha:GT X a t) (hb:GW X (.BoolOp .Or (b::rest) pos) u):GW X (.BoolOp .Or (a::b::rest) pos) (Ig t u):=⟨mW (L2.pw_or ha.p hb.p) Hq⟩
theorem mZ {t:AT} (h:GT X a t):GT X (.UnaryOp .Not a pos) (Ef t):=⟨mT (L2.mZ h.p) E6⟩
theorem i8:Ir X [] uX:=⟨mTs L2.i8 EY⟩
theorem gE {t:AT} (h:GT X c t):Ir X [c] t:=⟨L2.gE h.p⟩
theorem dH {tg:Expr}{t:AA}{p:Pos} (hg:Gl X "range") (hm:X.mg "range" = none) (ha:GA X [a] t) (hs:yao [a] X.env=[(false,eval a X.env)]:=by rfl):GI X tg (.Call (.Name "range" p) [a] [] pos) (xW t):=⟨mI (L2.dH hg hm ha.p hs) CM⟩
theorem Aa {tg l:Expr}{tl:TE} (hl:PE X l tl):PI X tg l (fun σ H R=>tl σ H fun x H1=>(∃ a,x = .ref a∧(∃ xs,cj X.K H1 a xs)∧R (GB X.K a) H1)∨(∃ a,x = .ref a∧(∃ xs,ck X.K H1 a xs)∧R (G5 X.K a) H1)∨∃ y,x = .str y∧R (G6 y) H1):=by
 intro pins s σ H R I h
 refine b5 (hl pins s σ H _ I h) fun v s1 ⟨x,H1,I1,r1,q1⟩ => ?_
 rcases q1 with ⟨a,rfl,⟨xs,hq⟩,q⟩ | ⟨a,rfl,⟨xs,hq⟩,q⟩ | ⟨y,rfl,q⟩
 ·cases r1
  obtain ⟨its,rv,p,hz⟩:=I1.list hq
  refine wpAny_pyIter_list p.isList ?_
  refine ⟨s1.heap.objs.size,[s1.heap.objs.size],_,_,H1,rfl,I1.kept (t':=s1.toks) fun b o e=>zak _ e,uh a _,⟨_,zaC _ rfl,rfl,rfl⟩,fun b hb => ?_,q⟩
  have e:b=s1.heap.objs.size:=by simpa using hb
  subst e
  exact I1.qS (zca _) (I1.hok.fresh (zca _))
 ·cases r1
  obtain ⟨its,rv,p,hz⟩:=I1.tuple hq
  refine wpAny_pyIter_tuple (show s1.heap.IsTuple a its.toArray from p) ?_
  refine ⟨s1.heap.objs.size,[s1.heap.objs.size],_,_,H1,rfl,I1.kept (t':=s1.toks) fun b o e=>zak _ e,qg a _,⟨_,zaC _ rfl,rfl,rfl⟩,fun b hb => ?_,q⟩
  have e:b=s1.heap.objs.size:=by simpa using hb
  subst e
  exact I1.qS (zca _) (I1.hok.fresh (zca _))
 ·obtain ⟨t,rfl⟩:=r1
  refine wpAny_pyIter_strU ?_
  refine ⟨s1.heap.objs.size,[s1.heap.objs.size],_,_,H1,rfl,I1.kept (t':=s1.toks) fun b o e=>zak _ e,vt _ y t,⟨_,zaC _ rfl,rfl,rfl⟩,fun b hb => ?_,q⟩
  have e:b=s1.heap.objs.size:=by simpa using hb
  subst e
  exact I1.qS (zca _) (I1.hok.fresh (zca _))
theorem bU {tg l:Expr}{tl:AE} (hl:GE X l tl):GI X tg l (eB tl):=⟨mI (Aa hl.p) CN⟩
theorem dX {elt tg iter:Expr}{ifs:List Expr}{scope:Scope}{N:List Str}{caps:List (Option Nat)}{wi:AI}{g:AG}{tt:AT}{te:AE}
  (S:fy scope N) (hcap:l5 X.N X.env scope N caps=true) (hfr:L2.freeOk X.env scope=true) (hc:X.calm=true) (hi:GI X tg iter wi)
  (hg:∀ s₀ H₀ C fp,GG (nH X scope N s₀ H₀ C fp) tg g) (ht:∀ s₀ H₀ C fp,Ir (nH X scope N s₀ H₀ C fp) ifs tt) (he:∀ s₀ H₀ C fp,GE (nH X scope N s₀ H₀ C fp) elt te)
  (hs:∀ x,foldedSetIterable iter X.env x=pure x:=by intro _;rfl):GE X (.ListComp elt [⟨tg,iter,ifs,0⟩] scope pos) (mj caps wi g tt te) :=
 ⟨mE (L2.dX S hcap hfr hc hi.p (fun s₀ H₀ C fp=>(hg s₀ H₀ C fp).p) (fun s₀ H₀ C fp=>(ht s₀ H₀ C fp).p) (fun s₀ H₀ C fp=>(he s₀ H₀ C fp).p) hs) CT⟩
theorem aR:zq X [] yJ:=⟨IB L2.aR CL⟩
theorem ai {st:Stmt}{t:AS} (h:GS X st t):zq X [st] t:=⟨L2.ai h.p⟩
theorem af {st:Stmt}{rest:List Stmt}{t u:AS} (h:GS X st t) (g:zq X rest u):zq X (st::rest) (Ec t u):=⟨IB (L2.af h.p g.p) E4⟩
theorem bA {t:AE} (h:GE X e t) (hs:yat e none pos.line X.env=pure false:=by rfl):GS X (.Expr e pos) (yN t):=⟨mS (L2.bA h.p hs) CQ⟩
theorem aL {t:AE} (h:GE X e t):GS X (.Return (some e) pos) (Bj t):=⟨mS (L2.aL h.p) E5⟩
theorem bI {p q:List Stmt}{tc:AT}{t u:AS} (hc:GT X c tc) (ha:zq X p t) (hb:zq X q u):GS X (.If c p q pos) (Eh tc t u):=⟨mS (L2.bI hc.p ha.p hb.p) E9⟩
theorem aG {i:Nat}{x:Str} (hN:X.N.Nodup) (hi:X.N[i]? = some x) (hx:Loc X.env.scope x) (hf:X.fn x=true∨X.env.scope.names.lookup x=some .local:=by first | exact .inl rfl | exact .inr rfl | assumption):GG X (.Name x pos) (cI i):=⟨mG (L2.aG hN hi hx hf) sq⟩
theorem dU:G7 X [] pQ:=⟨IC L2.dU CP⟩
theorem bw {t:AG}{u:zu} (h1:GG X e t) (h2:G7 X es u) (hs:(assignEach (e::es) X.env).map (·.2)=assign e X.env::(assignEach es X.env).map (·.2):=by rfl):G7 X (e::es) (ku t u):=⟨IC (L2.bw h1.p h2.p hs) zQ⟩
theorem gh {k:Nat}{t:zu}{n:Nat} (hc:X.calm=true) (h:G7 X es t) (hn:(assignEach es X.env).length=n:=by rfl) (hst:(assignEach es X.env).findIdx? (·.1)=none:=by rfl):GG X (.Tuple es k pos) (pP n t):=⟨mG (L2.gh hc h.p hn hst) CO⟩
theorem jE {tg:Expr}{t:AE}{g:AG} (he:GE X e t) (hg:GG X tg g) (hs:swapsWithSole [tg] e pos.line X.env=pure false:=by rfl) (hw:swappedStores [tg] e X.env=pure none:=by rfl)
  (h1:(assignEach [tg] X.env).map (·.2)=[assign tg X.env]:=by rfl):GS X (.Assign [tg] e pos) (yO t g):=⟨mS (L2.jE he.p hg.p hs hw h1) BN⟩
theorem aq {i:Nat}{x:Str}{t:AE}{pos':Pos} (hN:X.N.Nodup) (hi:X.N[i]? = some x) (hx:Loc X.env.scope x) (he:GE X e t) (hs:yat e (some (.Name x pos')) pos.line X.env=pure false:=by rfl) (hf:X.fn x=true∨X.env.scope.names.lookup x=some .local:=by first | exact .inl rfl | exact .inr rfl | assumption) :
  GS X (.Assign [.Name x pos'] e pos) (yO t (cI i)):=⟨mS (L2.aq hN hi hx he.p hs hf) fun D σ H h=>by
  obtain ⟨w,δ,S,Qa,ok,env,q,bk⟩:=BN D σ H h
  exact ⟨w,δ,S,Qa,ok,env,q,fun r S' v w' H' le ok' rep q'=>sq _ _ _ _ (bk r S' v w' H' le ok' rep q')⟩⟩
theorem bT {tg iter:Expr}{body:List Stmt}{wi:AI}{g:AG}{tb:AS} (hp:PassesOwn (model X.prog X.w) X.A X.env X.xe) (hc:X.calm=true) (hi:GI X tg iter wi) (hg:GG X tg g) (hb:zq X body tb)
  (hs:∀ x,foldedSetIterable iter X.env x=pure x:=by intro _;rfl):GS X (.For tg iter body [] pos) (fc wi g tb):=⟨mS (L2.bT hp hc hi.p hg.p hb.p hs) Fc⟩
theorem eT {body:List Stmt}{tc:AT}{tb:AS} (hp:PassesOwn (model X.prog X.w) X.A X.env X.xe) (hc:GT X c tc) (hb:zq X body tb):GS X (.While c body [] pos) (yH tc tb):=⟨mS (L2.eT hp hc.p hb.p) zL⟩
end
section
variable {X:Cx}
theorem BU {f:yai→yai→Sem yai}{r r':R2} (h:fV X f r) (h':fV X f r'):fV X f (fun x y H Q=>r x y H Q∨r' x y H Q):=by
 intro pins s σ H x y v u Q I rx ry q
 rcases q with q | q
 ·exact h pins s σ H x y v u Q I rx ry q
 ·exact h' pins s σ H x y v u Q I rx ry q
theorem IA {f:yai}{r r':List V→Hp→VK→Prop} (h:cg X f r) (h':cg X f r'):cg X f (fun x H Q=>r x H Q∨r' x H Q):=by
 intro pins s σ H x v Q I rx q
 rcases q with q | q
 ·exact h pins s σ H x v Q I rx q
 ·exact h' pins s σ H x v Q I rx q
variable {K:yaE}{w:Wd}{H:Hp}{S:aJ}{v u:V}{d e:D}
theorem b7 {i:Int} (h:Rep K w d v) (z:aU S d = .int i):v = .int i:=by
 cases d <;> simp only [aU] at z
 case loc n=>split at z <;> first | (rename_i o _;cases o <;> simp [MO.d] at z) | cases z
 all_goals first | cases z | skip
 simpa [Rep] using h
theorem bF {i:Str} (h:Rep K w d v) (z:aU S d = .str i):v = .str i:=by
 cases d <;> simp only [aU] at z
 case loc n=>split at z <;> first | (rename_i o _;cases o <;> simp [MO.d] at z) | cases z
 all_goals first | cases z | skip
 simpa [Rep] using h
theorem eN {i:Bool} (h:Rep K w d v) (z:aU S d = .bl i):v = .bl i:=by
 cases d <;> simp only [aU] at z
 case loc n=>split at z <;> first | (rename_i o _;cases o <;> simp [MO.d] at z) | cases z
 all_goals first | cases z | skip
 simpa [Rep] using h
theorem gy {ns:List Int} (k:Ok K w H S) (h:Rep K w d v) (z:aU S d = .i6 ns):∃ a,v = .ref a∧cj K H a (ns.map V.int):=by
 cases d <;> simp only [aU] at z
 case loc n=>split at z <;> first | (rename_i o _;cases o <;> simp [MO.d] at z) | cases z
 all_goals first | cases z | skip
 simp only [Rep] at h
 obtain ⟨a,h1,h2⟩:=h
 exact ⟨a,h1,k.base.seq h2⟩
def aI (C:Int→Int→Prop) (g:Int→Int→D):A2:=fun x y S Q=>∃ i j,x = .int i∧y = .int j∧C i j∧Q (.dat (g i j)) S
theorem Gh {C:Int→Int→Prop}{g:Int→Int→D}{g':Int→Int→V} (h:∀ w i j,Rep K w (g i j) (g' i j)):∀ x y H Q,yt K (aI C g) x y H Q→rI C g' x y H Q:=by
 rintro x y H Q ⟨w,d,e,S,Qa,ok,r1,r2,⟨i,j,e1,e2,hc,q⟩,bk⟩
 exact ⟨i,j,aZ r1 e1,aZ r2 e2,hc,bk.dat .refl ok (h w i j) q⟩
theorem wN {g:Int→Int→V}:∀ x y H Q,rI (fun _ _=>True) g x y H Q→C8 g x y H Q:=by
 rintro x y H Q ⟨i,j,h1,h2,_,q⟩
 exact ⟨i,j,h1,h2,q⟩
theorem oS:qb X (binaryOp .Sub) (aI (fun _ _=>True) fun i j=>.int (i - j)):=⟨m2 L2.Di fun x y H Q h=>wN x y H Q (Gh (g':=fun i j=>.int (i - j)) (fun _ _ _=>.int) x y H Q h)⟩
theorem xw:qb X (binaryOp .FloorDiv) (aI Ep fun i j=>.int (i / j)):=⟨m2 L2.Af (Gh fun _ _ _=>.int)⟩
theorem d8:qb X (binaryOp .Mod) (aI (fun _ j=>0<j) fun i j=>.int (i % j)):=⟨m2 L2.Dn (Gh fun _ _ _=>.int)⟩
theorem BW:qb X (binaryOp .Pow) (aI GD fun i j=>.int (i ^ j.toNat)):=⟨m2 L2.Dk (Gh fun _ _ _=>.int)⟩
theorem HG:qb X (yan .GtE) (aI (fun _ _=>True) fun i j=>.bl (decide (j≤i))):=⟨m2 L2.Fw fun x y H Q h=>wN x y H Q (Gh (g':=fun i j=>.bl (decide (j≤i))) (fun _ _ _=>.bl) x y H Q h)⟩
def IE:A2:=fun x y S Q=>match x,y with
 | .int i,.int j=>Q (.dat (.bl (decide (i<j)))) S
 | .str i,.str j=>Q (.dat (.bl (decide (i.cps.toList<j.cps.toList)))) S
 | _,_=>False
def IF:A2:=fun x y S Q=>match x,y with
 | .int i,.int j=>Q (.dat (.bl (decide (i≤j)))) S
 | .str i,.str j=>Q (.dat (.bl (!decide (j.cps.toList<i.cps.toList)))) S
 | _,_=>False
theorem Aj:qb X (yan .Lt) IE:=⟨m2 (BU L2.Fv L2.uB) fun x y H Q h=>by
 obtain ⟨w,d,e,S,Qa,ok,r1,r2,q,bk⟩:=h
 cases d <;> cases e <;> first | exact q.elim | skip
 ·exact .inl ⟨_,_,aZ r1 rfl,aZ r2 rfl,bk.dat .refl ok .bl q⟩
 ·exact .inr ⟨_,_,i7 r1 rfl,i7 r2 rfl,bk.dat .refl ok .bl q⟩⟩
def rJ:A2:=fun x y S Q=>match aU S x,aU S y with
 | .int i,.int j=>Q (.dat (.int (i+j))) S
 | .str i,.str j=>i.length+j.length≤yag∧Q (.dat (.str (i++j))) S
 | .lst xs,.lst ys=>xs.length+ys.length≤yag∧Q (.new (.lst (xs++ys))) S
 | .tup xs,.tup ys=>xs≠[]∧xs.length+ys.length≤yag∧Q (.dat (.tup (xs++ys))) S
 | _,_=>False
theorem bz:qb X (binaryOp .Add) rJ:=⟨m2 (BU L2.Ds (BU L2.qD (BU L2.Dr L2.Ag))) fun x y H Q h=>by
 obtain ⟨w,d,e,S,Qa,ok,r1,r2,q,bk⟩:=h
 unfold rJ at q
 cases z1:aU S d <;> cases z2:aU S e <;> rw [z1,z2] at q <;> first | exact q.elim | skip
 ·exact .inl ⟨_,_,b7 r1 z1,b7 r2 z2,bk.dat .refl ok .int q⟩
 ·exact .inr (.inl ⟨_,_,bF r1 z1,bF r2 z2,q.1,bk.dat .refl ok .str q.2⟩)
 ·obtain ⟨a,xs,rfl,h1,g1⟩:=b6 ok r1 z1
  obtain ⟨b,ys,rfl,h2,g2⟩:=b6 ok r2 z2
  obtain ⟨hne,hl,q⟩:=q
  refine .inr (.inr (.inr ⟨a,b,xs,ys,rfl,rfl,ck.of h1,ck.of h2,?_,by rw [g1.length,g2.length];exact hl,fun hy => ?_,fun hy p hp => ?_⟩))
  ·intro z;subst z
   have:=g1.length
   simp at this
   exact hne (zaa this.symm)
  ·subst hy
   have:_=[]:=zaa g2.length.symm
   rw [this,zbo] at q
   cases d <;> simp only [aU] at z1
   case tup=>cases z1;exact bk.dat .refl ok r1 q
   case loc n=>split at z1 <;> first | (rename_i o _;cases o <;> simp [MO.d] at z1) | cases z1
   all_goals cases z1
  ·obtain ⟨w2,le2,ok2,rep2⟩:=ok.jU hp (g1.append g2)
   exact bk.dat le2 ok2 rep2 q
 ·obtain ⟨a,xs,rfl,h1,g1⟩:=bq ok r1 z1
  obtain ⟨b,ys,rfl,h2,g2⟩:=bq ok r2 z2
  refine .inr (.inr (.inl ⟨a,b,xs,ys,rfl,rfl,h1,h2,by rw [g1.length,g2.length];exact q.1,fun p hp => ?_⟩))
  exact bk (.new (.lst _)) S _ w _ .refl (ok.alloc hp) (ok.fresh hp ⟨_,rfl,g1.append g2⟩) q.2⟩
end
end M
namespace M
open PySem PySem.Spec PyProof.Rows PySem.SeqAt L2
mutual
noncomputable def bN:D→Bool
 | .bP | .bl _ | .int _ | .str _ | .ju _=>true
 | .tup ds | .lst ds=>bE ds
 | _=>false
noncomputable def bE:List D→Bool
 | []=>true
 | d::ds=>bN d&&bE ds
end
mutual
noncomputable def py:D→yam
 | .bP=>.none
 | .bl b=>.bool b
 | .int i=>.int i
 | .str x=>.str x
 | .tup ds=>.tuple (cG ds)
 | .lst ds=>.list (cG ds)
 | .ju ss=>.tuple (ss.map PyData.str)
 | _=>.none
noncomputable def cG:List D→List yam
 | []=>[]
 | d::ds=>py d::cG ds
end
theorem n9 {K:yaE}{H:Hp}:∀ (ss:List Str),cZ K H (ss.map PyData.str) (ss.map V.str)
 | []=>by simp [cZ]
 | s::ss=>by
  simp only [zbC,cZ,bJ]
  exact ⟨_,_,rfl,rfl,n9 ss⟩
section
variable {K:yaE}{w:Wd}{H:Hp}{S:aJ}
mutual
theorem yi (e:eF w.B H):∀ (d:D) (v:V),bN d=true→Rep K w d v→bJ K H (py d) v
 | .bP,v,_,h=>by simpa [Rep,py,bJ] using h
 | .bl _,v,_,h=>by simpa [Rep,py,bJ] using h
 | .int _,v,_,h=>by simpa [Rep,py,bJ] using h
 | .str _,v,_,h=>by simpa [Rep,py,bJ] using h
 | .tup ds,v,hp,h=>by
  simp only [Rep,py,bJ] at h ⊢
  obtain ⟨a,xs,h1,h2,h3⟩:=h
  exact ⟨a,xs,h1,ck.of (e _ _ h2),jl e ds xs (by simpa [bN] using hp) h3⟩
 | .lst ds,v,hp,h=>by
  simp only [Rep,py,bJ] at h ⊢
  obtain ⟨a,xs,h1,h2,h3⟩:=h
  exact ⟨a,xs,h1,cj.of (e _ _ h2),jl e ds xs (by simpa [bN] using hp) h3⟩
 | .dct _ _,_,hp,_=>by simp [bN] at hp
 | .loc _,_,hp,_=>by simp [bN] at hp
 | .ty _,_,hp,_=>by simp [bN] at hp
 | .i6 _,_,hp,_=>by simp [bN] at hp
 | .ju ss,_,_,h=>by
  simp only [Rep,py,bJ] at h ⊢
  obtain ⟨a,h1,h2⟩:=h
  exact ⟨a,_,h1,ck.same e h2,n9 ss⟩
 | .fd,_,hp,_=>by simp [bN] at hp
 | .fn _,_,hp,_=>by simp [bN] at hp
theorem jl (e:eF w.B H):∀ (ds:List D) (vs:List V),bE ds=true→aj K w ds vs→cZ K H (cG ds) vs
 | [],vs,_,h=>by simpa [aj,cG,cZ] using h
 | d::ds,vs,hp,h=>by
  simp only [bE,zbm] at hp
  simp only [aj,cG,cZ] at h ⊢
  obtain ⟨x,r,h1,h2,h3⟩:=h
  exact ⟨x,r,h1,yi e d x hp.1 h2,jl e ds r hp.2 h3⟩
end
theorem sj (k:Ok K w H S) {d:D}{v:V} (h:Rep K w d v) (hp:bN (aU S d)=true):bJ K H (py (aU S d)) v:=by
 cases d with
 | loc n =>
  cases z:aU S (.loc n) with
  | lst ds =>
   rw [z] at hp
   obtain ⟨a,xs,rfl,h1,h2⟩:=bq k h z
   simp only [py,bJ]
   exact ⟨a,xs,rfl,cj.of h1,jl k.base ds xs (by simpa [bN] using hp) h2⟩
  | _ =>
   rw [z] at hp
   simp only [aU] at z
   split at z <;> first | (rename_i o _;cases o <;> simp [MO.d] at z) | (cases z;simp [bN] at hp) | cases z
   all_goals simp [bN] at hp
 | _=>exact yi k.base _ v (by simpa [aU] using hp) h
end
noncomputable def fit (d:D):Bool:=bN d&&shaped (py d)
def Ck:A2:=fun x y S Q=>match aU S x,aU S y with
 | .str a,.str b=>Q (.dat (.bl (decide (a=b)))) S
 | .int a,.int b=>Q (.dat (.bl (decide (a=b)))) S
 | .bl a,.bl b=>Q (.dat (.bl (decide (a=b)))) S
 | x',y'=>fit x'=true∧fit y'=true∧Q (.dat (.bl (PyData.eqv (py x') (py y')))) S
def zm:A2:=fun x y S Q=>match aU S x,aU S y with
 | .str a,.str b=>Q (.dat (.bl (!decide (a=b)))) S
 | .int a,.int b=>Q (.dat (.bl (!decide (a=b)))) S
 | .bl a,.bl b=>Q (.dat (.bl (!decide (a=b)))) S
 | x',y'=>fit x'=true∧fit y'=true∧Q (.dat (.bl (!PyData.eqv (py x') (py y')))) S
section
variable {X:Cx}
def HB (K:yaE):R2:=fun x y H Q=>∃ a b,bJ K H a x∧bJ K H b y∧shaped a=true∧shaped b=true∧Q (.bl (PyData.eqv a b)) H
def Hz (K:yaE):R2:=fun x y H Q=>∃ a b,bJ K H a x∧bJ K H b y∧shaped a=true∧shaped b=true∧Q (.bl (!PyData.eqv a b)) H
theorem Dq {k:Nat} (hr:bC k X.A):fV X (yan .Eq) (HB X.K):=by
 intro pins s σ H x y v u Q I rx ry h
 obtain ⟨a,b,h1,h2,h3,h4,q⟩:=h
 obtain ⟨as,ra⟩:=I.reads a x v h1 rx
 obtain ⟨bs,rb⟩:=I.reads b y u h2 ry
 exact eq_dataH ra rb h3 h4 hr.units ⟨.bl _,H,I,rfl,q⟩
theorem Dl {k:Nat} (hr:bC k X.A):fV X (yan .NotEq) (Hz X.K):=by
 intro pins s σ H x y v u Q I rx ry h
 obtain ⟨a,b,h1,h2,h3,h4,q⟩:=h
 obtain ⟨as,ra⟩:=I.reads a x v h1 rx
 obtain ⟨bs,rb⟩:=I.reads b y u h2 ry
 exact ne_dataH ra rb h3 h4 hr.units ⟨.bl _,H,I,rfl,q⟩
theorem cM {K:yaE}{w:Wd}{H:Hp}{S:aJ}{d:D}{v:V} (k:Ok K w H S) (h:Rep K w d v) (hf:fit (aU S d)=true):bJ K H (py (aU S d)) v∧shaped (py (aU S d))=true:=by
 unfold fit at hf
 rw [zbm] at hf
 exact ⟨sj k h hf.1,hf.2⟩
theorem fQ {k:Nat} (hr:bC k X.A):qb X (yan .Eq) Ck:=⟨m2 (BU L2.Fx (Dq hr)) fun x y H Q h=>by
 obtain ⟨w,d,e,S,Qa,ok,r1,r2,q,bk⟩:=h
 unfold Ck at q
 split at q
 next a b z1 z2 =>
  refine .inl ⟨by rw [bF r1 z1,bF r2 z2];rfl,?_⟩
  rw [bF r1 z1,bF r2 z2]
  exact bk.dat .refl ok (by rw [show decide (V.str a=V.str b)=decide (a=b) by simp];exact .bl) q
 next a b z1 z2 =>
  refine .inl ⟨by rw [b7 r1 z1,b7 r2 z2];rfl,?_⟩
  rw [b7 r1 z1,b7 r2 z2]
  exact bk.dat .refl ok (by rw [show decide (V.int a=V.int b)=decide (a=b) by simp];exact .bl) q
 next a b z1 z2 =>
  refine .inl ⟨by rw [eN r1 z1,eN r2 z2];rfl,?_⟩
  rw [eN r1 z1,eN r2 z2]
  exact bk.dat .refl ok (by rw [show decide (V.bl a=V.bl b)=decide (a=b) by simp];exact .bl) q
 next =>
  obtain ⟨f1,f2,q⟩:=q
  obtain ⟨g1,s1⟩:=cM ok r1 f1
  obtain ⟨g2,s2⟩:=cM ok r2 f2
  exact .inr ⟨_,_,g1,g2,s1,s2,bk.dat .refl ok .bl q⟩⟩
theorem xr {k:Nat} (hr:bC k X.A):qb X (yan .NotEq) zm:=⟨m2 (BU L2.Ft (Dl hr)) fun x y H Q h=>by
 obtain ⟨w,d,e,S,Qa,ok,r1,r2,q,bk⟩:=h
 unfold zm at q
 split at q
 next a b z1 z2 =>
  refine .inl ⟨by rw [bF r1 z1,bF r2 z2];rfl,?_⟩
  rw [bF r1 z1,bF r2 z2]
  exact bk.dat .refl ok (by rw [show decide (V.str a=V.str b)=decide (a=b) by simp];exact .bl) q
 next a b z1 z2 =>
  refine .inl ⟨by rw [b7 r1 z1,b7 r2 z2];rfl,?_⟩
  rw [b7 r1 z1,b7 r2 z2]
  exact bk.dat .refl ok (by rw [show decide (V.int a=V.int b)=decide (a=b) by simp];exact .bl) q
 next a b z1 z2 =>
  refine .inl ⟨by rw [eN r1 z1,eN r2 z2];rfl,?_⟩
  rw [eN r1 z1,eN r2 z2]
  exact bk.dat .refl ok (by rw [show decide (V.bl a=V.bl b)=decide (a=b) by simp];exact .bl) q
 next =>
  obtain ⟨f1,f2,q⟩:=q
  obtain ⟨g1,s1⟩:=cM ok r1 f1
  obtain ⟨g2,s2⟩:=cM ok r2 f2
  exact .inr ⟨_,_,g1,g2,s1,s2,bk.dat .refl ok .bl q⟩⟩
noncomputable def inD (d:D) (ds:List D):Bool:=ds.any fun y=>PyData.eqv (py y) (py d)
def nV (neg:Bool):A2:=fun x y S Q=>match aU S y with
 | .tup ds=>fit (aU S x)=true∧fit (.tup ds)=true∧Q (.dat (.bl (neg != inD (aU S x) ds))) S
 | .lst ds=>fit (aU S x)=true∧fit (.lst ds)=true∧Q (.dat (.bl (neg != inD (aU S x) ds))) S
 | .ju ss=>fit (aU S x)=true∧fit (.tup (ss.map D.str))=true∧Q (.dat (.bl (neg != inD (aU S x) (ss.map D.str)))) S
 | _=>False
def C7 (K:yaE) (neg:Bool):R2:=fun x y H Q=>∃ d ds,bJ K H d x∧(bJ K H (.tuple ds) y∨bJ K H (.list ds) y)∧shaped d=true∧PyData.canLayAll0 ds=true∧Q (.bl (neg != ds.any fun y=>PyData.eqv y d)) H
theorem Dp {k:Nat} (hr:bC k X.A):fV X (yan .In) (C7 X.K false):=by
 intro pins s σ H x y v u Q I rx ry h
 obtain ⟨d,ds,h1,h2,h3,h4,q⟩:=h
 obtain ⟨as,ra⟩:=I.reads d x v h1 rx
 have hu:=hr.un
 rcases h2 with h2 | h2
 ·obtain ⟨bs,rb⟩:=I.reads _ y u h2 ry
  exact PySem.SeqAt.in_tuple_reads rb ra h4 (canLay_of_shaped h3) (room_in_shaped h3 (by lia)) ⟨.bl _,H,I,by simp [L2.RelV],q⟩
 ·obtain ⟨bs,rb⟩:=I.reads _ y u h2 ry
  exact PySem.SeqAt.in_list_reads rb ra h4 (canLay_of_shaped h3) (room_in_shaped h3 (by lia)) ⟨.bl _,H,I,by simp [L2.RelV],q⟩
theorem uA {k:Nat} (hr:bC k X.A):fV X (yan .NotIn) (C7 X.K true):=by
 intro pins s σ H x y v u Q I rx ry h
 obtain ⟨d,ds,h1,h2,h3,h4,q⟩:=h
 obtain ⟨as,ra⟩:=I.reads d x v h1 rx
 have hu:=hr.un
 rcases h2 with h2 | h2
 ·obtain ⟨bs,rb⟩:=I.reads _ y u h2 ry
  exact PySem.SeqAt.notIn_tuple_reads rb ra h4 (canLay_of_shaped h3) (room_in_shaped h3 (by lia)) ⟨.bl _,H,I,by simp [L2.RelV],q⟩
 ·obtain ⟨bs,rb⟩:=I.reads _ y u h2 ry
  exact PySem.SeqAt.notIn_list_reads rb ra h4 (canLay_of_shaped h3) (room_in_shaped h3 (by lia)) ⟨.bl _,H,I,by simp [L2.RelV],q⟩
theorem zW (ds:List D):cG ds=ds.map py:=by
 induction ds with
 | nil=>rfl
 | cons d ds ih=>simp [cG,ih]
theorem nN (ds:List D) (p:yam→Bool):(cG ds).any p=ds.any fun y=>p (py y):=by
 rw [zW,zbN];rfl
theorem rS {K:yaE}{H:Hp}:∀ (ss:List Str),cZ K H (cG (ss.map D.str)) (ss.map V.str)
 | []=>by simp [cG,cZ]
 | s::ss=>by
  simp only [zbC,cG,cZ,py,bJ]
  exact ⟨_,_,rfl,rfl,rS ss⟩
theorem sf {K:yaE}{w:Wd}{H:Hp}{S:aJ}{d:D}{v:V}{ss:List Str} (k:Ok K w H S) (h:Rep K w d v) (z:aU S d = .ju ss):∃ a,v = .ref a∧ck K H a (ss.map V.str):=by
 cases d <;> simp only [aU] at z
 case loc n=>split at z <;> first | (rename_i o _;cases o <;> simp [MO.d] at z) | cases z
 all_goals first | cases z | skip
 simp only [Rep] at h
 obtain ⟨a,h1,h2⟩:=h
 exact ⟨a,h1,ck.same k.base h2⟩
theorem tH {ds:List D} (h:fit (.tup ds)=true):PyData.canLayAll0 (cG ds)=true:=by
 unfold fit at h
 rw [zbm] at h
 have:=canLay_of_shaped h.2
 simpa [py,PyData.canLay0] using this
theorem ye {ds:List D} (h:fit (.lst ds)=true):PyData.canLayAll0 (cG ds)=true:=by
 unfold fit at h
 rw [zbm] at h
 have:=canLay_of_shaped h.2
 simpa [py,PyData.canLay0] using this
theorem Gg {K:yaE}{neg:Bool}:∀ x y H Q,yt K (nV neg) x y H Q→C7 K neg x y H Q:=by
 rintro x y H Q ⟨w,d,e,S,Qa,ok,r1,r2,q,bk⟩
 unfold nV at q
 split at q
 next ds z =>
  obtain ⟨f1,f2,q⟩:=q
  obtain ⟨g1,s1⟩:=cM ok r1 f1
  obtain ⟨g2,s2⟩:=cM ok r2 (by rw [z];exact f2)
  rw [z] at g2
  refine ⟨_,cG ds,g1,.inl (by simpa only [py] using g2),s1,tH f2,?_⟩
  rw [nN]
  exact bk.dat .refl ok .bl q
 next ds z =>
  obtain ⟨f1,f2,q⟩:=q
  obtain ⟨g1,s1⟩:=cM ok r1 f1
  obtain ⟨g2,s2⟩:=cM ok r2 (by rw [z];exact f2)
  rw [z] at g2
  refine ⟨_,cG ds,g1,.inr (by simpa only [py] using g2),s1,ye f2,?_⟩
  rw [nN]
  exact bk.dat .refl ok .bl q
 next ss z =>
  obtain ⟨f1,f2,q⟩:=q
  obtain ⟨g1,s1⟩:=cM ok r1 f1
  obtain ⟨a,rfl,g2⟩:=sf ok r2 z
  refine ⟨_,cG (ss.map D.str),g1,.inl ?_,s1,tH f2,?_⟩
  ·simp only [bJ]
   exact ⟨a,_,rfl,g2,rS ss⟩
  ·rw [nN]
   exact bk.dat .refl ok .bl q
 next=>exact q.elim
theorem oV {k:Nat} (hr:bC k X.A):qb X (yan .In) (nV false):=⟨m2 (Dp hr) Gg⟩
theorem ni {k:Nat} (hr:bC k X.A):qb X (yan .NotIn) (nV true):=⟨m2 (uA hr) Gg⟩
end
section
variable {X:Cx}{K:yaE}{w:Wd}{H:Hp}{S:aJ}{d:D}{v:V}
theorem oH {ds:List D}{xs:List V}{i:Int}{e:D} (h:aj K w ds xs) (q:fN ds i=some e):∃ u,fN xs i=some u∧Rep K w e u:=by
 unfold fN at q ⊢
 rw [h.length]
 cases z:B6 ds.length i with
 | none=>rw [z] at q;cases q
 | some j =>
  rw [z] at q
  exact h.get q
def kO:A2:=fun x y S Q=>match aU S x,y with
 | .lst ds,.int i=>∃ e,fN ds i=some e∧Q (.dat e) S
 | .tup ds,.int i=>∃ e,fN ds i=some e∧Q (.dat e) S
 | .str z,.int i=>z.length≤yag∧∃ c,fN z.cps.toList i=some c∧Q (.dat (.str ⟨#[c]⟩)) S
 | .i6 ns,.int i=>∃ n,fN ns i=some n∧Q (.dat (.int n)) S
 | .ju ss,.int i=>∃ x,fN ss i=some x∧Q (.dat (.str x)) S
 | _,_=>False
theorem tV {α β:Type}{f:α→β}{xs:List α}{i:Int}{a:α} (h:fN xs i=some a):fN (xs.map f) i=some (f a):=by
 unfold fN at h ⊢
 rw [zbr]
 cases z:B6 xs.length i with
 | none=>rw [z] at h;cases h
 | some j =>
  rw [z] at h
  have h:xs[j]? = some a:=h
  show (xs.map f)[j]? = some (f a)
  rw [zaP,h];rfl
theorem aS:IM X kO:=⟨fun value slice pins s σ H x y v u Q I rx ry h hs=>by
 refine L2.DM value slice pins s σ H x y v u Q I rx ry ?_ hs
 obtain ⟨w,d,e,S,Qa,ok,r1,r2,q,bk⟩:=h
 unfold kO at q
 split at q
 next ds i z =>
  obtain ⟨a,xs,rfl,h1,h2⟩:=bq ok r1 z
  obtain ⟨e',he,q⟩:=q
  obtain ⟨u',g1,g2⟩:=oH h2 he
  exact .inl ⟨a,xs,i,u',rfl,aZ r2 rfl,cj.of h1,g1,bk.dat .refl ok g2 q⟩
 next ds i z =>
  obtain ⟨a,xs,rfl,h1,h2⟩:=b6 ok r1 z
  obtain ⟨e',he,q⟩:=q
  obtain ⟨u',g1,g2⟩:=oH h2 he
  exact .inr (.inl ⟨a,xs,i,u',rfl,aZ r2 rfl,ck.of h1,g1,bk.dat .refl ok g2 q⟩)
 next y i z =>
  obtain ⟨hl,c,hc,q⟩:=q
  exact .inr (.inr ⟨y,i,c,bF r1 z,aZ r2 rfl,hl,hc,bk.dat .refl ok .str q⟩)
 next ns i z =>
  obtain ⟨a,rfl,h1⟩:=gy ok r1 z
  obtain ⟨n,hn,q⟩:=q
  exact .inl ⟨a,_,i,.int n,rfl,aZ r2 rfl,h1,tV hn,bk.dat .refl ok .int q⟩
 next ss i z =>
  obtain ⟨a,rfl,h1⟩:=sf ok r1 z
  obtain ⟨x,hx,q⟩:=q
  exact .inr (.inl ⟨a,_,i,.str x,rfl,aZ r2 rfl,h1,tV hx,bk.dat .refl ok .str q⟩)
 next=>exact q.elim⟩
noncomputable def cutD {α:Type} (xs:List α) (lo hi:Option Int):List α:=(xs.drop (HT.bL xs.length 0 lo)).take (HT.bL xs.length xs.length hi - HT.bL xs.length 0 lo)
theorem jz {ds:List D}{xs:List V} (h:aj K w ds xs) (lo hi:Option Int):aj K w (cutD ds lo hi) (pB xs lo hi):=by
 unfold cutD pB
 rw [h.length]
 exact (h.drop _).take _
end
section
variable {prog:yaj}{w:yak}{A:yal}{E:yai→yah→Prop}{s:yah}
theorem fR {t sl:Addr}{items:Array yai}{vl vu:yai}{lo hi:Option Int}{Q:yai→yah→Prop} (ht:IsTup s.heap t items) (hs:s.heap.IsSliceOf sl vl vu .none) (pl:IsPart vl lo) (pu:IsPart vu hi)
  (hw:HT.bL items.size 0 lo=0∧HT.bL items.size items.size hi=items.size) (h:Q (.ref t) s):yar (model prog w) A (getItem (.ref t) (.ref sl)) Q E s:=by
 obtain ⟨os,hos,hcs,hds⟩:=id hs
 have hTs:s.TypeIs (.ref sl) "slice" := ⟨os,hos,hcs⟩
 unfold getItem
 try with_reducible refine yad ?_
 first | refine yaa (yab ?_) | skip
 refine yaa (wpAny_sequenceKey ht.typeIs (by decide) ?_)
 refine yaa (wpAny_callSpecial?_slot (name:=Str.ofString "__getitem__") ht.typeIs PyProof.Rows.slot_tuple_getitem
  (wpAny_call_entry PyProof.Rows.slot_tuple_getitem ht.typeIs PyProof.Rows.entry_tuple_getitem ?_ (PyProof.Rows.args_tuple_getitem _ _)))
 show yar _ _ (Builtin.Tuple.tupleItemsOf (.ref t) >>= _) _ _ s
 refine yaa (PyProof.Rows.tupleItemsOf_ ht ?_)
 refine yaa (wpAny_typeOf hTs ?_)
 rw [yIp (by decide)]
 refine yaa (HT.dF hs pl pu ?_)
 have hyes:(((HT.bL items.size 0 lo:Nat):Int)==0&&(1:Int)==1&&(HT.bL items.size items.size hi - HT.bL items.size 0 lo)==items.size)=true:=by
  rw [hw.1,hw.2];simp
 show yar _ _ (if (((HT.bL items.size 0 lo:Nat):Int)==0&&(1:Int)==1&&(HT.bL items.size items.size hi - HT.bL items.size 0 lo)==items.size)=true then _ else _) _ _ s
 rw [yIp hyes]
 refine yaa (m:=Builtin.Tuple.tupleIsExact (.ref t)) ?_
 unfold Builtin.Tuple.tupleIsExact
 refine yaa (wpAny_typeOf ht.typeIs (yab ?_))
 rw [yIp (by decide)]
 exact yaa (wpAny_rule (yab ⟨_,rfl,yab h⟩))
end
section
variable {X:Cx}{K:yaE}{w:Wd}{H:Hp}{S:aJ}{d:D}{v:V}
def Eb:D→Option Int→Option Int→aJ→AK→Prop:=fun x lo hi S Q=>match aU S x with
 | .lst ds=>Q (.new (.lst (cutD ds lo hi))) S
 | .tup ds=>Q (.dat (.tup (cutD ds lo hi))) S
 | .str z=>z.length≤yag∧Q (.dat (.str (Txt.slice z lo hi))) S
 | .i6 ns=>Q (.new (.lst ((cutD ns lo hi).map D.int))) S
 | _=>False
def Hv (K:yaE):V→Option Int→Option Int→Hp→VK→Prop:=fun x lo hi H Q=>∃ a xs,x = .ref a∧ck K H a xs∧(HT.bL xs.length 0 lo=0∧HT.bL xs.length xs.length hi=xs.length)∧Q (.ref a) H
theorem vQ:zo X (Hv X.K):=by
 intro pins s σ H x v vl vu lo hi sl Q I rx hs pl pu h
 obtain ⟨a,xs,rfl,hx,hw,q⟩:=h
 cases rx
 obtain ⟨its,r,ht,hz⟩:=I.tuple hx
 have hlen:its.toArray.size=xs.length:=by rw [zaO];exact r.length.symm
 refine ⟨"tuple",_,PyProof.Rows.slot_tuple_getitem.lookup,ht.typeIs,?_⟩
 exact fR ht hs pl pu (by rw [hlen];exact hw) ⟨.ref a,H,I,rfl,q⟩
theorem uO {α:Type}{xs:List α}{lo hi:Option Int} (h:HT.bL xs.length 0 lo=0∧HT.bL xs.length xs.length hi=xs.length):cutD xs lo hi=xs:=by
 unfold cutD
 rw [h.1,h.2];simp
theorem A7 {α β:Type} (f:α→β) (xs:List α) (lo hi:Option Int):cutD (xs.map f) lo hi=(cutD xs lo hi).map f:=by
 unfold cutD
 rw [zbr,List.map_take,List.map_drop]
theorem fG {w:Wd}:∀ (ns:List Int),aj K w (ns.map D.int) (ns.map V.int)
 | []=>.nil
 | n::ns=>.cons .int (fG ns)
theorem BV:IL X Eb:=⟨by
 intro pins s σ H x v vl vu lo hi sl Q I rx hs pl pu h
 refine (L2.zF.or (L2.CC.or (vQ.or L2.CD))) pins s σ H x v vl vu lo hi sl Q I rx hs pl pu ?_
 obtain ⟨w,d,S,Qa,ok,r1,q,bk⟩:=h
 unfold Eb at q
 split at q
 next ds z =>
  obtain ⟨a,xs,rfl,h1,h2⟩:=bq ok r1 z
  exact .inl ⟨a,xs,rfl,cj.of h1,fun p hp=>bk (.new (.lst _)) S _ w _ .refl (ok.alloc hp) (ok.fresh hp ⟨_,rfl,jz h2 lo hi⟩) q⟩
 next ds z =>
  obtain ⟨a,xs,rfl,h1,h2⟩:=b6 ok r1 z
  by_cases hw:HT.bL xs.length 0 lo=0∧HT.bL xs.length xs.length hi=xs.length
  ·refine .inr (.inr (.inl ⟨a,xs,rfl,ck.of h1,hw,?_⟩))
   rw [h2.length] at hw
   rw [uO hw] at q
   cases d <;> simp only [aU] at z
   case tup=>cases z;exact bk.dat .refl ok r1 q
   case loc n=>split at z <;> first | (rename_i o _;cases o <;> simp [MO.d] at z) | cases z
   all_goals cases z
  ·refine .inr (.inl ⟨a,xs,rfl,ck.of h1,hw,fun p hp => ?_⟩)
   obtain ⟨w2,le2,ok2,rep2⟩:=ok.jU hp (jz h2 lo hi)
   exact bk.dat le2 ok2 rep2 q
 next y z=>exact .inr (.inr (.inr ⟨y,bF r1 z,q.1,bk.dat .refl ok .str q.2⟩))
 next ns z =>
  obtain ⟨a,rfl,h1⟩:=gy ok r1 z
  refine .inl ⟨a,_,rfl,h1,fun p hp=>bk (.new (.lst _)) S _ w _ .refl (ok.alloc hp) (ok.fresh hp ⟨_,rfl,?_⟩) q⟩
  have:=jz (fG (K:=X.K) (w:=w) ns) lo hi
  rw [A7] at this
  exact this
 next=>exact q.elim⟩
def Bk:A2:=fun x y S Q=>match aU S x,y with
 | .int i,.int j=>ze i j∧Q (.dat (.int (i*j))) S
 | .lst ds,.int k=>(-(2 ^ 63)≤k∧k<2 ^ 63)∧ds.length*k.toNat≤yag∧Q (.new (.lst (zbx k.toNat ds).flatten)) S
 | .str z,.int n=>MulOk z n∧Q (.dat (.str (Txt.mul z n))) S
 | _,_=>False
theorem oG {ds:List D}{xs:List V} (h:aj K w ds xs):∀ k:Nat,aj K w (zbx k ds).flatten (zbx k xs).flatten
 | 0=>.nil
 | k+1=>by
  rw [zay,zay,zaQ,zaQ]
  exact h.append (oG h k)
theorem lS:qb X (binaryOp .Mult) Bk:=⟨m2 (BU L2.Dm (BU L2.Dj L2.qC)) fun x y H Q h=>by
 obtain ⟨w,d,e,S,Qa,ok,r1,r2,q,bk⟩:=h
 unfold Bk at q
 split at q
 next i j z=>exact .inl ⟨i,j,b7 r1 z,aZ r2 rfl,q.1,bk.dat .refl ok .int q.2⟩
 next ds k z =>
  obtain ⟨a,xs,rfl,h1,h2⟩:=bq ok r1 z
  obtain ⟨⟨g1,g2⟩,hl,q⟩:=q
  refine .inr (.inl ⟨a,k,xs,rfl,aZ r2 rfl,h1,g1,g2,by rw [h2.length];exact hl,fun p hp => ?_⟩)
  exact bk (.new (.lst _)) S _ w _ .refl (ok.alloc hp) (ok.fresh hp ⟨_,rfl,oG h2 k.toNat⟩) q
 next y n z=>exact .inr (.inr ⟨y,n,bF r1 z,aZ r2 rfl,q.1,bk.dat .refl ok .str q.2⟩)
 next=>exact q.elim⟩
end
mutual
noncomputable def fT (n:Nat):D→Bool
 | .loc m=>decide (m<n)
 | .tup ds | .lst ds | .dct _ ds=>gZ n ds
 | _=>true
noncomputable def gZ (n:Nat):List D→Bool
 | []=>true
 | d::ds=>fT n d&&gZ n ds
end
noncomputable def nJ (n:Nat):MO→Bool
 | .lst ds=>gZ n ds
 | .dct _ ds=>gZ n ds
 | .feed _=>true
 | .ins _ _ ds=>gZ n ds
 | .zk _ ks=>gZ n ks
mutual
theorem tT (n:Nat):∀ d:D,bN d=true→fT n d=true
 | .bP,_=>by simp [fT]
 | .bl _,_=>by simp [fT]
 | .int _,_=>by simp [fT]
 | .str _,_=>by simp [fT]
 | .tup ds,h=>by simp only [fT];exact dJ n ds (by simpa [bN] using h)
 | .lst ds,h=>by simp only [fT];exact dJ n ds (by simpa [bN] using h)
 | .dct _ _,h=>by simp [bN] at h
 | .loc _,h=>by simp [bN] at h
 | .ty _,h=>by simp [bN] at h
 | .i6 _,h=>by simp [bN] at h
 | .ju _,_=>by simp [fT]
 | .fd,h=>by simp [bN] at h
 | .fn _,h=>by simp [bN] at h
theorem dJ (n:Nat):∀ ds:List D,bE ds=true→gZ n ds=true
 | [],_=>by simp [gZ]
 | d::ds,h=>by
  simp only [bE,zbm] at h
  simp only [gZ,zbm]
  exact ⟨tT n d h.1,dJ n ds h.2⟩
end
noncomputable def fZ (n:Nat) (w:Wd):Wd:=⟨w.B,fun k=>if k<n then w.r k else none⟩
section
variable {K:yaE}{w w1:Wd}{H H1:Hp}{S S0 S1:aJ}
mutual
theorem lI (n:Nat):∀ (d:D) (v:V),fT n d=true→Rep K w d v→Rep K (fZ n w) d v
 | .bP,_,_,h=>by simpa [Rep] using h
 | .bl _,_,_,h=>by simpa [Rep] using h
 | .int _,_,_,h=>by simpa [Rep] using h
 | .str _,_,_,h=>by simpa [Rep] using h
 | .ty _,_,_,h=>by simpa [Rep] using h
 | .fd,_,_,h=>by simpa [Rep] using h
 | .fn _,_,_,h=>by simpa [Rep] using h
 | .i6 _,_,_,h=>by simpa [Rep,fZ] using h
 | .ju _,_,_,h=>by simpa [Rep,fZ] using h
 | .loc m,v,hb,h=>by
  simp only [fT,decide_eq_true_eq] at hb
  simp only [Rep] at h ⊢
  obtain ⟨a,h1,h2⟩:=h
  exact ⟨a,by show (if m<n then w.r m else none)=_;rw [yIp hb];exact h1,h2⟩
 | .tup ds,v,hb,h=>by
  simp only [Rep] at h ⊢
  obtain ⟨a,xs,h1,h2,h3⟩:=h
  exact ⟨a,xs,h1,h2,bR n ds xs (by simpa [fT] using hb) h3⟩
 | .lst ds,v,hb,h=>by
  simp only [Rep] at h ⊢
  obtain ⟨a,xs,h1,h2,h3⟩:=h
  exact ⟨a,xs,h1,h2,bR n ds xs (by simpa [fT] using hb) h3⟩
 | .dct ks ds,v,hb,h=>by
  simp only [Rep] at h ⊢
  obtain ⟨a,xs,h1,h2,h3,h4⟩:=h
  exact ⟨a,xs,h1,h2,h3,bR n ds _ (by simpa [fT] using hb) h4⟩
theorem bR (n:Nat):∀ (ds:List D) (vs:List V),gZ n ds=true→aj K w ds vs→aj K (fZ n w) ds vs
 | [],_,_,h=>by simpa [aj] using h
 | d::ds,vs,hb,h=>by
  simp only [gZ,zbm] at hb
  simp only [aj] at h ⊢
  obtain ⟨x,r,h1,h2,h3⟩:=h
  exact ⟨x,r,h1,lI n d x hb.1 h2,bR n ds r hb.2 h3⟩
end
mutual
theorem zV (n:Nat) (ht:∀ k,n≤k→w.r k=none):∀ (d:D) (v:V),Rep K w d v→fT n d=true
 | .bP,_,_=>by simp [fT]
 | .bl _,_,_=>by simp [fT]
 | .int _,_,_=>by simp [fT]
 | .str _,_,_=>by simp [fT]
 | .ty _,_,_=>by simp [fT]
 | .fd,_,_=>by simp [fT]
 | .fn _,_,_=>by simp [fT]
 | .i6 _,_,_=>by simp [fT]
 | .ju _,_,_=>by simp [fT]
 | .loc m,v,h=>by
  simp only [Rep] at h
  obtain ⟨a,h1,h2⟩:=h
  simp only [fT,decide_eq_true_eq]
  rcases zbV m n with q | q
  ·exact q
  ·rw [ht m q] at h1;cases h1
 | .tup ds,v,h=>by
  simp only [Rep] at h
  obtain ⟨a,xs,h1,h2,h3⟩:=h
  simp only [fT];exact cC n ht ds xs h3
 | .lst ds,v,h=>by
  simp only [Rep] at h
  obtain ⟨a,xs,h1,h2,h3⟩:=h
  simp only [fT];exact cC n ht ds xs h3
 | .dct ks ds,v,h=>by
  simp only [Rep] at h
  obtain ⟨a,xs,h1,h2,h3,h4⟩:=h
  simp only [fT];exact cC n ht ds _ h4
theorem cC (n:Nat) (ht:∀ k,n≤k→w.r k=none):∀ (ds:List D) (vs:List V),aj K w ds vs→gZ n ds=true
 | [],_,_=>by simp [gZ]
 | d::ds,vs,h=>by
  simp only [aj] at h
  obtain ⟨x,r,h1,h2,h3⟩:=h
  simp only [gZ,zbm]
  exact ⟨zV n ht d x h2,cC n ht ds r h3⟩
end
theorem gc (n:Nat):∀ {o:MO}{u:HO},nJ n o=true→kF K w o u→kF K (fZ n w) o u
 | .lst ds,u,hb,⟨xs,h1,h2⟩=>⟨xs,h1,bR n ds xs hb h2⟩
 | .dct ks ds,u,hb,⟨xs,h1,h2,h3⟩=>⟨xs,h1,h2,bR n ds _ hb h3⟩
 | .feed _,u,_,h=>h
 | .ins C ks ds,u,hb,⟨dx,fs,h1,h2,h3⟩=>⟨dx,fs,h1,h2,bR n ds _ hb h3⟩
 | .zk F ks,u,hb,⟨a,bs,h1,h2⟩=>⟨a,bs,h1,bR n ks _ hb h2⟩
theorem wJ (n:Nat) (ht:∀ k,n≤k→w.r k=none):∀ {o:MO}{u:HO},kF K w o u→nJ n o=true
 | .lst ds,u,⟨xs,h1,h2⟩=>cC n ht ds xs h2
 | .dct ks ds,u,⟨xs,h1,h2,h3⟩=>cC n ht ds _ h3
 | .feed _,u,h=>rfl
 | .ins C ks ds,u,⟨dx,fs,h1,h2,h3⟩=>cC n ht ds _ h3
 | .zk F ks,u,⟨a,bs,h1,h2⟩=>cC n ht ks _ h2
noncomputable def out (n:Nat) (S1:aJ):R→Option R
 | .dat (.loc m)=>if m<n then some (.dat (.loc m)) else match S1[m]? with
  | some (some o)=>if nJ n o=true then some (.new o) else none
  | _=>none
 | .dat d=>if fT n d=true then some (.dat d) else none
 | .new o=>if nJ n o=true then some (.new o) else none
def chg (S0 S1:aJ):Prop:=∀ k o,k<S0.length→S1[k]? = some (some o)→S0[k]? = some (some o)∨nJ S0.length o=true
def ret (S0 S1:aJ) (r:R) (Q:AK):Prop:=∃ r',out S0.length S1 r=some r'∧chg S0 S1∧Q r' (S1.take S0.length)
theorem mR {r:R}{v:V}{Qa:AK}{Q:VK} (ok:Ok K w H S0) (le:w.le w1) (ok1:Ok K w1 H1 S1) (rep:vf K w1 H1 S1 r v) (h:ret S0 S1 r Qa) (bk:dj K w Qa Q):Q v H1:=by
 obtain ⟨r',ho,hc,q⟩:=h
 generalize hn:S0.length=n at *
 have lt:∀ k a,w.r k=some a→k<n:=fun k a e=>by
  rcases zbV k n with z | z
  ·exact z
  ·rw [ok.top k (by lia)] at e;cases e
 have at_:∀ k o,(S1.take n)[k]? = some (some o)→k<n∧S1[k]? = some (some o):=fun k o e=>by
  rw [List.getElem?_take] at e
  by_cases z:k<n
  ·rw [yIp z] at e;exact ⟨z,e⟩
  ·rw [yIn z] at e;cases e
 have le2:w.le (fZ n w1):=⟨le.b,fun k a e=>by show (if k<n then w1.r k else none)=_;rw [yIp (lt k a e)];exact le.r k a e⟩
 have bl:∀ k o,k<n→S1[k]? = some (some o)→nJ n o=true:=fun k o hk e=>by
  rcases hc k o (by lia) e with z | z
  ·obtain ⟨a,u,_,_,_,h4⟩:=ok.live k o z
   exact wJ n (fun k hk=>ok.top k (by lia)) h4
  ·rw [hn] at z;exact z
 have ok2:Ok K (fZ n w1) H1 (S1.take n):=⟨ok1.base,fun k o e=>by
   obtain ⟨hk,e⟩:=at_ k o e
   obtain ⟨a,u,h1,h2,h3,h4⟩:=ok1.live k o e
   exact ⟨a,u,by show (if k<n then w1.r k else none)=_;rw [yIp hk];exact h1,h2,h3,gc n (bl k o hk e) h4⟩,
  fun k m o o' e e' z=>by
   obtain ⟨hk,e⟩:=at_ k o e
   obtain ⟨hm,e'⟩:=at_ m o' e'
   have z:(if k<n then w1.r k else none)=(if m<n then w1.r m else none):=z
   rw [yIp hk,yIp hm] at z
   exact ok1.inj k m o o' e e' z,
  fun k hk=>by
   show (if k<n then w1.r k else none)=none
   by_cases z:k<n
   ·rw [yIp z]
    rw [zbb] at hk
    exact ok1.top k (by lia)
   ·rw [yIn z]⟩
 refine bk r' (S1.take n) v (fZ n w1) H1 le2 ok2 ?_ q
 have fresh:∀ m o a,n≤m→S1[m]? = some (some o)→w1.r m=some a→∀ k o',(S1.take n)[k]? = some (some o')→(fZ n w1).r k≠some a:=fun m o a hm e ha k o' e' z=>by
  obtain ⟨hk,e'⟩:=at_ k o' e'
  have z:(if k<n then w1.r k else none)=some a:=z
  rw [yIp hk] at z
  have:=ok1.inj k m o' o e' e (z.trans ha.symm)
  lia
 cases r with
 | new o =>
  simp only [out] at ho
  split at ho
  next hb =>
   cases ho
   obtain ⟨a,u,rfl,h1,h2,h3,h4⟩:=rep
   refine ⟨a,u,rfl,h1,h2,gc n hb h3,fun k o' e z => ?_⟩
   obtain ⟨hk,e⟩:=at_ k o' e
   have z:(if k<n then w1.r k else none)=some a:=z
   rw [yIp hk] at z
   exact h4 k o' e z
  next=>cases ho
 | dat d =>
  have gen:(if fT n d=true then some (R.dat d) else none)=some r'→vf K (fZ n w1) H1 (S1.take n) r' v:=fun ho=>by
   split at ho
   next hb=>cases ho;exact lI n d v hb rep
   next=>cases ho
  cases d with
  | loc m =>
   simp only [out] at ho
   split at ho
   next hm=>exact gen (by simp [fT,hm,ho])
   next hm =>
    have hm:n≤m:=by lia
    split at ho
    next o e =>
     split at ho
     next hb =>
      cases ho
      have rep:Rep K w1 (.loc m) v:=rep
      simp only [Rep] at rep
      obtain ⟨a,ha,rfl⟩:=rep
      obtain ⟨a',u,h1,h2,h3,h4⟩:=ok1.live m o e
      rw [ha] at h1;cases h1
      exact ⟨a,u,rfl,h2,h3,gc n hb h4,fresh m o a hm e ha⟩
     next=>cases ho
    next=>cases ho
  | _=>exact gen (by simpa only [out] using ho)
end
noncomputable def bf (N:List Str) (ds:List D):bQ:=ds.map some++zbx (N.length - ds.length) none
theorem lV {K:yaE}{w:Wd}{N:List Str}{ds:List D}{vs:List V} (h:aj K w ds vs):cN K w (bf N ds) (L2.start N vs):=by
 have hl:=h.length
 refine ⟨by simp [bf,L2.start,hl],fun i d e => ?_⟩
 unfold bf at e
 by_cases hi:i<ds.length
 ·rw [zad (by simpa using hi),zaP] at e
  cases z:ds[i]? with
  | none=>rw [z] at e;cases e
  | some d' =>
   rw [z] at e
   have e:d'=d:=by simpa using e
   subst e
   obtain ⟨v,h1,h2⟩:=h.get z
   refine ⟨v,?_,h2⟩
   unfold L2.start
   rw [zad (by rw [zbr,hl];exact hi),zaP,h1];rfl
 ·rw [zab (by simpa using hi),List.getElem?_replicate] at e
  split at e <;> cases e
section
variable {P:yaj}{w:yak}{K:yaE}{mg:Str→Option yai}{base:Heap}
theorem eY {x:Str}{st:Stmt}{N ps:List Str}{k:Nat}{sp:AN} (F:Src K mg x ps st) (S:aP N ps (ak st)) (len:∀ ds S Q,sp ds S Q→ds.length=ps.length)
  (hbody:∀ (f:Addr) (cdv:yai) (A:yal) (outer:List Env) (s:yah) (H:Hp) (E:XK),bC k (A.deeper (envOfC x (ak st) s.heap.objs.size f cdv)) →
   ∃ a,zq (kX qc P w K mg base N x (ak st) f cdv A outer s H E).Du (bO st) a∧∀ ds S Q,sp ds S Q→a { nx:=fun _ S'=>ret S S' (.dat .bP) Q,rt:=fun r S'=>ret S S' r Q } (bf N ds) S):Def P w K mg base (k+1) x ps (aF K sp) :=
 F.def S (fun vs H Q E h=>by
  obtain ⟨w,ds,S,Qa,ok,rep,q,bk⟩:=h
  rw [rep.length];exact len ds S Qa q) fun f cdv A outer s H vs Q E hr h=>by
  obtain ⟨a,ha,hd⟩:=hbody f cdv A outer s H E hr
  obtain ⟨w,ds,S,Qa,ok,rep,q,bk⟩:=h
  refine ⟨_,ha.p,w,bf N ds,S,_,ok,lV rep,hd ds S Qa q,⟨fun δ S' σ w' H' le ok' env q' => ?_,fun r S' v w' H' le ok' rep' q' => ?_,fun _ _ _ _ _ _ _ _ z=>z.elim,fun _ _ _ _ _ _ _ _ z=>z.elim⟩⟩
  ·exact mR (r:=.dat .bP) (v:=.bP) ok le ok' (show Rep K w' .bP .bP from .bP) q' bk
  ·exact mR ok le ok' rep' q' bk
end
section
variable {X:Cx}{K:yaE}{w:Wd}{H:Hp}{S:aJ}{d:D}{v:V}
theorem jA {vs:List V} (h:aj K w [d] vs):∃ v,vs=[v]∧Rep K w d v:=by
 simp only [aj] at h
 obtain ⟨x,r,rfl,h1,rfl⟩:=h
 exact ⟨x,rfl,h1⟩
theorem BP {e:D}{vs:List V} (h:aj K w [d,e] vs):∃ v u,vs=[v,u]∧Rep K w d v∧Rep K w e u:=by
 simp only [aj] at h
 obtain ⟨x,r,rfl,h1,y,r',rfl,h2,rfl⟩:=h
 exact ⟨x,y,rfl,h1,h2⟩
noncomputable def iQ:D→Option Nat
 | .lst ds=>some ds.length
 | .tup ds=>some ds.length
 | .i6 ns=>some ns.length
 | .dct ks _=>some ks.length
 | .str z=>if z.length≤yag then some z.length else none
 | _=>none
def Gs:AN:=fun ds S Q=>∃ d n,ds=[d]∧iQ (aU S d)=some n∧Q (.dat (.int n)) S
theorem jP:Bw X (.builtin "len") Gs:=⟨mC (IA L2.yw L2.uU) fun xs H Q h=>by
 obtain ⟨w,ds,S,Qa,ok,rep,⟨d,n,rfl,e,q⟩,bk⟩:=h
 obtain ⟨v,rfl,r1⟩:=jA rep
 cases z:aU S d with
 | lst ds =>
  rw [z] at e
  have e:ds.length=n:=by simpa [iQ] using e
  obtain ⟨a,xs,rfl,h1,h2⟩:=bq ok r1 z
  exact .inl ⟨_,n,rfl,.inl ⟨xs,cj.of h1,by rw [h2.length,e]⟩,bk.dat .refl ok .int q⟩
 | tup ds =>
  rw [z] at e
  have e:ds.length=n:=by simpa [iQ] using e
  obtain ⟨a,xs,rfl,h1,h2⟩:=b6 ok r1 z
  exact .inl ⟨_,n,rfl,.inr ⟨xs,ck.of h1,by rw [h2.length,e]⟩,bk.dat .refl ok .int q⟩
 | i6 ns =>
  rw [z] at e
  have e:ns.length=n:=by simpa [iQ] using e
  obtain ⟨a,rfl,h1⟩:=gy ok r1 z
  exact .inl ⟨_,n,rfl,.inl ⟨_,h1,by rw [zbr,e]⟩,bk.dat .refl ok .int q⟩
 | str y =>
  rw [z] at e
  simp only [iQ] at e
  split at e
  next hl =>
   cases e
   exact .inl ⟨_,_,rfl,(by rw [bF r1 z];exact ⟨hl,rfl⟩),bk.dat .refl ok .int q⟩
  next=>cases e
 | dct ks ds =>
  rw [z] at e
  have e:ks.length=n:=by simpa [iQ] using e
  obtain ⟨a,kvs,rfl,h1,h2,_⟩:=mL ok r1 z
  refine .inr ⟨a,kvs,rfl,h1,?_⟩
  rw [← zbr (f:=(·.1)),h2,e]
  exact bk.dat .refl ok .int q
 | _=>rw [z] at e;simp [iQ] at e⟩
noncomputable def tyD:D→Option String
 | .bP=>some "NoneType"
 | .bl _=>some "bool"
 | .int _=>some "int"
 | .str _=>some "str"
 | .tup _=>some "tuple"
 | .lst _=>some "list"
 | _=>none
noncomputable def HN (d:D) (T:String):Option Bool:=(tyD d).bind fun t=>if T == "str" || T == "int" || T == "bool" || T == "tuple" || T == "list" then some (t==T||(t == "bool" && T == "int")) else none
def Ih:AN:=fun ds S Q=>∃ d T b,ds=[d,.ty T]∧HN (aU S d) T=some b∧Q (.dat (.bl b)) S
def jn:AN:=fun ds S Q=>∃ d,ds=[d]∧match aU S d with
 | .lst es=>Q (.new (.lst es)) S
 | .tup es=>Q (.new (.lst es)) S
 | .i6 ns=>Q (.new (.lst (ns.map D.int))) S
 | _=>False
theorem jO:Bw X (.type "list") jn:=⟨mC L2.nG fun xs H Q h=>by
 obtain ⟨w,ds,S,Qa,ok,rep,⟨d,rfl,q⟩,bk⟩:=h
 obtain ⟨v,rfl,r1⟩:=jA rep
 split at q
 next es z =>
  obtain ⟨a,xs,rfl,h1,h2⟩:=bq ok r1 z
  exact ⟨a,xs,rfl,.inl (cj.of h1),fun p hp=>bk (.new (.lst _)) S _ w _ .refl (ok.alloc hp) (ok.fresh hp ⟨_,rfl,h2⟩) q⟩
 next es z =>
  obtain ⟨a,xs,rfl,h1,h2⟩:=b6 ok r1 z
  exact ⟨a,xs,rfl,.inr (ck.of h1),fun p hp=>bk (.new (.lst _)) S _ w _ .refl (ok.alloc hp) (ok.fresh hp ⟨_,rfl,h2⟩) q⟩
 next ns z =>
  obtain ⟨a,rfl,h1⟩:=gy ok r1 z
  exact ⟨a,_,rfl,.inl h1,fun p hp=>bk (.new (.lst _)) S _ w _ .refl (ok.alloc hp) (ok.fresh hp ⟨_,rfl,fG ns⟩) q⟩
 next=>exact q.elim⟩
def ia:AN:=fun ds S Q=>∃ d,ds=[d]∧match aU S d with
 | .lst es=>Q (.dat (.tup es)) S
 | .tup es=>Q (.dat (.tup es)) S
 | _=>False
theorem dI:Bw X (.type "tuple") ia:=⟨mC L2.k8 fun xs H Q h=>by
 obtain ⟨w,ds,S,Qa,ok,rep,⟨d,rfl,q⟩,bk⟩:=h
 obtain ⟨v,rfl,r1⟩:=jA rep
 split at q
 next es z =>
  obtain ⟨a,xs,rfl,h1,h2⟩:=bq ok r1 z
  refine ⟨a,xs,rfl,.inl ⟨cj.of h1,fun p hp => ?_⟩⟩
  obtain ⟨w2,le2,ok2,rep2⟩:=ok.jU hp h2
  exact bk.dat le2 ok2 rep2 q
 next es z =>
  obtain ⟨a,xs,rfl,h1,h2⟩:=b6 ok r1 z
  refine ⟨a,xs,rfl,.inr ⟨ck.of h1,?_⟩⟩
  cases d <;> simp only [aU] at z
  case tup=>cases z;exact bk.dat .refl ok r1 q
  case loc n=>split at z <;> first | (rename_i o _;cases o <;> simp [MO.d] at z) | cases z
  all_goals cases z
 next=>exact q.elim⟩
def Gr:AN:=fun ds S Q=>∃ i j,ds=[.int i,.int j]∧Q (.dat (.int (if j > i then j else i))) S
def yK:AN:=fun ds S Q=>∃ i j,ds=[.int i,.int j]∧Q (.dat (.int (if j<i then j else i))) S
theorem Dt (hc:X.calm=true):Bw X (.builtin "max") Gr:=⟨mC (L2.uT hc) fun xs H Q h=>by
 obtain ⟨w,ds,S,Qa,ok,rep,⟨i,j,rfl,q⟩,bk⟩:=h
 obtain ⟨v,u,rfl,r1,r2⟩:=BP rep
 exact ⟨i,j,by rw [aZ r1 rfl,aZ r2 rfl],bk.dat .refl ok .int q⟩⟩
theorem xu (hc:X.calm=true):Bw X (.builtin "min") yK:=⟨mC (L2.uS hc) fun xs H Q h=>by
 obtain ⟨w,ds,S,Qa,ok,rep,⟨i,j,rfl,q⟩,bk⟩:=h
 obtain ⟨v,u,rfl,r1,r2⟩:=BP rep
 exact ⟨i,j,by rw [aZ r1 rfl,aZ r2 rfl],bk.dat .refl ok .int q⟩⟩
end
abbrev AM:=D→List D→aJ→AK→Prop
structure Gx (X:Cx) (id:String) (r:AM):Prop where
 p:vg X id (D5 X.K r)
def qN (T:String):D→Prop
 | .lst _=>T = "list"
 | .str _=>T = "str"
 | .i6 _=>T = "list"
 | .dct _ _=>T = "dict"
 | _=>False
def pR (T:String) (r:AM) (a:AE) (b:AA):AE:=fun δ S Q=>a δ S fun x S1=>qN T (aU S1 x.d)∧b δ S1 fun ds S2=>r x.d ds S2 Q
def Ek (T:String) (r:AM) (a:AE):AE:=fun δ S Q=>a δ S fun x S1=>qN T (aU S1 x.d)∧r x.d [] S1 Q
section
variable {X:Cx}{K:yaE}{w:Wd}{H:Hp}{S:aJ}{d:D}{v:V}
theorem BA {T:String} (ok:Ok K w H S) (h:Rep K w d v) (t:qN T (aU S d)):GK K T v H:=by
 cases z:aU S d with
 | lst ds =>
  rw [z] at t;cases t
  obtain ⟨a,xs,rfl,h1,h2⟩:=bq ok h z
  exact .inl ⟨rfl,xs,cj.of h1⟩
 | str y=>rw [z] at t;cases t;rw [bF h z];exact rfl
 | i6 ns =>
  rw [z] at t;cases t
  obtain ⟨a,rfl,h1⟩:=gy ok h z
  exact .inl ⟨rfl,_,h1⟩
 | dct ks ds =>
  rw [z] at t;cases t
  obtain ⟨a,kvs,rfl,h1,_⟩:=mL ok h z
  exact .inr (.inr (.inl ⟨rfl,.inl ⟨kvs,h1⟩⟩))
 | _=>rw [z] at t;exact t.elim
theorem Hs {T:String}{r:AM}{a:AE}{b:AA}:∀ σ H Q,bu K (pR T r a b) σ H Q→G9 K T (D5 K r) (bu K a) (iU K b) σ H Q:=by
 rintro σ H Q ⟨w,δ,S,Qa,ok,env,q,bk⟩
 refine ⟨w,δ,S,_,ok,env,q,.go fun r1 S1 v1 w1 H1 le1 ok1 rep1 ⟨ty,q1⟩=>⟨BA ok1 rep1 ty,?_⟩⟩
 refine ⟨w1,δ,S1,_,ok1,env.le le1,q1,fun ds S2 vs w2 H2 le2 ok2 rep2 q2 => ?_⟩
 exact ⟨w2,r1.d,ds,S2,Qa,ok2,rep1.le le2,rep2,q2,bk.le (le1.trans le2)⟩
theorem Fe {T:String}{r:AM}{a:AE}:∀ σ H Q,bu K (Ek T r a) σ H Q→Cy K T (D5 K r) (bu K a) σ H Q:=by
 rintro σ H Q ⟨w,δ,S,Qa,ok,env,q,bk⟩
 refine ⟨w,δ,S,_,ok,env,q,.go fun r1 S1 v1 w1 H1 le1 ok1 rep1 ⟨ty,q1⟩=>⟨BA ok1 rep1 ty,?_⟩⟩
 exact ⟨w1,r1.d,[],S1,Qa,ok1,rep1,.nil,q1,bk.le le1⟩
theorem cJ {o e:Expr}{es:List Expr}{to:AE}{t:AA}{name:Str}{apos cpos:Pos}{T id:String}{r:AM} (pa:PlainAttrs T) (slot:Slot T name id) (hty:typeOf (.builtin id)=pure (.type "method_descriptor")) (hm:Gx X id r) (ho:GE X o to) (ha:GA X (e::es) t)
  (hbase:attributeBase o name X.env (eval o X.env)=eval o X.env:=by rfl) (hs:(e::es).all notStar=true:=by rfl) (hfew:decide ((e::es).length+0+0<30)=true:=by rfl)
  (hline:(apos.endLine==cpos.line)=true:=by rfl):GE X (.Call (.Attribute o name apos) (e::es) [] cpos) (pR T r to t):=⟨mE (L2.Df pa slot hty hm.p ho.p ha.p hbase hs hfew hline) Hs⟩
theorem qB {o:Expr}{to:AE}{name:Str}{apos cpos:Pos}{T id:String}{r:AM} (pa:PlainAttrs T) (slot:Slot T name id) (hty:typeOf (.builtin id)=pure (.type "method_descriptor")) (hm:Gx X id r) (ho:GE X o to)
  (hbase:attributeBase o name X.env (eval o X.env)=eval o X.env:=by rfl) (hline:(apos.endLine==cpos.line)=true:=by rfl):GE X (.Call (.Attribute o name apos) [] [] cpos) (Ek T r to):=⟨mE (L2.Ac pa slot hty hm.p ho.p hbase hline) Fe⟩
theorem mM {id:String}{t u:V→List V→Hp→VK→Prop} (h:vg X id t) (m:∀ x xs H Q,u x xs H Q→t x xs H Q):vg X id u:=fun pins s σ H x xs v us Q I rx rs q=>h pins s σ H x xs v us Q I rx rs (m x xs H Q q)
theorem qJ {n:Nat}{ds:List D} (ok:Ok K w H S) (h:Rep K w (.loc n) v) (e:S[n]? = some (some (.lst ds))):∃ a xs,v = .ref a∧w.r n=some a∧H a=some (.lst xs)∧aj K w ds xs:=by
 simp only [Rep] at h
 obtain ⟨a,h1,rfl⟩:=h
 obtain ⟨a',u,g1,g2,g3,xs,rfl,g5⟩:=ok.live n _ e
 rw [h1] at g1;cases g1
 exact ⟨a,xs,rfl,h1,g3,g5⟩
theorem gB {ds:List D}{xs:List V} (h:aj K w ds xs):kF K w (.lst ds) (.lst xs):=⟨xs,rfl,h⟩
def fO:AM:=fun x ds S Q=>∃ n es e,x = .loc n∧ds=[e]∧S[n]? = some (some (.lst es))∧es.length<yag∧Q (.dat .bP) (S.set n (some (.lst (es++[e]))))
theorem bB:Gx X "list.append" fO:=⟨mM (X:=X) (t:=sD) L2.uF fun x xs H Q h=>by
 obtain ⟨w,d,ds,S,Qa,ok,r1,r2,⟨n,es,e,rfl,rfl,hS,hl,q⟩,bk⟩:=h
 obtain ⟨a,ys,rfl,ha,hH,hr⟩:=qJ ok r1 hS
 obtain ⟨v,rfl,r3⟩:=jA r2
 exact ⟨a,ys,v,rfl,rfl,hH,by rw [hr.length];exact hl,bk.dat .refl (ok.put hS ha (gB (hr.snoc r3))) .bP q⟩⟩
def wO (K:yaE):V→List V→Hp→VK→Prop:=fun x vs H Q=>∃ l b xs zs,x = .ref l∧vs=[.ref b]∧H l=some (.lst xs)∧H b=some (.tup zs)∧xs.length+zs.length≤yag∧Q .bP (upd H l (.lst (xs++zs)))
theorem AQ {l b:Addr}{xs zs:Array yai}{n k:Nat}{dd:Option Addr}{sl:Array (Option yai)} (h0 : ¬(!xs.isEmpty&&Builtin.List.listTooLong (xs.size+zs.size))=true) (h1:xs.size≤yag) (h2:xs.size+zs.size≤yag+1) :
  Meets (Builtin.«list.extend» ⟨[.ref l,.ref b],[]⟩) (fun _ R s=>s.heap.get? l=some { cls:=.type "list",dict:=none,data:=.seq xs n,slots := #[] }∧s.heap.get? b=some { cls:=.type "tuple",dict:=dd,data:=.seq zs k,slots:=sl }∧R (.ok (.ret Value.none)) { s with heap:=s.heap.update l (Obj.mapSeq fun x=>x++zs),toks:=s.toks }) :=
 .of_wp fun prog w A R s h=>by
  obtain ⟨hl,hb,q⟩:=h
  obtain ⟨hp,g,dr,tk,os⟩:=s
  have e1:=AutoSeq1.idx_int
  have e2:=AutoSeq1.sub_tuple_tuple
  have e3:=AutoSeq1.sub_list_list
  have e4:=AutoSeq1.sub_tuple_list
  have e5:=AutoSeq1.sub_list_tuple
  have z:(xs++zs).size≤yag+1:=by rw [Array.size_append];exact h2
  wp_walk using (wpAny_updateSeq hl rfl (hz:=h1) (_hz':=z)),AutoSeq1.wpAny_loadPart' hl,AutoSeq1.wpAny_loadPart' hb
  exact ⟨_,rfl,q⟩
theorem qH:vg X "list.extend" (wO X.K):=by
 intro pins s σ H x vs v us Q I rx rv h
 obtain ⟨l,b,xs,zs,rfl,rfl,hH,hB,hz,q⟩:=h
 cases rx
 obtain ⟨u,rfl,ru⟩:=rv.one
 cases ru
 obtain ⟨z,its,n,r,hl,e⟩:=I.oZ hH
 obtain ⟨its2,r2,⟨⟨c2,dd,da,sl⟩,e2,hc2,n2,d2⟩,z2⟩:=I.tuple (ck.of hB)
 simp only at hc2 d2
 subst hc2 d2
 have hl2:=r2.length
 have hsz:its.toArray.size+its2.toArray.size≤yag:=by rw [zaO,zaO];lia
 have o9 : ¬ (!its.toArray.isEmpty&&Builtin.List.listTooLong (its.toArray.size+its2.toArray.size))=true:=by
  rw [jQ hsz,Bool.and_false]
  exact zaJ
 refine call_meets F.slot_list_extend ⟨_,e,rfl⟩ F.entry_list_extend (F.args_list_extend_2 _ _)
  (AQ (n:=n) (k:=n2) (dd:=dd) (sl:=sl) o9 (by rw [zaO];lia) (by lia)) ⟨e,e2,?_⟩
 refine ⟨.bP,_,I.Au (its':=its++its2) hH e (by simp) (r.append r2) ?_,rfl,q⟩
 rw [zaE]
 lia
def Bm:AM:=fun x ds S Q=>∃ n es e fs,x = .loc n∧ds=[e]∧S[n]? = some (some (.lst es))∧(aU S e = .lst fs∨aU S e = .tup fs)∧es.length+fs.length≤yag∧Q (.dat .bP) (S.set n (some (.lst (es++fs))))
theorem xD:Gx X "list.extend" Bm:=⟨mM (vg.or (X:=X) (r:=sC) L2.uE qH) fun x xs H Q h=>by
 obtain ⟨w,d,ds,S,Qa,ok,r1,r2,⟨n,es,e,fs,rfl,rfl,hS,hf,hl,q⟩,bk⟩:=h
 obtain ⟨a,ys,rfl,ha,hH,hr⟩:=qJ ok r1 hS
 obtain ⟨v,rfl,r3⟩:=jA r2
 rcases hf with hf | hf
 ·obtain ⟨b,zs,rfl,g1,g2⟩:=bq ok r3 hf
  exact .inl ⟨a,b,ys,zs,rfl,rfl,hH,g1,by rw [hr.length,g2.length];exact hl,bk.dat .refl (ok.put hS ha (gB (hr.append g2))) .bP q⟩
 ·obtain ⟨b,zs,rfl,g1,g2⟩:=b6 ok r3 hf
  exact .inr ⟨a,b,ys,zs,rfl,rfl,hH,g1,by rw [hr.length,g2.length];exact hl,bk.dat .refl (ok.put hS ha (gB (hr.append g2))) .bP q⟩⟩
theorem aj.dropLast {ds:List D}{xs:List V} (h:aj K w ds xs):aj K w ds.dropLast xs.dropLast:=by
 rw [List.dropLast_eq_take,List.dropLast_eq_take,h.length]
 exact h.take _
def Gp:AM:=fun x ds S Q=>∃ n es e,x = .loc n∧ds=[]∧S[n]? = some (some (.lst es))∧es[es.length - 1]? = some e∧Q (.dat e) (S.set n (some (.lst es.dropLast)))
theorem FG:Gx X "list.pop" Gp:=⟨mM (X:=X) (t:=Fi) L2.DB fun x xs H Q h=>by
 obtain ⟨w,d,ds,S,Qa,ok,r1,r2,⟨n,es,e,rfl,rfl,hS,he,q⟩,bk⟩:=h
 obtain ⟨a,ys,rfl,ha,hH,hr⟩:=qJ ok r1 hS
 have z:xs=[]:=by simpa [aj] using r2
 subst z
 obtain ⟨v,h1,h2⟩:=hr.get he
 exact ⟨a,ys,v,rfl,rfl,hH,by rw [hr.length];exact h1,bk.dat .refl (ok.put hS ha (gB hr.dropLast)) h2 q⟩⟩
def Gu (i:Nat) (a:AE) (r:A2):AS:=fun D δ S=>∃ x,δ[i]? = some (some x)∧a δ S fun y S1=>r x y.d S1 fun z S2=>D.nx (δ.set i (some z.d)) S2
def Eg:A2:=fun x y S Q=>∃ i j,x = .int i∧y = .int j∧Q (.dat (.int (i+j))) S
theorem uv {i:Nat}{x:Str}{e:Expr}{t:AE}{pos pos':Pos} (hN:X.N.Nodup) (hi:X.N[i]? = some x) (hx:Loc X.env.scope x) (he:GE X e t) (hf:X.fn x=true∨X.env.scope.names.lookup x=some .local:=by first | exact .inl rfl | exact .inr rfl | assumption) :
  GS X (.AugAssign (.Name x pos') .Add e pos) (Gu i t Eg):=⟨mS (L2.Dd hN hi hx he.p L2.DQ hf) fun D σ H h=>by
 obtain ⟨w,δ,S,Da,ok,env,⟨d,hd,q⟩,bk⟩:=h
 obtain ⟨v,h1,h2⟩:=env.2 i d hd
 refine ⟨v,h1,w,δ,S,_,ok,env,q,.go fun r1 S1 v1 w1 H1 le1 ok1 rep1 q1 => ?_⟩
 obtain ⟨a,b,rfl,e2,q1⟩:=q1
 exact ⟨a,b,aZ h2 rfl,aZ rep1 e2,bk.nx _ S1 _ w1 H1 le1 ok1 ((env.le le1).set .int i) q1⟩⟩
end
end M
namespace M
open PySem L2
theorem bG {P:aJ→Prop}{g:AG}{b:AS}{D:p7} (I:List M.D→bQ→aJ→Prop) (hn:∀ δ S,I [] δ S→P S∧D.nx δ S)
  (hc:∀ x xs δ S N,I (x::xs) δ S→(∀ δ' S',I xs δ' S'→N δ' S')→P S∧g x δ S fun δ2 S2=>b { D with nx:=N,ct:=N,bk:=D.nx } δ2 S2):∀ ds δ S,I ds δ S→lT P g b ds D δ S
 | [],δ,S,h=>hn δ S h
 | x::xs,δ,S,h=>hc x xs δ S _ h fun δ' S' h'=>bG I hn hc xs δ' S' h'
theorem jm {P:aJ→Prop}{g:AG}{t:AT}{e:AE}{Q:List M.D→aJ→Prop} (I:List M.D→List M.D→bQ→aJ→Prop) (hn:∀ acc δ S,I [] acc δ S→P S∧Q acc S)
  (hc:∀ x xs acc δ S (N:List M.D→bQ→aJ→Prop),I (x::xs) acc δ S→(∀ acc' δ' S',I xs acc' δ' S'→N acc' δ' S')→P S∧g x δ S fun δ2 S2=>t δ2 S2 fun b S3=>if b=true then e δ2 S3 fun r S4=>acc.length<yag∧N (acc++[r.d]) δ2 S4 else N acc δ2 S3) :
  ∀ ds acc δ S,I ds acc δ S→e7 P g t e ds acc δ S Q
 | [],acc,δ,S,h=>hn acc δ S h
 | x::xs,acc,δ,S,h=>hc x xs acc δ S (fun acc' δ' S'=>e7 P g t e xs acc' δ' S' Q) h fun acc' δ' S' h'=>jm I hn hc xs acc' δ' S' h'
theorem comp_map {P:aJ→Prop}{e:AE}{Q:List M.D→aJ→Prop}{δ:bQ}{S:aJ} (f:M.D→M.D) (hP:P S):∀ (xs acc:List M.D) (δ':bQ),δ'.set 0 none=δ.set 0 none→(∀ x∈xs,∀ Q:AK,Q (.dat (f x)) S→e (δ.set 0 (some x)) S Q)→acc.length+xs.length≤yag→Q (acc++xs.map f) S →
  e7 P (cI 0) uX e xs acc δ' S Q
 | [],acc,δ',_,_,_,q=>⟨hP,by simpa using q⟩
 | x::xs,acc,δ',hd,h,hl,q=>by
  refine ⟨hP,?_⟩
  have e1:δ'.set 0 (some x)=δ.set 0 (some x):=by
   have:=congrArg (fun l=>l.set 0 (some x)) hd
   simpa [List.set_set] using this
  simp only [cI,uX,if_true]
  rw [e1]
  refine h x (by simp) _ ⟨by simp at hl;lia,?_⟩
  refine comp_map f hP xs _ _ (by simp [List.set_set]) (fun y hy=>h y (by simp [hy])) (by simp at hl ⊢;lia) ?_
  simpa [R.d,zaR] using q
theorem mK {S:aJ}{d:D} (h:bN d=true):aU S d=d:=by
 cases d <;> first | rfl | simp [bN] at h
theorem vW {S:aJ}{i:Int}:aU S (.int i) = .int i:=rfl
theorem vS {S:aJ}{i:Str}:aU S (.str i) = .str i:=rfl
theorem zH {S:aJ}{i:Bool}:aU S (.bl i) = .bl i:=rfl
theorem vV {S:aJ}:aU S .bP = .bP:=rfl
theorem ou {S:aJ}{i:List D}:aU S (.tup i) = .tup i:=rfl
theorem cB {S:aJ}{i:List D}:aU S (.lst i) = .lst i:=rfl
theorem oz {S:aJ}{i:List Str}:aU S (.ju i) = .ju i:=rfl
theorem vU {S:aJ}{i:List Int}:aU S (.i6 i) = .i6 i:=rfl
theorem gf {d:D}:(R.dat d).d=d:=rfl
theorem mV {o:MO}:(R.new o).d=o.d:=rfl
theorem je {ds:List D}:(MO.lst ds).d = .lst ds:=rfl
theorem Aw {i j:Int}{S:aJ}{Q:AK}:IF (.int i) (.int j) S Q=Q (.dat (.bl (decide (i≤j)))) S:=rfl
theorem Ar {i j:Int}{S:aJ}{Q:AK}:IE (.int i) (.int j) S Q=Q (.dat (.bl (decide (i<j)))) S:=rfl
theorem GV {i j:Str}{S:aJ}{Q:AK}:IF (.str i) (.str j) S Q=Q (.dat (.bl (!decide (j.cps.toList<i.cps.toList)))) S:=rfl
theorem yM {C:Int→Int→Prop}{g:Int→Int→D}{i j:Int}{S:aJ}{Q:AK}:aI C g (.int i) (.int j) S Q=(C i j∧Q (.dat (g i j)) S):=by
 refine propext ⟨fun ⟨a,b,e1,e2,h⟩ => ?_,fun h=>⟨i,j,rfl,rfl,h⟩⟩
 cases e1;cases e2;exact h
theorem yE {i j:Int}{S:aJ}{Q:AK}:rJ (.int i) (.int j) S Q=Q (.dat (.int (i+j))) S:=rfl
theorem kB {i j:List D}{S:aJ}{Q:AK}:rJ (.lst i) (.lst j) S Q=(i.length+j.length≤yag∧Q (.new (.lst (i++j))) S):=rfl
theorem tL {i j:Int}{S:aJ}{Q:AK}:Ck (.int i) (.int j) S Q=Q (.dat (.bl (decide (i=j)))) S:=rfl
theorem AV {i j:Str}{S:aJ}{Q:AK}:Ck (.str i) (.str j) S Q=Q (.dat (.bl (decide (i=j)))) S:=rfl
theorem Ct {b:Bool}:cX (.bl b)=some b:=rfl
theorem zC {ds:List D}:cX (.lst ds)=some (!ds.isEmpty):=rfl
theorem zA {ds:List D}:cX (.tup ds)=some (!ds.isEmpty):=rfl
theorem m7 {n:Nat}{S:aJ}{d:D} (h:bN d=true):out n S (.dat d)=some (.dat d):=by
 have b:=tT n d h
 cases d <;> first | (simp [bN] at h;done) | (simp only [out];rw [yIp b])
theorem pI {S:aJ}:chg S S:=fun _ _ _ e=>.inl e
theorem bM {S:aJ}{d:D}{Q:AK} (h:bN d=true) (q:Q (.dat d) S):ret S S (.dat d) Q:=⟨_,m7 h,pI,by rw [zbf];exact q⟩
theorem C1 {S:aJ}{b:Bool}{Q:AK}:ret S S (.dat (.bl b)) Q=Q (.dat (.bl b)) S:=by
 refine propext ⟨fun ⟨r,h1,_,h2⟩ => ?_,bM rfl⟩
 simp [out,fT] at h1
 subst h1
 rw [zbf] at h2;exact h2
theorem zU {S:aJ}{b:Int}{Q:AK}:ret S S (.dat (.int b)) Q=Q (.dat (.int b)) S:=by
 refine propext ⟨fun ⟨r,h1,_,h2⟩ => ?_,bM rfl⟩
 simp [out,fT] at h1
 subst h1
 rw [zbf] at h2;exact h2
theorem dg {S:aJ}{ds:List D}{Q:AK} (h:bE ds=true) (q:Q (.new (.lst ds)) S):ret S S (.new (.lst ds)) Q :=
 ⟨_,by simp only [out];rw [yIp (show nJ _ (.lst ds)=true from dJ _ ds h)],pI,by rw [zbf];exact q⟩
theorem mU {S:aJ}{ds:List D}{Q:AK}{S':aJ}{n:Nat} (hn:S.length≤n) (h:bE ds=true) (e:S'[n]? = some (some (.lst ds))) (hs:S'.take S.length=S) (q:Q (.new (.lst ds)) S):ret S S' (.dat (.loc n)) Q:=by
 refine ⟨.new (.lst ds),?_,fun k o hk e=>.inl ?_,by rw [hs];exact q⟩
 ·simp only [out]
  rw [yIn (by lia),e]
  show (if nJ S.length (.lst ds)=true then some (R.new (.lst ds)) else none)=_
  rw [yIp (show nJ _ (.lst ds)=true from dJ _ ds h)]
 ·rw [← hs,List.getElem?_take,yIp hk];exact e
noncomputable def kT (x:Str):Bool:=x.cps.toList.all (fun c=>decide (c<128))&&decide (x.length≤100)
noncomputable def kM:Nat→D→Bool
 | _,.bP=>true
 | _,.bl _=>true
 | _,.int _=>true
 | _,.str x=>kT x
 | n+1,.tup ds=>decide (ds.length≤100)&&ds.all (kM n)
 | n+1,.lst ds=>decide (ds.length≤100)&&ds.all (kM n)
 | _,_=>false
theorem xo {x:Str} (h:kT x=true):PyData.strOk x=true:=by
 unfold kT at h
 rw [zbm] at h
 unfold PyData.strOk
 rw [← Array.all_toList]
 refine zbe.mpr fun c hc => ?_
 have:=of_decide_eq_true (zbe.mp h.1 c hc)
 exact yDt (by lia)
theorem vA:∀ (n:Nat) (d:D),kM n d=true→bN d=true∧(py d).canLay0=true∧(py d).depth≤n:=by
 intro n
 induction n with
 | zero =>
  intro d h
  cases d <;> first | (simp [kM] at h;done) | skip
  ·simp [bN,py,PyData.canLay0,PyData.depth]
  ·simp [bN,py,PyData.canLay0,PyData.depth]
  ·simp [bN,py,PyData.canLay0,PyData.depth]
  ·simp only [kM] at h
   simp [bN,py,PyData.canLay0,PyData.depth,xo h]
 | succ n ih =>
  have all:∀ ds:List D,(ds.all (kM n))=true→bE ds=true∧PyData.canLayAll0 (cG ds)=true∧PyData.depthAll (cG ds)≤n:=by
   intro ds
   induction ds with
   | nil=>intro _;simp [bE,cG,PyData.canLayAll0,PyData.depthAll]
   | cons d ds ih2 =>
    intro h
    rw [zbD,zbm] at h
    obtain ⟨a1,a2,a3⟩:=ih d h.1
    obtain ⟨b1,b2,b3⟩:=ih2 h.2
    refine ⟨by simp [bE,a1,b1],by simp [cG,PyData.canLayAll0,a2,b2],?_⟩
    simp only [cG,PyData.depthAll]
    lia
  intro d h
  cases d <;> first | (simp [kM] at h;done) | skip
  ·simp [bN,py,PyData.canLay0,PyData.depth]
  ·simp [bN,py,PyData.canLay0,PyData.depth]
  ·simp [bN,py,PyData.canLay0,PyData.depth]
  ·simp only [kM] at h
   simp [bN,py,PyData.canLay0,PyData.depth,xo h]
  ·simp only [kM,zbm] at h
   obtain ⟨a1,a2,a3⟩:=all _ h.2
   exact ⟨by simpa [bN] using a1,by simpa [py,PyData.canLay0] using a2,by simp only [py,PyData.depth];lia⟩
  ·simp only [kM,zbm] at h
   obtain ⟨a1,a2,a3⟩:=all _ h.2
   exact ⟨by simpa [bN] using a1,by simpa [py,PyData.canLay0] using a2,by simp only [py,PyData.depth];lia⟩
theorem qi {n:Nat}{d:D} (h:kM n d=true):bN d=true:=(vA n d h).1
theorem cQ {n:Nat}{d:D} (h:kM n d=true) (hn:n≤64):fit d=true:=by
 obtain ⟨a,b,c⟩:=vA n d h
 unfold fit PySem.SeqAt.shaped
 rw [a,b,yDt (by lia)];rfl
noncomputable def DP (x:D) (s:Str):Bool:=match x with
 | .str a=>decide (a=s)
 | _=>false
noncomputable def xV (x:D) (ss:List Str):Bool:=ss.any fun s=>DP x s
theorem AU {x:D}{s:Str} (h:bN x=true):PyData.eqv (.str s) (py x)=DP x s:=by
 cases x <;> first | (simp [bN] at h;done) | simp only [py,PyData.eqv,DP]
 rename_i a
 by_cases e:s=a
 ·subst e;simp
 ·rw [yDf (fun z=>e z.symm)]
  exact beq_eq_false_iff_ne.mpr e
theorem gO {x:D} (h:bN x=true):∀ ss:List Str,inD x (ss.map D.str)=xV x ss
 | []=>rfl
 | s::ss=>by
  have:=gO h ss
  unfold inD xV at this ⊢
  rw [zbC,zbE,zbE,this]
  rw [show PyData.eqv (py (.str s)) (py x)=DP x s from AU h]
theorem o8 {n:Nat}{x:D}{ss:List Str}{neg:Bool}{S:aJ}{Q:AK} (h:kM n x=true) (hn:n≤64) (hs:ss.all kT=true) (q:Q (.dat (.bl (neg != xV x ss))) S) (hl:ss.length≤100:=by decide):nV neg x (.tup (ss.map D.str)) S Q:=by
 have hp:=qi h
 unfold nV
 rw [mK hp,ou]
 refine ⟨cQ h hn,cQ (n:=1) ?_ (by decide),?_⟩
 ·simp only [kM,List.all_map,zbr,yDt hl,zbI]
  exact hs
 ·rw [gO hp];exact q
theorem uL {n:Nat}{x:D}{ss:List Str}{neg:Bool}{S:aJ}{Q:AK} (h:kM n x=true) (hn:n≤64) (hs:ss.all kT=true) (q:Q (.dat (.bl (neg != xV x ss))) S) (hl:ss.length≤100:=by decide):nV neg x (.lst (ss.map D.str)) S Q:=by
 have hp:=qi h
 unfold nV
 rw [mK hp,cB]
 refine ⟨cQ h hn,cQ (n:=1) ?_ (by decide),?_⟩
 ·simp only [kM,List.all_map,zbr,yDt hl,zbI]
  exact hs
 ·rw [gO hp];exact q
theorem xU {n:Nat}{x:D}{ss:List Str}{neg:Bool}{S:aJ}{Q:AK} (h:kM n x=true) (hn:n≤64) (hs:ss.all kT=true) (q:Q (.dat (.bl (neg != xV x ss))) S) (hl:ss.length≤100:=by decide):nV neg x (.ju ss) S Q:=by
 have hp:=qi h
 unfold nV
 rw [mK hp,oz]
 refine ⟨cQ h hn,cQ (n:=1) ?_ (by decide),?_⟩
 ·simp only [kM,List.all_map,zbr,yDt hl,zbI]
  exact hs
 ·rw [gO hp];exact q
end M
namespace M
open PySem PySem.Spec PyProof.Rows L2
theorem iy:∀ {vs:List yai}{ss:List Str},StrsAre vs ss→Vals (ss.map V.str) vs
 | _,_,.nil=>.nil
 | _,_,.cons y t h=>.cons ⟨t,rfl⟩ (iy h)
section
variable {X:Cx}
def C4 (K:yaE):List V→Hp→VK→Prop:=fun xs H Q=>∃ (a:Addr) (ss:List Str),xs=[.ref a]∧cj K H a (ss.map V.str)∧ss.length<64∧∀ (p:Addr) (ss':List Str),H p=none→ss'.Perm ss→sortedS ss'=true→Q (.ref p) (upd H p (.lst (ss'.map V.str)))
theorem q9:cg X (.builtin "sorted") (C4 X.K):=by
 intro pins s σ H xs us Q I r h
 obtain ⟨a,ss,rfl,ha,hl,q⟩:=h
 obtain ⟨u,rfl,ru⟩:=vals1 r
 cases ru
 obtain ⟨its,r1,⟨o,n,e,hc,hd,hda⟩,_⟩:=I.list ha
 have hlen:its.length=ss.length:=by have:=r1.length;rw [zbr] at this;exact this.symm
 refine sorted_strs ⟨o,e,hc,n,hda⟩ (i0 r1) (by lia) fun out ss' a1 a2 a3 => ?_
 obtain ⟨ep,he⟩:=sortedAll_at s.heap its out
 have hz:(ss'.map V.str).length≤yag:=by rw [zbr,a2.length_eq,yaf];lia
 refine ⟨.ref (s.heap.objs.size+1),_,I.laid (t':=s.toks) (o:=.lst (ss'.map V.str)) (fun b ob q=>sortedAll_old q) (zcb _) ⟨hz,out.toList,ep,iy a1,he⟩,rfl,q _ ss' (I.hok.fresh (zcb _)) a2 a3⟩
def C5 (K:yaE):List V→Hp→VK→Prop:=fun xs H Q=>∃ (a:Addr) (ns:List Int),xs=[.ref a]∧cj K H a (ns.map V.int)∧ns.length<64∧∀ (p:Addr) (ns':List Int),H p=none→ns'.Perm ns→ns'.Pairwise (· ≤ ·)→Q (.ref p) (upd H p (.lst (ns'.map V.int)))
theorem rg:cg X (.builtin "sorted") (C5 X.K):=by
 intro pins s σ H xs us Q I r h
 obtain ⟨a,ns,rfl,ha,hl,q⟩:=h
 obtain ⟨u,rfl,ru⟩:=vals1 r
 cases ru
 obtain ⟨its,r1,⟨o,n,e,hc,hd,hda⟩,_⟩:=I.list ha
 have hlen:its.length=ns.length:=by have:=r1.length;rw [zbr] at this;exact this.symm
 refine sorted_ints ⟨o,e,hc,n,hda⟩ (intsAre_of r1) (by lia) fun out ns' a1 a2 a3 => ?_
 obtain ⟨ep,he⟩:=sortedAll_at s.heap its out
 have hz:(ns'.map V.int).length≤yag:=by rw [zbr,a2.length_eq,yaf];lia
 refine ⟨.ref (s.heap.objs.size+1),_,I.laid (t':=s.toks) (o:=.lst (ns'.map V.int)) (fun b ob q=>sortedAll_old q) (zcb _) ⟨hz,out.toList,ep,iz a1,he⟩,rfl,q _ ns' (I.hok.fresh (zcb _)) a2 a3⟩
def tW:AN:=fun ds S Q=>∃ d,ds=[d] ∧
 ((∃ ss:List Str,aU S d = .lst (ss.map D.str)∧ss.length<64∧∀ ss':List Str,ss'.Perm ss→sortedS ss'=true→Q (.new (.lst (ss'.map D.str))) S)∨(∃ ns:List Int,aU S d = .lst (ns.map D.int)∧ns.length<64∧∀ ns':List Int,ns'.Perm ns→ns'.Pairwise (· ≤ ·)→Q (.new (.lst (ns'.map D.int))) S))
theorem dR {K:yaE}{w:Wd}:∀ {ss:List Str}{xs:List V},aj K w (ss.map D.str) xs→xs=ss.map V.str
 | [],xs,h=>by simpa [aj] using h
 | s::ss,xs,h=>by
  simp only [zbC,aj] at h
  obtain ⟨x,r,rfl,h1,h2⟩:=h
  rw [i7 h1 rfl,dR h2];rfl
theorem jy {K:yaE}{w:Wd}:∀ {ns:List Int}{xs:List V},aj K w (ns.map D.int) xs→xs=ns.map V.int
 | [],xs,h=>by simpa [aj] using h
 | s::ss,xs,h=>by
  simp only [zbC,aj] at h
  obtain ⟨x,r,rfl,h1,h2⟩:=h
  rw [aZ h1 rfl,jy h2];rfl
theorem cL {K:yaE}{w:Wd}:∀ ss:List Str,aj K w (ss.map D.str) (ss.map V.str)
 | []=>by simp [aj]
 | s::ss=>by
  simp only [zbC,aj]
  exact ⟨_,_,rfl,by simp [Rep],cL ss⟩
theorem oU:Bw X (.builtin "sorted") tW:=⟨mC (IA q9 rg) fun xs H Q h=>by
 obtain ⟨w,ds,S,Qa,ok,rep,⟨d,rfl,q⟩,bk⟩:=h
 obtain ⟨v,rfl,r1⟩:=jA rep
 rcases q with ⟨ss,z,hl,q⟩ | ⟨ns,z,hl,q⟩
 ·obtain ⟨a,xs,rfl,h1,h2⟩:=bq ok r1 z
  have:=dR h2
  subst this
  exact .inl ⟨a,ss,rfl,cj.of h1,hl,fun p ss' hp h3 h4=>bk (.new (.lst _)) S _ w _ .refl (ok.alloc hp) (ok.fresh hp ⟨_,rfl,cL ss'⟩) (q ss' h3 h4)⟩
 ·obtain ⟨a,xs,rfl,h1,h2⟩:=bq ok r1 z
  have:=jy h2
  subst this
  exact .inr ⟨a,ns,rfl,cj.of h1,hl,fun p ns' hp h3 h4=>bk (.new (.lst _)) S _ w _ .refl (ok.alloc hp) (ok.fresh hp ⟨_,rfl,fG ns'⟩) (q ns' h3 h4)⟩⟩
end
section
variable {P:yaj}{w:yak}{K:yaE}{mg:Str→Option yai}{base:Heap}{C:Addr}
theorem okB {x qual:Str}{st:Stmt}{f:Addr}{fd:yap}{N ps:List Str}{k:Nat}{sp:AN} (F:Cm K x qual st f fd) (S:aP N ps (ak st)) (len:∀ ds S Q,sp ds S Q→ds.length=ps.length)
  (hbody:∀ (f:Addr) (cdv:yai) (A:yal) (outer:List Env) (s:yah) (H:Hp) (E:XK),bC k (A.deeper (PyProof.Rows.envOfC qual (ak st) s.heap.objs.size f cdv)) →
   ∃ a,zq (kX qc P w K mg base N qual (ak st) f cdv A outer s H E).Du (bO st) a∧∀ ds S Q,sp ds S Q→a { nx:=fun _ S'=>M.ret S S' (.dat .bP) Q,rt:=fun r S'=>M.ret S S' r Q } (bf N ds) S):fu P w K mg base qc (k+1) f fd ps (aF K sp) :=
 F.ok S (fun vs H Q E h=>by
  obtain ⟨w,ds,S,Qa,ok,rep,q,bk⟩:=h
  rw [rep.length];exact len ds S Qa q) fun cdv A outer s H vs Q E hr h=>by
  obtain ⟨a,ha,hd⟩:=hbody f cdv A outer s H E hr
  obtain ⟨w,ds,S,Qa,ok,rep,q,bk⟩:=h
  refine ⟨_,ha.p,w,bf N ds,S,_,ok,lV rep,hd ds S Qa q,⟨fun δ S' σ w' H' le ok' env q' => ?_,fun r S' v w' H' le ok' rep' q' => ?_,fun _ _ _ _ _ _ _ _ z=>z.elim,fun _ _ _ _ _ _ _ _ z=>z.elim⟩⟩
  ·exact mR (r:=.dat .bP) (v:=.bP) ok le ok' (show Rep K w' .bP .bP from .bP) q' bk
  ·exact mR ok le ok' rep' q' bk
end
end M
namespace Srt
open PySem PySem.W PyProof.Rows
structure Ord (α:Type) where
 lt:α→α→Bool
 HR:∀ a,lt a a=false
 tr:∀ a b c,lt a b=true→lt b c=true→lt a c=true
 nt:∀ a b c,lt a c=true→lt a b=true∨lt b c=true
noncomputable def run {β:Type} (f:Nat→Nat→Bool):KasT β→β
 | .ret a=>a
 | .ask i j k=>run f (k (f i j))
theorem run_bind {β γ:Type}{f:Nat→Nat→Bool}{g:β→KasT γ}:∀ t:KasT β,run f (t.bind g)=run f (g (run f t))
 | .ret a=>rfl
 | .ask i j k=>run_bind (k (f i j))
section
variable {α:Type} (O:Ord α)
def le (a b:α):Prop:=O.lt b a=false
variable {O}
theorem le_rfl (a:α):le O a a:=O.HR a
theorem sY {a b:α} (h:O.lt a b=true):le O a b:=by
 unfold le
 cases e:O.lt b a with
 | false=>rfl
 | true=>have:=O.tr _ _ _ h e;rw [O.HR] at this;cases this
theorem f7 {a b c:α} (h:le O a b) (g:le O b c):le O a c:=by
 unfold le at *
 cases e:O.lt c a with
 | false=>rfl
 | true =>
  rcases O.nt _ b _ e with z | z
  ·rw [g] at z;cases z
  ·rw [h] at z;cases z
theorem jW {a b:α} (h : ¬ O.lt a b=true):le O b a:=by unfold le;simpa using h
end
section
variable {α:Type}{O:Ord α}{k:Nat→α}{p:Array Nat}
noncomputable def val (k:Nat→α) (p:Array Nat) (i:Nat):α:=k (p.getD i 0)
variable (O k)
def Up (p:Array Nat) (m:Nat):Prop:=∀ i j,i≤j→j<m→le O (val k p i) (val k p j)
def Down (p:Array Nat) (m:Nat):Prop:=∀ i j,i≤j→j<m→le O (val k p j) (val k p i)
noncomputable abbrev ask (i j:Nat):Bool:=O.lt (k i) (k j)
variable {O k}
theorem zz {n:Nat} (h:Up O k p n) (h1:1≤n) (g:le O (val k p (n - 1)) (val k p n)):Up O k p (n+1):=fun i j hij hj=>by
 by_cases e:j<n
 ·exact h i j hij e
 ·have:j=n:=by lia
  subst this
  by_cases e2:i=j
  ·subst e2;exact le_rfl _
  ·exact f7 (h i (j - 1) (by lia) (by lia)) g
theorem fL {n:Nat} (h:Down O k p n) (h1:1≤n) (g:le O (val k p n) (val k p (n - 1))):Down O k p (n+1):=fun i j hij hj=>by
 by_cases e:j<n
 ·exact h i j hij e
 ·have:j=n:=by lia
  subst this
  by_cases e2:i=j
  ·subst e2;exact le_rfl _
  ·exact f7 g (h i (j - 1) (by lia) (by lia))
theorem rC:∀ (f n:Nat),1≤n→Up O k p n→n≤run (ask O k) (kas_asc p f n)∧run (ask O k) (kas_asc p f n)≤n+f∧Up O k p (run (ask O k) (kas_asc p f n))
 | 0,n,_,h=>⟨zca _,zca _,h⟩
 | f+1,n,h1,h=>by
  show n≤run _ (if O.lt (val k p n) (val k p (n - 1))=true then _ else _)∧_
  by_cases e:O.lt (val k p n) (val k p (n - 1))=true
  ·have:run (ask O k) (kas_asc p (f+1) n)=n:=by
    show run _ (if O.lt (val k p n) (val k p (n - 1))=true then _ else _)=_
    rw [yIp e];rfl
   rw [yIp e,this]
   exact ⟨zca _,by lia,h⟩
  ·have e2:run (ask O k) (kas_asc p (f+1) n)=run (ask O k) (kas_asc p f (n+1)):=by
    show run _ (if O.lt (val k p n) (val k p (n - 1))=true then _ else _)=_
    rw [yIn e]
   rw [yIn e,e2]
   obtain ⟨a,b,c⟩:=rC f (n+1) (by lia) (zz h h1 (jW e))
   exact ⟨by lia,by lia,c⟩
theorem gT {x:Nat}:p.getD x 0=(p[x]?).getD 0:=by
 by_cases h:x<p.size
 ·simp [zcg,h]
 ·simp [zcg,h,zaj (Nat.le_of_not_lt h)]
theorem val_rev {i j:Nat} (hj:j≤p.size) (x:Nat):val k (kas_rev p i j) x=if i≤x∧x<j then val k p (i+j - 1 - x) else val k p x:=by
 unfold val kas_rev
 rw [gT,getElem?_mirror_all hj]
 split <;> rw [gT]
theorem jx {i j:Nat}:(kas_rev p i j).size=p.size:=mirror_size _ _ _ _
theorem b8 {i j:Nat}:(kas_rev p i j).Perm p:=mirror_perm _ _ _ _
def Flat (O:Ord α) (k:Nat→α) (p:Array Nat) (n q:Nat):Prop:=q+1≤n∧∀ i j,n - (q+1)≤i→i<n→n - (q+1)≤j→j<n→le O (val k p i) (val k p j)
theorem pA {n q:Nat} (hn:n≤p.size) (h:Down O k p n) (f:Flat O k p n q):Down O k (kas_rev p (n - (q+1)) n) n:=fun i j hij hj=>by
 obtain ⟨f1,f2⟩:=f
 rw [val_rev hn,val_rev hn]
 by_cases a:n - (q+1)≤j
 ·rw [yIp ⟨a,hj⟩]
  by_cases b:n - (q+1)≤i
  ·rw [yIp ⟨b,by lia⟩]
   exact f2 _ _ (by lia) (by lia) (by lia) (by lia)
  ·rw [yIn (by lia)]
   exact h _ _ (by lia) (by lia)
 ·rw [yIn (by lia),yIn (by lia)]
  exact h _ _ hij hj
theorem yc {n:Nat} (h:1≤n):Flat O k p n 0:=⟨by lia,fun i j a b c d=>by
 have:i=j:=by lia
 subst this;exact le_rfl _⟩
theorem jk:∀ (f n q:Nat) (p:Array Nat),n+f≤p.size→Down O k p n→Flat O k p n q →
  ∃ p' n' q',run (ask O k) (kas_desc f p n q)=(p',n',q')∧p'.Perm p∧n≤n'∧n'≤n+f∧Down O k p' n'∧Flat O k p' n' q'
 | 0,n,q,p,hz,h,fl=>⟨p,n,q,rfl,Array.Perm.refl _,zca _,zca _,h,fl⟩
 | f+1,n,q,p,hz,h,fl=>by
  have h1:1≤n:=by have:=fl.1;lia
  have e0:run (ask O k) (kas_desc (f+1) p n q)=run (ask O k) (if O.lt (val k p n) (val k p (n - 1))=true then (if q > 0 then kas_desc f (kas_rev p (n - (q+1)) n) (n+1) 0 else kas_desc f p (n+1) 0)
    else .ask (p.getD (n - 1) 0) (p.getD n 0) fun d=>if d=true then .ret (p,n,q) else kas_desc f p (n+1) (q+1)):=rfl
  rw [e0]
  by_cases e:O.lt (val k p n) (val k p (n - 1))=true
  ·rw [yIp e]
   by_cases hq:q > 0
   ·rw [yIp hq]
    have hd:=pA (by lia) h fl
    have e1:val k (kas_rev p (n - (q+1)) n) n=val k p n:=by rw [val_rev (by lia),yIn (by lia)]
    have e2:le O (val k (kas_rev p (n - (q+1)) n) n) (val k (kas_rev p (n - (q+1)) n) (n - 1)):=by
     have hf:=fl.1
     rw [e1,val_rev (by lia),yIp (by lia)]
     exact f7 (sY e) (h _ _ (by lia) (by lia))
    obtain ⟨p',n',q',a,b,c,d,e3,f3⟩:=jk f (n+1) 0 (kas_rev p (n - (q+1)) n) (by rw [jx];lia) (fL hd h1 e2) (yc (by lia))
    exact ⟨p',n',q',a,b.trans b8,by lia,by lia,e3,f3⟩
   ·rw [yIn hq]
    obtain ⟨p',n',q',a,b,c,d,e3,f3⟩:=jk f (n+1) 0 p (by lia) (fL h h1 (sY e)) (yc (by lia))
    exact ⟨p',n',q',a,b,by lia,by lia,e3,f3⟩
  ·rw [yIn e]
   show ∃ p' n' q',run _ (if O.lt (val k p (n - 1)) (val k p n)=true then _ else _)=_∧_
   by_cases g:O.lt (val k p (n - 1)) (val k p n)=true
   ·rw [yIp g]
    exact ⟨p,n,q,rfl,Array.Perm.refl _,zca _,by lia,h,fl⟩
   ·rw [yIn g]
    have l1:=jW e
    have l2:=jW g
    have fl2:Flat O k p (n+1) (q+1):=⟨by have:=fl.1;lia,fun i j a b c d=>by
     have hf:=fl.1
     by_cases hi:i=n
     ·by_cases hj:j=n
      ·rw [hi,hj];exact le_rfl _
      ·rw [hi];exact f7 l2 (fl.2 _ _ (by lia) (by lia) (by lia) (by lia))
     ·by_cases hj:j=n
      ·rw [hj];exact f7 (fl.2 _ _ (by lia) (by lia) (by lia) (by lia)) l1
      ·exact fl.2 _ _ (by lia) (by lia) (by lia) (by lia)⟩
    obtain ⟨p',n',q',a,b,c,d,e3,f3⟩:=jk f (n+1) (q+1) p (by lia) (fL h h1 l2) fl2
    exact ⟨p',n',q',a,b,by lia,by lia,e3,f3⟩
theorem rO {n m:Nat} (h1:1≤n) (hn:n≤m) (hz:m≤p.size) (h:Down O k p n):∃ c p',run (ask O k) (kas_tail3 n m p)=(c,p')∧p'.Perm p∧n≤c∧c≤m∧Up O k p' c:=by
 unfold kas_tail3
 rw [run_bind]
 have hu:Up O k (kas_rev p 0 n) n:=fun i j hij hj=>by
  rw [val_rev (by lia),val_rev (by lia),yIp (by lia),yIp (by lia)]
  exact h _ _ (by lia) (by lia)
 obtain ⟨a,b,c⟩:=rC (m - n) n h1 hu
 exact ⟨_,_,rfl,b8,a,by lia,c⟩
theorem iL {n m:Nat} (h1:1≤n) (hn:n+1≤m) (hz:m≤p.size) (h:Down O k p n) (g:le O (val k p n) (val k p (n - 1))):∃ c p',run (ask O k) (kas_descPart n m p)=(c,p')∧p'.Perm p∧1≤c∧c≤m∧Up O k p' c:=by
 unfold kas_descPart
 rw [run_bind]
 obtain ⟨p',n',q',a,b,c,d,e,f⟩:=jk (m - (n+1)) (n+1) 0 p (by lia) (fL h h1 g) (yc (by lia))
 have hs:p'.size=p.size:=b.size_eq
 rw [a]
 dsimp only
 by_cases hq:q' > 0
 ·rw [yIp hq]
  obtain ⟨c1,p1,a1,b1,c2,d1,e1⟩:=rO (m:=m) (by lia) (by lia) (by rw [jx];lia) (pA (by lia) e f)
  exact ⟨c1,p1,a1,b1.trans (b8.trans b),by lia,d1,e1⟩
 ·rw [yIn hq]
  obtain ⟨c1,p1,a1,b1,c2,d1,e1⟩:=rO (m:=m) (by lia) (by lia) (by lia) e
  exact ⟨c1,p1,a1,b1.trans b,by lia,d1,e1⟩
theorem yo {m:Nat} (hm:1≤m) (hz:m≤p.size):∃ c p',run (ask O k) (kas_count m p)=(c,p')∧p'.Perm p∧1≤c∧c≤m∧Up O k p' c:=by
 unfold kas_count
 rw [run_bind]
 have u1:Up O k p 1:=fun i j hij hj=>by
  have:i=j:=by lia
  subst this;exact le_rfl _
 obtain ⟨a,b,c⟩:=rC (m - 1) 1 (zca _) u1
 have stop:run (ask O k) (kas_asc p (m - 1) 1)<m→O.lt (val k p (run (ask O k) (kas_asc p (m - 1) 1))) (val k p (run (ask O k) (kas_asc p (m - 1) 1) - 1))=true:=by
  have:∀ (f n:Nat),run (ask O k) (kas_asc p f n)<n+f→O.lt (val k p (run (ask O k) (kas_asc p f n))) (val k p (run (ask O k) (kas_asc p f n) - 1))=true:=by
   intro f
   induction f with
   | zero=>intro n h;exact absurd h (zbF _)
   | succ f ih =>
    intro n h
    by_cases e:O.lt (val k p n) (val k p (n - 1))=true
    ·have e2:run (ask O k) (kas_asc p (f+1) n)=n:=by
      show run _ (if O.lt (val k p n) (val k p (n - 1))=true then _ else _)=_
      rw [yIp e];rfl
     rw [e2];exact e
    ·have e2:run (ask O k) (kas_asc p (f+1) n)=run (ask O k) (kas_asc p f (n+1)):=by
      show run _ (if O.lt (val k p n) (val k p (n - 1))=true then _ else _)=_
      rw [yIn e]
     rw [e2] at h ⊢
     exact ih (n+1) (by lia)
  intro h
  exact this (m - 1) 1 (by lia)
 generalize run (ask O k) (kas_asc p (m - 1) 1)=n at a b c stop
 by_cases e1:(n==m)=true
 ·rw [yIp e1]
  exact ⟨n,p,rfl,Array.Perm.refl _,a,by lia,c⟩
 ·rw [yIn e1]
  have hnm:n≠m:=fun z=>e1 (by rw [z];exact beq_self_eq_true _)
  have st:=sY (stop (by lia))
  by_cases e2:n > 1
  ·rw [yIp e2]
   show ∃ c p',run _ (if O.lt (val k p 0) (val k p (n - 1))=true then _ else _)=_∧_
   by_cases e3:O.lt (val k p 0) (val k p (n - 1))=true
   ·rw [yIp e3]
    exact ⟨n,p,rfl,Array.Perm.refl _,a,by lia,c⟩
   ·rw [yIn e3]
    have all:∀ i j,i<n→j<n→le O (val k p i) (val k p j):=fun i j hi hj=>f7 (c i (n - 1) (by lia) (by lia)) (f7 (jW e3) (c 0 j (by lia) hj))
    have hd:Down O k (kas_rev p 0 n) n:=fun i j hij hj=>by
     rw [val_rev (by lia),val_rev (by lia),yIp (by lia),yIp (by lia)]
     exact all _ _ (by lia) (by lia)
    obtain ⟨c1,p1,a1,b1,c2,d1,e4⟩:=iL (m:=m) a (by lia) (by rw [jx];lia) hd (by
     rw [val_rev (by lia),val_rev (by lia),yIn (by lia),yIp (by lia)]
     exact f7 st (all _ _ (by lia) (by lia)))
    exact ⟨c1,p1,a1,b1.trans b8,c2,d1,e4⟩
  ·rw [yIn e2]
   have hn1:n=1:=by lia
   subst hn1
   obtain ⟨c1,p1,a1,b1,c2,d1,e4⟩:=iL (m:=m) (k:=k) (O:=O) (p:=p) (n:=1) (by lia) (by lia) hz (fun i j hij hj=>by
    have:i=j:=by lia
    subst this;exact le_rfl _) st
   exact ⟨c1,p1,a1,b1,c2,d1,e4⟩
theorem jG {j:Nat}:∀ (f l r:Nat),r≤l+f→l≤r→r≤j→(∀ i,i<l→le O (val k p i) (val k p j))→(∀ i,r≤i→i<j→le O (val k p j) (val k p i))→Up O k p j →
  ∃ x,run (ask O k) (kas_place p j f l r)=x∧x≤j∧(∀ i,i<x→le O (val k p i) (val k p j))∧∀ i,x≤i→i<j→le O (val k p j) (val k p i)
 | 0,l,r,h,hlr,hr,a,b,u=>by
  have:l=r:=by lia
  subst this
  exact ⟨l,rfl,hr,a,b⟩
 | f+1,l,r,h,hlr,hr,a,b,u=>by
  show ∃ x,run _ (if l≥r then _ else _)=x∧_
  by_cases e:l≥r
  ·rw [yIp e]
   have:l=r:=by lia
   subst this
   exact ⟨l,rfl,hr,a,b⟩
  ·rw [yIn e]
   show ∃ x,run _ (if O.lt (val k p j) (val k p ((l+r) / 2))=true then _ else _)=x∧_
   by_cases g:O.lt (val k p j) (val k p ((l+r) / 2))=true
   ·rw [yIp g]
    exact jG f l ((l+r) / 2) (by lia) (by lia) (by lia) a (fun i h1 h2=>f7 (sY g) (u _ _ h1 h2)) u
   ·rw [yIn g]
    exact jG f ((l+r) / 2+1) r (by lia) (by lia) hr (fun i h1=>f7 (u _ _ (show i≤(l+r) / 2 by lia) (by lia)) (jW g)) b u
theorem rN {j d:Nat} (hj:j<p.size) (hd:d≤j) (x:Nat):val k (bubble p j d) x=if x=j - d then val k p j else if j - d<x∧x≤j then val k p (x - 1) else val k p x:=by
 have h1:∀ y,val k p y=k ((p[y]?).getD 0):=fun y=>by unfold val;rw [gT]
 rw [h1 j,h1 (x - 1),h1 x]
 unfold val
 rw [gT,getElem?_bubble hj d hd]
 split
 ·rfl
 ·split <;> rfl
theorem yy:∀ (f j:Nat) (p:Array Nat),1≤j→j+f=p.size→Up O k p j→∃ p',run (ask O k) (kas_bin f p j)=p'∧p'.Perm p∧Up O k p' p.size
 | 0,j,p,h1,h,u=>⟨p,rfl,Array.Perm.refl _,by rw [← h];exact u⟩
 | f+1,j,p,h1,h,u=>by
  show ∃ p',run _ ((kas_place p j j 0 j).bind _)=p'∧_
  rw [run_bind]
  obtain ⟨x,ex,hx,a,b⟩:=jG (p:=p) (j:=j) j 0 j (by lia) (by lia) (zca _) (fun i z=>by lia) (fun i h1 h2=>by lia) u
  rw [ex]
  have hu:Up O k (bubble p j (j - x)) (j+1):=fun i i' hii hi'=>by
   rw [rN (by lia) (by lia),rN (by lia) (by lia)]
   repeat' split
   all_goals first | exact le_rfl _ | (exact u _ _ (by lia) (by lia)) | (exact a _ (by lia)) | (exact b _ (by lia) (by lia)) | (exfalso;lia)
  obtain ⟨p',e1,e2,e3⟩:=yy f (j+1) (bubble p j (j - x)) (by lia) (by rw [bubble_size];lia) hu
  exact ⟨p',e1,e2.trans (bubble_perm _ _ _),by rw [bubble_size] at e3;exact e3⟩
theorem zE {n:Nat} (hn:1≤n):∃ p:Array Nat,run (ask O k) (kas_sort n)=p∧p.Perm (List.toArray (zce n))∧Up O k p n:=by
 unfold kas_sort
 rw [run_bind]
 have hz:(List.toArray (zce n)).size=n:=by simp
 obtain ⟨c,p',a,b,c1,c2,u⟩:=yo (O:=O) (k:=k) (p:=List.toArray (zce n)) hn (by lia)
 rw [a]
 dsimp only
 have hs:p'.size=n:=by rw [b.size_eq,hz]
 by_cases e:c<n
 ·rw [yIp e]
  have em:max c 1=c:=by lia
  rw [em]
  obtain ⟨p2,e1,e2,e3⟩:=yy (n - c) c p' c1 (by lia) u
  exact ⟨p2,e1,e2.trans b,by rw [hs] at e3;exact e3⟩
 ·rw [yIn e]
  have:c=n:=by lia
  subst this
  exact ⟨p',rfl,b,u⟩
end
end Srt
namespace M5
open PySem PySem.Spec PyProof.Rows
theorem o6 (t:SetTable) (es:Array (Int×yai)) (h:Int) (x:yai):(layNew t es h x).2.1.led=t.led∧((layNew t es h x).2.1.plain=true→t.plain=true):=by
 unfold layNew
 split
 ·unfold SetTable.orStandIn
  dsimp only
  split
  ·exact ⟨rfl,fun z=>z⟩
  ·exact ⟨rfl,fun z=>by cases z⟩
 ·exact ⟨rfl,fun z=>by cases z⟩
theorem iG {t t':SetTable}{hs:Array Int}{n:Nat}{o:Array Nat} (h:t.relaid hs n=some (t',o)):t'.led=t.led∧t'.plain=t.plain:=by
 unfold SetTable.relaid SetTable.laid at h
 cases hl:SetTable.layClean (SetTable.sizeAbove n - 1) hs with
 | none=>rw [hl] at h;cases h
 | some ow =>
  rw [hl] at h
  have h:some _=some _:=h
  injection h with h
  injection h with h1 h2
  subst h1
  exact ⟨rfl,rfl⟩
theorem kR (t:SetTable) (es:Array (Int×yai)) (n:Nat):(relayAll t es n).2.1.led=t.led∧((relayAll t es n).2.1.plain=true→t.plain=true):=by
 unfold relayAll
 split
 ·rename_i t' order he
  dsimp only
  split
  ·exact ⟨(iG he).1,fun z=>by rw [← (iG he).2];exact z⟩
  ·exact ⟨rfl,fun z=>by cases z⟩
 ·exact ⟨rfl,fun z=>by cases z⟩
def Il (prog:yaj) (w:yak) (o:Obj) (S:List Str):Prop :=
 ∃ es ep t,o.ExactSet∧o.data = .set es ep t∧ElemsOf (PySem.strKind prog w) es.toList∧(es.toList.map fun e=>strOf e.2).Perm S∧t.fits es.size=true∧t.led=(!w.params.followText "set-order")∧(es.size≠0→t.plain=false)
def nR (prog:yaj) (w:yak) (h:Heap) (a:Addr) (S:List Str):Prop:=∃ o,h.get? a=some o∧Il prog w o S
noncomputable def iV (S:List Str) (x:Str):List Str:=if x∈S then S else S++[x]
section
variable {prog:yaj}{w:yak}{A:yal}{E:yai→yah→Prop}{s:yah}
theorem HQ (x:Str) (t:Tok):(PySem.strKind prog w).is x (.str x t)=true:=by
 show Value.isStrOf x (.str x t)=true
 simp [Value.isStrOf]
theorem vH {x:Str}{v:yai} (h:(PySem.strKind prog w).is x v=true):strOf v=x:=by
 obtain ⟨t,rfl⟩:=Value.isStrOf_shape h
 rfl
theorem iZ {h:Heap}{a:Addr}{o:Obj}{es:Array (Int×yai)}{ep:Nat}{t:SetTable} (es':Array (Int×yai)) (t':SetTable) (ho:h.get? a=some o) (hd:o.data = .set es ep t) :
  (h.update a (Obj.putSet es' t')).get? a=some { o with data:=.set es' (ep+1) t' }:=by
 have e:=zaq (Obj.putSet es' t') ho
 rw [putSet_of es' t' hd] at e
 exact e rfl
theorem add_str {a:Addr}{S:List Str}{x:Str}{tk:Tok}{Q:Bool→yah→Prop} (hS:nR prog w s.heap a S) (hn:S.length+1<4096)
  (h:∀ b h',Heap.SameBut a s.heap h'→nR prog w h' a (iV S x)→Q b { s with heap:=h' }) :
  yar (model prog w) A (setAddHashed a (.str x tk) ((PySem.strKind prog w).hash x)) Q E s:=by
 obtain ⟨o,ho,es,ep,t,hex,hd,hel,hp,hf,hled,hpl⟩:=hS
 have hlen:es.size=S.length:=by rw [← hp.length_eq,zbr,zaB]
 have hb:es.size<scanBound:=by show es.size<4096;lia
 unfold setAddHashed
 unfold setAddHashedIn
 refine yad (yaa (wpAny_setState_of ho hd hf ?_))
 dsimp only
 rw [byScan_of (x:=.str x tk) rfl hb hel,yIp rfl]
 unfold setAddByScan
 refine yaa (yaa (wpAny_rule (yaa (wpAny_setScan_of (k:=x) (HQ x tk) ho hd hf hel ?_))))
 cases hr:List.findIdx? (fun e=>(PySem.strKind prog w).is x e.2) es.toList with
 | some j =>
  obtain ⟨hj,hpj,_⟩:=List.findIdx?_eq_some_iff_getElem.mp hr
  have hx:x∈S:=hp.mem_iff.mp (zbO.mpr ⟨_,zbg hj,vH hpj⟩)
  dsimp only
  refine yab (yab ?_)
  have q:=h false s.heap (Heap.SameBut.refl a s.heap) (by
   unfold iV
   rw [yIp hx]
   exact ⟨o,ho,es,ep,t,hex,hd,hel,hp,hf,hled,hpl⟩)
  exact q
 | none =>
  have hx:x ∉ S:=fun hx=>by
   obtain ⟨e,he,z⟩:=zbO.mp (hp.mem_iff.mpr hx)
   obtain ⟨⟨k,hk,_⟩,_⟩:=hel e he
   rw [vH hk] at z
   subst z
   have:=List.findIdx?_eq_none_iff.mp hr e he
   rw [hk] at this;cases this
  dsimp only
  have hlp:=layNew_perm t es ((PySem.strKind prog w).hash x) (.str x tk)
  have hlf:=layNew_fits t es ((PySem.strKind prog w).hash x) (.str x tk)
  have hlk:=o6 t es ((PySem.strKind prog w).hash x) (.str x tk)
  generalize layNew t es ((PySem.strKind prog w).hash x) (.str x tk)=L at hlp hlf hlk ⊢
  obtain ⟨es1,t1,wd,gv⟩:=L
  dsimp only at hlp hlf hlk ⊢
  rw [zaZ] at hlp
  have hel1:ElemsOf (PySem.strKind prog w) es1.toList:=(hel.push (HQ x tk) rfl).perm hlp
  have hp1:(es1.toList.map fun e=>strOf e.2).Perm (S++[x]):=by
   refine (hlp.map _).trans ?_
   rw [zbu]
   exact hp.append_right [x]
  have hsz1:es1.size=S.length+1:=by rw [← zaB,← zbr (f:=fun e:Int×yai=>strOf e.2),hp1.length_eq,zaE];rfl
  have gw:∀ (b:Bool) {s₁:yah}{Q':Unit→yah→Prop},Q' () s₁→yar (model prog w) A (match b with | true=>rule "set.scan.the-table-gave-way" | false=>pure ()) Q' E s₁:=by
   intro b s₁ Q' q
   cases b
   ·exact yab q
   ·exact wpAny_rule q
  refine yaa (gw _ ?_)
  have fin:∀ (t2:SetTable),t2.fits es1.size=true→t2.led=t.led→t2.plain=false→yar (model prog w) A (do
    storeSet a es1 t2
    if (!wd&&t2.tooFull)=true then do
      (match (relayAll t2 es1 (SetTable.grown es1.size)).2.2 with | true=>rule "set.scan.the-table-gave-way" | false=>pure ())
      storeSet a (relayAll t2 es1 (SetTable.grown es1.size)).1 (relayAll t2 es1 (SetTable.grown es1.size)).2.1
      pure (some true)
     else pure (some true)) (fun r s'=>r=some true∧Q true s') E s:=by
   intro t2 f2 l2 p2
   refine yaa (wpAny_storeSet_of ho hd ?_ (by rw [hsz1,yaf];lia))
   have ho1:=iZ es1 t2 ho hd
   have sb1:=Heap.SameBut.update s.heap a (Obj.putSet es1 t2)
   split
   ·have rp:=relayAll_perm t2 es1 (SetTable.grown es1.size)
    have rf:=relayAll_fits t2 es1 (SetTable.grown es1.size)
    have rk:=kR t2 es1 (SetTable.grown es1.size)
    generalize relayAll t2 es1 (SetTable.grown es1.size)=Rl at rp rf rk ⊢
    obtain ⟨es2,t3,g2⟩:=Rl
    dsimp only at rp rf rk ⊢
    have hsz2:es2.size=es1.size:=by rw [← zaB,rp.length_eq,zaB]
    refine yaa (gw _ ?_)
    refine yaa (wpAny_storeSet_of ho1 rfl ?_ (by rw [hsz2,hsz1,yaf];lia))
    refine yab ⟨rfl,h true _ (sb1.trans (Heap.SameBut.update _ a _)) ⟨_,iZ es2 t3 ho1 rfl,es2,_,t3,hex,rfl,hel1.perm rp,?_,rf,rk.1.trans (l2.trans hled),fun _ => ?_⟩⟩
    ·unfold iV;rw [yIn hx];exact (rp.map _).trans hp1
    ·cases hh:t3.plain with
     | false=>rfl
     | true=>rw [rk.2 hh] at p2;cases p2
   ·refine yab ⟨rfl,h true _ sb1 ⟨_,ho1,es1,_,t2,hex,rfl,hel1,?_,f2,l2.trans hled,fun _=>p2⟩⟩
    unfold iV;rw [yIn hx];exact hp1
  cases hpt:t1.plain with
  | true =>
   rw [yIp rfl]
   refine yaa ?_
   rw [hashByValue_scannable 8 (x:=.str x tk) rfl]
   refine yab ?_
   refine yac (fin _ ?_ ?_ ?_) ?_ (fun _ _ z=>z)
   ·rw [yIn (by simp [plainKind])];exact SetTable.fits_plain_off hlf
   ·rw [yIn (by simp [plainKind])];exact hlk.1
   ·rw [yIn (by simp [plainKind])]
   ·rintro r s' ⟨rfl,q⟩
    exact yab q
  | false =>
   rw [yIn (by decide)]
   refine yaa (yab ?_)
   refine yac (fin _ ?_ ?_ ?_) ?_ (fun _ _ z=>z)
   ·rw [yIp rfl];exact hlf
   ·rw [yIp rfl];exact hlk.1
   ·rw [yIp rfl];exact hpt
   ·rintro r s' ⟨rfl,q⟩
    exact yab q
end
noncomputable def all1 (val:Nat→Str):Nat→List Str
 | 0=>[]
 | i+1=>iV (all1 val i) (val i)
theorem yF (S:List Str) (x:Str):(iV S x).length≤S.length+1:=by
 unfold iV
 split
 ·lia
 ·rw [zaE];exact zca _
theorem kr (val:Nat→Str):∀ i,(all1 val i).length≤i
 | 0=>zca _
 | i+1=>zbR (yF ..) (Nat.succ_le_succ (kr val i))
theorem nR.keep {prog:yaj}{w:yak}{h h':Heap}{a:Addr}{S:List Str} (x:nR prog w h a S) (e:∀ o,h.get? a=some o→h'.get? a=some o):nR prog w h' a S :=
 let ⟨o,ho,r⟩:=x;⟨o,e o ho,r⟩
section
variable {prog:yaj}{w:yak}{A:yal}{R:Result→yah→Prop}{I:Addr}{fp wr:List Addr}{G:Array yaw→Array yaw→Prop}{n:Nat}{P:Nat→yai→Prop}{St:Nat→yah→Prop}
theorem xJ (W:WalksS prog w A.in1 I fp wr G n P St) (a:Addr) (ha:a ∉ fp) (val:Nat→Str) (hval:∀ i v,P i v→∃ t,v = .str (val i) t) (hn:n<4000) :
  ∀ (k i:Nat) (s:yah),n - i=k→i≤n→St i s→nR prog w s.heap a (all1 val i) →
   (∀ s',Moved (a::wr) G s s'→nR prog w s'.heap a (all1 val n)→R (.ok (.ret .none)) s') →
   codeAny (model prog w) A (.builtin "set.update.loop" ⟨[.ref a,.ref I],[]⟩) R s:=by
 have haw:a ∉ wr:=fun z=>ha (W.sub _ z)
 have sub:∀ b∈wr,b∈a::wr:=fun b z=>zar _ z
 intro k
 induction k with
 | zero =>
  intro i s hk hi hst hS hR
  obtain rfl:i=n:=by lia
  refine codeAny_builtin PyProof.Rows.F.entry_set_update_loop ?_
  rw [Around.under_plainId PyProof.Rows.F.plain_set_update_loop _]
  show yar _ A.in1 (pyNext (.ref I) >>= _) _ _ s
  refine yaa (W.done s _ _ hst fun s' hm => ?_)
  exact yab (hR s' (hm.mono sub) (hS.keep fun o e=>hm.heap a o haw e))
 | succ k ih =>
  intro i s hk hi hst hS hR
  have hlt:i<n:=by lia
  refine codeAny_builtin PyProof.Rows.F.entry_set_update_loop ?_
  rw [Around.under_plainId PyProof.Rows.F.plain_set_update_loop _]
  show yar _ A.in1 (pyNext (.ref I) >>= _) _ _ s
  refine yaa (W.item i s _ _ hlt hst fun v s' hP hst' hm => ?_)
  obtain ⟨t,rfl⟩:=hval i v hP
  have hS':nR prog w s'.heap a (all1 val i):=hS.keep fun o e=>hm.heap a o haw e
  show yar _ A.in1 (holding [Value.str (val i) t] (setAdd a (.str (val i) t)) >>= _) _ _ s'
  refine yaa (yad ?_)
  unfold setAdd
  refine yad (yaa ((PySem.strKind prog w).pyHash (k:=val i) (HQ _ _) ?_))
  have:=kr val i
  refine add_str (s:={ s' with toks:=s'.toks+1 }) hS' (by lia) fun b h' hsb hS2 => ?_
  refine yab ⟨plainId_quiet PyProof.Rows.F.plain_set_update_loop _,ih (i+1) _ (by lia) hlt (W.frame _ s' _ _ hst' (zcb _) fun b hb o e => ?_) hS2 fun s'' hm'' hS'' => ?_⟩
  ·rw [hsb.2 b fun z:b=a=>ha (z ▸ hb)];exact e
  ·refine hR s'' (Moved.trans W.gtrans ((hm.mono sub).then_heap (zcb _) fun b o hb e => ?_) hm'') hS''
   rw [hsb.2 b fun z:b=a=>hb (z ▸ zaD)];exact e
end
namespace F
theorem sub_tuple_set:isSubtype (.type "tuple") (.type "set")=pure false:=by rw [isSubtype_type];kernel_rfl
theorem sub_tuple_frozenset:isSubtype (.type "tuple") (.type "frozenset")=pure false:=by rw [isSubtype_type];kernel_rfl
end F
noncomputable def aK (led:Bool):Obj:={ cls:=.type "set",dict:=none,data:=.set #[] 0 (.fresh 0 0 led) }
section
variable {prog:yaj}{w:yak}{A:yal}{E:yai→yah→Prop}{s:yah}
theorem se (a:yai) {Q₁:yai→yah→Prop} (h:Q₁ (.ref s.heap.objs.size) { s with heap:=s.heap.push (aK (!w.params.followText "set-order")) }) :
  codeAny (model prog w) A (.call (.builtin "set.__new__") ⟨[.type "set",a],[]⟩) (wants Q₁ E) s:=by
 refine codeAny_of_tree ?_
 show yar _ A.in1 (do checkBuiltinCall "set.__new__" ⟨[.type "set",a],[]⟩;again (.builtin "set.__new__" ⟨[.type "set",a],[]⟩)) _ _ s
 refine yaa (wpAny_of_eq (PySem.F.newCall_set_1 a) (yab ⟨plainId_quiet PySem.F.plain_set_new _,codeAny_builtin PySem.F.entry_set_new ?_⟩))
 rw [Around.under_plainId PySem.F.plain_set_new _]
 unfold Builtin.«set.__new__» Builtin.Frozenset.newClass
 have hsub:=sub_set_self
 obtain ⟨hp,g,d,tk,os⟩:=s
 dsimp only
 wp_walk
 refine wpAny_askSetting (yab ?_)
 dsimp only
 simp only [newObj]
 refine yaa (wpAny_alloc (yab ?_))
 exact yab h
theorem uY {h:Heap}{a:Addr} (e:h.get? a=some (aK (!w.params.followText "set-order"))):nR prog w h a [] :=
 ⟨_,e,#[],0,_,⟨rfl,rfl,rfl⟩,rfl,fun e he=>by simp at he,.nil,rfl,rfl,fun z=>absurd rfl z⟩
theorem pM {l:Addr}{T:String}{ob:Obj}{n:Nat}{P:Nat→yai→Prop}{St:Addr→Nat→Heap→Prop}{val:Nat→Str}{Q:yai→yah→Prop}
  (hh:A.handled=none) (hT:s.TypeIs (.ref l) T) (h1:isSubtype (.type T) (.type "set")=pure false) (h2:isSubtype (.type T) (.type "frozenset")=pure false) (h3:(Value.type T==Value.type "dict")=false)
  (it:∀ {A':yal}{s':yah}{Q':yai→yah→Prop}{E':yai→yah→Prop},(∀ b o,s.heap.get? b=some o→s'.heap.get? b=some o)→Q' (.ref s'.heap.objs.size) { s' with heap:=s'.heap.push ob }→yar (model prog w) A' (pyIter (.ref l)) Q' E' s')
  (hob:ob.isFreed=false) (W:∀ {A':yal} (I:Addr),A'.handled=none→l≠I→Walks prog w A' I [I,l] [I] n P (St I)) (st0:∀ I h',(∀ b o,s.heap.get? b=some o→h'.get? b=some o)→h'.get? I=some ob→St I 0 h')
  (hval:∀ i v,P i v→∃ t,v = .str (val i) t) (hn:n<4000)
  (h:∀ (h':Heap) (tk:Nat),nR prog w h' s.heap.objs.size (all1 val n)→(∀ b o,b<s.heap.objs.size→s.heap.get? b=some o→h'.get? b=some o)→Q (.ref s.heap.objs.size) { s with heap:=h',toks:=tk }) :
  yar (model prog w) A (call (.type "set") [.ref l]) Q E s:=by
 obtain ⟨c,tl,hmro⟩:=PySem.F.called_set.mro
 have hmade:=PySem.F.called_set.made
 have hsub:=PySem.F.called_set.sub
 have g1:=PySem.F.called_set.notType
 have g2:=PySem.F.called_set.canCreate
 have hct:=PySem.F.typeCall_set_1 (.ref l)
 refine yaD (codeAny_of_tree ?_)
 show yar _ _ (callAny (.type "set") _) _ _ _
 refine yab ⟨Code.quiet_builtin _ (by decide +kernel),codeAny_builtin PySem.F.entry_type_call ?_⟩
 rw [Around.under_plain (weight_type_call_type "set" [.ref l] []) rfl]
 repeat (any_goals (first | assumption | wp_step))
 generalize hled:(!w.params.followText "set-order")=led
 refine yax (se (.ref l) (E:=E) (Q₁:=fun u s₁=>u = .ref s.heap.objs.size∧s₁={ s with heap:=s.heap.push (aK led) }) ⟨rfl,by rw [hled]⟩) fun r s₁ hr => ?_
 cases r with
 | error e=>exact hr
 | ok fl =>
  cases fl with
  | ret u =>
   obtain ⟨rfl,rfl⟩:=hr
   have gS:(s.heap.push (aK led)).get? s.heap.objs.size=some (aK led):=zaC _ rfl
   have tS:Shared.TypeIs { s with heap:=s.heap.push (aK led) } (.ref s.heap.objs.size) "set" := ⟨_,gS,rfl⟩
   have hli:=PySem.F.called_set.init.lookup
   have hbi:=PySem.F.called_set.init.bind (.ref s.heap.objs.size)
   repeat (any_goals (first | assumption | wp_step))
   refine yax (codeAny_call_builtin (R:=wants (fun r s₂=>r = .none∧∃ h' tk,s₂={ s with heap:=h',toks:=tk }∧nR prog w h' s.heap.objs.size (all1 val n)∧(∀ b o,b<s.heap.objs.size→s.heap.get? b=some o→h'.get? b=some o)) E) PySem.F.called_set.init.plain PySem.F.entry_set_init (check_set_init_1 tS ?_)) fun r₂ s₂ hr₂ => ?_
   ·have hlS:l<s.heap.objs.size:=by obtain ⟨o,ho,_⟩:=hT;exact zbY ho
    have kp:∀ b o,s.heap.get? b=some o→(s.heap.push (aK led)).get? b=some o:=fun b o e=>zak _ e
    have tl1:Shared.TypeIs { s with heap:=s.heap.push (aK led) } (.ref l) T:=by obtain ⟨o,ho,z⟩:=hT;exact ⟨o,kp _ _ ho,z⟩
    unfold Builtin.«set.__init__» noKeywords Builtin.Frozenset.updateFrom
    generalize hPI:pyIter=PI
    wp_walk
    subst hPI
    refine it kp ?_
    have sz:(s.heap.push (aK led)).objs.size=s.heap.objs.size+1:=zbA ..
    have kp2:∀ b o,s.heap.get? b=some o→((s.heap.push (aK led)).push ob).get? b=some o:=fun b o e=>zak _ (kp b o e)
    have hne:l≠(s.heap.push (aK led)).objs.size:=by rw [sz];exact zbQ (zaW hlS)
    have hSf:s.heap.objs.size ∉ [(s.heap.push (aK led)).objs.size,l]:=by
     rw [sz]
     simp only [zbB,zbh,or_false]
     rintro (z | z)
     ·exact absurd z (by lia)
     ·rw [z] at hlS;exact zbF _ hlS
    refine yaa (wpAny_runValue ?_)
    refine xJ (W (A':=A.in1.in1.in1) _ hh hne).toS s.heap.objs.size hSf val hval hn (n - 0) 0 _ rfl (zcc _) ?_ ?_ ?_
    ·exact st0 _ _ kp2 (zaC _ hob)
    ·exact uY (by rw [hled];exact zak _ gS)
    ·intro s' hm hS'
     obtain ⟨h',g',d',tk',os'⟩:=s'
     obtain rfl:g'=s.gens:=hm.gens
     obtain rfl:d'=s.drawn:=hm.drawn
     obtain rfl:os'=s.os:=hm.os
     refine yab (yab ⟨rfl,h',tk',rfl,hS',fun b o hb e=>hm.heap b o ?_ (kp2 b o e)⟩)
     rw [sz]
     simp only [zbB,zbh,or_false]
     rintro (z | z)
     ·exact zbQ hb z
     ·exact zbQ (zaW hb) z
   ·cases r₂ with
    | error e=>exact hr₂
    | ok fl₂ =>
     cases fl₂ with
     | ret r =>
      obtain ⟨rfl,h',tk,rfl,hS',hk'⟩:=hr₂
      repeat (any_goals (first | assumption | wp_step))
      exact h _ _ hS' hk'
     | _=>exact hr₂.elim
  | _=>exact hr.elim
theorem set_tuple {l:Addr}{its:Array yai}{ss:List Str}{Q:yai→yah→Prop} (hh:A.handled=none) (hl:s.heap.IsTuple l its) (hS:StrsAre its.toList ss) (hn:ss.length<4000)
  (h:∀ (h':Heap) (tk:Nat),nR prog w h' s.heap.objs.size (all1 (fun i=>ss.getD i ⟨#[]⟩) ss.length)→(∀ b o,b<s.heap.objs.size→s.heap.get? b=some o→h'.get? b=some o)→Q (.ref s.heap.objs.size) { s with heap:=h',toks:=tk }) :
  yar (model prog w) A (call (.type "set") [.ref l]) Q E s:=by
 have el:its.size=ss.length:=by rw [← zaB,hS.length]
 rw [← el] at h
 refine pM (T := "tuple") (St:=fun I i h=>h.IsTupleIter I l i∧h.IsTuple l its) (ob:={ cls:=.type "tuple_iterator",data:=.fields #[.ref l,.int 0 0] }) (P:=fun i v=>its[i]? = some v) hh hl.typeIs F.sub_tuple_set F.sub_tuple_frozenset (by decide) (fun kp q=>wpAny_pyIter_tuple (hl.at (kp l)) q) rfl (fun I h1 h2=>Walks.tuple h1 I l h2 its)
  (fun I h' kp e=>⟨⟨_,e,rfl,rfl⟩,hl.at (kp l)⟩) ?_ (by lia) h
 intro i v hv
 rw [← zap] at hv
 clear h
 revert i
 generalize its.toList=vs at hS
 clear el hn
 induction hS with
 | nil=>intro i hv;simp at hv
 | cons x t r ih =>
  intro i hv
  cases i with
  | zero=>simp at hv;exact ⟨t,by rw [← hv];rfl⟩
  | succ i =>
   rw [zai] at hv
   obtain ⟨t',e⟩:=ih i hv
   exact ⟨t',e⟩
theorem set_list {l:Addr}{its:Array yai}{ss:List Str}{Q:yai→yah→Prop} (hh:A.handled=none) (hl:s.heap.IsList l its) (hS:StrsAre its.toList ss) (hn:ss.length<4000)
  (h:∀ (h':Heap) (tk:Nat),nR prog w h' s.heap.objs.size (all1 (fun i=>ss.getD i ⟨#[]⟩) ss.length)→(∀ b o,b<s.heap.objs.size→s.heap.get? b=some o→h'.get? b=some o)→Q (.ref s.heap.objs.size) { s with heap:=h',toks:=tk }) :
  yar (model prog w) A (call (.type "set") [.ref l]) Q E s:=by
 have el:its.size=ss.length:=by rw [← zaB,hS.length]
 rw [← el] at h
 refine pM (T := "list") (St:=fun I i h=>h.IsListIter I l i∧h.IsList l its) (ob:={ cls:=.type "list_iterator",data:=.fields #[.ref l,.int 0 0] }) (P:=fun i v=>its[i]? = some v) hh hl.typeIs PySem.F.sub_list_set PySem.F.sub_list_frozenset (by decide) (fun kp q=>wpAny_pyIter_list (hl.at (kp l)) q) rfl (fun I h1 h2=>Walks.list h1 I l h2 its)
  (fun I h' kp e=>⟨⟨_,e,rfl,rfl⟩,hl.at (kp l)⟩) ?_ (by lia) h
 intro i v hv
 rw [← zap] at hv
 clear h
 revert i
 generalize its.toList=vs at hS
 clear el hn
 induction hS with
 | nil=>intro i hv;simp at hv
 | cons x t r ih =>
  intro i hv
  cases i with
  | zero=>simp at hv;exact ⟨t,by rw [← hv];rfl⟩
  | succ i =>
   rw [zai] at hv
   obtain ⟨t',e⟩:=ih i hv
   exact ⟨t',e⟩
end
theorem xC {S:List Str}{x y:Str}:y∈iV S x↔y∈S∨y=x:=by
 unfold iV
 split
 ·exact ⟨.inl,fun z=>z.elim id fun e=>e ▸ ‹_›⟩
 ·simp
theorem qE {S:List Str}{x:Str} (h:S.Nodup):(iV S x).Nodup:=by
 unfold iV
 split
 ·exact h
 ·rw [zaT]
  refine ⟨h,by simp,fun a ha b hb => ?_⟩
  simp only [zaF] at hb
  subst hb
  intro e
  subst e
  exact absurd ha ‹_›
theorem jT (val:Nat→Str):∀ n,(all1 val n).Nodup
 | 0=>List.nodup_nil
 | n+1=>qE (jT val n)
theorem oY (val:Nat→Str) (y:Str):∀ n,y∈all1 val n↔∃ i,i<n∧val i=y
 | 0=>by simp [all1]
 | n+1=>by
  show y∈iV _ _↔_
  rw [xC,oY val y n]
  constructor
  ·rintro (⟨i,h,e⟩ | e)
   ·exact ⟨i,by lia,e⟩
   ·exact ⟨n,by lia,e.symm⟩
  ·rintro ⟨i,h,e⟩
   rcases zbV i n with z | z
   ·exact .inl ⟨i,z,e⟩
   ·obtain rfl:i=n:=by lia
    exact .inr e.symm
theorem uH (ss:List Str) (y:Str):y∈all1 (fun i=>ss.getD i ⟨#[]⟩) ss.length↔y∈ss:=by
 rw [oY]
 constructor
 ·rintro ⟨i,h,e⟩
  have:ss.getD i ⟨#[]⟩=ss[i]:=by simp [h]
  rw [this] at e
  exact e ▸ zbg h
 ·intro h
  obtain ⟨i,h1,e⟩:=zaz h
  exact ⟨i,h1,by simp [h1,e]⟩
end M5
namespace M5
open PySem PySem.Spec PyProof.Rows
namespace F
theorem oO:Manifest.owners.lookup (String.ofList ['r','o','t','a','r','e','t','i','_','t','e','s'].reverse)=some Manifest.sig_set_iterator:=by kernel_rfl
theorem Ae:Manifest.owners.lookup (String.ofList ['t','e','s'].reverse)=some Manifest.sig_set:=by kernel_rfl
theorem slot_next:Slot "set_iterator" "__next__" "set_iterator.__next__" :=
 .of (owner := "set_iterator") (n := "__next__") (by rw [typeLookup_type,builtinLookup_eq_fast];kernel_rfl) (by decide +kernel) (by decide +kernel) (by decide +kernel)
  (by first | exact .inl (by decide +kernel) | exact .inr (by decide +kernel)) (by rw [isSubtype_type];kernel_rfl)
theorem entry_next:entryFor table "set_iterator.__next__" = some Builtin.«set_iterator.__next__» := entryFor_of_tree (by kernel_rfl)
theorem args_next (a:yai):argsOk "set_iterator.__next__" ⟨[a],[]⟩:=by
 unfold argsOk;rw [signature?_of (id := "set_iterator.__next__") (n:=['_','_','t','x','e','n','_','_']) (o:=['r','o','t','a','r','e','t','i','_','t','e','s']) (by kernel_rfl) oO];kernel_rfl
theorem lF:Slot "set_iterator" "__iter__" "set_iterator.__iter__" :=
 .of (owner := "set_iterator") (n := "__iter__") (by rw [typeLookup_type,builtinLookup_eq_fast];kernel_rfl) (by decide +kernel) (by decide +kernel) (by decide +kernel)
  (by first | exact .inl (by decide +kernel) | exact .inr (by decide +kernel)) (by rw [isSubtype_type];kernel_rfl)
theorem uW (a:yai):argsOk "set_iterator.__iter__" ⟨[a],[]⟩:=by
 unfold argsOk;rw [signature?_of (id := "set_iterator.__iter__") (n:=['_','_','r','e','t','i','_','_']) (o:=['r','o','t','a','r','e','t','i','_','t','e','s']) (by kernel_rfl) oO];kernel_rfl
theorem qY:entryFor table "set_iterator.__iter__" = some Builtin.«dict_keyiterator.__iter__» :=
 entryFor_alias (id' := "dict_keyiterator.__iter__") (by kernel_rfl) (by first | rfl | decide +kernel | (unfold String.splitOn;simp +decide [String.splitOnAux])) (by decide +kernel) (by kernel_rfl)
theorem dP:Slot "set" "__iter__" "set.__iter__" :=
 .of (owner := "set") (n := "__iter__") (by rw [typeLookup_type,builtinLookup_eq_fast];kernel_rfl) (by decide +kernel) (by decide +kernel) (by decide +kernel)
  (by first | exact .inl (by decide +kernel) | exact .inr (by decide +kernel)) (by rw [isSubtype_type];kernel_rfl)
theorem ki (a:yai):argsOk "set.__iter__" ⟨[a],[]⟩:=by
 unfold argsOk;rw [signature?_of (id := "set.__iter__") (n:=['_','_','r','e','t','i','_','_']) (o:=['t','e','s']) (by kernel_rfl) Ae];kernel_rfl
theorem iJ:entryFor table "set.__iter__" = some Builtin.«frozenset.__iter__» :=
 entryFor_alias (id' := "frozenset.__iter__") (by kernel_rfl) (by first | rfl | decide +kernel | (unfold String.splitOn;simp +decide [String.splitOnAux])) (by decide +kernel) (by kernel_rfl)
end F
noncomputable def vj (first:yai) (i:Nat) (a:Addr) (n ep:Nat):Obj:={ cls:=.type "set_iterator",data:=.fields #[first,rawInt i,.ref a,rawInt n,rawInt ep] }
def eG (h:Heap) (I:Addr) (first:yai) (i:Nat) (a:Addr) (n ep:Nat):Prop:=∃ o,h.get? I=some o∧o.cls = .type "set_iterator" ∧ o.data = .fields #[first,rawInt i,.ref a,rawInt n,rawInt ep]
def nW (h:Heap) (a:Addr) (es:Array (Int×yai)) (ep:Nat) (t:SetTable):Prop:=∃ o,h.get? a=some o∧o.cls = .type "set" ∧ o.data = .set es ep t
theorem eG.at {h h':Heap}{I a:Addr}{f:yai}{i n ep:Nat} (x:eG h I f i a n ep) (e:∀ o,h.get? I=some o→h'.get? I=some o):eG h' I f i a n ep:=let ⟨o,ho,r⟩:=x;⟨o,e _ ho,r⟩
theorem nW.at {h h':Heap}{a:Addr}{es:Array (Int×yai)}{ep:Nat}{t:SetTable} (x:nW h a es ep t) (e:∀ o,h.get? a=some o→h'.get? a=some o):nW h' a es ep t:=let ⟨o,ho,r⟩:=x;⟨o,e _ ho,r⟩
section
variable {prog:yaj}{w:yak}{A:yal}{E:yai→yah→Prop}{s:yah}
theorem eG.typeIs {I a:Addr}{f:yai}{i n ep:Nat} (x:eG s.heap I f i a n ep):s.TypeIs (.ref I) "set_iterator" := let ⟨o,ho,hc,_⟩:=x;⟨o,ho,hc⟩
theorem nW.typeIs {a:Addr}{es:Array (Int×yai)}{ep:Nat}{t:SetTable} (x:nW s.heap a es ep t):s.TypeIs (.ref a) "set" := let ⟨o,ho,hc,_⟩:=x;⟨o,ho,hc⟩
theorem rD {src:Source}{n:Nat}{Q:Nat→yah→Prop} (hn:n≠0) (h:∀ i d,i<n→Q i { s with drawn:=d }):yar (model prog w) A (choose src n) Q E s:=by
 intro Γ p hΓ
 show Sem.wp _ _ (.choose src n .pure) _ _ _ _
 rw [Sem.wp_choose]
 exact ⟨hn,h _ _ (zcf _ (Nat.pos_of_ne_zero hn))⟩
theorem gm {α:Type}:∀ {l:List α}{i:Nat} (h:i<l.length),(l[i]::l.eraseIdx i).Perm l
 | x::r,0,h=>.refl _
 | x::r,i+1,h=>by
  have h':i<r.length:=Nat.lt_of_succ_lt_succ h
  show (r[i]::x::r.eraseIdx i).Perm (x::r)
  exact (List.Perm.swap ..).trans ((gm (Nat.lt_of_succ_lt_succ h)).cons x)
theorem kj {α:Type}:∀ (n:Nat) (xs:List α) {s:yah}{Q:List α→yah→Prop},xs.length=n→(∀ ys d,ys.Perm xs→Q ys { s with drawn:=d })→yar (model prog w) A (drawOrder n xs) Q E s
 | 0,xs,s,Q,hl,h=>by
  obtain rfl:xs=[]:=zaa hl
  unfold drawOrder
  exact yab (h [] s.drawn .nil)
 | n+1,[],s,Q,hl,h=>by cases hl
 | n+1,x::r,s,Q,hl,h=>by
  unfold drawOrder
  refine yaa (rD (by simp) fun i d hi => ?_)
  rw [zah hi]
  dsimp only
  refine yaa (kj n _ ?_ fun ys d2 hp => ?_)
  ·rw [List.length_eraseIdx,yIp hi,hl];rfl
  ·refine yab (h _ d2 ((hp.cons _).trans ?_))
   exact gm hi
theorem sE {α:Type} (next:Nat→Nat):∀ (n k:Nat) (left:List α) (out:Array α),left.length=n→(pickOrder.go next n k left out).toList.Perm (out.toList++left)
 | 0,k,left,out,h=>by
  obtain rfl:left=[]:=zaa h
  unfold pickOrder.go
  simp
 | n+1,k,left,out,h=>by
  unfold pickOrder.go
  have hi:next k % left.length<left.length:=zcf _ (by lia)
  rw [zah hi]
  dsimp only
  refine (sE next n (k+1) _ _ ?_).trans ?_
  ·rw [List.length_eraseIdx,yIp hi,h];rfl
  ·rw [zaZ,zaR]
   exact (gm hi).append_left _
theorem lN {α:Type} (next:Nat→Nat) (xs:Array α):(pickOrder next xs).toList.Perm xs.toList:=by
 unfold pickOrder
 have:=sE next xs.size 0 xs.toList #[] zaB
 simpa using this
end
end M5
namespace M5
open PySem PySem.Spec PyProof.Rows
section
variable {prog:yaj}{w:yak}{A:yal}{E:yai→yah→Prop}{s:yah}
theorem next_item {I a:Addr}{sl i n ep nx:Nat}{es:Array (Int×yai)}{t:SetTable}{x:yai}{Q:Option yai→yah→Prop} (hit:eG s.heap I (rawInt sl) i a n ep) (hS:nW s.heap a es ep t) (hf:t.fits es.size=true) (hn:es.size=n)
  (hs:∀ {A':yal}{Q':Option (yai×Nat)→yah→Prop}{E':yai→yah→Prop},Q' (some (x,nx)) s→yar (model prog w) A' (setNext a sl i ep) Q' E' s)
  (hQ:∀ h',eG h' I (rawInt nx) (i+1) a n ep→Heap.SameBut I s.heap h'→Q (some x) { s with heap:=h' }):yar (model prog w) A (pyNext (.ref I)) Q E s:=by
 obtain ⟨o,ho,hc,hd⟩:=id hit
 obtain ⟨os,hos,hcs,hds⟩:=id hS
 unfold pyNext
 refine yaa (wpAny_attempt (wpAny_callSpecial?_slot (name:=Str.ofString "__next__") hit.typeIs F.slot_next
  (wpAny_call_entry F.slot_next hit.typeIs F.entry_next ?_ (F.args_next _))))
 unfold Builtin.«set_iterator.__next__»
 refine yaa (wpAny_of_eq (a:=(Value.ref I,[])) rfl ?_)
 refine yaa (wpAny_fieldsOf ho hd ?_)
 dsimp only [rawInt]
 refine yaa (wpAny_setEntries_of hos hds hf ?_)
 rw [yIn (by rw [hn];simp)]
 refine yaa (hs ?_)
 dsimp only
 refine yaa (wpAny_setField ho hd (by simp) ?_)
 have ho2:=zaq (Obj.mapFields (·.setIfInBounds 0 (rawInt nx))) ho (Obj.isFreed_of_fields (Obj.data_mapFields hd _))
 have hd2:=Obj.data_mapFields hd (·.setIfInBounds 0 (rawInt nx))
 refine yaa (wpAny_setField ho2 hd2 (by simp) ?_)
 refine yab ⟨x,rfl,yab (hQ _ ?_ ((Heap.SameBut.update ..).trans (Heap.SameBut.update ..)))⟩
 exact ⟨_,zaq _ ho2 (Obj.isFreed_of_fields (Obj.data_mapFields hd2 _)),(Obj.cls_mapFields ..).trans ((Obj.cls_mapFields ..).trans hc),by
  rw [Obj.data_mapFields hd2];simp [rawInt]⟩
theorem next_end {I a:Addr}{sl i n ep:Nat}{es:Array (Int×yai)}{t:SetTable}{Q:Option yai→yah→Prop} (hh:A.handled=none) (hit:eG s.heap I (rawInt sl) i a n ep) (hS:nW s.heap a es ep t) (hf:t.fits es.size=true) (hn:es.size=n)
  (hs:∀ {A':yal}{Q':Option (yai×Nat)→yah→Prop}{E':yai→yah→Prop},Q' none s→yar (model prog w) A' (setNext a sl i ep) Q' E' s)
  (hQ:∀ h',Heap.ExtBut I s.heap h'→Q none { s with heap:=h' }):yar (model prog w) A (pyNext (.ref I)) Q E s:=by
 obtain ⟨o,ho,hc,hd⟩:=id hit
 obtain ⟨os,hos,hcs,hds⟩:=id hS
 unfold pyNext
 refine yaa (wpAny_attempt (wpAny_callSpecial?_slot (name:=Str.ofString "__next__") hit.typeIs F.slot_next
  (wpAny_call_entry F.slot_next hit.typeIs F.entry_next ?_ (F.args_next _))))
 unfold Builtin.«set_iterator.__next__»
 refine yaa (wpAny_of_eq (a:=(Value.ref I,[])) rfl ?_)
 refine yaa (wpAny_fieldsOf ho hd ?_)
 dsimp only [rawInt]
 refine yaa (wpAny_setEntries_of hos hds hf ?_)
 rw [yIn (by rw [hn];simp)]
 refine yaa (hs ?_)
 dsimp only
 refine yaa (wpAny_setField ho hd (by simp) ?_)
 refine yaa ?_
 simp only [newExc,newTuple]
 refine yaa (yae ?_ (by size_fits))
 refine yaa (m:=firstArgMember _ _) (wpAny_of_eq (a:=Value.none) (by first | rfl | (simp only [firstArgMember];rfl)) ?_)
 refine yae ?_ (by size_fits)
 simp only [raiseNew]
 refine yaa (wpAny_handled ?_)
 first | rw [show A.in1.handled=none from hh] | rw [hh]
 refine yaa (yab (wpAny_throw ?_))
 refine yaa (wpAny_isInstance (T := "StopIteration") (b:=true) ⟨_,zaC _ rfl,rfl⟩ isSubtype_stop ?_)
 refine yab (hQ _ (Heap.ExtBut.push (Heap.ExtBut.push ?_ _) _))
 exact fun b ob hb e=>(zal _ _ (Ne.symm hb)).trans e
theorem qF {I T a:Addr}{i n ep pl:Nat}{tk:Tok}{es:Array (Int×yai)}{t:SetTable}{ps:Array yai}{hx:Int}{x:yai}{Q:Option yai→yah→Prop} (hit:eG s.heap I (.ref T) i a n ep) (hS:nW s.heap a es ep t) (hf:t.fits es.size=true) (hn:es.size=n)
  (hT:s.heap.IsTuple T ps) (hp:ps[i]? = some (.int pl tk)) (he:es[pl]? = some (hx,x))
  (hQ:∀ h',eG h' I (.ref T) (i+1) a n ep→Heap.SameBut I s.heap h'→Q (some x) { s with heap:=h' }):yar (model prog w) A (pyNext (.ref I)) Q E s:=by
 obtain ⟨o,ho,hc,hd⟩:=id hit
 obtain ⟨os,hos,hcs,hds⟩:=id hS
 obtain ⟨ot,hot,hct,nt,hdt⟩:=id hT
 unfold pyNext
 refine yaa (wpAny_attempt (wpAny_callSpecial?_slot (name:=Str.ofString "__next__") hit.typeIs F.slot_next
  (wpAny_call_entry F.slot_next hit.typeIs F.entry_next ?_ (F.args_next _))))
 unfold Builtin.«set_iterator.__next__»
 refine yaa (wpAny_of_eq (a:=(Value.ref I,[])) rfl ?_)
 refine yaa (wpAny_fieldsOf ho hd ?_)
 dsimp only [rawInt]
 refine yaa (wpAny_setEntries_of hos hds hf ?_)
 rw [yIn (by rw [hn];simp)]
 refine yaa (wpAny_seqItems hot hdt ?_)
 dsimp only
 rw [zaY,hp]
 dsimp only
 refine yaa ?_
 unfold setNextDrawn
 refine yaa (wpAny_setState_of hos hds hf ?_)
 dsimp only
 rw [yIn (by simp),zaY,he]
 dsimp only
 refine yab ?_
 refine yaa (wpAny_setField ho hd (by simp) ?_)
 refine yab ⟨x,rfl,yab (hQ _ ?_ (Heap.SameBut.update ..))⟩
 exact ⟨_,zaq _ ho (Obj.isFreed_of_fields (Obj.data_mapFields hd _)),(Obj.cls_mapFields ..).trans hc,by
  rw [Obj.data_mapFields hd];simp [rawInt]⟩
theorem uD {I T a:Addr}{i n ep:Nat}{es:Array (Int×yai)}{t:SetTable}{ps:Array yai}{Q:Option yai→yah→Prop} (hh:A.handled=none) (hit:eG s.heap I (.ref T) i a n ep) (hS:nW s.heap a es ep t) (hf:t.fits es.size=true) (hn:es.size=n)
  (hT:s.heap.IsTuple T ps) (hp:ps[i]? = none)
  (hQ:∀ h',Heap.ExtBut I s.heap h'→Q none { s with heap:=h' }):yar (model prog w) A (pyNext (.ref I)) Q E s:=by
 obtain ⟨o,ho,hc,hd⟩:=id hit
 obtain ⟨os,hos,hcs,hds⟩:=id hS
 obtain ⟨ot,hot,hct,nt,hdt⟩:=id hT
 unfold pyNext
 refine yaa (wpAny_attempt (wpAny_callSpecial?_slot (name:=Str.ofString "__next__") hit.typeIs F.slot_next
  (wpAny_call_entry F.slot_next hit.typeIs F.entry_next ?_ (F.args_next _))))
 unfold Builtin.«set_iterator.__next__»
 refine yaa (wpAny_of_eq (a:=(Value.ref I,[])) rfl ?_)
 refine yaa (wpAny_fieldsOf ho hd ?_)
 dsimp only [rawInt]
 refine yaa (wpAny_setEntries_of hos hds hf ?_)
 rw [yIn (by rw [hn];simp)]
 refine yaa (wpAny_seqItems hot hdt ?_)
 dsimp only
 rw [zaY,hp]
 dsimp only
 refine yaa (wpAny_setField ho hd (by simp) ?_)
 have ho2:=zaq (Obj.mapFields (·.setIfInBounds 0 (rawInt 0))) ho (Obj.isFreed_of_fields (Obj.data_mapFields hd _))
 refine yaa (wpAny_setField ho2 (Obj.data_mapFields hd _) (by simp) ?_)
 refine yaa ?_
 simp only [newExc,newTuple]
 refine yaa (yae ?_ (by size_fits))
 refine yaa (m:=firstArgMember _ _) (wpAny_of_eq (a:=Value.none) (by first | rfl | (simp only [firstArgMember];rfl)) ?_)
 refine yae ?_ (by size_fits)
 simp only [raiseNew]
 refine yaa (wpAny_handled ?_)
 first | rw [show A.in1.handled=none from hh] | rw [hh]
 refine yaa (yab (wpAny_throw ?_))
 refine yaa (wpAny_isInstance (T := "StopIteration") (b:=true) ⟨_,zaC _ rfl,rfl⟩ isSubtype_stop ?_)
 refine yab (hQ _ (Heap.ExtBut.push (Heap.ExtBut.push ?_ _) _))
 exact fun b ob hb e=>(zal _ _ (Ne.symm hb)).trans ((zal _ _ (Ne.symm hb)).trans e)
theorem tu {I a:Addr}{f:yai}{i n ep:Nat}{Q:yai→yah→Prop} (hit:eG s.heap I f i a n ep) (h:Q (.ref I) s):yar (model prog w) A (pyIter (.ref I)) Q E s:=by
 refine wpAny_pyIter_slot hit.typeIs F.lF (wpAny_call_entry F.lF hit.typeIs F.qY ?_ (F.uW _))
 show yar _ _ (ret (.ref I)) _ _ s
 exact yab ⟨_,rfl,"set_iterator",_,hit.typeIs,F.slot_next.lookup,h⟩
theorem mw {I a:Addr}{ep:Nat}{es:Array (Int×yai)}{t:SetTable}{ord:List yai}{sl:Nat→Nat} (hh:A.handled=none) (hne:a≠I) (hf:t.fits es.size=true) (hlen:ord.length=es.size)
  (hs:∀ i x,ord[i]? = some x→∀ {A':yal}{s':yah}{Q':Option (yai×Nat)→yah→Prop}{E':yai→yah→Prop},nW s'.heap a es ep t→Q' (some (x,sl (i+1))) s'→yar (model prog w) A' (setNext a (sl i) i ep) Q' E' s')
  (he:∀ {A':yal}{s':yah}{Q':Option (yai×Nat)→yah→Prop}{E':yai→yah→Prop},nW s'.heap a es ep t→Q' none s'→yar (model prog w) A' (setNext a (sl ord.length) ord.length ep) Q' E' s') :
  Walks prog w A I [I,a] [I] ord.length (fun i v=>ord[i]? = some v) (fun i h=>eG h I (rawInt (sl i)) i a es.size ep∧nW h a es ep t) where
 sub:=fun b hb=>by simp at hb;simp [hb]
 frame:=fun _ _ _ x hk=>⟨x.1.at fun o e=>hk I (by simp) o e,x.2.at fun o e=>hk a (by simp) o e⟩
 item:=fun i s Q E hi x hQ=>by
  have hx:ord[i]? = some ord[i]:=zah hi
  refine next_item x.1 x.2 hf rfl (hs i _ hx x.2) fun h' hit' hs' => ?_
  exact hQ _ h' s.toks hx ⟨hit',x.2.at fun o e=>(hs'.2 a hne).trans e⟩ fun b o hb eo=>hs'.extBut b o (fun z=>hb (by simp [z])) eo
 done:=fun s Q E x hQ=>next_end hh x.1 x.2 hf rfl (he x.2) fun h' he'=>hQ h' s.toks fun b o hb eo=>he' b o (fun z=>hb (by simp [z])) eo
 self:=fun _ _ _ _ x hQ=>tu x.1 hQ
theorem vo {I T a:Addr}{ep:Nat}{es:Array (Int×yai)}{t:SetTable}{ps:List Nat}{ord:List yai} (hh:A.handled=none) (hne:a≠I) (hT:T≠I) (hf:t.fits es.size=true)
  (ho:ord.length=ps.length) (hs:∀ i (h:i<ps.length) (h2:i<ord.length),∃ k,es[ps[i]]? = some (k,ord[i])) :
  Walks prog w A I [I,a,T] [I] ord.length (fun i v=>ord[i]? = some v) (fun i h=>eG h I (.ref T) i a es.size ep∧nW h a es ep t∧h.IsTuple T (ps.map fun (i:Nat)=>rawInt i).toArray) where
 sub:=fun b hb=>by simp at hb;simp [hb]
 frame:=fun _ _ _ x hk=>⟨x.1.at fun o e=>hk I (by simp) o e,x.2.1.at fun o e=>hk a (by simp) o e,x.2.2.at fun o e=>hk T (by simp) o e⟩
 item:=fun i s Q E hi x hQ=>by
  have hx:ord[i]? = some ord[i]:=zah hi
  have hi2:i<ps.length:=by lia
  obtain ⟨k,hk⟩:=hs i hi2 hi
  refine qF (pl:=ps[i]) (tk:=0) x.1 x.2.1 hf rfl x.2.2 (by simp [hi2,rawInt]) hk fun h' hit' hs' => ?_
  exact hQ _ h' s.toks hx ⟨hit',x.2.1.at fun o e=>(hs'.2 a hne).trans e,x.2.2.at fun o e=>(hs'.2 T hT).trans e⟩ fun b o hb eo=>hs'.extBut b o (fun z=>hb (by simp [z])) eo
 done:=fun s Q E x hQ=>uD hh x.1 x.2.1 hf rfl x.2.2 (by simp [ho]) fun h' he'=>hQ h' s.toks fun b o hb eo=>he' b o (fun z=>hb (by simp [z])) eo
 self:=fun _ _ _ _ x hQ=>tu x.1 hQ
theorem fM {Q:Bool→yah→Prop} (h:Q (w.params.followText "set-order") s):yar (model prog w) A setsByText Q E s:=by
 unfold setsByText
 exact yaa (wpAny_askSetting (yab h))
theorem sU {a:Addr}{ep i:Nat}{es:Array (Int×yai)}{t:SetTable}{Q:Option (yai×Nat)→yah→Prop} (hb:w.params.followText "set-order" = true) (hS:nW s.heap a es ep t) (hf:t.fits es.size=true)
  (h:Q (((pickOrder (w.params.setOrder a ep) es)[i]?).map fun e=>(e.2,0)) s):yar (model prog w) A (setNext a 0 i ep) Q E s:=by
 obtain ⟨o,ho,hc,hd⟩:=hS
 unfold setNext
 refine yaa (wpAny_setState_of ho hd hf ?_)
 dsimp only
 refine yaa (fM ?_)
 rw [yIp hb]
 rw [yIn (by simp)]
 refine yaa ?_
 unfold setWalk
 refine yaa (wpAny_setState_of ho hd hf ?_)
 dsimp only
 refine yaa (fM ?_)
 rw [yIp hb]
 refine yaa (wpAny_askSetting (yab ?_))
 exact yab h
theorem BZ {a:Addr}{ep i sl:Nat}{es:Array (Int×yai)}{t:SetTable}{Q:Option (yai×Nat)→yah→Prop} (hb:w.params.followText "set-order" = false) (hS:nW s.heap a es ep t) (hf:t.fits es.size=true) (h1:es.size≤1) (hl:t.led=true)
  (h:Q (match es[SetTable.below t.place sl]?,t.place[SetTable.below t.place sl]? with | some (_,x),some j=>some (x,j+1) | _,_=>none) s):yar (model prog w) A (setNext a sl i ep) Q E s:=by
 obtain ⟨o,ho,hc,hd⟩:=hS
 unfold setNext
 refine yaa (wpAny_setState_of ho hd hf ?_)
 dsimp only
 refine yaa (fM ?_)
 rw [yIn (by rw [hb];decide)]
 rw [yIn (by
  show ¬ ((!t.plain&&decide (es.size > 1))=true)
  rw [yDf (by lia)];simp)]
 refine yaa ?_
 show yar _ _ (if (!t.led && !es.isEmpty)=true then unsupported "set:maker-not-led" else pure ()) _ _ _
 rw [yIn (by rw [hl];simp)]
 refine yab (yab ?_)
 exact h
theorem D9 (t:Array Nat) (h:t.size≤1):SetTable.below t 0=0:=by
 unfold SetTable.below
 match t,h with
 | ⟨[]⟩,_=>rfl
 | ⟨[j]⟩,_ =>
  show SetTable.below.go #[j] 0 1 0 1=0
  unfold SetTable.below.go
  simp [SetTable.below.go]
 | ⟨_::_::_⟩,h=>simp at h
theorem D8 (j:Nat):SetTable.below #[j] (j+1)=1:=by
 unfold SetTable.below
 show SetTable.below.go #[j] (j+1) 1 0 1=1
 unfold SetTable.below.go
 simp [SetTable.below.go]
def pS (vs:List yai) (S:List Str):Prop:=(∀ v∈vs,∃ x t,v = .str x t)∧(vs.map strOf).Perm S
theorem jq {es:Array (Int×yai)}{l:List (Int×yai)}{S:List Str} (hel:ElemsOf (PySem.strKind prog w) es.toList) (hp:(es.toList.map fun e=>strOf e.2).Perm S) (h:l.Perm es.toList):pS (l.map (·.2)) S:=by
 refine ⟨fun v hv => ?_,?_⟩
 ·obtain ⟨e,he,rfl⟩:=zbO.mp hv
  obtain ⟨⟨k,hk,_⟩,_⟩:=hel e (h.mem_iff.mp he)
  obtain ⟨t,z⟩:=Value.isStrOf_shape hk
  exact ⟨k,t,z⟩
 ·rw [zbP]
  exact (h.map _).trans hp
theorem pull {α:Type} (es:Array α) (ps:List Nat) (h:ps.Perm (zce es.size)):∃ l:List α,l.length=ps.length∧l.Perm es.toList∧∀ i (h:i<ps.length) (h2:i<l.length),es[ps[i]]? = some l[i]:=by
 have all:∀ p∈ps,p<es.size:=fun p hp=>zbw.mp (h.mem_iff.mp hp)
 have key:∀ qs:List Nat,(∀ p∈qs,p<es.size)→∃ l:List α,l.length=qs.length∧l=qs.filterMap (fun i=>es[i]?)∧∀ i (h:i<qs.length) (h2:i<l.length),es[qs[i]]? = some l[i]:=by
  intro qs
  induction qs with
  | nil=>exact fun _=>⟨[],rfl,rfl,fun i h=>by simp at h⟩
  | cons q r ih =>
   intro a1
   obtain ⟨l,e1,e2,e3⟩:=ih fun p hp=>a1 p (zar _ hp)
   have hq:=a1 q zaD
   refine ⟨es[q]::l,by simp [e1],by rw [zax,zag hq,e2],fun i h h2 => ?_⟩
   cases i with
   | zero=>simp [hq]
   | succ i=>exact e3 i (by simpa using h) (by simpa using h2)
 obtain ⟨l,e1,e2,e3⟩:=key ps all
 refine ⟨l,e1,?_,e3⟩
 rw [e2,← filterMap_getElem?_range es]
 exact h.filterMap _
theorem xR {a:Addr}{S:List Str}{Q:yai→yah→Prop} (hS:nR prog w s.heap a S) (hn:S.length<4000)
  (h:∀ (I:Addr) (ord:List yai) (fp:List Addr) (St:Nat→Heap→Prop) (h':Heap) d,(∀ b o,s.heap.get? b=some o→h'.get? b=some o)→s.heap.objs.size≤I→(∀ b∈fp,b=a∨s.heap.objs.size≤b) →
   (∀ {A':yal},A'.handled=none→Walks prog w A' I fp [I] ord.length (fun i v=>ord[i]? = some v) St)→St 0 h'→pS ord S→Q (.ref I) { s with heap:=h',drawn:=d }) :
  yar (model prog w) A (pyIter (.ref a)) Q E s:=by
 obtain ⟨o,ho,es,ep,t,hex,hd,hel,hp,hf,hled,hpl⟩:=hS
 have sa:nW s.heap a es ep t:=⟨o,ho,hex.1,hd⟩
 have la:a<s.heap.objs.size:=zbY ho
 refine wpAny_pyIter_slot sa.typeIs F.dP (wpAny_call_entry F.dP sa.typeIs F.iJ ?_ (F.ki _))
 unfold Builtin.«frozenset.__iter__»
 refine yaa (wpAny_of_eq (a:=a) rfl ?_)
 refine yaa (yaa (wpAny_setEntries_of ho hd hf (yab ?_)))
 refine yaa ?_
 unfold setDrawn
 refine yaa (wpAny_setState_of ho hd hf ?_)
 dsimp only
 refine yaa (fM ?_)
 refine yab ?_
 have hsz:es.size=S.length:=by rw [← hp.length_eq,zbr,zaB]
 cases hb:w.params.followText "set-order" with
 | true =>
  rw [yIn (by simp)]
  refine yaa (yab ?_)
  refine yaa (wpAny_setEpoch_of ho hd hf ?_)
  refine yaa (yae ?_)
  have ho2:=zak (vj (rawInt 0) 0 a es.size ep) ho
  have hit:eG (s.heap.push (vj (rawInt 0) 0 a es.size ep)) s.heap.objs.size (rawInt 0) 0 a es.size ep:=⟨_,zaC _ rfl,rfl,rfl⟩
  refine yab ⟨_,rfl,"set_iterator",_,⟨_,zaC _ rfl,rfl⟩,F.slot_next.lookup,?_⟩
  have hpk:=lN (w.params.setOrder a ep) es
  refine h s.heap.objs.size ((pickOrder (w.params.setOrder a ep) es).toList.map (·.2)) [s.heap.objs.size,a] _ _ s.drawn (fun b o e=>zak _ e) (zca _) (fun b z => ?_)
   (fun {A'} hh=>mw (sl:=fun _=>0) (ep:=ep) (es:=es) (t:=t) hh (zbQ la) hf (by rw [zbr,hpk.length_eq,zaB]) ?_ ?_) ⟨hit,_,ho2,hex.1,hd⟩ (jq hel hp hpk)
  ·simp only [zbB,zbh,or_false] at z
   rcases z with rfl | rfl
   ·exact .inr (zca _)
   ·exact .inl rfl
  ·intro i x hx A' s' Q' E' sa' q
   refine sU hb sa' hf ?_
   rw [zaP,zap] at hx
   cases hy:(pickOrder (w.params.setOrder a ep) es)[i]? with
   | none=>rw [hy] at hx;cases hx
   | some e=>rw [hy] at hx;injection hx with hx;subst hx;exact q
  ·intro A' s' Q' E' sa' q
   refine sU hb sa' hf ?_
   rw [zaj (by rw [zbr,zaB];exact zca _)]
   exact q
 | false =>
  rw [hb] at hled
  by_cases hz:es.size≤1
  ·rw [yIn (by
    show ¬ ((!false&&(!t.plain&&decide (es.size > 1)))=true)
    rw [yDf (by lia)];simp)]
   refine yaa (yab ?_)
   refine yaa (wpAny_setEpoch_of ho hd hf ?_)
   refine yaa (yae ?_)
   have ho2:=zak (vj (rawInt 0) 0 a es.size ep) ho
   have hit:eG (s.heap.push (vj (rawInt 0) 0 a es.size ep)) s.heap.objs.size (rawInt 0) 0 a es.size ep:=⟨_,zaC _ rfl,rfl,rfl⟩
   refine yab ⟨_,rfl,"set_iterator",_,⟨_,zaC _ rfl,rfl⟩,F.slot_next.lookup,?_⟩
   have hps:t.place.size=es.size:=by
    simp only [SetTable.fits,zbm,beq_iff_eq] at hf
    exact hf.1
   refine h s.heap.objs.size (es.toList.map (·.2)) [s.heap.objs.size,a] _ _ s.drawn (fun b o e=>zak _ e) (zca _) (fun b z => ?_)
    (fun {A'} hh=>mw (sl:=fun i=>if i=0 then 0 else t.place.getD 0 0+1) (ep:=ep) (es:=es) (t:=t) hh (zbQ la) hf (by rw [zbr,zaB]) ?_ ?_) ⟨hit,_,ho2,hex.1,hd⟩ (jq hel hp (.refl _))
   ·simp only [zbB,zbh,or_false] at z
    rcases z with rfl | rfl
    ·exact .inr (zca _)
    ·exact .inl rfl
   ·intro i x hx A' s' Q' E' sa' q
    have hi:i<es.size:=by
     have:=(zac.mp hx).1
     simpa using this
    obtain rfl:i=0:=by lia
    refine BZ hb sa' hf hz hled ?_
    have e0:SetTable.below t.place (if 0=0 then 0 else t.place.getD 0 0+1)=0:=D9 _ (by lia)
    rw [zaP,zap,zag hi] at hx
    injection hx with hx
    subst hx
    rw [e0,zag hi,zag (by lia:0<t.place.size)]
    have e1:(if 0+1=0 then 0 else t.place.getD 0 0+1)=t.place[0]+1:=by simp [hps ▸ hi]
    rw [e1] at q
    exact q
   ·intro A' s' Q' E' sa' q
    refine BZ hb sa' hf hz hled ?_
    rw [zbr,zaB]
    have en:es[SetTable.below t.place (if es.size=0 then 0 else t.place.getD 0 0+1)]? = none:=by
     apply zaj
     by_cases h0:es.size=0
     ·rw [h0];exact zcc _
     ·rw [yIn h0]
      have h1:t.place.size=1:=by lia
      obtain ⟨⟨l⟩,hl⟩:∃ x,t.place=x:=⟨_,rfl⟩
      rw [hl] at h1 ⊢
      match l,h1 with
      | [j],_ =>
       show es.size≤SetTable.below #[j] (j+1)
       rw [D8];exact hz
    rw [en]
    exact q
  ·have hpf:t.plain=false:=hpl (by lia)
   rw [yIp (by
    show (!false&&(!t.plain&&decide (es.size > 1)))=true
    rw [yDt (by lia),hpf];rfl)]
   refine yaa (kj _ _ (by simp) fun ps d hps => ?_)
   obtain ⟨l,e1,e2,e3⟩:=pull es ps hps
   refine yaa ?_
   unfold newTuple
   refine yae (s:={ s with drawn:=d }) ?_ (by
    have:ps.length=es.size:=by rw [hps.length_eq,zaU]
    show (ps.map fun (i:Nat)=>rawInt i).toArray.size≤yag
    rw [zaO,zbr,yaf];lia)
   refine yaa (wpAny_setEpoch_of (s:={ s with heap:=s.heap.push _,drawn:=d }) (zak _ ho) hd hf ?_)
   refine yaa (yae ?_)
   generalize hto:({ cls:=.type "tuple",data:=.seq (ps.map fun (i:Nat)=>rawInt i).toArray }:Obj)=to
   have hT1:(s.heap.push to).get? s.heap.objs.size=some to:=zaC _ (by rw [← hto];rfl)
   have z1:(s.heap.push to).objs.size=s.heap.objs.size+1:=zbA ..
   have gI:((s.heap.push to).push (vj (.ref s.heap.objs.size) 0 a es.size ep)).get? (s.heap.push to).objs.size=some (vj (.ref s.heap.objs.size) 0 a es.size ep):=zaC _ rfl
   refine yab ⟨_,rfl,"set_iterator",_,⟨_,gI,rfl⟩,F.slot_next.lookup,?_⟩
   refine h (s.heap.push to).objs.size (l.map (·.2)) [(s.heap.push to).objs.size,a,s.heap.objs.size] _ _ d (fun b o e=>zak _ (zak _ e)) (by rw [z1];exact zcb _) (fun b z => ?_)
    (fun {A'} hh=>vo (T:=s.heap.objs.size) (ep:=ep) (es:=es) (t:=t) (ps:=ps) hh (by rw [z1];exact zbQ (zaW la)) (by rw [z1];exact zbQ (Nat.lt_succ_self _)) hf (by rw [zbr];exact e1) (fun i h1 h2 => ?_)) ⟨⟨_,gI,rfl,rfl⟩,⟨_,zak _ (zak _ ho),hex.1,hd⟩,⟨_,zak _ hT1,by rw [← hto],0,by rw [← hto]⟩⟩ (jq hel hp e2)
   ·rw [z1] at z
    simp only [zbB,zbh,or_false] at z
    rcases z with rfl | rfl | rfl
    ·exact .inr (zcb _)
    ·exact .inl rfl
    ·exact .inr (zca _)
   ·have h3:i<l.length:=by rw [zbr] at h2;exact h2
    refine ⟨l[i].1,?_⟩
    rw [e3 i h1 h3,zbi]
theorem xY {a:Addr}{Q:Bool→yah→Prop} (hT:s.TypeIs (.ref a) "set") (h:Q false s):yar (model prog w) A (Builtin.List.listLengthHint (.ref a)) Q E s:=by
 unfold Builtin.List.listLengthHint
 refine yaa (wpAny_specialOf hT PySem.F.slot_set_len.lookup ?_)
 dsimp only
 rw [show splitId "set.__len__" = some ("set","__len__") by decide +kernel]
 dsimp only
 refine yaa (wpAny_isInstance (b:=true) hT sub_set_self ?_)
 rw [yIn (by decide)]
 rw [yIp (by decide +kernel)]
 refine yaa (wpAny_typeOf hT ?_)
 exact yab h
theorem qV {a L:Addr}{S:List Str}{R:Result→yah→Prop} (hh:A.handled=none) (hS:nR prog w s.heap a S) (hn:S.length<4000) (hL:s.heap.get? L=some { cls:=.type "list",data:=.seq #[] }) (hLa:L≠a)
  (hR:∀ s' (ord:List yai) c',(∀ b o,b≠L→s.heap.get? b=some o→s'.heap.get? b=some o)→s'.gens=s.gens→s'.os=s.os→s'.heap.get? L=some { cls:=.type "list",dict:=none,data:=.seq ord.toArray c',slots := #[] }→pS ord S→R (.ok (.ret (.ref L))) s') :
  yar (model prog w) A.in1 (Builtin.List.listExtendWith (.ref L) (.ref a) (.ref L))
   (fun fin s'=>match fin with | .done f=>R (.ok f) s' | .again c'=>c'.quiet=true∧codeAny (model prog w) A c' R s') (fun e s'=>R (.error e) s') s:=by
 have tS:s.TypeIs (.ref a) "set" := let ⟨o,ho,es,ep,t,hex,_⟩:=hS;⟨o,ho,hex.1⟩
 unfold Builtin.List.listExtendWith
 refine yaa (wpAny_typeOf tS ?_)
 have h1:Builtin.List.listSameRef (.ref L) (.ref a)=false:=by simp [Builtin.List.listSameRef,hLa]
 have h2:(Value.type "set" == Value.type "list")=false:=by decide
 have h3:(Value.type "set" == Value.type "tuple")=false:=by decide
 simp only [h1,h2,h3,zbH,zaK,if_false]
 refine yaa (xR hS hn fun I ord fp St h' d kp hI hfp W st0 tx => ?_)
 have ll:L<s.heap.objs.size:=zbY hL
 have hLf:L ∉ fp:=fun z=>(hfp L z).elim hLa fun z=>absurd ll (Nat.not_lt.mpr z)
 have tS':Shared.TypeIs { s with heap:=h',drawn:=d } (.ref a) "set" := let ⟨o,ho,hc⟩:=tS;⟨o,kp _ _ ho,hc⟩
 refine yaa (yad (xY tS' ?_))
 rw [yIp (by rfl)]
 refine yaa (wpAny_rule ?_)
 refine yaa ?_
 show yar _ A.in1 (updateSeq L (·.push .none) >>= fun _=>updateSeq L (·.pop)) _ _ _
 refine yaa (wpAny_updateSeq (s:={ s with heap:=h',drawn:=d }) (kp _ _ hL) rfl ?_)
 have g2:=zaq (Obj.mapSeq (·.push Value.none)) (kp _ _ hL) rfl
 refine wpAny_updateSeq (hz:=by seq_fits) g2 rfl ?_
 have g3:=zaq (Obj.mapSeq (·.pop)) g2 rfl
 have oth:∀ b o,b≠L→h'.get? b=some o→((h'.update L (Obj.mapSeq (·.push Value.none))).update L (Obj.mapSeq (·.pop))).get? b=some o :=
  fun b o hb e=>(zal _ _ (Ne.symm hb)).trans ((zal _ _ (Ne.symm hb)).trans e)
 have hlen:ord.length=S.length:=by rw [← tx.2.length_eq,zbr]
 have WS:=(W (A':=A.in1) hh).toS
 refine yab ⟨plainId_quiet PySem.F.plain_extend_loop _,codeAny_extend_loopS WS (by rw [yaf];lia) _ hLf _ ord.length 0 _ _ _ rfl (zcc _)
   (WS.frame 0 { s with heap:=h',drawn:=d } _ s.toks st0 (zca _) fun b hb o e=>oth b o (fun z=>hLf (z ▸ hb)) e) g3 (ItemsOf.nil _) fun s' acc' c' hm hS' hacc => ?_⟩
 have ea:acc'=ord.toArray:=by
  refine Array.ext (by rw [hacc.1,zaO]) fun i h1 h2 => ?_
  have z:ord[i]? = some acc'[i]:=hacc.2 i acc'[i] (zag h1)
  have h2:i<ord.length:=by simpa using h2
  rw [zah h2] at z
  simpa using (zcd.inj z).symm
 rw [ea] at hS'
 refine hR s' ord c' (fun b o hb e => ?_) hm.gens hm.os hS' tx
 refine hm.heap b o ?_ (oth b o hb (kp b o e))
 simp only [zbB,zbh,or_false]
 rintro (z | z)
 ·exact hb z
 ·have:=zbY e
  rw [z] at this
  exact absurd this (Nat.not_lt.mpr hI)
theorem nE {a:Addr}{S:List Str}{R:Result→yah→Prop} (hh:A.handled=none) (hS:nR prog w s.heap a S) (hn:S.length<4000)
  (hR:∀ s' (ord:List yai) c',(∀ b o,s.heap.get? b=some o→s'.heap.get? b=some o)→s'.gens=s.gens→s'.os=s.os→s'.heap.get? s.heap.objs.size=some { cls:=.type "list",dict:=none,data:=.seq ord.toArray c',slots := #[] }→pS ord S→R (.ok (.ret (.ref s.heap.objs.size))) s') :
  codeAny (model prog w) A (.builtin "proto.collect" ⟨[.ref a],[]⟩) R s:=by
 have la:a<s.heap.objs.size:=let ⟨o,ho,_⟩:=hS;zbY ho
 refine codeAny_builtin entry_proto_collect' ?_
 show yar _ _ (do again (.builtin "list.__iadd__" ⟨[← newList [],.ref a],[]⟩)) _ _ s
 refine yaa (wpAny_newList (yab ⟨Code.quiet_builtin _ (by decide +kernel),codeAny_builtin entry_list_iadd' ?_⟩))
 rw [Around.under_plainId (show plainId "list.__iadd__" = true by decide +kernel) _]
 show yar _ _ (Builtin.List.listExtendWith (.ref s.heap.objs.size) (.ref a) (.ref s.heap.objs.size)) _ _ { s with heap:=s.heap.push (seqObj "list" #[] 0) }
 refine qV (s:={ s with heap:=s.heap.push (seqObj "list" #[] 0) }) (S:=S) ?_ (hS.keep fun o e=>zak _ e) hn (zaC _ rfl) (zbT la) fun s' ord c' kp e1 e2 g tx => ?_
 ·exact hh
 ·exact hR s' ord c' (fun b o e=>kp b o (zbQ (zbY e)) (zak _ e)) e1 e2 g tx
theorem pF {a:Addr}{S:List Str}{Q:List yai→yah→Prop} (hh:A.handled=none) (hS:nR prog w s.heap a S) (hn:S.length<4000)
  (h:∀ s' (ord:List yai),(∀ b o,s.heap.get? b=some o→s'.heap.get? b=some o)→s'.gens=s.gens→s'.os=s.os→s.heap.objs.size≤s'.heap.objs.size→pS ord S→Q ord s'):yar (model prog w) A (collect (.ref a)) Q E s:=by
 unfold collect
 refine yaa (wpAny_runValue (nE hh hS hn fun s' ord c' kp e1 e2 g tx => ?_))
 dsimp only
 refine yaa (wpAny_load g ?_)
 exact yab (h s' ord kp e1 e2 (zbS (zbY g)) tx)
theorem qk {a:Addr}{S:List Str}{Q:yai→yah→Prop} (hh:A.handled=none) (hS:nR prog w s.heap a S) (hn:S.length<64)
  (h:∀ (p:Addr) s' (out:List yai) (ss:List Str) c,(∀ b o,s.heap.get? b=some o→s'.heap.get? b=some o)→s'.gens=s.gens→s'.os=s.os→s.heap.objs.size≤p→s'.heap.get? p=some (seqObj "list" out.toArray c)→StrsAre out ss→ss.Perm S→sortedS ss=true→Q (.ref p) s') :
  yar (model prog w) A (call (.builtin "sorted") [.ref a]) Q E s:=by
 refine Calls.call_function_entry kind_sorted plain_sorted entry_sorted (args_sorted1 _) ?_
 unfold Builtin.«sorted»
 refine yaa (m:=checkCount "sorted" 1 1 _) (yab ?_)
 refine yaa (pF (S:=S) ?_ hS (by lia) fun s1 ord kp e1 e2 le tx => ?_)
 ·exact hh
 refine yaa (wpAny_newList ?_ (by have:=tx.2.length_eq;rw [zbr] at this;first | (rw [yaf];lia) | (rw [zaO,yaf];lia)))
 have hl:ord.length=S.length:=by rw [← tx.2.length_eq,zbr]
 have hSA:StrsAre ord (ord.map strOf):=strsAre_map ord tx.1
 have gL:(s1.heap.push (seqObj "list" ord.toArray 0)).get? s1.heap.objs.size=some (seqObj "list" ord.toArray 0):=zaC _ rfl
 refine yaa (yad (wpAny_call_entry slot_list_sort ⟨_,gL,rfl⟩ entry_list_sort (list_sort_treeK (κ:=PyProof.Rows.strKind) strKind_oneLt gL hSA.keysOf (fun v₁ v₂ rest e=>keyKind_strs (by rw [← e];exact hSA)) (by lia) fun st' a1 a2=>⟨_,rfl,?_⟩) (args_list_sort _)))
 obtain ⟨ss',b1,b2,b3⟩:=sorted_out_str hSA a1 a2
 obtain ⟨c,hc⟩:=sortedHeap_at (out:=(arrOf st').map (·.2)) gL
 refine yab ⟨_,rfl,h s1.heap.objs.size _ ((arrOf st').map (·.2)).toList ss' c (fun b o e => ?_) e1 e2 le ?_ b1 (b2.trans tx.2) b3⟩
 ·have lb:=zbY (kp b o e)
  show (sortedHeap _ _ _ _).get? b=some o
  rw [sortedHeap_old (zbQ lb) (by rw [size_push'];exact zaW lb)]
  exact zak _ (kp b o e)
 ·rw [Array.toArray_toList];exact hc
end
end M5
namespace L2
open PySem PySem.Spec PyProof.Rows
theorem Inv.ID {X:Cx}{pins:List (Addr×Obj)}{σ:List (Option V)}{H:Hp}{s:yah} (I:Inv X pins σ H s) (d:Drawn):Inv X pins σ H { s with drawn:=d } :=
 ⟨I.ok,I.os,I.bare,I.base,I.loc,I.cell,I.free,I.d9,I.pin,I.hok,I.len⟩
def n8 (K:yaE) (ta:TE):TE:=fun σ H Q=>ta σ H fun x H1=>∃ (p:Addr) (ss:List Str),x = .ref p∧(ck K H1 p (ss.map V.str)∨cj K H1 p (ss.map V.str))∧ss.length<64 ∧
 ∀ (l:Addr) (ss':List Str),H1 l=none→ss'.Nodup→(∀ y,y∈ss'↔y∈ss)→sortedS ss'=true→Q (.ref l) (upd H1 l (.lst (ss'.map V.str)))
section
variable {X:Cx}{e:Expr}{ta:TE}{p p2 pos pos2:Pos}
theorem dW (hc:X.calm=true) (hg:Gl X "sorted") (hm:X.mg "sorted" = none) (hg2:Gl X "set") (hm2:X.mg "set" = none) (he:PE X e ta) (hs:notStar e=true:=by rfl) :
  PE X (.Call (.Name "sorted" p) [.Call (.Name "set" p2) [e] [] pos2] [] pos) (n8 X.K ta):=by
 intro pins s σ H Q I h
 have hk:=I.ok.hd hc
 refine wpAny_Call_Name_kw (cV I hg hm (u:=.builtin "sorted") (by decide +kernel) ?_ (by decide +kernel) (by decide +kernel))
 refine PyProof.Rows.callWith_builtin1 (E:=X.xe) ?_ (aM [] X.env rfl) rfl
 rw [aM [] X.env rfl]
 refine zaN ?_
 refine wpAny_Call_Name_kw (cV I hg2 hm2 (u:=.type "set") (by decide +kernel) ?_ (by decide +kernel) (by decide +kernel))
 refine PyProof.Rows.callWith_type1 (E:=X.xe) ?_ (aM [] X.env hs) rfl
 rw [aM [] X.env hs]
 refine zaN (b5 (he pins s σ H _ I h) fun u s1 ⟨x,H1,I1,rx,a,ss,ex,hq,hl,q⟩ => ?_)
 subst ex
 obtain rfl:u=Value.ref a:=rx
 refine zba ?_
 have fin:∀ (h':Heap) (tk:Nat),M5.nR X.prog X.w h' s1.heap.objs.size (M5.all1 (fun i=>ss.getD i ⟨#[]⟩) ss.length)→(∀ b o,b<s1.heap.objs.size→s1.heap.get? b=some o→h'.get? b=some o) →
   yar (model X.prog X.w) X.A (call (.builtin "sorted") [.ref s1.heap.objs.size]) (EP X pins σ Q) X.xe { s1 with heap:=h',toks:=tk }:=by
  intro h' tk tS kp
  have hlen:=M5.kr (fun i=>ss.getD i ⟨#[]⟩) ss.length
  refine M5.qk (s:={ s1 with heap:=h',toks:=tk }) hk tS (by lia) fun l s2 out ss' c kp2 e1 e2 le g hS hp hs => ?_
  obtain ⟨h2,g2,d2,t2,o2⟩:=s2
  obtain rfl:g2=s1.gens:=e1
  obtain rfl:o2=s1.os:=e2
  have kpA:∀ b o,s1.heap.get? b=some o→h2.get? b=some o:=fun b o z=>kp2 b o (kp b o (zbY z) z)
  have le1:s1.heap.objs.size≤l:=by
   obtain ⟨o,ho,_⟩:=tS
   exact zbR (zbS (zbY ho)) le
  have hlen2:ss'.length<64:=by rw [hp.length_eq];lia
  refine ⟨.ref l,_,(I1.laid (a:=l) (t':=t2) (o:=.lst (ss'.map V.str)) kpA le1 ⟨by rw [zbr,yaf];lia,out,c,M.iy hS,g⟩).ID d2,rfl,q l ss' (I1.hok.fresh le1) (hp.nodup_iff.mpr (M5.jT _ _)) (fun y=>(hp.mem_iff).trans (M5.uH ss y)) hs⟩
 rcases hq with hq | hq
 ·obtain ⟨its,r',pl,hz⟩:=I1.tuple hq
  refine M5.set_tuple (its:=its.toArray) (ss:=ss) hk pl (by simpa using i0 r') (by lia) fun h' tk tS kp => ?_
  exact zba (fin h' tk tS kp)
 ·obtain ⟨its,r',pl,hz⟩:=I1.list hq
  refine M5.set_list (its:=its.toArray) (ss:=ss) hk pl.isList (by simpa using i0 r') (by lia) fun h' tk tS kp => ?_
  exact zba (fin h' tk tS kp)
end
end L2
namespace M
open PySem PySem.Spec PyProof.Rows L2
section
variable {K:yaE}
def kD (a:AE):AE:=fun δ S Q=>a δ S fun r S1=>∃ ss:List Str,(aU S1 r.d = .tup (ss.map D.str)∨aU S1 r.d = .lst (ss.map D.str))∧ss.length<64 ∧
 ∀ ss':List Str,ss'.Nodup→(∀ y,y∈ss'↔y∈ss)→sortedS ss'=true→Q (.new (.lst (ss'.map D.str))) S1
theorem uu {a:AE}:∀ σ H Q,bu K (kD a) σ H Q→n8 K (bu K a) σ H Q:=by
 rintro σ H Q ⟨w,δ,S,Qa,ok,env,q,bk⟩
 refine ⟨w,δ,S,_,ok,env,q,.go fun r1 S1 v1 w1 H1 le1 ok1 rep1 ⟨ss,z,hl,q1⟩ => ?_⟩
 rcases z with z | z
 ·obtain ⟨a,xs,rfl,h1,h2⟩:=b6 ok1 rep1 z
  rw [dR h2] at h1
  exact ⟨a,ss,rfl,.inl (ck.of h1),hl,fun l ss' hp n1 n2 n3=>bk (.new (.lst _)) S1 _ w1 _ le1 (ok1.alloc hp) (ok1.fresh hp ⟨_,rfl,cL ss'⟩) (q1 ss' n1 n2 n3)⟩
 ·obtain ⟨a,xs,rfl,h1,h2⟩:=bq ok1 rep1 z
  rw [dR h2] at h1
  exact ⟨a,ss,rfl,.inr (cj.of h1),hl,fun l ss' hp n1 n2 n3=>bk (.new (.lst _)) S1 _ w1 _ le1 (ok1.alloc hp) (ok1.fresh hp ⟨_,rfl,cL ss'⟩) (q1 ss' n1 n2 n3)⟩
end
section
variable {X:Cx}{e o i value:Expr}{p p2 pos pos2 pos' pc pu:Pos}
theorem dW {ta:AE} (hc:X.calm=true) (hg:Gl X "sorted") (hm:X.mg "sorted" = none) (hg2:Gl X "set") (hm2:X.mg "set" = none) (he:GE X e ta) (hs:notStar e=true:=by rfl) :
  GE X (.Call (.Name "sorted" p) [.Call (.Name "set" p2) [e] [] pos2] [] pos) (kD ta):=⟨mE (L2.dW hc hg hm hg2 hm2 he.p hs) uu⟩
end
section
variable {K:yaE}
noncomputable def Er (K:yaE):List Str→List AE→List (TE×TE)
 | k::ks,a::as=>(tC (.str k),bu K a)::Er K ks as
 | _,_=>[]
theorem HX {w:Wd}{H:Hp}{S:aJ}{m:Nat}{ds:List D} (k:Ok K w H S) (e:S[m]? = some (some (.lst ds))):∃ w',w.le w'∧Ok K w' H (S.set m none)∧∀ v,Rep K w (.loc m) v→Rep K w' (.lst ds) v:=by
 obtain ⟨a,u,h1,h2,h3,xs,rfl,h4⟩:=k.live m _ e
 have le:w.le ⟨upd w.B a (.lst xs),w.r⟩:=⟨al h2,fun _ _ e=>e⟩
 have at_:∀ n o,(S.set m none)[n]? = some (some o)→n≠m∧S[n]? = some (some o):=fun n o z=>by
  by_cases hm:m=n
  ·subst hm
   rw [zaS] at z
   simp at z
  ·rw [zat hm] at z
   exact ⟨fun y=>hm y.symm,z⟩
 refine ⟨⟨upd w.B a (.lst xs),w.r⟩,le,⟨fun b o z => ?_,fun n o z => ?_,fun n j o o' z1 z2 z => ?_,fun n hn=>k.top n (by rw [List.length_set] at hn;exact hn)⟩,fun v hv => ?_⟩
 ·by_cases hb:b=a
  ·subst hb
   have z:upd w.B b (.lst xs) b=some o:=z
   rw [bH] at z
   rw [h3];exact z
  ·have z:upd w.B a (.lst xs) b=some o:=z
   rw [aH hb] at z
   exact k.base b o z
 ·obtain ⟨hn,z⟩:=at_ n o z
  obtain ⟨a',u',g1,g2,g3,g4⟩:=k.live n o z
  have hne:a'≠a:=fun y=>hn (k.inj n m _ _ z e (by rw [g1,h1,y]))
  exact ⟨a',u',g1,by show upd w.B a _ a'=none;rw [aH hne];exact g2,g3,g4.le le⟩
 ·exact k.inj n j o o' (at_ n o z1).2 (at_ j o' z2).2 z
 ·simp only [Rep] at hv ⊢
  obtain ⟨a',g1,rfl⟩:=hv
  rw [h1] at g1;cases g1
  exact ⟨a,xs,rfl,bH,h4.le le⟩
noncomputable def sb (m:Nat) (e:D):D→D
 | .loc n=>if n=m then e else .loc n
 | d=>d
theorem vX {w w':Wd}{m:Nat}{ds:List D} (le:w.le w') (f:∀ v,Rep K w (.loc m) v→Rep K w' (.lst ds) v):∀ {es:List D}{xs:List V},aj K w es xs→aj K w' (es.map (sb m (.lst ds))) xs
 | [],xs,h=>by simp only [aj] at h;subst h;exact .nil
 | d::es,xs,h=>by
  simp only [aj] at h
  obtain ⟨x,r,rfl,h1,h2⟩:=h
  refine .cons ?_ (vX le f h2)
  cases d with
  | loc n =>
   show Rep K w' (if n=m then _ else _) x
   by_cases hn:n=m
   ·rw [yIp hn];subst hn;exact f x h1
   ·rw [yIn hn];exact h1.le le
  | _=>exact h1.le le
def Ei (a:AE):AE:=fun δ S Q=>a δ S fun r S1=>∃ m ds es,r = .dat (.tup es)∧S1[m]? = some (some (.lst ds))∧Q (.dat (.tup (es.map (sb m (.lst ds))))) (S1.set m none)
theorem Fb {a:AE}:∀ σ H Q,bu K (Ei a) σ H Q→bu K a σ H Q:=by
 rintro σ H Q ⟨w,δ,S,Qa,ok,env,q,bk⟩
 refine ⟨w,δ,S,_,ok,env,q,fun r S1 v w1 H1 le1 ok1 rep1 ⟨m,ds,es,er,hS,q1⟩ => ?_⟩
 subst er
 have rep1:Rep K w1 (.tup es) v:=rep1
 simp only [Rep] at rep1
 obtain ⟨t,xs,rfl,hB,hr⟩:=rep1
 obtain ⟨w2,le2,ok2,f⟩:=HX ok1 hS
 refine bk.dat (le1.trans le2) ok2 ?_ q1
 simp only [Rep]
 exact ⟨t,xs,rfl,le2.b _ _ hB,vX le2 f hr⟩
end
section
variable {X:Cx}{e:Expr}{pos:Pos}
theorem fre {t:AE} (h:GE X e t):GE X e (Ei t):=⟨mE h.p Fb⟩
end
end M
namespace M6
open PySem PySem.Spec PyProof.Rows
mutual
noncomputable def bh:yam→Bool
 | .int _=>true
 | .str x=>(PyData.str x).canLay0
 | .tuple xs=>bX xs
 | _=>false
noncomputable def bX:List yam→Bool
 | []=>true
 | x::xs=>bh x&&bX xs
end
mutual
noncomputable def aV (w:yak):yam→Int
 | .int i=>hashInt i
 | .str x=>hashStr w x
 | .tuple xs=>reduceHash (Builtin.Tuple.tupleHashOf (eX w xs))
 | _=>0
noncomputable def eX (w:yak):List yam→List Int
 | []=>[]
 | x::xs=>aV w x::eX w xs
end
mutual
noncomputable def GZ:yam→Nat
 | .int _=>1
 | .str _=>1
 | .tuple xs=>j9 xs+1
 | _=>0
noncomputable def j9:List yam→Nat
 | []=>0
 | x::xs=>GZ x+j9 xs
end
theorem f9 (w:yak):∀ a b,eX w (a++b)=eX w a++eX w b
 | [],b=>rfl
 | x::a,b=>by simp only [zbj,eX,f9 w a b]
theorem iK:∀ a b,j9 (a++b)=j9 a+j9 b
 | [],b=>by simp [j9]
 | x::a,b=>by simp only [zbj,j9,iK a b];lia
theorem cT:∀ {xs:List yam},bX xs=true→∀ x∈xs,bh x=true
 | [],_,x,hx=>by simp at hx
 | y::xs,h,x,hx=>by
  simp only [bX,zbm] at h
  rcases zbB.mp hx with rfl | hx
  ·exact h.1
  ·exact cT h.2 x hx
theorem bS:∀ {xs:List yam}{x:yam},x∈xs→x.depth≤PyData.depthAll xs
 | y::xs,x,hx=>by
  simp only [PyData.depthAll]
  rcases zbB.mp hx with rfl | hx
  ·lia
  ·have:=bS hx;lia
theorem aX (xs:List yam):(PyData.tuple xs).depth=PyData.depthAll xs+1:=by
 simp only [PyData.depth]
section
variable {prog:yaj}{w:yak}
theorem cO {s:yah}{a:Addr}{o:Obj} (ho:s.heap.get? a=some o) (hc:o.cls=Value.type "tuple"):s.TypeIs (.ref a) "tuple" := ⟨o,ho,hc⟩
theorem oK:∀ (n:Nat) (d:yam) {v:yai}{as:List Addr}{A:yal}{E:yai→yah→Prop}{s:yah}{Q:Int→yah→Prop},d.depth≤n→bh d=true→Reads s.heap v d as→A.units+n<cLine →
  Q (aV w d) { s with toks:=s.toks+GZ d }→yar (model prog w) A (pyHash v) Q E s:=by
 intro n
 induction n with
 | zero =>
  intro d v as A E s Q hd hk hr hu h
  cases hr with
  | int i t=>exact wpAny_pyHash_int h
  | str x t=>exact wpAny_pyHash_str h
  | tuple ho hc hd' hall=>rw [aX] at hd;lia
  | none=>simp [bh] at hk
  | bool b=>simp [bh] at hk
  | list _ _ _ _=>simp [bh] at hk
  | dict _ _ _ _ _=>simp [bh] at hk
 | succ n ih =>
  intro d v as A E s Q hd hk hr hu h
  cases hr with
  | int i t=>exact wpAny_pyHash_int h
  | str x t=>exact wpAny_pyHash_str h
  | none=>simp [bh] at hk
  | bool b=>simp [bh] at hk
  | list _ _ _ _=>simp [bh] at hk
  | dict _ _ _ _ _=>simp [bh] at hk
  | @tuple a o vs m xs as ho hc hdat hall =>
   have hT:=cO ho hc
   have hk:bX xs=true:=hk
   rw [aX] at hd
   show yar (model prog w) A (pyHashByItsType (.ref a)) Q E s
   refine W.pyHash_slot (T := "tuple") hT F.slot_tuple_hash F.entry_tuple_hash (F.args_tuple_hash_1 (.ref a)) (by decide) (.inr (by lia)) ?_
   show yar (model prog w) A.in1 (do
    let __do_lift ← Builtin.Tuple.tupleItemsOf (.ref a)
    let __s ← forIn __do_lift (#[]:Array Int) fun x __s=>do
       let __do_lift ← pyHash x
       pure (ForInStep.yield (__s.push __do_lift))
    retInt (Builtin.Tuple.tupleHashOf __s.toList)) _ E s
   refine yaa (wpAny_tupleItemsOf ho hdat (yaa ?_))
   rw [← zaL]
   refine wpAny_forIn_list _ (fun rest b s'=>∃ don left as',xs=don++left∧ReadsAll s.heap rest left as'∧b.toList=eX w don∧s'={ s with toks:=s.toks+j9 don }) _ ?_ ?_ vs.toList #[] ⟨[],xs,_,rfl,hall,rfl,rfl⟩
   ·rintro x rest b s' ⟨don,left,as',rfl,hl,hb,rfl⟩
    cases hl with
    | @cons _ _ d' ds as1 bs hx hrest =>
     have hm:d'∈don++d'::ds:=by simp
     refine yaa (ih d' (as:=as1) (s:={ s with toks:=s.toks+j9 don }) (by have:=bS hm;lia) (cT hk d' hm) hx (by show A.units+1+n<cLine;lia) ?_)
     refine yab ⟨don++[d'],ds,bs,by simp,hrest,?_,?_⟩
     ·rw [zaZ,hb,f9];rfl
     ·rw [iK];simp only [j9,Nat.add_zero,zbG]
   ·rintro b s' ⟨don,left,as',rfl,hl,hb,rfl⟩
    cases hl
    rw [zbo] at h
    rw [hb]
    refine yac (wpAny_ret_mkInt (Q:=fun v s'=>∃ n t,v=Value.int n t∧Q (reduceHash n) s') ⟨_,_,rfl,?_⟩) (fun fin s' => ?_) (fun _ _ z=>z)
    ·have h:Q (reduceHash (Builtin.Tuple.tupleHashOf (eX w don))) { s with toks:=s.toks+(j9 don+1) }:=h
     exact h
    ·rintro ⟨v,rfl,n,t,rfl,q⟩
     exact ⟨n,t,rfl,q⟩
theorem gg:∀ (n:Nat) (d:yam) {v:yai}{as:List Addr}{A:yal}{E:yai→yah→Prop}{s:yah}{Q:Bool→yah→Prop},d.depth≤n→bh d=true→Reads s.heap v d as→Q true s→yar (model prog w) A (eqIsQuiet n v) Q E s:=by
 intro n
 induction n with
 | zero =>
  intro d v as A E s Q hd hk hr h
  cases hr with
  | int i t=>rw [eqIsQuiet_byValue 0 rfl];exact yab h
  | str x t=>rw [eqIsQuiet_byValue 0 rfl];exact yab h
  | tuple ho hc hd' hall=>rw [aX] at hd;lia
  | none=>simp [bh] at hk
  | bool b=>simp [bh] at hk
  | list _ _ _ _=>simp [bh] at hk
  | dict _ _ _ _ _=>simp [bh] at hk
 | succ n ih =>
  intro d v as A E s Q hd hk hr h
  cases hr with
  | int i t=>rw [eqIsQuiet_byValue _ rfl];exact yab h
  | str x t=>rw [eqIsQuiet_byValue _ rfl];exact yab h
  | none=>simp [bh] at hk
  | bool b=>simp [bh] at hk
  | list _ _ _ _=>simp [bh] at hk
  | dict _ _ _ _ _=>simp [bh] at hk
  | @tuple a o vs m xs as ho hc hdat hall =>
   have hT:=cO ho hc
   have hk:bX xs=true:=hk
   rw [aX] at hd
   rw [eqIsQuiet.eq_def]
   refine yaa (wpAny_specialOf hT F.slot_tuple_eq.lookup ?_)
   refine yaa (wpAny_isInstance hT isSubtype_tuple_tuple ?_)
   rw [yIn (by decide)]
   refine yaa (wpAny_seqItems ho hdat (yaa ?_))
   show yar (model prog w) A (forIn vs _ _) _ E s
   rw [← zaL]
   refine wpAny_forIn_list _ (fun rest r s'=>r.1=none∧s'=s∧∃ left as',ReadsAll s.heap rest left as'∧∀ x∈left,x∈xs) _ ?_ ?_ vs.toList (none,()) ⟨rfl,rfl,xs,_,hall,fun _ hx=>hx⟩
   ·rintro y rest ⟨r1,r2⟩ s' ⟨hr,rfl,left,as',hl,hsub⟩
    cases hl with
    | @cons _ _ d' ds as1 bs hx hrest =>
     have hm:d'∈xs:=hsub d' (by simp)
     refine yaa (ih d' (as:=as1) (by have:=bS hm;lia) (cT hk d' hm) hx ?_)
     exact yab ⟨rfl,rfl,ds,bs,hrest,fun x hx=>hsub x (zar _ hx)⟩
   ·rintro ⟨r1,r2⟩ s' ⟨hr,rfl,_⟩
    have hr:r1=none:=hr
    subst hr
    exact yab h
end
noncomputable instance:DecidableEq yam:=fun _ _=>Classical.propDecidable _
mutual
theorem ji:∀ x y:yam,bh x=true→bh y=true→PyData.eqv x y=decide (x=y)
 | .int i,.int j,_,_=>by
  simp only [PyData.eqv]
  by_cases h:i=j
  ·subst h;simp
  ·have : ¬ PyData.int i = .int j:=fun e=>h (by injection e)
   rw [yDf this];simpa using h
 | .str i,.str j,_,_=>by
  simp only [PyData.eqv]
  by_cases h:i=j
  ·subst h;simp
  ·have : ¬ PyData.str i = .str j:=fun e=>h (by injection e)
   rw [yDf this];simpa using h
 | .tuple xs,.tuple ys,hx,hy=>by
  simp only [PyData.eqv]
  rw [pg xs ys hx hy]
  by_cases h:xs=ys
  ·subst h;simp
  ·have : ¬ PyData.tuple xs = .tuple ys:=fun e=>h (by injection e)
   rw [yDf this,yDf h]
 | .int i,.str j,_,_=>by rw [yDf (fun e=>nomatch e)];rfl
 | .int i,.tuple j,_,_=>by rw [yDf (fun e=>nomatch e)];rfl
 | .str i,.int j,_,_=>by rw [yDf (fun e=>nomatch e)];rfl
 | .str i,.tuple j,_,_=>by rw [yDf (fun e=>nomatch e)];rfl
 | .tuple i,.int j,_,_=>by rw [yDf (fun e=>nomatch e)];rfl
 | .tuple i,.str j,_,_=>by rw [yDf (fun e=>nomatch e)];rfl
 | .none,_,h,_=>by simp [bh] at h
 | .bool _,_,h,_=>by simp [bh] at h
 | .list _,_,h,_=>by simp [bh] at h
 | .dict _,_,h,_=>by simp [bh] at h
 | _,.none,_,h=>by simp [bh] at h
 | _,.bool _,_,h=>by simp [bh] at h
 | _,.list _,_,h=>by simp [bh] at h
 | _,.dict _,_,h=>by simp [bh] at h
theorem pg:∀ x y:List yam,bX x=true→bX y=true→PyData.eqvAll x y=decide (x=y)
 | [],[],_,_=>by simp [PyData.eqvAll]
 | [],y::ys,_,_=>by simp [PyData.eqvAll]
 | x::xs,[],_,_=>by simp [PyData.eqvAll]
 | x::xs,y::ys,hx,hy=>by
  simp only [bX,zbm] at hx hy
  simp only [PyData.eqvAll]
  rw [ji x y hx.1 hy.1,pg xs ys hx.2 hy.2]
  by_cases h:x=y <;> by_cases g:xs=ys <;> simp [h,g]
end
mutual
theorem dZ:∀ x:yam,bh x=true→x.canLay0=true
 | .int i,_=>rfl
 | .str i,h=>h
 | .tuple xs,h=>by simp only [PyData.canLay0];exact sZ xs h
 | .none,h=>by simp [bh] at h
 | .bool _,h=>by simp [bh] at h
 | .list _,h=>by simp [bh] at h
 | .dict _,h=>by simp [bh] at h
theorem sZ:∀ x:List yam,bX x=true→PyData.canLayAll0 x=true
 | [],_=>rfl
 | x::xs,h=>by
  simp only [bX,zbm] at h
  simp only [PyData.canLayAll0,dZ x h.1,sZ xs h.2,zbJ]
end
def isKey (h:Heap) (d:yam) (a:Addr):Prop:=bh d=true∧d.depth≤6∧∃ as,Reads h (.ref a) d as
mutual
theorem lK {h h':Heap}{b:Addr}{ob:Obj}{es:Array yav}{ep:Nat} (hb:h.get? b=some ob) (hd:ob.data=Data.dict es ep) (sm:Heap.SameBut b h h'):∀ (d:yam) {v:yai}{as:List Addr},bh d=true→Reads h v d as→Reads h' v d as
 | .int i,v,as,hk,hr=>by cases hr;exact .int ..
 | .str i,v,as,hk,hr=>by cases hr;exact .str ..
 | .tuple xs,v,as,hk,hr=>by
  cases hr with
  | @tuple a o vs m _ _ ho hc hdat hall =>
   have hne:a≠b:=fun e=>by
    subst e
    rw [hb] at ho;cases ho
    rw [hd] at hdat;cases hdat
   exact .tuple (by rw [sm.2 a hne];exact ho) hc hdat (jC hb hd sm xs hk hall)
 | .none,_,_,h,_=>by simp [bh] at h
 | .bool _,_,_,h,_=>by simp [bh] at h
 | .list _,_,_,h,_=>by simp [bh] at h
 | .dict _,_,_,h,_=>by simp [bh] at h
theorem jC {h h':Heap}{b:Addr}{ob:Obj}{es:Array yav}{ep:Nat} (hb:h.get? b=some ob) (hd:ob.data=Data.dict es ep) (sm:Heap.SameBut b h h'):∀ (ds:List yam) {vs:List yai}{as:List Addr},bX ds=true→ReadsAll h vs ds as→ReadsAll h' vs ds as
 | [],vs,as,hk,hr=>by cases hr;exact .nil
 | d::ds,vs,as,hk,hr=>by
  simp only [bX,zbm] at hk
  cases hr with
  | cons hx hr=>exact .cons (lK hb hd sm d hk.1 hx) (jC hb hd sm ds hk.2 hr)
end
noncomputable def cE (prog:yaj) (w:yak):HeapKind prog w yam where
 is:=isKey
 hash:=aV w
 draws:=GZ
 room:=fun A=>A.units+10<cLine
 inj:=fun ⟨_,_,as,hx⟩ ⟨_,_,bs,hy⟩=>(Reads.unique hx _ _ hy).1
 keeps:=fun ⟨h1,h2,as,hr⟩ hb hd sm=>⟨h1,h2,as,lK hb hd sm _ h1 hr⟩
 pyHash:=fun hu ⟨h1,h2,as,hr⟩ h=>oK 6 _ h2 h1 hr (by lia) h
 eqBool:=fun {A E s x y a b Q} hu ⟨h1,h2,as,hr⟩ ⟨g1,g2,bs,gr⟩ h=>SeqAt.eqBoolOverData prog w A E s _ _ _ _ _ _ Q hr gr (dZ _ h1) (dZ _ g1) (by lia) (by
  rw [ji _ _ h1 g1]
  exact h)
 quiet:=fun ⟨h1,h2,as,hr⟩ h=>gg 8 _ (by lia) h1 hr h
def lq (h:Heap) (d:Addr) (es:Array yav) (ep:Nat):Prop:=∃ o,h.get? d=some o∧o.ExactDict∧o.data=Data.dict es ep
theorem lq.at {h h':Heap}{d:Addr}{es:Array yav}{ep:Nat} (x:lq h d es ep) (e:∀ o,h.get? d=some o→h'.get? d=some o):lq h' d es ep:=let ⟨o,ho,r⟩:=x;⟨o,e o ho,r⟩
section
variable {prog:yaj}{w:yak}{A:yal}{E:yai→yah→Prop}{s:yah}
theorem lq.typeIs {d:Addr}{es:Array yav}{ep:Nat} (x:lq s.heap d es ep):s.TypeIs (.ref d) "dict" := let ⟨o,ho,hc,_⟩:=x;⟨o,ho,hc.1⟩
theorem nextK {it d:Addr}{i ep:Nat}{es:Array yav}{e:yav}{Q:Option yai→yah→Prop} (hit:s.heap.IsKeyIter it d i es.size ep) (hD:lq s.heap d es ep) (hx:es[i]? = some e)
  (hQ:∀ h',h'.IsKeyIter it d (i+1) es.size ep→Heap.SameBut it s.heap h'→Q (some e.key) { s with heap:=h' }):yar (model prog w) A (pyNext (.ref it)) Q E s:=by
 obtain ⟨o,ho,hc,hd⟩:=id hit
 obtain ⟨od,hod,hcd,hdd⟩:=id hD
 have hT:=Heap.IsKeyIter.typeIs hit
 unfold pyNext
 refine yaa (wpAny_attempt (wpAny_callSpecial?_slot (name:=Str.ofString "__next__") hT F.slot_dict_keyiterator_next
  (wpAny_call_entry F.slot_dict_keyiterator_next hT F.entry_dict_keyiterator_next ?_ (F.args_dict_keyiterator_next_1 _))))
 unfold Builtin.«dict_keyiterator.__next__»
 refine yaa (yab ?_)
 refine yaa ?_
 refine yaa ?_
 refine yaa (wpAny_typeNameOfWhole_keyiter hT (yab ?_))
 have hown:Builtin.Dict_items.ownsTuple "dict_keyiterator" = false:=by decide +kernel
 refine yaa (wpAny_fieldsOf ho hd ?_)
 simp only [hown,zaK,if_false,List.drop_zero]
 show yar (model prog w) A.in1 (if (Value.ref d==Value.none)=true then _ else _) _ _ s
 rw [yIn (by exact zaJ)]
 refine yaa (yab ?_)
 refine yaa (wpAny_dictEntries hod hdd ?_)
 rw [yIn (by simp)]
 refine yaa (yab ?_)
 refine yaa (wpAny_dictEpoch hod hdd ?_)
 rw [yIn (by simp)]
 refine yab ?_
 dsimp only
 rw [yIn (by lia),show ((i:Int)).toNat=i from zaY i,hx]
 dsimp only
 refine yaa (?_)
 refine yaa (wpAny_typeNameOfWhole_keyiter hT (yab ?_))
 simp only [hown,zaK,if_false]
 refine yaa (wpAny_isOneOf_keyiter hT ?_)
 refine yaa (wpAny_setField ho hd (by simp) ?_)
 have e1:∀ b:Bool,b=false→(if b=true then (i:Int) - 1 else (i:Int)+1)=((i+1:Nat):Int):=fun b hb=>by subst hb;simp
 rw [e1 _ (by decide +kernel)]
 refine yaa (yad ?_)
 have ho2:=zaq (Obj.mapFields (·.setIfInBounds (0+1) (rawInt ((i+1:Nat):Int)))) ho (Obj.isFreed_of_fields (Obj.data_mapFields hd _))
 have hc2:=(Obj.cls_mapFields o (·.setIfInBounds (0+1) (rawInt ((i+1:Nat):Int)))).trans hc
 refine yaa (wpAny_isOneOf_keyiter ⟨_,ho2,hc2⟩ ?_)
 rw [yIp (by decide +kernel)]
 refine yab (yab ⟨e.key,rfl,yab (hQ _ ?_ (Heap.SameBut.update ..))⟩)
 exact ⟨_,ho2,hc2,by rw [Obj.data_mapFields hd];simp [rawInt]⟩
theorem Ia {it d:Addr}{ep:Nat}{es:Array yav}{Q:Option yai→yah→Prop} (hh:A.handled=none) (hit:s.heap.IsKeyIter it d es.size es.size ep) (hD:lq s.heap d es ep)
  (hQ:∀ h',Heap.ExtBut it s.heap h'→Q none { s with heap:=h' }):yar (model prog w) A (pyNext (.ref it)) Q E s:=by
 obtain ⟨o,ho,hc,hd⟩:=id hit
 obtain ⟨od,hod,hcd,hdd⟩:=id hD
 have hT:=Heap.IsKeyIter.typeIs hit
 unfold pyNext
 refine yaa (wpAny_attempt (wpAny_callSpecial?_slot (name:=Str.ofString "__next__") hT F.slot_dict_keyiterator_next
  (wpAny_call_entry F.slot_dict_keyiterator_next hT F.entry_dict_keyiterator_next ?_ (F.args_dict_keyiterator_next_1 _))))
 unfold Builtin.«dict_keyiterator.__next__»
 refine yaa (yab ?_)
 refine yaa ?_
 refine yaa ?_
 refine yaa (wpAny_typeNameOfWhole_keyiter hT (yab ?_))
 have hown:Builtin.Dict_items.ownsTuple "dict_keyiterator" = false:=by decide +kernel
 refine yaa (wpAny_fieldsOf ho hd ?_)
 simp only [hown,zaK,if_false,List.drop_zero]
 show yar (model prog w) A.in1 (if (Value.ref d==Value.none)=true then _ else _) _ _ s
 rw [yIn (by exact zaJ)]
 refine yaa (yab ?_)
 refine yaa (wpAny_dictEntries hod hdd ?_)
 rw [yIn (by simp)]
 refine yaa (yab ?_)
 refine yaa (wpAny_dictEpoch hod hdd ?_)
 rw [yIn (by simp)]
 refine yab ?_
 dsimp only
 rw [yIn (by lia),show ((es.size:Int)).toNat=es.size from zaY _,zaj (zca _)]
 dsimp only
 refine yaa ?_
 refine yaa (wpAny_typeNameOfWhole_keyiter hT (yab ?_))
 simp only [hown,zaK,if_false]
 refine yaa (wpAny_setField ho hd (by simp) ?_)
 refine yaa ?_
 simp only [newExc,newTuple]
 refine yaa (yae ?_ (by size_fits))
 refine yaa (m:=firstArgMember _ _) (wpAny_of_eq (a:=Value.none) (by first | rfl | (simp only [firstArgMember];rfl)) ?_)
 refine yae ?_ (by size_fits)
 simp only [raiseNew]
 refine yaa (wpAny_handled ?_)
 first | rw [show A.in1.handled=none from hh] | rw [hh]
 refine yaa (yab (wpAny_throw ?_))
 refine yaa (wpAny_isInstance (T := "StopIteration") (b:=true) ⟨_,zaC _ rfl,rfl⟩ isSubtype_stop ?_)
 refine yab (hQ _ (Heap.ExtBut.push (Heap.ExtBut.push ?_ _) _))
 exact fun b ob hb e=>(zal _ _ (Ne.symm hb)).trans e
theorem FI {d:Addr}{ep:Nat}{es:Array yav}{Q:yai→yah→Prop} (hd:(d==yas)=false) (hD:lq s.heap d es ep)
  (hQ:Q (.ref s.heap.objs.size) { s with heap:=s.heap.push { cls:=.type "dict_keyiterator",data:=.fields #[.ref d,.int 0 0,.int es.size 0,.int ep 0] } }):yar (model prog w) A (pyIter (.ref d)) Q E s:=by
 obtain ⟨od,hod,hcd,hdd⟩:=id hD
 have hT:=hD.typeIs
 refine wpAny_pyIter_slot hT F.slot_dict_iter (wpAny_call_entry F.slot_dict_iter hT F.entry_dict_iter ?_ (F.args_dict_iter_1 _))
 unfold Builtin.«dict.__iter__»
 refine yaa (yaa (wpAny_notOrdered_dict hT (yab ?_)))
 refine yaa (yab ?_)
 unfold Builtin.Dict.showsAll
 rw [yIn (by rw [hd];exact zaJ)]
 refine yaa (yab ?_)
 refine yaa (wpAny_dictEntries hod hdd ?_)
 refine yaa (wpAny_dictEpoch hod hdd ?_)
 refine yaa (yae ?_ (by size_fits))
 exact yab ⟨_,rfl,"dict_keyiterator",_,⟨_,zaC _ rfl,rfl⟩,F.slot_dict_keyiterator_next.lookup,hQ⟩
theorem Cr (hh:A.handled=none) (I d:Addr) (hne:d≠I) (es:Array yav) (ep:Nat) :
  Walks prog w A I [I,d] [I] es.size (fun i v=>∃ e,es[i]? = some e∧v=e.key) (fun i h=>h.IsKeyIter I d i es.size ep∧lq h d es ep) where
 sub:=fun b hb=>by simp only [zaF] at hb;simp [hb]
 frame:=fun i h h' st hk=>⟨Heap.IsKeyIter.at st.1 fun o e=>hk I (by simp) o e,st.2.at fun o e=>hk d (by simp) o e⟩
 item:=fun i s Q E hi st hQ=>by
  have hx:es[i]? = some es[i]:=zag hi
  refine nextK st.1 st.2 hx fun h' hit' hs'=>hQ es[i].key h' s.toks ⟨es[i],hx,rfl⟩ ⟨hit',st.2.at fun o e=>by rw [hs'.2 d hne];exact e⟩ fun b o hb e => ?_
  rw [hs'.2 b (fun z=>hb (by simp [z]))];exact e
 done:=fun s Q E st hQ=>Ia hh st.1 st.2 fun h' he=>hQ h' s.toks fun b o hb e=>he b o (fun z=>hb (by simp [z])) e
 self:=fun i s Q E st hQ=>wpAny_pyIter_keyiter st.1 hQ
theorem Hg {d:Addr}{es:Array yav}{ep:Nat} (lo:(d==yas)=false):W.KdlSrc prog w "dict" d d es.size (fun i v=>∃ e,es[i]? = some e∧v=e.key) (fun h=>lq h d es ep) where
 type:=fun s hm=>hm.typeIs
 there:=fun h hm=>by obtain ⟨o,ho,_⟩:=hm;exact ⟨zbY ho,zbY ho⟩
 keep:=fun h h' hm hk=>hm.at fun o e=>hk d (.inl rfl) o e
 notList:=by decide
 notTuple:=by decide
 hint:=fun A E s Q hm hq=>W.kdl_hint_dict hm.typeIs hq
 iter:=fun A s hh hm=>by
  have hlt:d<s.heap.objs.size:=by obtain ⟨o,ho,_⟩:=hm;exact zbY ho
  exact ⟨_,_,fun E Q hq=>FI lo hm hq,Cr hh s.heap.objs.size d (zbQ hlt) es ep,⟨_,zaC _ rfl,rfl,rfl⟩,hm.at fun o e=>zak _ e⟩
end
mutual
noncomputable def eV:yam→yam→Bool
 | .int i,.int j=>decide (i<j)
 | .str i,.str j=>decide (i.cps.toList<j.cps.toList)
 | .tuple xs,.tuple ys=>bV xs ys
 | _,_=>false
noncomputable def bV:List yam→List yam→Bool
 | [],[]=>false
 | [],_::_=>true
 | _::_,[]=>false
 | x::xs,y::ys=>if x=y then bV xs ys else eV x y
end
mutual
noncomputable def aA:yam→yam→Bool
 | .int _,.int _=>true
 | .str _,.str _=>true
 | .tuple xs,.tuple ys=>cW xs ys
 | _,_=>false
noncomputable def cW:List yam→List yam→Bool
 | x::xs,y::ys=>aA x y&&cW xs ys
 | _,_=>true
end
theorem dG {h:Heap}:∀ {ds:List yam}{vs:List yai}{as:List Addr},ReadsAll h vs ds as→vs.length=ds.length
 | [],_,_,h=>by cases h;rfl
 | _::_,_,_,h=>by cases h with | cons _ r=>simp [dG r]
section
variable {prog:yaj}{w:yak}
theorem As:∀ (n:Nat) (x y:yam) {u v:yai}{as bs:List Addr}{A:yal}{E:yai→yah→Prop}{s:yah}{Q:yai→yah→Prop},x.depth≤n→y.depth≤n→bh x=true→bh y=true→aA x y=true→Reads s.heap u x as→Reads s.heap v y bs→A.units+n<cLine →
  Q (.bool (eV x y)) s→yar (model prog w) A (yan .Lt u v) Q E s:=by
 intro n
 induction n with
 | zero =>
  intro x y u v as bs A E s Q hx hy kx ky hc hr gr hu h
  cases hr with
  | int i t =>
   cases gr with
   | int j t'=>exact wpAny_lt_int h
   | _=>simp [aA] at hc
  | str i t =>
   cases gr with
   | str j t'=>exact lt_str h
   | _=>simp [aA] at hc
  | tuple ho hc hd' hall=>rw [aX] at hx;lia
  | none=>simp [bh] at kx
  | bool b=>simp [bh] at kx
  | list _ _ _ _=>simp [bh] at kx
  | dict _ _ _ _ _=>simp [bh] at kx
 | succ n ih =>
  intro x y u v as bs A E s Q hx hy kx ky hc hr gr hu h
  cases hr with
  | int i t =>
   cases gr with
   | int j t'=>exact wpAny_lt_int h
   | _=>simp [aA] at hc
  | str i t =>
   cases gr with
   | str j t'=>exact lt_str h
   | _=>simp [aA] at hc
  | none=>simp [bh] at kx
  | bool b=>simp [bh] at kx
  | list _ _ _ _=>simp [bh] at kx
  | dict _ _ _ _ _=>simp [bh] at kx
  | @tuple a o us m xs as ho hcl hdat hall =>
   cases gr with
   | @tuple b o2 vs m2 ys bs ho2 hcl2 hdat2 hall2 =>
    have hT:=cO ho hcl
    have hT2:=cO ho2 hcl2
    rw [aX] at hx hy
    have kx:bX xs=true:=kx
    have ky:bX ys=true:=ky
    have hc:cW xs ys=true:=hc
    show yar (model prog w) A (richCompare .Lt (.ref a) (.ref b)) Q E s
    refine wpAny_richCompare_same_room hT hT2 F.slot_tuple_lt ?_ (by lia)
    refine wpAny_call_entry F.slot_tuple_lt hT F.entry_tuple_lt ?_ (F.args_tuple_lt_2 _ _)
    unfold Builtin.«tuple.__lt__»
    refine yaa (yab ?_)
    refine yaa (wpAny_isInstance hT2 isSubtype_tuple_tuple ?_)
    rw [yIn (by decide)]
    refine yaa (wpAny_tupleItemsOf ho hdat (yaa (wpAny_tupleItemsOf ho2 hdat2 (yaa ?_))))
    refine wpAny_forIn_list _ (fun rest r s'=>r.1=none∧s'=s∧∃ lx ly lu lv as' bs',rest=lu.zip lv∧ReadsAll s.heap lu lx as'∧ReadsAll s.heap lv ly bs'∧bV xs ys=bV lx ly∧(∀ z∈lx,z∈xs)∧(∀ z∈ly,z∈ys)∧cW lx ly=true∧us.size+ly.length=vs.size+lx.length) _ ?_ ?_ (us.toList.zip vs.toList) (none,())
     ⟨rfl,rfl,xs,ys,us.toList,vs.toList,_,_,rfl,hall,hall2,rfl,fun _ z=>z,fun _ z=>z,hc,by
      have h1:=dG hall
      have h2:=dG hall2
      rw [zaB] at h1 h2
      lia⟩
    ·rintro ⟨p,q⟩ rest ⟨r1,r2⟩ s' ⟨hr,rfl,lx,ly,lu,lv,as',bs',hz,h1,h2,hl,m1,m2,hcc,hsz⟩
     cases h1 with
     | nil=>simp at hz
     | @cons _ _ d1 ds1 a1 b1 g1 t1 =>
      cases h2 with
      | nil=>simp at hz
      | @cons _ _ d2 ds2 a2 b2 g2 t2 =>
       rw [zaG] at hz
       injection hz with e1 e2
       injection e1 with e3 e4
       subst e3;subst e4;subst e2
       have n1:=m1 d1 (by simp)
       have n2:=m2 d2 (by simp)
       have k1:=cT kx d1 n1
       have k2:=cT ky d2 n2
       have dd1:=bS n1
       have dd2:=bS n2
       simp only [cW,zbm] at hcc
       dsimp only
       refine yaa (SeqAt.eqBoolOverData prog w _ _ _ _ _ _ _ _ _ _ g1 g2 (dZ _ k1) (dZ _ k2) (by show A.units+1+_<cLine;lia) ?_)
       rw [ji _ _ k1 k2]
       by_cases he:d1=d2
       ·rw [yDt he]
        refine yab ⟨rfl,rfl,ds1,ds2,_,_,_,_,rfl,t1,t2,?_,fun z hz=>m1 z (zar _ hz),fun z hz=>m2 z (zar _ hz),hcc.2,by simp only [zbk] at hsz;lia⟩
        rw [hl]
        simp only [bV]
        rw [yIp he]
       ·rw [yDf he]
        have hl2:bV xs ys=eV d1 d2:=by
         rw [hl]
         simp only [bV]
         rw [yIn he]
        refine yaa (wpAny_rule ?_)
        refine yaa (ih d1 d2 (u:=p) (v:=q) (A:=A.in1) (by lia) (by lia) k1 k2 hcc.1 g1 g2 (by show A.units+1+n<cLine;lia) ?_)
        refine yaa (yab (yab ?_))
        refine yab ⟨_,rfl,(fun z=>by cases z),?_⟩
        rw [← hl2];exact h
    ·rintro ⟨r1,r2⟩ s' ⟨hr,rfl,lx,ly,lu,lv,as',bs',hz,h1,h2,hl,m1,m2,hcc,hsz⟩
     have hr:r1=none:=hr
     subst hr
     refine yab ⟨_,rfl,(fun z=>by cases z),?_⟩
     have HV:decide (us.size<vs.size)=bV xs ys:=by
      rw [hl]
      cases h1 with
      | nil =>
       cases ly with
       | nil=>simp only [bV,zbv] at hsz ⊢;exact yDf (by lia)
       | cons _ _=>simp only [bV,zbk,zbv] at hsz ⊢;exact yDt (by lia)
      | cons g1 t1 =>
       cases h2 with
       | nil=>simp only [bV,zbk,zbv] at hsz ⊢;exact yDf (by lia)
       | cons g2 t2=>simp at hz
     show Q (.bool (decide (us.size<vs.size))) s'
     rw [HV];exact h
   | _=>simp [aA] at hc
theorem Ah {A:yal}{E:yai→yah→Prop}{s:yah}{i j:Int}{t u:Tok}{Q:Bool→yah→Prop} (h:Q (decide (i<j)) s):yar (model prog w) A (PyProof.Rows.oneLt' true (.int i t) (.int j u)) Q E s:=W.kat_lt_int h
theorem xh {A:yal}{E:yai→yah→Prop}{s:yah}{x y:yam}{u v:yai}{as bs:List Addr}{Q:Bool→yah→Prop} (n:Nat) (hx:x.depth≤n) (hy:y.depth≤n) (kx:bh x=true) (ky:bh y=true) (hc:aA x y=true) (hr:Reads s.heap u x as) (gr:Reads s.heap v y bs) (hu:A.units+n<cLine)
  (h:Q (eV x y) s):yar (model prog w) A (PyProof.Rows.oneLt' false u v) Q E s:=W.kat_one u v (As n x y hx hy kx ky hc hr gr hu h)
theorem o5 {A:yal}{Q:Bool→yah→Prop}{s:yah}{m1 m2:Nat}:∀ (lx ly:List yam) {lu lv:List yai}{as bs:List Addr} (i:Nat),(∀ z∈lx,z.depth≤6)→(∀ z∈ly,z.depth≤6)→bX lx=true→bX ly=true→cW lx ly=true→ReadsAll s.heap lu lx as→ReadsAll s.heap lv ly bs→A.units+6<cLine →
  (i=0→∃ p q lx' ly',lx = .int p::lx'∧ly = .int q::ly')→m1+ly.length=m2+lx.length→Q (bV lx ly) s→W.KatLex prog w A true (decide (m1<m2)) Q (lu.zip lv) i s
 | [],ly,lu,lv,as,bs,i,d1,d2,k1,k2,hc,h1,h2,hu,h0,hm,h=>by
  cases h1
  show Q (decide (m1<m2)) s
  cases ly with
  | nil=>simp only [bV,zbv] at hm h;rw [yDf (by lia)];exact h
  | cons _ _=>simp only [bV,zbv,zbk] at hm h;rw [yDt (by lia)];exact h
 | x::lx,[],lu,lv,as,bs,i,d1,d2,k1,k2,hc,h1,h2,hu,h0,hm,h=>by
  cases h2
  rw [List.zip_nil_right]
  show Q (decide (m1<m2)) s
  simp only [bV,zbv,zbk] at hm h
  rw [yDf (by lia)];exact h
 | x::lx,y::ly,lu,lv,as,bs,i,d1,d2,k1,k2,hc,h1,h2,hu,h0,hm,h=>by
  simp only [bX,zbm] at k1 k2
  simp only [cW,zbm] at hc
  have dx:=d1 x (by simp)
  have dy:=d2 y (by simp)
  cases h1 with
  | @cons u us _ _ a1 b1 g1 t1 =>
   cases h2 with
   | @cons v vs _ _ a2 b2 g2 t2 =>
    rw [zaG,W.KatLex.eq_2]
    refine SeqAt.eqBoolOverData prog w _ _ _ _ _ _ _ _ _ _ g1 g2 (dZ _ k1.1) (dZ _ k2.1) (by lia) ?_
    rw [ji _ _ k1.1 k2.1]
    simp only [bV] at h
    by_cases he:x=y
    ·rw [yDt he,yIp rfl]
     rw [yIp he] at h
     exact o5 lx ly (i+1) (fun z hz=>d1 z (zar _ hz)) (fun z hz=>d2 z (zar _ hz)) k1.2 k2.2 hc.2 t1 t2 hu (fun z=>by lia) (by simp only [zbk] at hm;lia) h
    ·rw [yDf he,yIn (by decide)]
     rw [yIn he] at h
     by_cases hi:i=0
     ·obtain ⟨p,q,lx',ly',e1,e2⟩:=h0 hi
      injection e1 with e1 _
      injection e2 with e2 _
      subst e1;subst e2;subst hi
      cases g1
      cases g2
      exact Ah h
     ·have:(true&&i==0)=false:=by simp [hi]
      rw [this]
      exact xh 6 dx dy k1.1 k2.1 hc.1 g1 g2 hu h
def cu {β:Type} (P:β→Prop) (n:Nat):W.KasT β→Prop
 | .ret a=>P a
 | .ask i j k=>i<n∧j<n∧∀ b,cu P n (k b)
theorem cu.bind {β γ:Type}{P:β→Prop}{R:γ→Prop}{n:Nat}{f:β→W.KasT γ}:∀ {t:W.KasT β},cu P n t→(∀ a,P a→cu R n (f a))→cu R n (t.bind f)
 | .ret a,h,g=>g a h
 | .ask i j k,⟨h1,h2,h3⟩,g=>⟨h1,h2,fun b=>cu.bind (h3 b) g⟩
theorem cy {n:Nat}{p:Array Nat} (hn:0<n) (hp:p.Perm (zce n).toArray) (x:Nat):p.getD x 0<n:=by
 rw [Srt.gT]
 cases z:p[x]? with
 | none=>exact hn
 | some y =>
  have hm:y∈p:=Array.mem_of_getElem? z
  have:=(hp.mem_iff).mp hm
  simpa using this
section
variable {n:Nat}
theorem nM (hn:0<n) {p:Array Nat} (hp:p.Perm (zce n).toArray):∀ (f x:Nat),cu (fun _=>True) n (W.kas_asc p f x)
 | 0,x=>trivial
 | f+1,x=>⟨cy hn hp _,cy hn hp _,fun b=>by
  show cu _ n (if b=true then _ else _)
  cases b
  ·exact nM hn hp f (x+1)
  ·exact trivial⟩
theorem gV (hn:0<n):∀ (f:Nat) {p:Array Nat} (x q:Nat),p.Perm (zce n).toArray→cu (fun r:Array Nat×Nat×Nat=>r.1.Perm (zce n).toArray) n (W.kas_desc f p x q)
 | 0,p,x,q,hp=>hp
 | f+1,p,x,q,hp=>⟨cy hn hp _,cy hn hp _,fun b=>by
  show cu _ n (if b=true then (if q > 0 then _ else _) else _)
  cases b
  ·refine ⟨cy hn hp _,cy hn hp _,fun c => ?_⟩
   show cu _ n (if c=true then _ else _)
   cases c
   ·exact gV hn f (x+1) (q+1) hp
   ·exact hp
  ·rw [yIp rfl]
   by_cases hq:q > 0
   ·rw [yIp hq];exact gV hn f (x+1) 0 (Srt.b8.trans hp)
   ·rw [yIn hq];exact gV hn f (x+1) 0 hp⟩
theorem n5 (hn:0<n) {p:Array Nat} (hp:p.Perm (zce n).toArray) (x m:Nat):cu (fun r:Nat×Array Nat=>r.2.Perm (zce n).toArray) n (W.kas_tail3 x m p) :=
 cu.bind (nM hn (Srt.b8.trans hp) _ _) fun a _=>Srt.b8.trans hp
theorem gW (hn:0<n) {p:Array Nat} (hp:p.Perm (zce n).toArray) (x m:Nat):cu (fun r:Nat×Array Nat=>r.2.Perm (zce n).toArray) n (W.kas_descPart x m p) :=
 cu.bind (gV hn _ _ _ hp) fun r hr=>by
  by_cases h:r.2.2 > 0
  ·rw [yIp h];exact n5 hn (Srt.b8.trans hr) _ _
  ·rw [yIn h];exact n5 hn hr _ _
theorem uP (hn:0<n) {p:Array Nat} (hp:p.Perm (zce n).toArray) (m:Nat):cu (fun r:Nat×Array Nat=>r.2.Perm (zce n).toArray) n (W.kas_count m p) :=
 cu.bind (nM hn hp _ _) fun x _=>by
  by_cases h:(x==m)=true
  ·rw [yIp h];exact hp
  ·rw [yIn h]
   by_cases h2:x > 1
   ·rw [yIp h2]
    refine ⟨cy hn hp _,cy hn hp _,fun b => ?_⟩
    show cu _ n (if b=true then _ else _)
    cases b
    ·exact gW hn (Srt.b8.trans hp) _ _
    ·exact hp
   ·rw [yIn h2];exact gW hn hp _ _
theorem iA (hn:0<n) {p:Array Nat} (hp:p.Perm (zce n).toArray) (k:Nat):∀ (f l r:Nat),cu (fun _=>True) n (W.kas_place p k f l r)
 | 0,l,r=>trivial
 | f+1,l,r=>by
  rw [W.kas_place.eq_2]
  by_cases h:l≥r
  ·rw [yIp h];exact trivial
  ·rw [yIn h]
   refine ⟨cy hn hp _,cy hn hp _,fun b => ?_⟩
   show cu _ n (if b=true then _ else _)
   cases b
   ·exact iA hn hp k f _ _
   ·exact iA hn hp k f _ _
theorem tR (hn:0<n):∀ (f:Nat) {p:Array Nat} (j:Nat),p.Perm (zce n).toArray→cu (fun r:Array Nat=>r.Perm (zce n).toArray) n (W.kas_bin f p j)
 | 0,p,j,hp=>hp
 | f+1,p,j,hp=>by
  rw [W.kas_bin.eq_2]
  exact cu.bind (iA hn hp _ _ _ _) fun l _=>tR hn f (j+1) ((bubble_perm _ _ _).trans hp)
theorem oq (hn:0<n):cu (fun r:Array Nat=>r.Perm (zce n).toArray) n (W.kas_sort n) :=
 cu.bind (uP hn (Array.Perm.refl _) _) fun r hr=>by
  by_cases h:r.1<n
  ·rw [yIp h];exact tR hn _ _ hr
  ·rw [yIn h];exact hr
end
end
section
variable {prog:yaj}{w:yak}{A:yal}{E:yai→yah→Prop}{s:yah}
theorem wp_run {β:Type}{n:Nat}{P:β→Prop}{f:Nat→Nat→Bool}{cmp:Nat→Nat→(Bool→yah→Prop)→yah→Prop}{Q:β→yah→Prop}{s:yah} (hc:∀ i j C,i<n→j<n→C (f i j) s→cmp i j C s):∀ {t:W.KasT β},cu P n t→Q (Srt.run f t) s→W.KasT.kasWp cmp t Q s
 | .ret a,h,q=>q
 | .ask i j k,⟨h1,h2,h3⟩,q=>hc i j _ h1 h2 (wp_run hc (h3 _) q)
theorem sr {β:Type}{n:Nat}{P:β→Prop}{f:Nat→Nat→Bool}:∀ {t:W.KasT β},cu P n t→P (Srt.run f t)
 | .ret a,h=>h
 | .ask i j k,⟨_,_,h3⟩=>show P (Srt.run f (k (f i j))) from sr (h3 (f i j))
theorem run_eq {β:Type}{n:Nat}{P:β→Prop}{f g:Nat→Nat→Bool}:∀ {t:W.KasT β},cu P n t→(∀ i j,i<n→j<n→f i j=g i j)→Srt.run f t=Srt.run g t
 | .ret a,h,_=>rfl
 | .ask i j k,⟨h1,h2,h3⟩,e=>by
  show Srt.run f (k (f i j))=Srt.run g (k (g i j))
  rw [e i j h1 h2]
  exact run_eq (h3 _) e
theorem lM {vs:List yai}:((zce vs.length).map fun i=>vs.getD i Value.none)=vs:=by
 refine List.ext_getElem (by simp) fun i h1 h2 => ?_
 simp [zch,zah h2]
noncomputable def bY (h:Heap) (a:Addr) (vs:List yai):Heap:=((h.update a (Obj.mapSeq fun _ => #[])).push (seqObj "tuple" vs.toArray 0)).push (seqObj "list" #[] 0)
theorem qK {a:Addr}{vs:List yai}{n:Nat}{P:PySem.Fin→yah→Prop} (f:Nat→Nat→Bool) (ho:s.heap.get? a=some (seqObj "list" vs.toArray n)) (h64:vs.length<64)
  (hk:2≤vs.length→∃ κ,(∀ (Q:SortKind→yah→Prop),Q κ { s with heap:=bY s.heap a vs }→yar (model prog w) A (keyKind' vs.toArray) Q (fun _ _=>False) { s with heap:=bY s.heap a vs }) ∧
   ∀ i j C,i<vs.length→j<vs.length→C (f i j) { s with heap:=bY s.heap a vs }→W.kas_ask prog w A κ vs i j C { s with heap:=bY s.heap a vs })
  (h:∀ p:Array Nat,p.Perm (zce vs.length).toArray→(2≤vs.length→p=Srt.run f (W.kas_sort vs.length))→P (.done (.ret .none)) { s with heap:=sortedHeap s.heap a vs (p.toList.map fun i=>vs.getD i Value.none).toArray }) :
  yar (model prog w) A (Builtin.«list.sort» ⟨[.ref a],[]⟩) P E s:=by
 obtain ⟨e1,ho1⟩:∃ e1,(s.heap.update a (Obj.mapSeq fun _ => #[])).get? a=some (seqObj "list" #[] e1):=⟨_,get?_update_seq ho fun _ => #[]⟩
 have ho2:(bY s.heap a vs).get? a=some (seqObj "list" #[] e1):=zak _ (zak _ ho1)
 have hz:vs.toArray.size≤yag:=by rw [zaO,yaf];lia
 rw [list_sort_plain a]
 refine yaa (listItems_at ho rfl (yaa (listUpdate_at ho rfl ?_ hz (zcc _))))
 refine yaa (seqEpoch_at ho1 rfl (yaa (wpAny_newTuple ?_ (by simpa using hz))))
 refine yaa (wpAny_newList (yad ?_) (zcc _))
 show yar (model prog w) A (if vs.toArray.size<2 then _ else _) P E { s with heap:=bY s.heap a vs }
 by_cases h2:vs.length<2
 ·rw [yIp (by rw [zaO];exact h2)]
  refine yaa (yab ?_)
  dsimp only
  rw [yIp (by rw [zaO];exact h2)]
  refine yaa (yab ?_)
  have e2:((vs.toArray.zip vs.toArray).map (·.2))=((zce vs.length).map fun i=>vs.getD i Value.none).toArray:=by
   rw [List.zip_toArray,List.map_toArray,List.map_snd_zip (zca _),lM]
  refine yaa (seqEpoch_at ho2 rfl (yaa (listUpdate_at ho2 rfl ?_ (zcc _) ?_)))
  ·show yar (model prog w) A (if (e1 != e1)=true then _ else _) P E _
   rw [yIn (by simp)]
   refine yab ?_
   have:=h (zce vs.length).toArray (Array.Perm.refl _) (fun z=>by lia)
   rw [← e2] at this
   exact this
  ·show ((vs.toArray.zip vs.toArray).map (·.2)).size≤_
   rw [e2,lM,zaO,yaf];lia
 ·rw [yIn (by rw [zaO];exact h2)]
  obtain ⟨κ,k1,k2⟩:=hk (by lia)
  refine yaa (yac (k1 (fun κ' s'=>κ'=κ∧s'={ s with heap:=bY s.heap a vs }) ⟨rfl,rfl⟩) (fun κ' s' z => ?_) (fun _ _ z=>z.elim))
  obtain ⟨rfl,rfl⟩:=z
  dsimp only
  rw [yIn (by rw [zaO];exact h2)]
  have hall:=oq (n:=vs.length) (by lia)
  refine yaa (yac (W.kat_run (Q:=fun st s'=>∃ p:Array Nat,(arrOf st).map (·.2)=(p.toList.map fun i=>vs.getD i Value.none).toArray∧failedOf st=none∧p.Perm (zce vs.length).toArray∧p=Srt.run f (W.kas_sort vs.length)∧s'={ s with heap:=bY s.heap a vs }) (G:=fun p s'=>(p.Perm (zce vs.length).toArray∧p=Srt.run f (W.kas_sort vs.length))∧s'={ s with heap:=bY s.heap a vs }) rfl (by lia) h64 ?_ (wp_run k2 hall ⟨⟨sr hall,rfl⟩,rfl⟩)) ?_ (fun _ _ z=>z))
  ·rintro p st' s' hp1 hp2 hp3 ⟨⟨hp4,hp5⟩,rfl⟩
   exact ⟨p,W.kat_snds rfl hp2,hp3,hp4,hp5,rfl⟩
  ·rintro ⟨⟨⟩,st⟩ s' ⟨p,o1,o2,o3,o4,rfl⟩
   dsimp only
   refine yaa (seqEpoch_at ho2 rfl (yaa (listUpdate_at ho2 rfl ?_ (zcc _) ?_)))
   ·rw [o2]
    dsimp only
    rw [yIn (by simp)]
    refine yab ?_
    have:=h p o3 fun _=>o4
    rw [← o1] at this
    exact this
   ·rw [o1]
    have:=o3.size_eq
    rw [zaO,zbr,zaB,this,zaO,zaU,yaf];lia
mutual
theorem lJ {h h':Heap}{b:Addr}{ob:Obj} (hb:h.get? b=some ob) (hd:ob.cls ≠ .type "tuple") (kp:∀ c o,c≠b→h.get? c=some o→h'.get? c=some o):∀ (d:yam) {v:yai}{as:List Addr},bh d=true→Reads h v d as→Reads h' v d as
 | .int i,v,as,hk,hr=>by cases hr;exact .int ..
 | .str i,v,as,hk,hr=>by cases hr;exact .str ..
 | .tuple xs,v,as,hk,hr=>by
  cases hr with
  | @tuple a o vs m _ _ ho hc hdat hall =>
   have hne:a≠b:=fun e=>by
    subst e
    rw [hb] at ho;cases ho
    exact hd hc
   exact .tuple (kp a o hne ho) hc hdat (jB hb hd kp xs hk hall)
 | .none,_,_,h,_=>by simp [bh] at h
 | .bool _,_,_,h,_=>by simp [bh] at h
 | .list _,_,_,h,_=>by simp [bh] at h
 | .dict _,_,_,h,_=>by simp [bh] at h
theorem jB {h h':Heap}{b:Addr}{ob:Obj} (hb:h.get? b=some ob) (hd:ob.cls ≠ .type "tuple") (kp:∀ c o,c≠b→h.get? c=some o→h'.get? c=some o):∀ (ds:List yam) {vs:List yai}{as:List Addr},bX ds=true→ReadsAll h vs ds as→ReadsAll h' vs ds as
 | [],vs,as,hk,hr=>by cases hr;exact .nil
 | d::ds,vs,as,hk,hr=>by
  simp only [bX,zbm] at hk
  cases hr with
  | cons hx hr=>exact .cons (lJ hb hd kp d hk.1 hx) (jB hb hd kp ds hk.2 hr)
end
theorem gF {α β:Type}{f:α→β}:∀ {ks:List α}{out:List β},out.Perm (ks.map f)→∃ o':List α,o'.Perm ks∧out=o'.map f
 | [],out,h=>⟨[],.refl _,by simpa using h⟩
 | k::ks,out,h=>by
  have hm:f k∈out:=h.mem_iff.mpr (by simp)
  obtain ⟨l1,l2,rfl⟩:=List.append_of_mem hm
  have h2:(l1++l2).Perm (ks.map f):=by
   have:=List.perm_middle.symm.trans h
   rw [zbC] at this
   exact this.cons_inv
  obtain ⟨o',p1,p2⟩:=gF h2
  obtain ⟨o1,o2,e1,e2,e3⟩:=List.map_eq_append_iff.mp p2.symm
  subst e1
  refine ⟨o1++k::o2,List.perm_middle.trans (p1.cons k),?_⟩
  rw [zbu,zbC,e2,e3]
mutual
theorem xH:∀ x:yam,eV x x=false
 | .int i=>by simp only [eV];exact yDf (Int.lt_irrefl i)
 | .str i=>by simp only [eV];exact yDf (List.lt_irrefl _)
 | .tuple xs=>by simp only [eV];exact sX xs
 | .none=>by simp only [eV]
 | .bool _=>by simp only [eV]
 | .list _=>by simp only [eV]
 | .dict _=>by simp only [eV]
theorem sX:∀ x:List yam,bV x x=false
 | []=>by simp only [bV]
 | x::xs=>by simp only [bV];rw [yIp trivial];exact sX xs
end
mutual
theorem xG:∀ x y z:yam,aA x y=true→aA y z=true→aA x z=true→eV x y=true→eV y z=true→eV x z=true
 | .int i,.int j,.int k,_,_,_,h,g=>by simp only [eV,decide_eq_true_eq] at h g ⊢;lia
 | .str i,.str j,.str k,_,_,_,h,g=>by simp only [eV,decide_eq_true_eq] at h g ⊢;exact List.lt_trans h g
 | .tuple xs,.tuple ys,.tuple zs,a,b,c,h,g=>by simp only [eV] at h g ⊢;exact xE xs ys zs a b c h g
 | .none,_,_,a,_,_,_,_=>by simp [aA] at a
 | .bool _,_,_,a,_,_,_,_=>by simp [aA] at a
 | .list _,_,_,a,_,_,_,_=>by simp [aA] at a
 | .dict _,_,_,a,_,_,_,_=>by simp [aA] at a
 | .int i,.str j,_,a,_,_,_,_=>by simp [aA] at a
 | .int i,.tuple j,_,a,_,_,_,_=>by simp [aA] at a
 | .int i,.none,_,a,_,_,_,_=>by simp [aA] at a
 | .int i,.bool j,_,a,_,_,_,_=>by simp [aA] at a
 | .int i,.list j,_,a,_,_,_,_=>by simp [aA] at a
 | .int i,.dict j,_,a,_,_,_,_=>by simp [aA] at a
 | .str i,.int j,_,a,_,_,_,_=>by simp [aA] at a
 | .str i,.tuple j,_,a,_,_,_,_=>by simp [aA] at a
 | .str i,.none,_,a,_,_,_,_=>by simp [aA] at a
 | .str i,.bool j,_,a,_,_,_,_=>by simp [aA] at a
 | .str i,.list j,_,a,_,_,_,_=>by simp [aA] at a
 | .str i,.dict j,_,a,_,_,_,_=>by simp [aA] at a
 | .tuple i,.int j,_,a,_,_,_,_=>by simp [aA] at a
 | .tuple i,.str j,_,a,_,_,_,_=>by simp [aA] at a
 | .tuple i,.none,_,a,_,_,_,_=>by simp [aA] at a
 | .tuple i,.bool j,_,a,_,_,_,_=>by simp [aA] at a
 | .tuple i,.list j,_,a,_,_,_,_=>by simp [aA] at a
 | .tuple i,.dict j,_,a,_,_,_,_=>by simp [aA] at a
 | .int i,.int j,.str _,_,a,_,_,_=>by simp [aA] at a
 | .int i,.int j,.tuple _,_,a,_,_,_=>by simp [aA] at a
 | .int i,.int j,.none,_,a,_,_,_=>by simp [aA] at a
 | .int i,.int j,.bool _,_,a,_,_,_=>by simp [aA] at a
 | .int i,.int j,.list _,_,a,_,_,_=>by simp [aA] at a
 | .int i,.int j,.dict _,_,a,_,_,_=>by simp [aA] at a
 | .str i,.str j,.int _,_,a,_,_,_=>by simp [aA] at a
 | .str i,.str j,.tuple _,_,a,_,_,_=>by simp [aA] at a
 | .str i,.str j,.none,_,a,_,_,_=>by simp [aA] at a
 | .str i,.str j,.bool _,_,a,_,_,_=>by simp [aA] at a
 | .str i,.str j,.list _,_,a,_,_,_=>by simp [aA] at a
 | .str i,.str j,.dict _,_,a,_,_,_=>by simp [aA] at a
 | .tuple i,.tuple j,.int _,_,a,_,_,_=>by simp [aA] at a
 | .tuple i,.tuple j,.str _,_,a,_,_,_=>by simp [aA] at a
 | .tuple i,.tuple j,.none,_,a,_,_,_=>by simp [aA] at a
 | .tuple i,.tuple j,.bool _,_,a,_,_,_=>by simp [aA] at a
 | .tuple i,.tuple j,.list _,_,a,_,_,_=>by simp [aA] at a
 | .tuple i,.tuple j,.dict _,_,a,_,_,_=>by simp [aA] at a
theorem xE:∀ x y z:List yam,cW x y=true→cW y z=true→cW x z=true→bV x y=true→bV y z=true→bV x z=true
 | [],[],z,_,_,_,h,_=>by simp [bV] at h
 | [],y::ys,[],_,_,_,_,g=>by simp [bV] at g
 | [],y::ys,z::zs,_,_,_,_,_=>by simp only [bV]
 | x::xs,[],z,_,_,_,h,_=>by simp [bV] at h
 | x::xs,y::ys,[],_,_,_,_,g=>by simp [bV] at g
 | x::xs,y::ys,z::zs,a,b,c,h,g=>by
  simp only [cW,zbm] at a b c
  simp only [bV] at h g ⊢
  by_cases e1:x=y
  ·rw [yIp e1] at h
   subst e1
   by_cases e2:x=z
   ·rw [yIp e2] at g ⊢
    exact xE xs ys zs a.2 b.2 c.2 h g
   ·rw [yIn e2] at g ⊢
    exact g
  ·rw [yIn e1] at h
   by_cases e2:y=z
   ·subst e2
    rw [yIn e1]
    exact h
   ·rw [yIn e2] at g
    have t:=xG x y z a.1 b.1 c.1 h g
    rw [yIn (fun e3=>by subst e3;rw [xH] at t;cases t)]
    exact t
end
mutual
theorem xF:∀ x y:yam,aA x y=true→x≠y→eV x y=true∨eV y x=true
 | .int i,.int j,_,n=>by
  have:i≠j:=fun e=>n (by rw [e])
  simp only [eV,decide_eq_true_eq];lia
 | .str i,.str j,_,n=>by
  simp only [eV,decide_eq_true_eq]
  by_cases h:i.cps.toList<j.cps.toList
  ·exact .inl h
  ·by_cases g:j.cps.toList<i.cps.toList
   ·exact .inr g
   ·refine absurd ?_ n
    have e:i.cps.toList=j.cps.toList:=List.le_antisymm g h
    obtain ⟨i⟩:=i
    obtain ⟨j⟩:=j
    have e:i.toList=j.toList:=e
    rw [show i=j from Array.toList_inj.mp e]
 | .tuple xs,.tuple ys,a,n=>by
  simp only [eV]
  exact sW xs ys a fun e=>n (by rw [e])
 | .none,_,a,_=>by simp [aA] at a
 | .bool _,_,a,_=>by simp [aA] at a
 | .list _,_,a,_=>by simp [aA] at a
 | .dict _,_,a,_=>by simp [aA] at a
 | .int i,.str j,a,_=>by simp [aA] at a
 | .int i,.tuple j,a,_=>by simp [aA] at a
 | .int i,.none,a,_=>by simp [aA] at a
 | .int i,.bool j,a,_=>by simp [aA] at a
 | .int i,.list j,a,_=>by simp [aA] at a
 | .int i,.dict j,a,_=>by simp [aA] at a
 | .str i,.int j,a,_=>by simp [aA] at a
 | .str i,.tuple j,a,_=>by simp [aA] at a
 | .str i,.none,a,_=>by simp [aA] at a
 | .str i,.bool j,a,_=>by simp [aA] at a
 | .str i,.list j,a,_=>by simp [aA] at a
 | .str i,.dict j,a,_=>by simp [aA] at a
 | .tuple i,.int j,a,_=>by simp [aA] at a
 | .tuple i,.str j,a,_=>by simp [aA] at a
 | .tuple i,.none,a,_=>by simp [aA] at a
 | .tuple i,.bool j,a,_=>by simp [aA] at a
 | .tuple i,.list j,a,_=>by simp [aA] at a
 | .tuple i,.dict j,a,_=>by simp [aA] at a
theorem sW:∀ x y:List yam,cW x y=true→x≠y→bV x y=true∨bV y x=true
 | [],[],_,n=>absurd rfl n
 | [],y::ys,_,_=>.inl (by simp only [bV])
 | x::xs,[],_,_=>.inr (by simp only [bV])
 | x::xs,y::ys,a,n=>by
  simp only [cW,zbm] at a
  simp only [bV]
  by_cases e:x=y
  ·subst e
   rw [yIp rfl,yIp rfl]
   exact sW xs ys a.2 fun e=>n (by rw [e])
  ·rw [yIn e,yIn (Ne.symm e)]
   exact xF x y a.1 e
end
noncomputable def HF (S:List yam) (hc:∀ x∈S,∀ y∈S,aA x y=true):Srt.Ord { x // x∈S } where
 lt:=fun a b=>eV a.1 b.1
 HR:=fun a=>xH a.1
 tr:=fun a b c h g=>xG _ _ _ (hc _ a.2 _ b.2) (hc _ b.2 _ c.2) (hc _ a.2 _ c.2) h g
 nt:=fun a b c h=>by
  by_cases e:a.1=b.1
  ·exact .inr (by rw [← e];exact h)
  ·rcases xF _ _ (hc _ a.2 _ b.2) e with z | z
   ·exact .inl z
   ·exact .inr (xG _ _ _ (hc _ b.2 _ a.2) (hc _ a.2 _ c.2) (hc _ b.2 _ c.2) z h)
theorem zy {ord:List (yam×Addr)}{p:Array Nat}{n:Nat}{df:yam×Addr} (hok:∀ k∈ord,bh k.1=true) (hc:∀ k∈ord,∀ l∈ord,aA k.1 l.1=true) (hp:p.Perm (zce n).toArray) (hn:n=ord.length) (hr:2≤n→p=Srt.run (fun i j=>eV (ord.getD i df).1 (ord.getD j df).1) (W.kas_sort n)) :
  (p.toList.map fun i=>ord.getD i df).Pairwise (fun x y=>eV y.1 x.1=false):=by
 have hsz:p.size=n:=by have:=hp.size_eq;simpa using this
 rw [List.pairwise_iff_getElem]
 intro i j hi hj hij
 have hi':i<p.size:=by simpa using hi
 have hj':j<p.size:=by simpa using hj
 have h2:2≤n:=by lia
 have hin:∀ i∈p.toList,i<ord.length:=fun i hi=>by
  have:=(Array.perm_iff_toList_perm.mp hp).mem_iff.mp hi
  rw [← hn];simpa using this
 cases ord with
 | nil=>simp at hn;lia
 | cons k0 rest =>
  generalize hS:(k0::rest).map (·.1)=S
  have hc':∀ x∈S,∀ y∈S,aA x y=true:=fun x hx y hy=>by
   rw [← hS] at hx hy
   obtain ⟨a,a1,rfl⟩:=zbO.mp hx
   obtain ⟨b,b1,rfl⟩:=zbO.mp hy
   exact hc a a1 b b1
  have hm:∀ i,((k0::rest).getD i k0).1∈S:=fun i=>by
   rw [← hS]
   refine zbO.mpr ⟨_,?_,rfl⟩
   by_cases h:i<(k0::rest).length
   ·rw [zch,zah h];exact zbg h
   ·rw [zch,zan (by lia)];simp
  obtain ⟨p',e1,e2,e3⟩:=Srt.zE (O:=HF S hc') (k:=fun i=>⟨((k0::rest).getD i k0).1,hm i⟩) (n:=n) (by lia)
  have eq:Srt.run (fun i j=>eV ((k0::rest).getD i df).1 ((k0::rest).getD j df).1) (W.kas_sort n)=p':=by
   rw [← e1]
   refine run_eq (oq (n:=n) (by lia)) fun i j hi hj => ?_
   have d:∀ i,i<n→(k0::rest).getD i df=(k0::rest).getD i k0:=fun i hi=>by
    have:i<(k0::rest).length:=by lia
    rw [zch,zch,zah this];rfl
   show _=eV ((k0::rest).getD i k0).1 ((k0::rest).getD j k0).1
   rw [d i hi,d j hj]
  obtain rfl:p=p':=(hr h2).trans eq
  have:=e3 i j (by lia) (by lia)
  have this:eV ((k0::rest).getD (p.getD j 0) k0).1 ((k0::rest).getD (p.getD i 0) k0).1=false:=this
  have g:∀ x (hx:x<p.size),(k0::rest).getD (p.getD x 0) k0=(k0::rest).getD p[x] df:=fun x hx=>by
   have e:p.getD x 0=p[x]:=by simp [zcg,hx]
   rw [e]
   have:p[x]<(k0::rest).length:=hin _ (Array.getElem_mem_toList hx)
   rw [zch,zch,zah this];rfl
  rw [g i hi',g j hj'] at this
  rw [zbi,zbi,Array.getElem_toList,Array.getElem_toList]
  exact this
def nT (h:Heap) (k:yam×Addr):Prop:=isKey h k.1 k.2∧∃ p r,k.1 = .tuple (.int p::r)
theorem o7 {h:Heap}:∀ {ks:List (yam×Addr)},(∀ k∈ks,nT h k)→∃ fs,W.KatTups h (ks.map fun k=>.ref k.2) fs∧fs.length=ks.length∧∀ f∈fs,∃ i t,f=Value.int i t
 | [],_=>⟨[],.nil,rfl,by simp⟩
 | (d,a)::ks,hk=>by
  obtain ⟨fs,h1,h2,h3⟩:=o7 fun k hk'=>hk k (zar _ hk')
  obtain ⟨⟨k1,k2,as,hr⟩,p,r,e⟩:=hk (d,a) (by simp)
  have e:d = .tuple (.int p::r):=e
  subst e
  cases hr with
  | @tuple _ o vs m _ _ ho hc hdat hall =>
   generalize hvs:vs.toList=l at hall
   cases hall with
   | @cons v l' _ _ a1 b1 g1 t1 =>
    cases g1 with
    | int _ t =>
     refine ⟨.int p t::fs,.cons ho hc hdat ?_ h1,by simp [h2],fun f hf => ?_⟩
     ·rw [← zap,hvs];rfl
     ·rcases zbB.mp hf with rfl | hf
      ·exact ⟨p,t,rfl⟩
      ·exact h3 f hf
theorem Bc {ks:List (yam×Addr)} (hk:∀ k∈ks,nT s.heap k) (hc:∀ k∈ks,∀ l∈ks,aA k.1 l.1=true) (hu:A.units+6<cLine) (i j:Nat) (C:Bool→yah→Prop) (hi:i<ks.length) (hj:j<ks.length) (h:C (eV ks[i].1 ks[j].1) s) :
  W.kas_ask prog w A (tuples' true) (ks.map fun k=>.ref k.2) i j C s:=by
 have hx:=hk ks[i] (zbg hi)
 have hy:=hk ks[j] (zbg hj)
 have hxy:=hc ks[i] (zbg hi) ks[j] (zbg hj)
 have e:∀ n (hn:n<ks.length),(ks.map fun k=>Value.ref k.2).getD n Value.none = .ref ks[n].2:=fun n hn=>by simp [zch,hn]
 unfold W.kas_ask
 rw [e i hi,e j hj]
 generalize ks[i]=x at hx hxy h
 generalize ks[j]=y at hy hxy h
 obtain ⟨⟨k1,k2,as,hr⟩,p,r,e1⟩:=hx
 obtain ⟨⟨l1,l2,bs,gr⟩,q,t,e2⟩:=hy
 obtain ⟨dx,ax⟩:=x
 obtain ⟨dy,ay⟩:=y
 have e1:dx = .tuple (.int p::r):=e1
 have e2:dy = .tuple (.int q::t):=e2
 subst e1;subst e2
 have k2:(PyData.tuple (.int p::r)).depth≤6:=k2
 have l2:(PyData.tuple (.int q::t)).depth≤6:=l2
 rw [aX] at k2 l2
 cases hr with
 | @tuple _ o us m _ _ ho hcl hdat hall =>
  cases gr with
  | @tuple _ o2 vs m2 _ _ ho2 hcl2 hdat2 hall2 =>
   have n1:=dG hall
   have n2:=dG hall2
   rw [zaB] at n1 n2
   exact W.kat_lt ho hdat ho2 hdat2 (o5 _ _ 0 (fun z hz=>by have:=bS hz;lia) (fun z hz=>by have:=bS hz;lia) k1 l1 hxy hall hall2 hu (fun _=>⟨p,q,r,t,rfl,rfl⟩) (by lia) h)
theorem uG {h:Heap}{a:Addr}{vs:List yai}{b:Addr}{o:Obj} (hb:b≠a) (e:h.get? b=some o):(bY h a vs).get? b=some o :=
 zak _ (zak _ ((zal _ _ (Ne.symm hb)).trans e))
theorem ql {d:Addr}{ks:List (yam×Addr)}{R:yah→Prop}{Q:yai→yah→Prop} (hh:A.handled=none) (hk:∀ k∈ks,nT s.heap k) (hc:∀ k∈ks,∀ l∈ks,aA k.1 l.1=true) (h64:ks.length<64) (hu:A.units+20<cLine)
  (col:∀ {A':yal}{Q':List yai→yah→Prop}{E':yai→yah→Prop},A'.handled=none→(∀ s1 (ord:List (yam×Addr)),(∀ b o,s.heap.get? b=some o→s1.heap.get? b=some o)→R s1→ord.Perm ks→Q' (ord.map fun k=>Value.ref k.2) s1)→yar (model prog w) A' (collect (.ref d)) Q' E' s)
  (h:∀ (s1:yah) (h2:Heap) (out:List (yam×Addr)) (c:Nat),R s1→(∀ b o,s.heap.get? b=some o→s1.heap.get? b=some o)→(∀ b o,s1.heap.get? b=some o→h2.get? b=some o)→h2.get? s1.heap.objs.size=some (seqObj "list" (out.map fun k=>Value.ref k.2).toArray c)→out.Perm ks→out.Pairwise (fun x y=>eV y.1 x.1=false)→Q (.ref s1.heap.objs.size) { s1 with heap:=h2 }) :
  yar (model prog w) A (call (.builtin "sorted") [.ref d]) Q E s:=by
 refine Calls.call_function_entry kind_sorted plain_sorted entry_sorted (args_sorted1 _) ?_
 unfold Builtin.«sorted»
 refine yaa (m:=checkCount "sorted" 1 1 _) (yab ?_)
 refine yaa (col ?_ fun s1 ord kp hR hp0 => ?_)
 ·exact hh
 have hol:ord.length=ks.length:=hp0.length_eq
 generalize hvs:(ord.map fun k=>Value.ref k.2)=vs
 have hvl:vs.length=ord.length:=by rw [← hvs,zbr]
 refine yaa (wpAny_newList ?_ (by first | (rw [yaf];lia) | (rw [zaO,yaf];lia)))
 have gL:(s1.heap.push (seqObj "list" vs.toArray 0)).get? s1.heap.objs.size=some (seqObj "list" vs.toArray 0):=zaC _ rfl
 have hk':∀ k∈ord,nT (bY (s1.heap.push (seqObj "list" vs.toArray 0)) s1.heap.objs.size vs) k:=fun k hk1=>by
  obtain ⟨⟨k1,k2,as,hr⟩,r⟩:=hk k (hp0.mem_iff.mp hk1)
  exact ⟨⟨k1,k2,as,lJ gL (fun z=>by injection z with z;exact absurd z (by decide)) (fun c o hc1 e=>uG hc1 e) _ k1 (Reads.keeps (fun b o e=>zak _ (kp b o e)) hr)⟩,r⟩
 have hc':∀ k∈ord,∀ l∈ord,aA k.1 l.1=true:=fun k h1 l h2=>hc k (hp0.mem_iff.mp h1) l (hp0.mem_iff.mp h2)
 generalize hdef:(PyData.none,(0:Addr))=df
 have key:∀ (A':yal),A'.units+8<cLine→∀ {P:PySem.Fin→yah→Prop}{E':yai→yah→Prop},(∀ p:Array Nat,p.Perm (zce vs.length).toArray→(2≤vs.length→p=Srt.run (fun i j=>eV (ord.getD i df).1 (ord.getD j df).1) (W.kas_sort vs.length))→P (.done (.ret .none)) { s1 with heap:=sortedHeap (s1.heap.push (seqObj "list" vs.toArray 0)) s1.heap.objs.size vs (p.toList.map fun i=>vs.getD i Value.none).toArray }) →
   yar (model prog w) A' (Builtin.«list.sort» ⟨[.ref s1.heap.objs.size],[]⟩) P E' { s1 with heap:=s1.heap.push (seqObj "list" vs.toArray 0) }:=fun A' hA P E' hP=>by
  refine qK (s:={ s1 with heap:=s1.heap.push (seqObj "list" vs.toArray 0) }) _ gL (by lia) (fun h2=>⟨tuples' true,fun Q' hQ' => ?_,?_⟩) hP
  ·obtain ⟨fs,f1,f2,f3⟩:=o7 hk'
   rw [hvs] at f1
   refine W.kat_kind (T:=.type "int") f1 (by lia) (fun v hv => ?_) (by decide) hQ'
   obtain ⟨i,t,rfl⟩:=f3 v hv
   intro A2 Q2 E2 s2 _ q
   exact wpAny_typeOf (typeIs_int s2 i t) q
  ·intro i j C hi hj hC
   have e:∀ i (hi:i<ord.length),ord.getD i df=ord[i]:=fun i hi=>by simp [zch,hi]
   rw [e i (by lia),e j (by lia)] at hC
   have:=Bc (prog:=prog) (w:=w) (A:=A') (s:={ s1 with heap:=bY (s1.heap.push (seqObj "list" vs.toArray 0)) s1.heap.objs.size vs }) hk' hc' (by lia) i j C (by lia) (by lia) hC
   rw [hvs] at this
   exact this
 refine yaa (yad (wpAny_call_entry slot_list_sort ⟨_,gL,rfl⟩ entry_list_sort (key _ ?_ fun p hp hrun=>⟨_,rfl,?_⟩) (args_list_sort _)))
 ·show A.units+1+1+8<cLine
  lia
 ·obtain ⟨c,hcc⟩:=sortedHeap_at (out:=(p.toList.map fun i=>vs.getD i Value.none).toArray) gL
  have hpl:p.toList.Perm (zce ord.length):=by have:=Array.perm_iff_toList_perm.mp hp;rw [hvl] at this;simpa using this
  have hin:∀ i∈p.toList,i<ord.length:=fun i hi=>zbw.mp (hpl.mem_iff.mp hi)
  have eo:(p.toList.map fun i=>vs.getD i Value.none)=(p.toList.map fun i=>ord.getD i df).map fun k=>Value.ref k.2:=by
   rw [zbP]
   refine zaA fun i hi => ?_
   have:=hin i hi
   rw [← hvs]
   simp [zch,this]
  refine yab ⟨_,rfl,h s1 _ (p.toList.map fun i=>ord.getD i df) c hR kp (fun b o e => ?_) (by rw [← eo];exact hcc) ?_ ?_⟩
  ·have lb:=zbY e
   show (sortedHeap _ _ _ _).get? b=some o
   rw [sortedHeap_old (zbQ lb) (by rw [size_push'];exact zaW lb)]
   exact zak _ e
  ·refine (hpl.map _).trans ?_
   have:(zce ord.length).map (fun i=>ord.getD i df)=ord:=by
    refine List.ext_getElem (by simp) fun i h1 h2 => ?_
    simp [zch,zah h2]
   rw [this];exact hp0
  ·exact zy (fun k hk1=>(hk' k hk1).1.1) hc' hp hvl hrun
end
end M6
namespace L2
open PySem PySem.Spec PyProof.Rows M6
def gk (W:yak) (a:Addr) (xs:List (yam×Addr)):Heap→Prop:=fun h=>(a==yas)=false∧∃ o es ep,h.get? a=some o∧o.ExactDict∧o.data=Data.dict es ep ∧
 es.toList=xs.map (fun x=>({ hash:=aV W x.1,key:=.ref x.2,val:=.bool true }:yav))∧(xs.map (·.1)).Nodup
theorem gk.at {W:yak}{a:Addr}{xs:List (yam×Addr)}{h h':Heap} (x:gk W a xs h) (e:∀ o,h.get? a=some o→h'.get? a=some o):gk W a xs h':=by
 obtain ⟨z,o,es,ep,h1,r⟩:=x
 exact ⟨z,o,es,ep,e o h1,r⟩
theorem gk.ok {P:yaj}{w W:yak}{H:Hp}{h:Heap}{a:Addr}{xs:List (yam×Addr)} (x:gk W a xs h):bD P w H h a (.ext (gk W a xs)):=by
 obtain ⟨z,o,es,ep,h1,r⟩:=id x
 exact ⟨x,⟨o,h1⟩,fun h1 h2 y e=>y.at e⟩
theorem jh {P:yaj}{w W:yak}{H:Hp}{h:Heap}{a b:Addr}{xs:List (yam×Addr)} (x:bD P w H h a (.ext (gk W b xs))):b=a:=by
 obtain ⟨y,⟨o,e⟩,st⟩:=x
 apply Classical.byContradiction
 intro hne
 obtain ⟨z,ob,es,ep,h1,h2,h3,r⟩:=id y
 have g1:(h.update b fun _=>{ cls:=.none }).get? a=some o:=(zal _ _ hne).trans e
 have g2:(h.update b fun _=>{ cls:=.none }).get? b=some { cls:=.none }:=zaq (fun _=>{ cls:=.none }) h1 rfl
 obtain ⟨_,o2,es2,ep2,k1,k2,k3,_⟩:=st h (h.update b fun _=>{ cls:=.none }) y fun o' e'=>by rw [e] at e';cases e';exact g1
 rw [g2] at k1
 cases k1
 cases k3
noncomputable def qy (xs:List (yam×Addr)) (d:yam) (b:Addr):List (yam×Addr):=if (xs.any fun x=>decide (x.1=d))=true then xs else xs++[(d,b)]
theorem oM (xs:List (yam×Addr)) (d:yam) (b:Addr):storedH (xs.map fun x=>(x.1,x.2,Value.bool true)) d b (.bool true)=(qy xs d b).map fun x=>(x.1,x.2,Value.bool true):=by
 have e:(atKey (xs.map fun x=>(x.1,x.2,Value.bool true)) d).isSome=(xs.any fun x=>decide (x.1=d)):=by
  unfold atKey
  rw [Option.isSome_map]
  induction xs with
  | nil=>rfl
  | cons x xs ih =>
   rw [zbC,List.find?_cons,zbE]
   by_cases h:x.1=d
   ·simp [h]
   ·simp only [h,decide_false,Bool.false_or];exact ih
 unfold storedH qy
 rw [e]
 by_cases h:(xs.any fun x=>decide (x.1=d))=true
 ·rw [yIp h,yIp h,zbP]
  refine zaA fun x _ => ?_
  simp only [Function.comp,putAt]
  split <;> rfl
 ·rw [yIn h,yIn h,zbu];rfl
section
variable {X:Cx}{pins:List (Addr×Obj)}{σ:St}{H:Hp}{s:yah}{A:yal}{E:yai→yah→Prop}
def pZ (K:yaE) (H:Hp) (xs:List (yam×Addr)):Prop:=∀ x∈xs,bh x.1=true∧x.1.depth≤6∧bJ K H x.1 (.ref x.2)
theorem Inv.key (I:Inv X pins σ H s) {d:yam}{b:Addr} (h1:bh d=true) (h2:d.depth≤6) (h3:bJ X.K H d (.ref b)):isKey s.heap d b :=
 ⟨h1,h2,I.reads d (.ref b) (.ref b) h3 rfl⟩
end
theorem fB {α:Type} (f:α→Addr):∀ l:List α,Vals (l.map fun x=>V.ref (f x)) (l.map fun x=>Value.ref (f x))
 | []=>.nil
 | x::l=>.cons rfl (fB f l)
end L2
namespace M6
open PySem PySem.Spec PyProof.Rows
section
variable {prog:yaj}{w:yak}{A:yal}{E:yai→yah→Prop}{s:yah}
theorem xT {es:Array yav}{acc:Array yai} (hacc:ItemsOf (fun i v=>∃ e,es[i]? = some e∧v=e.key) acc es.size):acc.toList=es.toList.map (·.key):=by
 refine List.ext_getElem? fun i => ?_
 rw [zap,zaP,zap]
 cases z:acc[i]? with
 | some v =>
  obtain ⟨e,he,rfl⟩:=hacc.2 i v z
  rw [he];rfl
 | none =>
  have:es.size≤i:=by rw [← hacc.1];exact Array.getElem?_eq_none_iff.mp z
  rw [zaj this];rfl
end
end M6
namespace M
open PySem PySem.Spec PyProof.Rows L2 M6
def nF (W:yak) (ks:List D):Addr→List Addr→Heap→Prop:=fun a bs=>gk W a ((ks.map py).zip bs)
noncomputable def nO (W:yak) (ks:List D):MO:=.zk (nF W ks) ks
def ef (d:D):Prop:=bN d=true∧bh (py d)=true∧(py d).depth≤6∧∃ es,d = .tup es
noncomputable def putN (ks:List D) (k:D):List D:=if (ks.any fun j=>decide (py j=py k))=true then ks else ks++[k]
section
variable {K:yaE}
theorem gQ {w:Wd}{H:Hp}{S:aJ}{d:D}{v:V} (ok:Ok K w H S) (h:Rep K w d v) (g:ef d):∃ b,v = .ref b∧bJ K H (py d) (.ref b):=by
 obtain ⟨g1,g2,g3,es,rfl⟩:=g
 have h2:=h
 simp only [Rep] at h2
 obtain ⟨b,ys,rfl,_⟩:=h2
 have:=sj ok h (by simpa [aU] using g1)
 exact ⟨b,rfl,by simpa [aU] using this⟩
theorem gM {w:Wd}{H:Hp}{S:aJ} (ok:Ok K w H S):∀ {ks:List D}{bs:List Addr},aj K w ks (bs.map V.ref)→(∀ k∈ks,ef k)→pZ K H ((ks.map py).zip bs)
 | [],bs,_,_=>fun x hx=>by simp at hx
 | k::ks,[],h,_=>by simp only [zbM,aj] at h;obtain ⟨_,_,z,_⟩:=h;cases z
 | k::ks,b::bs,h,g=>by
  simp only [zbC,aj] at h
  obtain ⟨x,r,e,h1,h2⟩:=h
  injection e with e1 e2
  subst e1;subst e2
  intro y hy
  rw [zbC,zaG] at hy
  rcases zbB.mp hy with rfl | hy
  ·obtain ⟨b',e,hd⟩:=gQ ok h1 (g k (by simp))
   cases e
   exact ⟨(g k (by simp)).2.1,(g k (by simp)).2.2.1,hd⟩
  ·exact gM ok h2 (fun k hk=>g k (zar _ hk)) y hy
theorem wU {ks:List D}{bs:List Addr}{k:D}{b:Addr} (h:ks.length=bs.length):∃ bs',qy ((ks.map py).zip bs) (py k) b=((putN ks k).map py).zip bs'∧(bs'=bs∧putN ks k=ks∨bs'=bs++[b]∧putN ks k=ks++[k]):=by
 have e:(((ks.map py).zip bs).any fun x=>decide (x.1=py k))=(ks.any fun j=>decide (py j=py k)):=by
  have:((ks.map py).zip bs).map (·.1)=ks.map py:=zbl (by rw [zbr];lia)
  have h1:(((ks.map py).zip bs).any fun x=>decide (x.1=py k))=((((ks.map py).zip bs).map (·.1)).any fun d=>decide (d=py k)):=by rw [zbN];rfl
  rw [h1,this,zbN];rfl
 unfold qy putN
 rw [e]
 by_cases hc:(ks.any fun j=>decide (py j=py k))=true
 ·rw [yIp hc,yIp hc]
  exact ⟨bs,rfl,.inl ⟨rfl,rfl⟩⟩
 ·rw [yIn hc,yIn hc]
  refine ⟨bs++[b],?_,.inr ⟨rfl,rfl⟩⟩
  rw [zbu,List.zip_append (by rw [zbr];exact h)];rfl
theorem rM {w:Wd}:∀ {ks:List D}{bs:List Addr},aj K w ks (bs.map V.ref)→∀ x∈ks.zip bs,Rep K w x.1 (.ref x.2)
 | [],_,_,x,hx=>by simp at hx
 | _::_,[],_,x,hx=>by simp at hx
 | k::ks,b::bs,h,x,hx=>by
  simp only [zbC,aj] at h
  obtain ⟨y,r,e,h1,h2⟩:=h
  injection e with e1 e2
  subst e1;subst e2
  rw [zaG] at hx
  rcases zbB.mp hx with rfl | hx
  ·exact h1
  ·exact rM h2 x hx
theorem f6 {w:Wd}:∀ {o:List (D×Addr)},(∀ x∈o,Rep K w x.1 (.ref x.2))→aj K w (o.map (·.1)) (o.map fun x=>V.ref x.2)
 | [],_=>.nil
 | x::o,h=>.cons (h x (by simp)) (f6 fun y hy=>h y (zar _ hy))
end
end M
namespace M7
open PySem PySem.Spec PyProof.Rows M5
def kE (xs:Array Nat):Prop:=∀ i j,i<j→(hj:j<xs.size)→(hi:i<xs.size)→xs[i]<xs[j]
theorem kh {xs:Array Nat} (hx:kE xs) (j:Nat):∀ (f lo hi:Nat),hi - lo≤f→lo≤hi→hi≤xs.size→(∀ i (h:i<xs.size),i<lo→xs[i]<j)→(∀ i (h:i<xs.size),hi≤i→j≤xs[i]) →
  SetTable.below.go xs j f lo hi≤xs.size∧(∀ i (h:i<xs.size),i<SetTable.below.go xs j f lo hi→xs[i]<j)∧∀ i (h:i<xs.size),SetTable.below.go xs j f lo hi≤i→j≤xs[i]
 | 0,lo,hi,h1,h2,h3,h4,h5=>by
  rw [SetTable.below.go.eq_1]
  have:hi=lo:=by lia
  subst this
  exact ⟨h3,h4,h5⟩
 | f+1,lo,hi,h1,h2,h3,h4,h5=>by
  rw [SetTable.below.go.eq_2]
  by_cases hl:lo<hi
  ·rw [yIp hl]
   dsimp only
   have hm:(lo+hi) / 2<xs.size:=by lia
   have eg:xs.getD ((lo+hi) / 2) j=xs[(lo+hi) / 2]:=by simp [zcg,hm]
   rw [eg]
   by_cases hc:xs[(lo+hi) / 2]<j
   ·rw [yIp hc]
    refine kh hx j f _ hi (by lia) (by lia) h3 (fun i h hi' => ?_) h5
    rcases zbV i ((lo+hi) / 2) with z | z
    ·have:=hx i _ z hm h;lia
    ·obtain rfl:i=(lo+hi) / 2:=by lia
     exact hc
   ·rw [yIn hc]
    refine kh hx j f lo _ (by lia) (by lia) (by lia) h4 (fun i h hi' => ?_)
    rcases zbV ((lo+hi) / 2) i with z | z
    ·have:=hx _ i z h hm;lia
    ·obtain rfl:i=(lo+hi) / 2:=by lia
     lia
  ·rw [yIn hl]
   have:hi=lo:=by lia
   subst this
   exact ⟨h3,h4,h5⟩
theorem e9 {xs:Array Nat} (hx:kE xs) (j:Nat):SetTable.below xs j≤xs.size∧(∀ i (h:i<xs.size),i<SetTable.below xs j→xs[i]<j)∧∀ i (h:i<xs.size),SetTable.below xs j≤i→j≤xs[i] :=
 kh hx j xs.size 0 xs.size (by lia) (zcc _) (zca _) (fun i h z=>absurd z (Nat.not_lt_zero _)) (fun i h z=>by lia)
theorem rB {xs:Array Nat} (hx:kE xs) {i:Nat} (hi:i<xs.size):SetTable.below xs (xs[i]+1)=i+1:=by
 obtain ⟨h1,h2,h3⟩:=e9 hx (xs[i]+1)
 have a1:i<SetTable.below xs (xs[i]+1):=by
  rcases zbV i (SetTable.below xs (xs[i]+1)) with z | z
  ·exact z
  ·have:=h3 i hi z;lia
 rcases zbV (i+1) (SetTable.below xs (xs[i]+1)) with z | z
 ·have hs:i+1<xs.size:=by lia
  have:=h2 (i+1) hs z
  have:=hx i (i+1) (by lia) hs hi
  lia
 ·lia
theorem rA {xs:Array Nat} (hx:kE xs):SetTable.below xs 0=0:=by
 obtain ⟨h1,h2,h3⟩:=e9 hx 0
 rcases Nat.eq_zero_or_pos (SetTable.below xs 0) with z | z
 ·exact z
 ·have:=h2 0 (by lia) z;lia
theorem fF {xs:Array Nat}:kE xs↔xs.toList.Pairwise (· < ·):=by
 rw [List.pairwise_iff_getElem]
 constructor
 ·intro h i j hi hj hij
  have:=h i j hij (by simpa using hj) (by simpa using hi)
  simpa using this
 ·intro h i j hij hj hi
  have:=h i j (by simpa using hi) (by simpa using hj) hij
  simpa using this
theorem wH {xs:Array Nat}{j:Nat} (hx:kE xs) (hj:(xs[SetTable.below xs j]? == some j)=false):kE (SetTable.insertAt xs (SetTable.below xs j) j):=by
 obtain ⟨h1,h2,h3⟩:=e9 hx j
 rw [fF] at hx ⊢
 have e:(SetTable.insertAt xs (SetTable.below xs j) j).toList=xs.toList.take (SetTable.below xs j)++[j]++xs.toList.drop (SetTable.below xs j):=by
  unfold SetTable.insertAt
  simp [Array.toList_extract]
  exact List.take_of_length_le (by simp)
 rw [e]
 generalize SetTable.below xs j=p at *
 have ht:∀ x∈xs.toList.take p,x<j:=fun x hx'=>by
  obtain ⟨i,hi,rfl⟩:=zaz hx'
  rw [zbb] at hi
  have:=h2 i (by simp at hi;lia) (by lia)
  simpa using this
 have hd:∀ x∈xs.toList.drop p,j<x:=fun x hx'=>by
  obtain ⟨i,hi,rfl⟩:=zaz hx'
  rw [zbc] at hi
  have hi':p+i<xs.size:=by simp at hi;lia
  have a1:=h3 (p+i) hi' (by lia)
  have e1:(xs.toList.drop p)[i]=xs[p+i]:=by simp
  rw [e1]
  have hps:p<xs.size:=by lia
  have a2:xs[p]≠j:=fun z=>by
   rw [zag hps,z] at hj
   simp at hj
  rcases Nat.eq_zero_or_pos i with rfl | z
  ·have:xs[p+0]=xs[p]:=rfl
   lia
  ·have a3:=h3 p hps (zca _)
   have a4:=fF.mpr hx p (p+i) (by lia) hi' hps
   lia
 rw [zav,zav]
 refine ⟨⟨hx.sublist (List.take_sublist ..),by simp,fun a ha b hb => ?_⟩,hx.sublist (List.drop_sublist ..),fun a ha b hb => ?_⟩
 ·rw [zaF.mp hb];exact ht a ha
 ·rcases zbn.mp ha with ha | ha
  ·exact zbU (ht a ha) (hd b hb)
  ·rw [zaF.mp ha];exact hd b hb
theorem nC {α:Type} (f:Nat→Option α):∀ l:List Nat,(List.map (fun x=>x.1) (List.filterMap (fun j=>Option.map (fun x=>(j,x)) (f j)) l)).Sublist l
 | []=>.slnil
 | a::l=>by
  rw [zax]
  cases f a with
  | none=>exact .cons a (nC f l)
  | some x=>exact .cons₂ a (nC f l)
section
variable {prog:yaj}{w:yak}{A:yal}{E:yai→yah→Prop}{s:yah}
theorem uR {l:Addr}{T:String}{ob:Obj}{Z:Heap→Prop}{Q:yai→yah→Prop}
  (hT:s.TypeIs (.ref l) T) (h1:isSubtype (.type T) (.type "set")=pure false) (h2:isSubtype (.type T) (.type "frozenset")=pure false) (h3:(Value.type T==Value.type "dict")=false)
  (it:∀ {A':yal}{s':yah}{Q':yai→yah→Prop}{E':yai→yah→Prop},(∀ b o,s.heap.get? b=some o→s'.heap.get? b=some o)→Q' (.ref s'.heap.objs.size) { s' with heap:=s'.heap.push ob }→yar (model prog w) A' (pyIter (.ref l)) Q' E' s')
  (hob:ob.isFreed=false)
  (lp:∀ (I:Addr) (h0:Heap) {R:Result→yah→Prop},(∀ b o,s.heap.get? b=some o→h0.get? b=some o)→h0.get? s.heap.objs.size=some (aK (!w.params.followText "set-order"))→h0.get? I=some ob→l≠I→s.heap.objs.size ∉ [I,l] →
   (∀ (h':Heap) (tk:Nat),Z h'→(∀ b o,b ∉ [s.heap.objs.size,I]→h0.get? b=some o→h'.get? b=some o)→R (.ok (.ret .none)) { s with heap:=h',toks:=tk })→codeAny (model prog w) A.in1.in1 (.builtin "set.update.loop" ⟨[.ref s.heap.objs.size,.ref I],[]⟩) R { s with heap:=h0 })
  (h:∀ (h':Heap) (tk:Nat),Z h'→(∀ b o,b<s.heap.objs.size→s.heap.get? b=some o→h'.get? b=some o)→Q (.ref s.heap.objs.size) { s with heap:=h',toks:=tk }) :
  yar (model prog w) A (call (.type "set") [.ref l]) Q E s:=by
 obtain ⟨c,tl,hmro⟩:=PySem.F.called_set.mro
 have hmade:=PySem.F.called_set.made
 have hsub:=PySem.F.called_set.sub
 have g1:=PySem.F.called_set.notType
 have g2:=PySem.F.called_set.canCreate
 have hct:=PySem.F.typeCall_set_1 (.ref l)
 refine yaD (codeAny_of_tree ?_)
 show yar _ _ (callAny (.type "set") _) _ _ _
 refine yab ⟨Code.quiet_builtin _ (by decide +kernel),codeAny_builtin PySem.F.entry_type_call ?_⟩
 rw [Around.under_plain (weight_type_call_type "set" [.ref l] []) rfl]
 repeat (any_goals (first | assumption | wp_step))
 generalize hled:(!w.params.followText "set-order")=led
 refine yax (se (.ref l) (E:=E) (Q₁:=fun u s₁=>u = .ref s.heap.objs.size∧s₁={ s with heap:=s.heap.push (aK led) }) ⟨rfl,by rw [hled]⟩) fun r s₁ hr => ?_
 cases r with
 | error e=>exact hr
 | ok fl =>
  cases fl with
  | ret u =>
   obtain ⟨rfl,rfl⟩:=hr
   have gS:(s.heap.push (aK led)).get? s.heap.objs.size=some (aK led):=zaC _ rfl
   have tS:Shared.TypeIs { s with heap:=s.heap.push (aK led) } (.ref s.heap.objs.size) "set" := ⟨_,gS,rfl⟩
   have hli:=PySem.F.called_set.init.lookup
   have hbi:=PySem.F.called_set.init.bind (.ref s.heap.objs.size)
   repeat (any_goals (first | assumption | wp_step))
   refine yax (codeAny_call_builtin (R:=wants (fun r s₂=>r = .none∧∃ h' tk,s₂={ s with heap:=h',toks:=tk }∧Z h'∧(∀ b o,b<s.heap.objs.size→s.heap.get? b=some o→h'.get? b=some o)) E) PySem.F.called_set.init.plain PySem.F.entry_set_init (check_set_init_1 tS ?_)) fun r₂ s₂ hr₂ => ?_
   ·have hlS:l<s.heap.objs.size:=by obtain ⟨o,ho,_⟩:=hT;exact zbY ho
    have kp:∀ b o,s.heap.get? b=some o→(s.heap.push (aK led)).get? b=some o:=fun b o e=>zak _ e
    have tl1:Shared.TypeIs { s with heap:=s.heap.push (aK led) } (.ref l) T:=by obtain ⟨o,ho,z⟩:=hT;exact ⟨o,kp _ _ ho,z⟩
    unfold Builtin.«set.__init__» noKeywords Builtin.Frozenset.updateFrom
    generalize hPI:pyIter=PI
    wp_walk
    subst hPI
    refine it kp ?_
    have sz:(s.heap.push (aK led)).objs.size=s.heap.objs.size+1:=zbA ..
    have kp2:∀ b o,s.heap.get? b=some o→((s.heap.push (aK led)).push ob).get? b=some o:=fun b o e=>zak _ (kp b o e)
    have hne:l≠(s.heap.push (aK led)).objs.size:=by rw [sz];exact zbQ (zaW hlS)
    have hSf:s.heap.objs.size ∉ [(s.heap.push (aK led)).objs.size,l]:=by
     rw [sz]
     simp only [zbB,zbh,or_false]
     rintro (z | z)
     ·exact absurd z (by lia)
     ·rw [z] at hlS;exact zbF _ hlS
    refine yaa (wpAny_runValue ?_)
    refine lp _ _ kp2 (by rw [hled];exact zak _ gS) (zaC _ hob) hne hSf fun h' tk' hS' hm => ?_
    ·refine yab (yab ⟨rfl,h',tk',rfl,hS',fun b o hb e=>hm b o ?_ (kp2 b o e)⟩)
     rw [sz]
     simp only [zbB,zbh,or_false]
     rintro (z | z)
     ·exact zbQ hb z
     ·exact zbQ (zaW hb) z
   ·cases r₂ with
    | error e=>exact hr₂
    | ok fl₂ =>
     cases fl₂ with
     | ret r =>
      obtain ⟨rfl,h',tk,rfl,hS',hk'⟩:=hr₂
      repeat (any_goals (first | assumption | wp_step))
      exact h _ _ hS' hk'
     | _=>exact hr₂.elim
  | _=>exact hr.elim
theorem BY {a:Addr}{ep i sl:Nat}{es:Array (Int×yai)}{t:SetTable}{Q:Option (yai×Nat)→yah→Prop} (hb:w.params.followText "set-order" = false) (hS:nW s.heap a es ep t) (hf:t.fits es.size=true) (h1:(!t.plain&&decide (es.size > 1))=false) (hl:t.led=true)
  (h:Q (match es[SetTable.below t.place sl]?,t.place[SetTable.below t.place sl]? with | some (_,x),some j=>some (x,j+1) | _,_=>none) s):yar (model prog w) A (setNext a sl i ep) Q E s:=by
 obtain ⟨o,ho,hc,hd⟩:=hS
 unfold setNext
 refine yaa (wpAny_setState_of ho hd hf ?_)
 dsimp only
 refine yaa (fM ?_)
 rw [yIn (by rw [hb];decide)]
 rw [yIn (by
  show ¬ ((!t.plain&&decide (es.size > 1))=true)
  rw [h1];decide)]
 refine yaa ?_
 show yar _ _ (if (!t.led && !es.isEmpty)=true then unsupported "set:maker-not-led" else pure ()) _ _ _
 rw [yIn (by rw [hl];simp)]
 refine yab (yab ?_)
 exact h
def rL (w:yak) (h:Heap) (a:Addr) (es:Array (Int×yai)) (ep:Nat) (t:SetTable):Prop :=
 ∃ o,h.get? a=some o∧o.ExactSet∧o.data = .set es ep t∧t.fits es.size=true∧t.led=(!w.params.followText "set-order")∧(t.plain=true→kE t.place)
theorem rL.keep {w:yak}{h h':Heap}{a:Addr}{es:Array (Int×yai)}{ep:Nat}{t:SetTable} (x:rL w h a es ep t) (e:∀ o,h.get? a=some o→h'.get? a=some o):rL w h' a es ep t :=
 let ⟨o,ho,r⟩:=x;⟨o,e o ho,r⟩
theorem xS {a:Addr}{es:Array (Int×yai)}{ep:Nat}{t:SetTable}{Q:yai→yah→Prop} (hS:rL w s.heap a es ep t) (hn:es.size<4000)
  (h:∀ (I:Addr) (ord:List yai) (fp:List Addr) (St:Nat→Heap→Prop) (h':Heap) d,(∀ b o,s.heap.get? b=some o→h'.get? b=some o)→s.heap.objs.size≤I→(∀ b∈fp,b=a∨s.heap.objs.size≤b) →
   (∀ {A':yal},A'.handled=none→Walks prog w A' I fp [I] ord.length (fun i v=>ord[i]? = some v) St)→St 0 h'→ord.Perm (es.toList.map (·.2))→Q (.ref I) { s with heap:=h',drawn:=d }) :
  yar (model prog w) A (pyIter (.ref a)) Q E s:=by
 obtain ⟨o,ho,hex,hd,hf,hled,hpl⟩:=hS
 have sa:nW s.heap a es ep t:=⟨o,ho,hex.1,hd⟩
 have la:a<s.heap.objs.size:=zbY ho
 refine wpAny_pyIter_slot sa.typeIs M5.F.dP (wpAny_call_entry M5.F.dP sa.typeIs M5.F.iJ ?_ (M5.F.ki _))
 unfold Builtin.«frozenset.__iter__»
 refine yaa (wpAny_of_eq (a:=a) rfl ?_)
 refine yaa (yaa (wpAny_setEntries_of ho hd hf (yab ?_)))
 refine yaa ?_
 unfold setDrawn
 refine yaa (wpAny_setState_of ho hd hf ?_)
 dsimp only
 refine yaa (fM ?_)
 refine yab ?_
 cases hb:w.params.followText "set-order" with
 | true =>
  rw [yIn (by simp)]
  refine yaa (yab ?_)
  refine yaa (wpAny_setEpoch_of ho hd hf ?_)
  refine yaa (yae ?_)
  have ho2:=zak (vj (rawInt 0) 0 a es.size ep) ho
  have hit:eG (s.heap.push (vj (rawInt 0) 0 a es.size ep)) s.heap.objs.size (rawInt 0) 0 a es.size ep:=⟨_,zaC _ rfl,rfl,rfl⟩
  refine yab ⟨_,rfl,"set_iterator",_,⟨_,zaC _ rfl,rfl⟩,M5.F.slot_next.lookup,?_⟩
  have hpk:=lN (w.params.setOrder a ep) es
  refine h s.heap.objs.size ((pickOrder (w.params.setOrder a ep) es).toList.map (·.2)) [s.heap.objs.size,a] _ _ s.drawn (fun b o e=>zak _ e) (zca _) (fun b z => ?_)
   (fun {A'} hh=>mw (sl:=fun _=>0) (ep:=ep) (es:=es) (t:=t) hh (zbQ la) hf (by rw [zbr,hpk.length_eq,zaB]) ?_ ?_) ⟨hit,_,ho2,hex.1,hd⟩ (hpk.map _)
  ·simp only [zbB,zbh,or_false] at z
   rcases z with rfl | rfl
   ·exact .inr (zca _)
   ·exact .inl rfl
  ·intro i x hx A' s' Q' E' sa' q
   refine sU hb sa' hf ?_
   rw [zaP,zap] at hx
   cases hy:(pickOrder (w.params.setOrder a ep) es)[i]? with
   | none=>rw [hy] at hx;cases hx
   | some e=>rw [hy] at hx;injection hx with hx;subst hx;exact q
  ·intro A' s' Q' E' sa' q
   refine sU hb sa' hf ?_
   rw [zaj (by rw [zbr,zaB];exact zca _)]
   exact q
 | false =>
  rw [hb] at hled
  have hps:t.place.size=es.size:=by
   simp only [SetTable.fits,zbm,beq_iff_eq] at hf
   exact hf.1
  by_cases hz:(!t.plain&&decide (es.size > 1))=false
  ·have hR:kE t.place:=by
    cases hp1:t.plain with
    | true=>exact hpl hp1
    | false =>
     rw [hp1] at hz
     have hz:decide (es.size > 1)=false:=hz
     have hz:=of_decide_eq_false hz
     intro i j hij hj _
     lia
   rw [yIn (by
    show ¬ ((!false&&(!t.plain&&decide (es.size > 1)))=true)
    rw [hz];decide)]
   refine yaa (yab ?_)
   refine yaa (wpAny_setEpoch_of ho hd hf ?_)
   refine yaa (yae ?_)
   have ho2:=zak (vj (rawInt 0) 0 a es.size ep) ho
   have hit:eG (s.heap.push (vj (rawInt 0) 0 a es.size ep)) s.heap.objs.size (rawInt 0) 0 a es.size ep:=⟨_,zaC _ rfl,rfl,rfl⟩
   refine yab ⟨_,rfl,"set_iterator",_,⟨_,zaC _ rfl,rfl⟩,M5.F.slot_next.lookup,?_⟩
   have Ci:∀ i,i≤es.size→SetTable.below t.place (if i=0 then 0 else t.place.getD (i - 1) 0+1)=i:=fun i hi=>by
    by_cases h0:i=0
    ·subst h0;rw [yIp rfl];exact rA hR
    ·rw [yIn h0]
     have h1:i - 1<t.place.size:=by lia
     have e1:t.place.getD (i - 1) 0=t.place[i - 1]:=by simp [zcg,h1]
     rw [e1,rB hR h1];lia
   refine h s.heap.objs.size (es.toList.map (·.2)) [s.heap.objs.size,a] _ _ s.drawn (fun b o e=>zak _ e) (zca _) (fun b z => ?_)
    (fun {A'} hh=>mw (sl:=fun i=>if i=0 then 0 else t.place.getD (i - 1) 0+1) (ep:=ep) (es:=es) (t:=t) hh (zbQ la) hf (by rw [zbr,zaB]) ?_ ?_) ⟨hit,_,ho2,hex.1,hd⟩ (.refl _)
   ·simp only [zbB,zbh,or_false] at z
    rcases z with rfl | rfl
    ·exact .inr (zca _)
    ·exact .inl rfl
   ·intro i x hx A' s' Q' E' sa' q
    have hi:i<es.size:=by
     have:=(zac.mp hx).1
     simpa using this
    refine BY hb sa' hf hz hled ?_
    rw [zaP,zap,zag hi] at hx
    injection hx with hx
    subst hx
    rw [Ci i (by lia),zag hi,zag (by lia:i<t.place.size)]
    have e1:(if i+1=0 then 0 else t.place.getD (i+1 - 1) 0+1)=t.place[i]'(by lia)+1:=by
     rw [yIn (by lia),Nat.add_sub_cancel]
     simp [zcg,(by lia:i<t.place.size)]
    rw [e1] at q
    exact q
   ·intro A' s' Q' E' sa' q
    refine BY hb sa' hf hz hled ?_
    rw [zbr,zaB]
    have en:es[SetTable.below t.place (if es.size=0 then 0 else t.place.getD (es.size - 1) 0+1)]? = none:=by
     rw [Ci es.size (zca _)]
     exact zaj (zca _)
    rw [en]
    exact q
  ·have hz:(!t.plain&&decide (es.size > 1))=true:=by simpa using hz
   rw [yIp (by
    show (!false&&(!t.plain&&decide (es.size > 1)))=true
    rw [hz];rfl)]
   refine yaa (kj _ _ (by simp) fun ps d hps => ?_)
   obtain ⟨l,e1,e2,e3⟩:=pull es ps hps
   refine yaa ?_
   unfold newTuple
   refine yae (s:={ s with drawn:=d }) ?_ (by
    have:ps.length=es.size:=by rw [hps.length_eq,zaU]
    show (ps.map fun (i:Nat)=>rawInt i).toArray.size≤yag
    rw [zaO,zbr,yaf];lia)
   refine yaa (wpAny_setEpoch_of (s:={ s with heap:=s.heap.push _,drawn:=d }) (zak _ ho) hd hf ?_)
   refine yaa (yae ?_)
   generalize hto:({ cls:=.type "tuple",data:=.seq (ps.map fun (i:Nat)=>rawInt i).toArray }:Obj)=to
   have hT1:(s.heap.push to).get? s.heap.objs.size=some to:=zaC _ (by rw [← hto];rfl)
   have z1:(s.heap.push to).objs.size=s.heap.objs.size+1:=zbA ..
   have gI:((s.heap.push to).push (vj (.ref s.heap.objs.size) 0 a es.size ep)).get? (s.heap.push to).objs.size=some (vj (.ref s.heap.objs.size) 0 a es.size ep):=zaC _ rfl
   refine yab ⟨_,rfl,"set_iterator",_,⟨_,gI,rfl⟩,M5.F.slot_next.lookup,?_⟩
   refine h (s.heap.push to).objs.size (l.map (·.2)) [(s.heap.push to).objs.size,a,s.heap.objs.size] _ _ d (fun b o e=>zak _ (zak _ e)) (by rw [z1];exact zcb _) (fun b z => ?_)
    (fun {A'} hh=>vo (T:=s.heap.objs.size) (ep:=ep) (es:=es) (t:=t) (ps:=ps) hh (by rw [z1];exact zbQ (zaW la)) (by rw [z1];exact zbQ (Nat.lt_succ_self _)) hf (by rw [zbr];exact e1) (fun i h1 h2 => ?_)) ⟨⟨_,gI,rfl,rfl⟩,⟨_,zak _ (zak _ ho),hex.1,hd⟩,⟨_,zak _ hT1,by rw [← hto],0,by rw [← hto]⟩⟩ (e2.map _)
   ·rw [z1] at z
    simp only [zbB,zbh,or_false] at z
    rcases z with rfl | rfl | rfl
    ·exact .inr (zcb _)
    ·exact .inl rfl
    ·exact .inr (zca _)
   ·have h3:i<l.length:=by rw [zbr] at h2;exact h2
    refine ⟨l[i].1,?_⟩
    rw [e3 i h1 h3,zbi]
theorem uM {a:Addr}{Q:Bool→yah→Prop} (hT:s.TypeIs (.ref a) "set") (h:Q false s):yar (model prog w) A (Builtin.List.listLengthHint (.ref a)) Q E s:=by
 unfold Builtin.List.listLengthHint
 refine yaa (wpAny_specialOf hT PySem.F.slot_set_len.lookup ?_)
 dsimp only
 rw [show splitId "set.__len__" = some ("set","__len__") by decide +kernel]
 dsimp only
 refine yaa (wpAny_isInstance (b:=true) hT sub_set_self ?_)
 rw [yIn (by decide)]
 rw [yIp (by decide +kernel)]
 refine yaa (wpAny_typeOf hT ?_)
 exact yab h
theorem qW {a L:Addr}{es:Array (Int×yai)}{ep:Nat}{t:SetTable}{R:Result→yah→Prop} (hh:A.handled=none) (hS:rL w s.heap a es ep t) (hn:es.size<4000) (hL:s.heap.get? L=some { cls:=.type "list",data:=.seq #[] }) (hLa:L≠a)
  (hR:∀ s' (ord:List yai) c',(∀ b o,b≠L→s.heap.get? b=some o→s'.heap.get? b=some o)→s'.gens=s.gens→s'.os=s.os→s'.heap.get? L=some { cls:=.type "list",dict:=none,data:=.seq ord.toArray c',slots := #[] }→ord.Perm (es.toList.map (·.2))→R (.ok (.ret (.ref L))) s') :
  yar (model prog w) A.in1 (Builtin.List.listExtendWith (.ref L) (.ref a) (.ref L))
   (fun fin s'=>match fin with | .done f=>R (.ok f) s' | .again c'=>c'.quiet=true∧codeAny (model prog w) A c' R s') (fun e s'=>R (.error e) s') s:=by
 have tS:s.TypeIs (.ref a) "set" := let ⟨o,ho,hex,_⟩:=hS;⟨o,ho,hex.1⟩
 unfold Builtin.List.listExtendWith
 refine yaa (wpAny_typeOf tS ?_)
 have h1:Builtin.List.listSameRef (.ref L) (.ref a)=false:=by simp [Builtin.List.listSameRef,hLa]
 have h2:(Value.type "set" == Value.type "list")=false:=by decide
 have h3:(Value.type "set" == Value.type "tuple")=false:=by decide
 simp only [h1,h2,h3,zbH,zaK,if_false]
 refine yaa (xS hS hn fun I ord fp St h' d kp hI hfp W st0 tx => ?_)
 have ll:L<s.heap.objs.size:=zbY hL
 have hLf:L ∉ fp:=fun z=>(hfp L z).elim hLa fun z=>absurd ll (Nat.not_lt.mpr z)
 have tS':Shared.TypeIs { s with heap:=h',drawn:=d } (.ref a) "set" := let ⟨o,ho,hc⟩:=tS;⟨o,kp _ _ ho,hc⟩
 refine yaa (yad (uM tS' ?_))
 rw [yIp (by rfl)]
 refine yaa (wpAny_rule ?_)
 refine yaa ?_
 show yar _ A.in1 (updateSeq L (·.push .none) >>= fun _=>updateSeq L (·.pop)) _ _ _
 refine yaa (wpAny_updateSeq (s:={ s with heap:=h',drawn:=d }) (kp _ _ hL) rfl ?_)
 have g2:=zaq (Obj.mapSeq (·.push Value.none)) (kp _ _ hL) rfl
 refine wpAny_updateSeq (hz:=by seq_fits) g2 rfl ?_
 have g3:=zaq (Obj.mapSeq (·.pop)) g2 rfl
 have oth:∀ b o,b≠L→h'.get? b=some o→((h'.update L (Obj.mapSeq (·.push Value.none))).update L (Obj.mapSeq (·.pop))).get? b=some o :=
  fun b o hb e=>(zal _ _ (Ne.symm hb)).trans ((zal _ _ (Ne.symm hb)).trans e)
 have hlen:ord.length=es.size:=by rw [tx.length_eq,zbr,zaB]
 have WS:=(W (A':=A.in1) hh).toS
 refine yab ⟨plainId_quiet PySem.F.plain_extend_loop _,codeAny_extend_loopS WS (by rw [yaf];lia) _ hLf _ ord.length 0 _ _ _ rfl (zcc _)
   (WS.frame 0 { s with heap:=h',drawn:=d } _ s.toks st0 (zca _) fun b hb o e=>oth b o (fun z=>hLf (z ▸ hb)) e) g3 (ItemsOf.nil _) fun s' acc' c' hm hS' hacc => ?_⟩
 have ea:acc'=ord.toArray:=by
  refine Array.ext (by rw [hacc.1,zaO]) fun i h1 h2 => ?_
  have z:ord[i]? = some acc'[i]:=hacc.2 i acc'[i] (zag h1)
  have h2:i<ord.length:=by simpa using h2
  rw [zah h2] at z
  simpa using (zcd.inj z).symm
 rw [ea] at hS'
 refine hR s' ord c' (fun b o hb e => ?_) hm.gens hm.os hS' tx
 refine hm.heap b o ?_ (oth b o hb (kp b o e))
 simp only [zbB,zbh,or_false]
 rintro (z | z)
 ·exact hb z
 ·have:=zbY e
  rw [z] at this
  exact absurd this (Nat.not_lt.mpr hI)
theorem kY {a:Addr}{es:Array (Int×yai)}{ep:Nat}{t:SetTable}{R:Result→yah→Prop} (hh:A.handled=none) (hS:rL w s.heap a es ep t) (hn:es.size<4000)
  (hR:∀ s' (ord:List yai) c',(∀ b o,s.heap.get? b=some o→s'.heap.get? b=some o)→s'.gens=s.gens→s'.os=s.os→s'.heap.get? s.heap.objs.size=some { cls:=.type "list",dict:=none,data:=.seq ord.toArray c',slots := #[] }→ord.Perm (es.toList.map (·.2))→R (.ok (.ret (.ref s.heap.objs.size))) s') :
  codeAny (model prog w) A (.builtin "proto.collect" ⟨[.ref a],[]⟩) R s:=by
 have la:a<s.heap.objs.size:=let ⟨o,ho,_⟩:=hS;zbY ho
 refine codeAny_builtin entry_proto_collect' ?_
 show yar _ _ (do again (.builtin "list.__iadd__" ⟨[← newList [],.ref a],[]⟩)) _ _ s
 refine yaa (wpAny_newList (yab ⟨Code.quiet_builtin _ (by decide +kernel),codeAny_builtin entry_list_iadd' ?_⟩))
 rw [Around.under_plainId (show plainId "list.__iadd__" = true by decide +kernel) _]
 show yar _ _ (Builtin.List.listExtendWith (.ref s.heap.objs.size) (.ref a) (.ref s.heap.objs.size)) _ _ { s with heap:=s.heap.push (seqObj "list" #[] 0) }
 refine qW (s:={ s with heap:=s.heap.push (seqObj "list" #[] 0) }) ?_ (hS.keep fun o e=>zak _ e) hn (zaC _ rfl) (zbT la) fun s' ord c' kp e1 e2 g tx => ?_
 ·exact hh
 ·exact hR s' ord c' (fun b o e=>kp b o (zbQ (zbY e)) (zak _ e)) e1 e2 g tx
theorem pG {a:Addr}{es:Array (Int×yai)}{ep:Nat}{t:SetTable}{Q:List yai→yah→Prop} (hh:A.handled=none) (hS:rL w s.heap a es ep t) (hn:es.size<4000)
  (h:∀ s' (ord:List yai),(∀ b o,s.heap.get? b=some o→s'.heap.get? b=some o)→s'.gens=s.gens→s'.os=s.os→s.heap.objs.size≤s'.heap.objs.size→ord.Perm (es.toList.map (·.2))→Q ord s'):yar (model prog w) A (collect (.ref a)) Q E s:=by
 unfold collect
 refine yaa (wpAny_runValue (kY hh hS hn fun s' ord c' kp e1 e2 g tx => ?_))
 dsimp only
 refine yaa (wpAny_load g ?_)
 exact yab (h s' ord kp e1 e2 (zbS (zbY g)) tx)
end
end M7
namespace M
open PySem PySem.Spec PyProof.Rows L2
section
variable {X:Cx}{pos:Pos}
theorem sF {k:Nat}{ps:List Str}{sp:AN}{x:Str}{p:Pos} (D:Def X.prog X.w X.K X.mg X.base k x ps (aF X.K sp)) (hr:bC k X.A) (hg:Gl X x) (hdb:(x==("__debug__" : Str))=false:=by decide +kernel) :
  GE X (.Call (.Name x p) [] [] pos) (aCall sp nQ):=⟨by
 obtain ⟨f,fd,F,hm,hk,hb⟩:=D.ex
 refine mE (L2.wZ F hr hg hm hk hb .nil BS hdb) fun σ H Q h => ?_
 obtain ⟨w,δ,S,Qa,ok,env,q,bk⟩:=h
 exact ⟨w,[],S,Qa,ok,.nil,q,bk⟩⟩
end
end M
namespace M8
open PySem PySem.Spec PyProof.Rows
open PySem.SetTable (Probe bits runEnd leap turns)
theorem HE {α:Type} [DecidableEq α]:∀ {l m:List α},l.Nodup→(∀ x∈l,x∈m)→l.length≤m.length
 | [],m,_,_=>zcc _
 | a::l,m,hn,hs=>by
  rw [zbp] at hn
  have h1:l.length≤(m.erase a).length:=HE hn.2 fun x hx=>by
   have:x≠a:=fun e=>hn.1 (e ▸ hx)
   exact (List.mem_erase_of_ne this).mpr (hs x (zar _ hx))
  have h2:a∈m:=hs a (by simp)
  have h3:=List.length_erase_of_mem h2
  have h4:0<m.length:=List.length_pos_of_mem h2
  rw [zbk];lia
noncomputable def zl (m:Nat) (p:Probe):Probe :=
 if p.more > 0 then { p with j:=p.j+1,more:=p.more - 1 } else
 { p with j:=(leap m p.i p.perturb).1,more:=runEnd m (leap m p.i p.perturb).1 - (leap m p.i p.perturb).1,i:=(leap m p.i p.perturb).1,perturb:=(leap m p.i p.perturb).2 }
theorem yD (t:SetTable) (p:Probe):t.advance p=zl t.mask p:=rfl
noncomputable def dM (m:Nat) (q:Nat×Nat):Probe:={ j:=q.1,more:=runEnd m q.1 - q.1,i:=q.1,perturb:=q.2,dummy:=none }
noncomputable def ru (m:Nat) (h:Int):Nat→Nat×Nat
 | 0=>(bits h % (m+1),bits h)
 | k+1=>leap m (ru m h k).1 (ru m h k).2
noncomputable def road (m:Nat) (h:Int):Nat→Probe
 | 0=>dM m (ru m h 0)
 | n+1=>zl m (road m h n)
theorem ER (t:SetTable) (h:Int):t.probeStart h=road t.mask h 0:=rfl
noncomputable def nk (m:Nat) (h:Int):Nat→Nat
 | 0=>0
 | k+1=>nk m h k+(runEnd m (ru m h k).1 - (ru m h k).1)+1
theorem C0 {m i:Nat}:runEnd m i - i≤9:=by unfold runEnd;split <;> lia
theorem qw {m i:Nat}:i≤runEnd m i:=by unfold runEnd;split <;> lia
theorem wz {m i:Nat} (h:i≤m):runEnd m i≤m:=by unfold runEnd;split <;> lia
theorem wC (m:Nat) (h:Int):∀ k,(ru m h k).1≤m
 | 0=>zaX (zcf _ (Nat.succ_pos m))
 | k+1=>zaX (zcf _ (Nat.succ_pos m))
theorem BX (m:Nat) (h:Int):∀ k,nk m h k≤10*k
 | 0=>zca _
 | k+1=>by have:=BX m h k;have:=C0 (m:=m) (i:=(ru m h k).1);show nk m h k+_+1≤_;lia
theorem su (m:Nat) (h:Int):∀ k,road m h (nk m h k)=dM m (ru m h k)∧∀ c,c≤runEnd m (ru m h k).1 - (ru m h k).1→road m h (nk m h k+c)={ dM m (ru m h k) with j:=(ru m h k).1+c,more:=runEnd m (ru m h k).1 - (ru m h k).1 - c }:=by
 have step:∀ k,road m h (nk m h k)=dM m (ru m h k)→∀ c,c≤runEnd m (ru m h k).1 - (ru m h k).1→road m h (nk m h k+c)={ dM m (ru m h k) with j:=(ru m h k).1+c,more:=runEnd m (ru m h k).1 - (ru m h k).1 - c }:=by
  intro k hk c
  induction c with
  | zero=>intro _;rw [Nat.add_zero,hk];rfl
  | succ c ih =>
   intro hc
   show zl m (road m h (nk m h k+c))=_
   rw [ih (by lia)]
   unfold zl
   rw [yIp (by show runEnd m (ru m h k).1 - (ru m h k).1 - c > 0;lia)]
   dsimp only
   rw [zbG,Nat.sub_sub]
 intro k
 induction k with
 | zero=>exact ⟨rfl,step 0 rfl⟩
 | succ k ih =>
  have:road m h (nk m h (k+1))=dM m (ru m h (k+1)):=by
   show zl m (road m h (nk m h k+(runEnd m (ru m h k).1 - (ru m h k).1)))=_
   rw [ih.2 _ (zca _)]
   unfold zl
   rw [yIn (by show ¬ runEnd m (ru m h k).1 - (ru m h k).1 - (runEnd m (ru m h k).1 - (ru m h k).1) > 0;lia)]
   rfl
  exact ⟨this,step _ this⟩
theorem jw (m:Nat) (h:Int):∀ n,(road m h n).j+(road m h n).more≤m∧(road m h n).dummy=none
 | 0=>by
  have h1:=wC m h 0
  have h2:=wz h1
  have h3:=qw (m:=m) (i:=(ru m h 0).1)
  refine ⟨?_,rfl⟩
  show (ru m h 0).1+(runEnd m (ru m h 0).1 - (ru m h 0).1)≤m
  lia
 | n+1=>by
  have ih:=jw m h n
  show (zl m (road m h n)).j+(zl m (road m h n)).more≤m∧(zl m (road m h n)).dummy=none
  unfold zl
  split
  ·refine ⟨?_,ih.2⟩
   show (road m h n).j+1+((road m h n).more - 1)≤m
   lia
  ·refine ⟨?_,ih.2⟩
   dsimp only
   have h1:(leap m (road m h n).i (road m h n).perturb).1≤m:=zaX (zcf _ (Nat.succ_pos m))
   have h2:=wz h1
   have h3:=qw (m:=m) (i:=(leap m (road m h n).i (road m h n).perturb).1)
   lia
noncomputable def GX (m i:Nat):Nat:=(i*5+1) % (m+1)
noncomputable def it (m:Nat):Nat→Nat→Nat
 | 0,i=>i
 | k+1,i=>it m k (GX m i)
theorem jX (m:Nat):∀ a b i,it m (a+b) i=it m b (it m a i)
 | 0,b,i=>by rw [Nat.zero_add];rfl
 | a+1,b,i=>by rw [Nat.add_right_comm];exact jX m a b (GX m i)
noncomputable def Fq (m:Nat):Nat→Nat→List Nat
 | 0,_=>[]
 | k+1,i=>i::Fq m k (GX m i)
theorem sH (m:Nat):∀ k i j,j∈Fq m k i→∃ a,a<k∧it m a i=j
 | 0,i,j,h=>by simp [Fq] at h
 | k+1,i,j,h=>by
  simp only [Fq,zbB] at h
  rcases h with rfl | h
  ·exact ⟨0,by lia,rfl⟩
  ·obtain ⟨a,h1,h2⟩:=sH m k _ j h
   exact ⟨a+1,by lia,h2⟩
noncomputable def full (m:Nat):Bool:=(zce (m+1)).all (fun j=>(Fq m (m+1) 0).contains j)&&it m (m+1) 0==0
theorem F3:full 7=true:=by decide +kernel
theorem DT:full 31=true:=by decide +kernel
theorem AL:full 127=true:=by decide +kernel
theorem DO {m:Nat} (hf:full m=true) {i j:Nat} (hi:i≤m) (hj:j≤m):∃ k,k≤m∧it m k i=j:=by
 unfold full at hf
 rw [zbm,zbe] at hf
 have g:∀ x,x≤m→∃ a,a<m+1∧it m a 0=x:=fun x hx=>sH m _ _ _ (by
  have:=hf.1 x (zbw.mpr (by lia))
  simpa using this)
 have per:it m (m+1) 0=0:=by simpa using hf.2
 obtain ⟨a,a1,a2⟩:=g i hi
 obtain ⟨b,b1,b2⟩:=g j hj
 by_cases hab:a≤b
 ·refine ⟨b - a,by lia,?_⟩
  rw [← a2,← jX,← b2]
  congr 1;lia
 ·refine ⟨m+1 - a+b,by lia,?_⟩
  rw [← a2,← jX,← b2]
  have:a+(m+1 - a+b)=m+1+b:=by lia
  rw [this,jX,per]
theorem Ba (h:Int):bits h<2 ^ 64:=by
 unfold bits
 have h1:=zaI h (show (0:Int)<2 ^ 64 by decide)
 have h2:=Int.emod_nonneg h (show (2 ^ 64:Int)≠0 by decide)
 have h3:(2 ^ 64:Int)=((2 ^ 64:Nat):Int):=by decide
 lia
theorem wB (m:Nat) (h:Int):∀ k,(ru m h k).2=bits h / 32 ^ k
 | 0=>by simp [ru]
 | k+1=>by
  show (ru m h k).2 / 32=_
  rw [wB m h k,Nat.div_div_eq_div_mul,Nat.pow_succ]
theorem zT (m:Nat) (h:Int) {k:Nat} (hk:13≤k):(ru m h k).2=0:=by
 rw [wB]
 refine Nat.div_eq_of_lt (zaH (Ba h) ?_)
 exact zbR (show 2 ^ 64≤32 ^ 13 by decide) (zaw (by decide) hk)
theorem BO (m:Nat) (h:Int):∀ k,(ru m h (13+k)).1=it m k (ru m h 13).1
 | 0=>rfl
 | k+1=>by
  have e:(ru m h (13+(k+1))).1=GX m (ru m h (13+k)).1:=by
   show ((ru m h (13+k)).1*5+1+(ru m h (13+k)).2 / 32) % (m+1)=_
   rw [zT m h (by lia)];rfl
  rw [e,BO m h k,jX m k 1];rfl
theorem wD {m:Nat} (hf:full m=true) (h:Int) {j:Nat} (hj:j≤m):∃ k,k≤m+13∧(ru m h k).1=j:=by
 obtain ⟨k,h1,h2⟩:=DO hf (wC m h 13) hj
 exact ⟨13+k,by lia,by rw [BO,h2]⟩
theorem wF {m:Nat} (hf:full m=true) (h:Int) {j:Nat} (hj:j≤m):∃ n,n<10*turns m∧(road m h n).j=j:=by
 obtain ⟨k,h1,h2⟩:=wD hf h hj
 refine ⟨nk m h k,?_,?_⟩
 ·have:=BX m h k;unfold turns;lia
 ·rw [(su m h k).1];exact h2
def Way (m:Nat) (occ:Nat→Prop) (h:Int) (j:Nat):Prop:=∃ n,(road m h n).j=j∧∀ n'<n,occ (road m h n').j
theorem Way.mono {m:Nat}{occ occ':Nat→Prop}{h:Int}{j:Nat} (w:Way m occ h j) (g:∀ x,occ x→occ' x):Way m occ' h j:=by
 obtain ⟨n,h1,h2⟩:=w
 exact ⟨n,h1,fun n' hn=>g _ (h2 n' hn)⟩
theorem least {P:Nat→Prop}:∀ (n:Nat),P n→∃ k,k≤n∧P k∧∀ i<k,¬ P i
 | 0,h=>⟨0,zca _,h,fun i hi=>absurd hi (Nat.not_lt_zero _)⟩
 | n+1,h=>by
  by_cases g:∃ i,i≤n∧P i
  ·obtain ⟨i,h1,h2⟩:=g
   obtain ⟨k,a,b,c⟩:=least i h2
   exact ⟨k,by lia,b,c⟩
  ·exact ⟨n+1,zca _,h,fun i hi hp=>g ⟨i,by lia,hp⟩⟩
theorem qU {m:Nat} (hf:full m=true) (h:Int) {occ:List Nat} (hc:occ.length≤m):∃ N,N<10*turns m∧(road m h N).j ∉ occ∧∀ n<N,(road m h n).j∈occ:=by
 have:∃ j,j≤m∧j ∉ occ:=by
  apply Classical.byContradiction
  intro hne
  have h1:=HE (l:=zce (m+1)) (m:=occ) List.nodup_range fun x hx=>by
   have hx:=zbw.mp hx
   apply Classical.byContradiction
   intro hno
   exact hne ⟨x,by lia,hno⟩
  rw [zaU] at h1
  lia
 obtain ⟨j,h1,h2⟩:=this
 obtain ⟨n,h3,h4⟩:=wF hf h h1
 obtain ⟨N,a,b,c⟩:=least (P:=fun n=>(road m h n).j ∉ occ) n (by rw [h4];exact h2)
 exact ⟨N,by lia,b,fun n' hn=>Classical.byContradiction fun hno=>c n' hn hno⟩
end M8
namespace M8
open PySem PySem.Spec PyProof.Rows M7
open PySem.SetTable (Probe bits runEnd leap turns)
abbrev Ent:=Nat×(Int×yai)
noncomputable def fs (l:List Ent):List Nat:=l.map (·.1)
structure Tab (t:SetTable) (es:Array (Int×yai)) (l:List Ent):Prop where
 dm:t.dummies = #[]
 pl:t.place.toList=fs l
 el:es.toList=l.map (·.2)
 up:(fs l).Pairwise (· < ·)
 mm:t.mask=7∨t.mask=31∨t.mask=127
 nf:l.length*5<t.mask*3
 le:∀ e∈l,e.1≤t.mask
 way:∀ e∈l,Way t.mask (· ∈ fs l) e.2.1 e.1
theorem tF {m:Nat} (h:m=7∨m=31∨m=127):full m=true:=by
 rcases h with rfl | rfl | rfl
 ·exact F3
 ·exact DT
 ·exact AL
section
variable {t:SetTable}{es:Array (Int×yai)}{l:List Ent}
theorem Tab.rise (T:Tab t es l):kE t.place:=fF.mpr (by rw [T.pl];exact T.up)
theorem Tab.sz (T:Tab t es l):t.place.size=l.length:=by rw [← zaB,T.pl];exact zbr ..
theorem Tab.GY (T:Tab t es l):es.size=l.length:=by rw [← zaB,T.el,zbr]
theorem Tab.fits (T:Tab t es l):t.fits es.size=true:=by
 have h1:=T.sz
 have h2:=T.GY
 have h3:=T.nf
 unfold SetTable.fits SetTable.fill
 rw [T.dm,h1,h2]
 simp
 lia
theorem below_at {xs:Array Nat} (hx:kE xs) {i:Nat} (hi:i<xs.size):SetTable.below xs xs[i]=i:=by
 obtain ⟨h1,h2,h3⟩:=e9 hx xs[i]
 rcases Nat.lt_trichotomy i (SetTable.below xs xs[i]) with z | z | z
 ·have:=h2 i hi z;lia
 ·exact z.symm
 ·have:=h3 _ (by lia:SetTable.below xs xs[i]<xs.size) (zca _)
  have:=hx _ _ z hi (by lia)
  lia
theorem Tab.live (T:Tab t es l) {j:Nat}{e:Int×yai} (h:(j,e)∈l):∃ i,t.slot j = .live i∧es[i]? = some e∧i<es.size:=by
 obtain ⟨i,hi,he⟩:=zaz h
 have hp:i<t.place.size:=by rw [T.sz];exact hi
 have e1:t.place[i]=j:=by
  have:t.place.toList[i]'(by simpa using hp)=(fs l)[i]'(by unfold fs;simpa using hi):=by simp only [T.pl]
  rw [Array.getElem_toList] at this
  rw [this]
  unfold fs
  rw [zbi,he]
 have e2:es[i]? = some e:=by
  rw [← zap,T.el,zaP,zah hi,he];rfl
 have e3:=below_at T.rise hp
 rw [e1] at e3
 refine ⟨i,?_,e2,by rw [T.GY];exact hi⟩
 unfold SetTable.slot
 dsimp only
 rw [e3,zag hp,e1,yIp (by simp)]
theorem Tab.empty (T:Tab t es l) {j:Nat} (h:j ∉ fs l):t.slot j = .empty:=by
 unfold SetTable.slot
 dsimp only
 rw [yIn (fun z=>h (by
  have z:t.place[SetTable.below t.place j]? = some j:=by simpa using z
  rw [← zap,T.pl] at z
  exact zau z)),T.dm]
 have:SetTable.has #[] j=false:=by unfold SetTable.has;rfl
 rw [this];rfl
theorem DC {j:Nat} (h:j∈fs l):∃ e,(j,e)∈l:=by
 obtain ⟨⟨a,b⟩,h1,h2⟩:=zbO.mp h
 have h2:a=j:=h2
 subst h2
 exact ⟨b,h1⟩
theorem Tab.probe (T:Tab t es l) {hashAt:Nat→Int}{h:Int} (hAt:∀ i e,es[i]? = some e→hashAt i=e.1) {N:Nat} (hN:(road t.mask h N).j ∉ fs l) (hb:∀ n<N,(road t.mask h n).j∈fs l):∀ (f n:Nat),n≤N→N - n<f →
  (SetTable.probe.go t hashAt h f (road t.mask h n)=some (.empty (road t.mask h N).j none)∧∀ n',n≤n'→n'<N→∀ e,((road t.mask h n').j,e)∈l→e.1≠h) ∨
  ∃ n1 e i,n≤n1∧n1<N∧((road t.mask h n1).j,e)∈l∧e.1=h∧t.slot (road t.mask h n1).j = .live i∧es[i]? = some e∧SetTable.probe.go t hashAt h f (road t.mask h n)=some (.candidate (road t.mask h n1).j i (road t.mask h (n1+1)))∧∀ n',n≤n'→n'<n1→∀ e,((road t.mask h n').j,e)∈l→e.1≠h
 | 0,n,h1,h2=>by lia
 | f+1,n,h1,h2=>by
  rw [SetTable.probe.go.eq_2]
  rcases zbV n N with z | z
  ·obtain ⟨e,he⟩:=DC (hb n z)
   obtain ⟨i,i1,i2,i3⟩:=T.live he
   rw [i1]
   dsimp only
   rw [hAt i e i2]
   have uniq:∀ e',((road t.mask h n).j,e')∈l→e'=e:=fun e' he'=>by
    obtain ⟨i',j1,j2,_⟩:=T.live he'
    rw [i1] at j1
    injection j1 with j1
    subst j1
    rw [i2] at j2
    exact (zcd.inj j2).symm
   by_cases hc:e.1=h
   ·refine .inr ⟨n,e,i,zca _,z,he,hc,i1,i2,?_,fun n' a b=>by lia⟩
    rw [yIp (by simp [hc]),yD];rfl
   ·rw [yIn (by simp [hc]),yD]
    rcases T.probe hAt hN hb f (n+1) (by lia) (by lia) with ⟨a,b⟩ | ⟨n1,e1,i1',a1,a2,a3,a4,a5,a6,a7,a8⟩
    ·refine .inl ⟨a,fun n' c d e' he' => ?_⟩
     rcases Nat.eq_or_lt_of_le c with rfl | c
     ·rw [uniq e' he'];exact hc
     ·exact b n' c d e' he'
    ·refine .inr ⟨n1,e1,i1',by lia,a2,a3,a4,a5,a6,a7,fun n' c d e' he' => ?_⟩
     rcases Nat.eq_or_lt_of_le c with rfl | c
     ·rw [uniq e' he'];exact hc
     ·exact a8 n' c d e' he'
  ·obtain rfl:n=N:=by lia
   rw [T.empty hN]
   dsimp only
   rw [(jw t.mask h n).2]
   exact .inl ⟨rfl,fun n' a b=>by lia⟩
noncomputable def more (l:List Ent) (p:Nat) (e:Ent):List Ent:=l.take p++e::l.drop p
theorem cP (l:List Ent) (p:Nat) (e:Ent):(more l p e).Perm (e::l):=by
 unfold more
 refine List.perm_middle.trans ?_
 rw [List.take_append_drop]
theorem jZ {α:Type} (xs:Array α) (p:Nat) (x:α):(SetTable.insertAt xs p x).toList=xs.toList.take p++x::xs.toList.drop p:=by
 unfold SetTable.insertAt
 simp [Array.toList_extract]
 exact List.take_of_length_le (by simp)
theorem wR (T:Tab t es l) {j:Nat}{h:Int}{x:yai}:(SetTable.insertAt es (t.put j).2 (h,x)).toList=(more l (t.put j).2 (j,(h,x))).map (·.2):=by
 rw [jZ,T.el]
 unfold more
 rw [zbu,zbC,List.map_take,List.map_drop]
theorem Tab.put (T:Tab t es l) {h:Int}{x:yai}{N:Nat} (hN:(road t.mask h N).j ∉ fs l) (hb:∀ n<N,(road t.mask h n).j∈fs l) (hn:(l.length+1)*5<t.mask*3) :
  Tab (t.put (road t.mask h N).j).1 (SetTable.insertAt es (t.put (road t.mask h N).j).2 (h,x)) (more l (t.put (road t.mask h N).j).2 ((road t.mask h N).j,(h,x))):=by
 have hj:=jw t.mask h N
 generalize hJ:(road t.mask h N).j=j at *
 have hh:SetTable.has t.dummies j=false:=by rw [T.dm];unfold SetTable.has;rfl
 have epl:(SetTable.insertAt t.place (SetTable.below t.place j) j).toList=fs (more l (SetTable.below t.place j) (j,(h,x))):=by
  rw [jZ,T.pl]
  unfold more fs
  rw [zbu,zbC,List.map_take,List.map_drop]
 have sub:∀ y,y∈fs l→y∈fs (more l (SetTable.below t.place j) (j,(h,x))):=fun y hy=>by
  have:=((cP l (SetTable.below t.place j) (j,(h,x))).map (·.1)).mem_iff (a:=y)
  exact this.mpr (zar _ hy)
 refine ⟨?_,epl,wR T,?_,T.mm,?_,?_,?_⟩
 ·show (if SetTable.has t.dummies j=true then _ else t.dummies) = #[]
  rw [yIn (by rw [hh];decide)];exact T.dm
 ·have:=fF.mp (wH (j:=j) T.rise (by
   cases z:t.place[SetTable.below t.place j]? == some j with
   | false=>rfl
   | true =>
    have z:t.place[SetTable.below t.place j]? = some j:=by simpa using z
    rw [← zap,T.pl] at z
    exact absurd (zau z) hN))
  rw [epl] at this
  exact this
 ·rw [(cP ..).length_eq];exact hn
 ·intro e he
  rcases zbB.mp ((cP ..).mem_iff.mp he) with rfl | he
  ·show j≤t.mask
   lia
  ·exact T.le e he
 ·intro e he
  rcases zbB.mp ((cP ..).mem_iff.mp he) with rfl | he
  ·exact ⟨N,hJ,fun n hn=>sub _ (hb n hn)⟩
  ·exact (T.way e he).mono sub
end
def jN (ow:Array (Option Nat)) (j:Nat):Prop:=∃ i,ow[j]? = some (some i)
structure Own (m:Nat) (hs:List Int) (ow:Array (Option Nat)):Prop where
 sz:ow.size=m+1
 wy:∀ (j i:Nat),ow[j]? = some (some i)→i<hs.length∧Way m (jN ow) (hs.getD i 0) j
 al:∀ (i:Nat),i<hs.length→∃ j:Nat,ow[j]? = some (some i)
 un:∀ (j j' i:Nat),ow[j]? = some (some i)→ow[j']? = some (some i)→j=j'
theorem HP {m:Nat}{ow:Array (Option Nat)} (sz:ow.size=m+1) {j:Nat} (hj:j≤m):((ow.getD j (some 0)).isNone=true→ow[j]? = some none)∧((ow.getD j (some 0)).isNone=false→jN ow j):=by
 have hlt:j<ow.size:=by lia
 have e1:ow.getD j (some 0)=ow[j]:=by simp [zcg,hlt]
 unfold jN
 rw [e1,zag hlt]
 cases ow[j] with
 | none=>exact ⟨fun _=>rfl,(fun z=>by cases z)⟩
 | some i=>exact ⟨(fun z=>by cases z),fun _=>⟨i,rfl⟩⟩
theorem tG {m:Nat}{ow:Array (Option Nat)}{h:Int} (sz:ow.size=m+1):∀ (f k:Nat),(∃ k',k≤k'∧k'<k+f∧ow[(ru m h k').1]? = some none)→(∀ n<nk m h k,jN ow (road m h n).j)→∃ j,SetTable.layClean.free m ow f (ru m h k).1 (ru m h k).2=some j∧j≤m∧ow[j]? = some none∧Way m (jN ow) h j
 | 0,k,hx,_=>by obtain ⟨k',h1,h2,_⟩:=hx;lia
 | f+1,k,hx,hb=>by
  obtain ⟨k',h1,h2,h3⟩:=hx
  rw [SetTable.layClean.free.eq_2]
  have hle:=wC m h k
  have hrm:=wz hle
  have hge:=qw (m:=m) (i:=(ru m h k).1)
  have hrn:=su m h k
  cases hf:(zce (runEnd m (ru m h k).1+1 - (ru m h k).1)).find? (fun c=>(ow.getD ((ru m h k).1+c) (some 0)).isNone) with
  | some c =>
   rw [List.find?_range_eq_some] at hf
   obtain ⟨g1,g2,g3⟩:=hf
   have g2:=zbw.mp g2
   have hc:(ru m h k).1+c≤m:=by lia
   refine ⟨_,rfl,hc,(HP sz hc).1 g1,nk m h k+c,?_,fun n hn => ?_⟩
   ·rw [hrn.2 c (by lia)]
   ·rcases zbV n (nk m h k) with z | z
    ·exact hb n z
    ·obtain ⟨d,rfl⟩:∃ d,n=nk m h k+d:=⟨n - nk m h k,by lia⟩
     rw [hrn.2 d (by lia)]
     exact (HP sz (j:=(ru m h k).1+d) (by lia)).2 (by have:=g3 d (by lia);simpa using this)
  | none =>
   rw [List.find?_range_eq_none] at hf
   have all:∀ d,d≤runEnd m (ru m h k).1 - (ru m h k).1→jN ow ((ru m h k).1+d):=fun d hd=>(HP sz (by lia)).2 (by have:=hf d (by lia);simpa using this)
   have hne:k≠k':=fun e=>by
    subst e
    obtain ⟨i,hi⟩:=all 0 (by lia)
    rw [Nat.add_zero,h3] at hi
    cases hi
   exact tG sz f (k+1) ⟨k',by lia,by lia,h3⟩ fun n hn=>by
    have hn:n<nk m h k+(runEnd m (ru m h k).1 - (ru m h k).1)+1:=hn
    rcases zbV n (nk m h k) with z | z
    ·exact hb n z
    ·obtain ⟨d,rfl⟩:∃ d,n=nk m h k+d:=⟨n - nk m h k,by lia⟩
     rw [hrn.2 d (by lia)]
     exact all d (by lia)
theorem Own.step {m:Nat}{hs:List Int}{ow:Array (Option Nat)} (O:Own m hs ow) (hf:full m=true) (hl:hs.length≤m) (h:Int) :
  ∃ j,SetTable.layClean.free m ow (turns m) (bits h % (m+1)) (bits h)=some j∧Own m (hs++[h]) (ow.setIfInBounds j (some hs.length)):=by
 have ⟨j0,z1,z2⟩:∃ j,j≤m∧ow[j]? = some none:=by
  apply Classical.byContradiction
  intro hne
  have hall:∀ j,j≤m→jN ow j:=fun j hj=>by
   cases e:ow[j]? with
   | none=>rw [Array.getElem?_eq_none_iff] at e;have:=O.sz;lia
   | some x =>
    cases x with
    | none=>exact absurd ⟨j,hj,e⟩ hne
    | some i=>exact ⟨i,e⟩
  let g:Nat→Nat:=fun i=>if h:i<hs.length then Classical.choose (O.al i h) else 0
  have hg:∀ i (h:i<hs.length),ow[g i]? = some (some i):=fun i h=>by
   show ow[if h:i<hs.length then Classical.choose (O.al i h) else 0]? = _
   rw [dif_pos h]
   exact Classical.choose_spec (O.al i h)
  have:=HE (l:=zce (m+1)) (m:=(zce hs.length).map g) List.nodup_range fun x hx=>by
   have hx:=zbw.mp hx
   obtain ⟨i,hi⟩:=hall x (by lia)
   have hlt:=(O.wy x i hi).1
   rw [O.un x (g i) i hi (hg i hlt)]
   exact zbO.mpr ⟨i,zbw.mpr hlt,rfl⟩
  rw [zaU,zbr,zaU] at this
  lia
 obtain ⟨k,k1,k2⟩:=wD hf h z1
 obtain ⟨j,f1,f2,f3,f4⟩:=tG (h:=h) O.sz (turns m) 0 ⟨k,zcc _,by unfold turns;lia,by rw [k2];exact z2⟩ (fun n hn=>absurd hn (Nat.not_lt_zero _))
 refine ⟨j,f1,?_⟩
 have hjs:j<ow.size:=by rw [O.sz];lia
 have ee:∀ x,(ow.setIfInBounds j (some hs.length))[x]? = if j=x then some (some hs.length) else ow[x]? := fun x=>by
  rw [Array.getElem?_setIfInBounds]
  by_cases e:j=x
  ·rw [yIp e,yIp e,yIp (by lia)]
  ·rw [yIn e,yIn e]
 have occ:∀ x,jN ow x→jN (ow.setIfInBounds j (some hs.length)) x:=fun x ⟨i,hi⟩=>by
  unfold jN
  rw [ee]
  by_cases e:j=x
  ·exact ⟨_,yIp e⟩
  ·exact ⟨i,by rw [yIn e];exact hi⟩
 refine ⟨by simp [O.sz],fun x i hi => ?_,fun i hi => ?_,fun x y i hx hy => ?_⟩
 ·rw [ee] at hi
  by_cases e:j=x
  ·rw [yIp e] at hi
   have hi:hs.length=i:=by injection hi with hi;injection hi
   subst hi
   subst e
   refine ⟨by simp,?_⟩
   have:(hs++[h]).getD hs.length 0=h:=by simp
   rw [this]
   exact f4.mono occ
  ·rw [yIn e] at hi
   obtain ⟨a,b⟩:=O.wy x i hi
   refine ⟨by rw [zaE];lia,?_⟩
   have:(hs++[h]).getD i 0=hs.getD i 0:=by simp [zad a]
   rw [this]
   exact b.mono occ
 ·rw [zaE] at hi
  by_cases e:i=hs.length
  ·exact ⟨j,by rw [ee,yIp rfl,e]⟩
  ·obtain ⟨x,hx⟩:=O.al i (by have:[h].length=1:=rfl;lia)
   refine ⟨x,?_⟩
   rw [ee,yIn (fun e=>by rw [← e,f3] at hx;cases hx)]
   exact hx
 ·rw [ee] at hx hy
  by_cases e1:j=x <;> by_cases e2:j=y
  ·rw [← e1,e2]
  ·rw [yIp e1] at hx
   rw [yIn e2] at hy
   have hx:hs.length=i:=by injection hx with hx;injection hx
   have:=(O.wy y i hy).1
   lia
  ·rw [yIn e1] at hx
   rw [yIp e2] at hy
   have hy:hs.length=i:=by injection hy with hy;injection hy
   have:=(O.wy x i hx).1
   lia
  ·rw [yIn e1] at hx
   rw [yIn e2] at hy
   exact O.un x y i hx hy
theorem xO {m:Nat} (hf:full m=true) {F:Option (Array (Option Nat)×Nat)→Int→Option (Array (Option Nat)×Nat)} (hF:∀ ow k h j,SetTable.layClean.free m ow (turns m) (bits h % (m+1)) (bits h)=some j→F (some (ow,k)) h=some (ow.setIfInBounds j (some k),k+1)) :
  ∀ (rest done:List Int) (ow:Array (Option Nat)),Own m done ow→done.length+rest.length≤m→∃ ow',rest.foldl F (some (ow,done.length))=some (ow',done.length+rest.length)∧Own m (done++rest) ow'
 | [],done,ow,O,_=>⟨ow,rfl,by rw [zbo];exact O⟩
 | h::rest,done,ow,O,hl=>by
  rw [zbk] at hl
  obtain ⟨j,j1,j2⟩:=O.step hf (by lia) h
  have hlen:(done++[h]).length=done.length+1:=by simp
  obtain ⟨ow',a,b⟩:=xO hf hF rest (done++[h]) _ j2 (by lia)
  refine ⟨ow',?_,?_⟩
  ·rw [List.foldl_cons,hF _ _ _ _ j1]
   rw [hlen] at a
   rw [a,zbk]
   congr 2;lia
  ·rw [zaR] at b;exact b
theorem dZ {m:Nat} (hf:full m=true) (hs:Array Int) (hl:hs.size≤m):∃ ow,SetTable.layClean m hs=some ow∧Own m hs.toList ow:=by
 have O0:Own m [] (Array.replicate (m+1) none):=by
  have no:∀ j i,¬ (Array.replicate (m+1) (none:Option Nat))[j]? = some (some i):=fun j i z=>by
   rw [Array.getElem?_replicate] at z
   split at z <;> simp at z
  exact ⟨by simp,fun j i hi=>absurd hi (no j i),fun i hi=>by simp at hi,fun j j' i hi=>absurd hi (no j i)⟩
 unfold SetTable.layClean
 rw [← Array.foldl_toList]
 generalize hFF:(fun (acc:Option (Array (Option Nat)×Nat)) (h:Int)=>(do
  let (owner,k) ← acc
  let j ← SetTable.layClean.free m owner (turns m) (bits h % (m+1)) (bits h)
  pure (owner.setIfInBounds j (some k),k+1)))=F
 have hF':∀ ow k h j,SetTable.layClean.free m ow (turns m) (bits h % (m+1)) (bits h)=some j→F (some (ow,k)) h=some (ow.setIfInBounds j (some k),k+1):=fun ow k h j hj=>by
  rw [← hFF]
  show (SetTable.layClean.free m ow (turns m) (bits h % (m+1)) (bits h)).bind _=_
  rw [hj];rfl
 obtain ⟨ow,a,b⟩:=xO hf (fun ow k h j hj=>by
  exact hF' ow k h j hj) hs.toList [] _ O0 (by simpa using hl)
 refine ⟨ow,?_,b⟩
 have a:=congrArg (Option.map (·.1)) a
 exact a
theorem wK {t:SetTable}{es:Array (Int×yai)}{n m:Nat} (hm:SetTable.sizeAbove n - 1=m) (hk:m=7∨m=31∨m=127) (hl:es.size*5<m*3) :
  ∃ t' o l',t.relaid (es.map (·.1)) n=some (t',o)∧Tab t' (o.filterMap (es[·]?)) l'∧(l'.map (·.2)).Perm es.toList∧t'.led=t.led∧t'.plain=t.plain:=by
 obtain ⟨ow,a,O⟩:=dZ (tF hk) (es.map (·.1)) (by rw [Array.size_map];lia)
 have hlen:(es.map (·.1)).toList.length=es.size:=by simp
 generalize hlv:((zce (m+1)).filterMap fun j=>(ow.getD j none).map (j,·))=live
 have mem:∀ j i,(j,i)∈live↔ow[j]? = some (some i):=fun j i=>by
  rw [← hlv,List.mem_filterMap]
  constructor
  ·rintro ⟨x,h1,h2⟩
   have h1:=zbw.mp h1
   have hx:x<ow.size:=by rw [O.sz];exact h1
   have e1:ow.getD x none=ow[x]:=by simp [zcg,hx]
   rw [e1] at h2
   cases e2:ow[x] with
   | none=>rw [e2] at h2;cases h2
   | some y =>
    rw [e2] at h2
    have h2:some (x,y)=some (j,i):=h2
    injection h2 with h2
    injection h2 with h3 h4
    subst h3;subst h4
    rw [zag hx,e2]
  ·intro h
   obtain ⟨hx,e⟩:=Array.getElem?_eq_some_iff.mp h
   refine ⟨j,zbw.mpr (by rw [← O.sz];exact hx),?_⟩
   have e1:ow.getD j none=ow[j]:=by simp [zcg,hx]
   rw [e1,e];rfl
 have bnd:∀ e∈live,e.2<es.size∧Way m (jN ow) ((es.getD e.2 (0,.none)).1) e.1:=fun e he=>by
  obtain ⟨h1,h2⟩:=O.wy e.1 e.2 ((mem e.1 e.2).mp he)
  rw [hlen] at h1
  refine ⟨h1,?_⟩
  have:(es.map (·.1)).toList.getD e.2 0=(es.getD e.2 (0,.none)).1:=by simp [zcg,h1]
  rw [this] at h2
  exact h2
 have up:(live.map (·.1)).Pairwise (· < ·):=by
  rw [← hlv]
  exact List.Pairwise.sublist (nC _ _) List.pairwise_lt_range
 have nd:(live.map (·.2)).Nodup:=by
  rw [zaV] at up
  show (live.map (·.2)).Pairwise (· ≠ ·)
  rw [zaV]
  refine up.imp_of_mem fun {x y} hx hy hlt e => ?_
  have h1:=(mem x.1 x.2).mp hx
  have h2:=(mem y.1 y.2).mp hy
  rw [← e] at h2
  have:=O.un _ _ _ h1 h2
  lia
 have pr:(live.map (·.2)).Perm (zce es.size):=by
  rw [List.perm_ext_iff_of_nodup nd List.nodup_range]
  intro i
  rw [zbw,zbO]
  constructor
  ·rintro ⟨e,he,rfl⟩;exact (bnd e he).1
  ·intro hi
   obtain ⟨j,hj⟩:=O.al i (by rw [hlen];exact hi)
   exact ⟨(j,i),(mem j i).mpr hj,rfl⟩
 generalize hl':(live.map fun e=>((e.1,es.getD e.2 (0,.none)):Ent))=l'
 have f1:fs l'=live.map (·.1):=by rw [← hl'];unfold fs;rw [zbP];rfl
 have f2:l'.map (·.2)=(live.map (·.2)).map fun i=>es.getD i (0,.none):=by rw [← hl',zbP,zbP];rfl
 have pe:(l'.map (·.2)).Perm es.toList:=by
  rw [f2]
  refine (pr.map _).trans ?_
  have:(zce es.size).map (fun i=>es.getD i (0,.none))=es.toList:=by
   refine List.ext_getElem (by simp) fun i h1 h2 => ?_
   have h3:i<es.size:=by simpa using h2
   simp [zcg,h3]
  rw [this]
 have fm:∀ q:List (Nat×Nat),(∀ e∈q,e.2<es.size)→(q.map (·.2)).filterMap (es[·]?)=(q.map (·.2)).map fun i=>es.getD i (0,.none):=by
  intro q
  induction q with
  | nil=>intro _;rfl
  | cons e q ih =>
   intro hq
   have h1:=hq e (by simp)
   simp only [zbC]
   rw [zax,zag h1]
   dsimp only
   rw [ih fun x hx=>hq x (zar _ hx)]
   simp [zcg,h1]
 refine ⟨{ mask:=m,place:=(live.map (·.1)).toArray,dummies := #[],finger:=t.finger,led:=t.led,moves:=t.movedTo m,plain:=t.plain },(live.map (·.2)).toArray,l',?_,⟨rfl,?_,?_,?_,hk,?_,?_,?_⟩,pe,rfl,rfl⟩
 ·unfold SetTable.relaid SetTable.laid
  rw [hm,a]
  show some _=some _
  rw [hlv]
 ·exact f1.symm
 ·rw [Array.toList_filterMap,f2]
  exact fm live fun e he=>(bnd e he).1
 ·rw [f1];exact up
 ·have:=pe.length_eq
  rw [zbr] at this
  show l'.length*5<m*3
  have e:l'.length=es.size:=this
  rw [e];exact hl
 ·intro e he
  rw [← hl'] at he
  obtain ⟨x,hx,rfl⟩:=zbO.mp he
  obtain ⟨h1,_⟩:=Array.getElem?_eq_some_iff.mp ((mem x.1 x.2).mp hx)
  have:=O.sz
  show x.1≤m
  lia
 ·intro e he
  rw [← hl'] at he
  obtain ⟨x,hx,rfl⟩:=zbO.mp he
  refine (bnd x hx).2.mono fun y hy => ?_
  rw [f1]
  obtain ⟨i,hi⟩:=hy
  exact zbO.mpr ⟨(y,i),(mem y i).mpr hi,rfl⟩
end M8
namespace M8
open PySem PySem.Spec PyProof.Rows M5 M6 M7
open PySem.SetTable (Probe bits runEnd leap turns)
section
variable {prog:yaj}{w:yak}{A:yal}{E:yai→yah→Prop}{s:yah}
theorem kc:∀ (n:Nat) (d:yam) {v:yai}{as:List Addr}{A:yal}{E:yai→yah→Prop}{s:yah}{Q:Bool→yah→Prop},d.depth≤n→bh d=true→Reads s.heap v d as→Q false s→yar (model prog w) A (ofAClassStatement n v) Q E s:=by
 intro n
 induction n with
 | zero =>
  intro d v as A E s Q hd hk hr h
  cases hr with
  | int i t=>rw [ofAClassStatement.eq_def];exact yab h
  | str x t=>rw [ofAClassStatement.eq_def];exact yab h
  | tuple ho hc hd' hall=>rw [aX] at hd;lia
  | none=>simp [bh] at hk
  | bool b=>simp [bh] at hk
  | list _ _ _ _=>simp [bh] at hk
  | dict _ _ _ _ _=>simp [bh] at hk
 | succ n ih =>
  intro d v as A E s Q hd hk hr h
  cases hr with
  | int i t=>rw [ofAClassStatement.eq_def];exact yab h
  | str x t=>rw [ofAClassStatement.eq_def];exact yab h
  | none=>simp [bh] at hk
  | bool b=>simp [bh] at hk
  | list _ _ _ _=>simp [bh] at hk
  | dict _ _ _ _ _=>simp [bh] at hk
  | @tuple a o vs m xs as ho hc hdat hall =>
   have hT:=cO ho hc
   have hk:bX xs=true:=hk
   rw [aX] at hd
   rw [ofAClassStatement.eq_def]
   dsimp only
   refine yaa (wpAny_typeOf hT ?_)
   dsimp only
   refine yaa (yab ?_)
   rw [yIn (by decide)]
   refine yaa (wpAny_seqItems ho hdat (yaa ?_))
   show yar (model prog w) A (forIn vs _ _) _ E s
   rw [← zaL]
   refine wpAny_forIn_list _ (fun rest r s'=>r.1=none∧s'=s∧∃ left as',ReadsAll s.heap rest left as'∧∀ x∈left,x∈xs) _ ?_ ?_ vs.toList (none,()) ⟨rfl,rfl,xs,_,hall,fun _ hx=>hx⟩
   ·rintro y rest ⟨r1,r2⟩ s' ⟨hr,rfl,left,as',hl,hsub⟩
    cases hl with
    | @cons _ _ d' ds as1 bs hx hrest =>
     have hm:d'∈xs:=hsub d' (by simp)
     refine yaa (ih d' (as:=as1) (by have:=bS hm;lia) (cT hk d' hm) hx ?_)
     exact yab ⟨rfl,rfl,ds,bs,hrest,fun x hx=>hsub x (zar _ hx)⟩
   ·rintro ⟨r1,r2⟩ s' ⟨hr,rfl,_⟩
    have hr:r1=none:=hr
    subst hr
    exact yab h
theorem qf:∀ (n:Nat) (d:yam) {v:yai}{as:List Addr}{A:yal}{E:yai→yah→Prop}{s:yah}{Q:Bool→yah→Prop},d.depth≤n→bh d=true→Reads s.heap v d as→(∀ b,Q b s)→yar (model prog w) A (hashByValue n v) Q E s:=by
 intro n
 induction n with
 | zero =>
  intro d v as A E s Q hd hk hr h
  cases hr with
  | int i t=>rw [hashByValue.eq_def];exact yab (h _)
  | str x t=>rw [hashByValue.eq_def];exact yab (h _)
  | tuple ho hc hd' hall=>rw [aX] at hd;lia
  | none=>simp [bh] at hk
  | bool b=>simp [bh] at hk
  | list _ _ _ _=>simp [bh] at hk
  | dict _ _ _ _ _=>simp [bh] at hk
 | succ n ih =>
  intro d v as A E s Q hd hk hr h
  cases hr with
  | int i t=>rw [hashByValue.eq_def];exact yab (h _)
  | str x t=>rw [hashByValue.eq_def];exact yab (h _)
  | none=>simp [bh] at hk
  | bool b=>simp [bh] at hk
  | list _ _ _ _=>simp [bh] at hk
  | dict _ _ _ _ _=>simp [bh] at hk
  | @tuple a o vs m xs as ho hc hdat hall =>
   have hT:=cO ho hc
   have hk:bX xs=true:=hk
   rw [aX] at hd
   rw [hashByValue.eq_def]
   dsimp only
   refine yaa (wpAny_specialOf hT F.slot_tuple_hash.lookup ?_)
   refine yaa (wpAny_seqItems ho hdat (yaa ?_))
   show yar (model prog w) A (forIn vs _ _) _ E s
   rw [← zaL]
   refine wpAny_forIn_list _ (fun rest r s'=>s'=s∧∃ left as',ReadsAll s.heap rest left as'∧∀ x∈left,x∈xs) _ ?_ ?_ vs.toList (none,()) ⟨rfl,xs,_,hall,fun _ hx=>hx⟩
   ·rintro y rest ⟨r1,r2⟩ s' ⟨rfl,left,as',hl,hsub⟩
    cases hl with
    | @cons _ _ d' ds as1 bs hx hrest =>
     have hm:d'∈xs:=hsub d' (by simp)
     refine yaa (ih d' (as:=as1) (by have:=bS hm;lia) (cT hk d' hm) hx fun b => ?_)
     cases b
     ·refine yab ?_
      exact yab (h _)
     ·exact yab ⟨rfl,ds,bs,hrest,fun x hx=>hsub x (zar _ hx)⟩
   ·rintro ⟨r1,r2⟩ s' ⟨rfl,_⟩
    cases r1 with
    | none=>exact yab (h _)
    | some b=>exact yab (h _)
theorem uQ {d:yam}{b:Addr}{stored:List yai}{Q:Bool→yah→Prop} (hb:isKey s.heap d b) (hs:∀ v∈stored,∃ k a,v = .ref a∧isKey s.heap k a) (h:Q false s):yar (model prog w) A (searchCouldBeSeen (.ref b) stored) Q E s:=by
 unfold searchCouldBeSeen
 refine yaa ?_
 refine wpAny_forIn_list _ (fun rest r s'=>r=(none,())∧s'=s∧∀ v∈rest,∃ k a,v = .ref a∧isKey s.heap k a) _ ?_ ?_ stored (none,()) ⟨rfl,rfl,hs⟩
 ·rintro y rest r s' ⟨rfl,rfl,hr⟩
  obtain ⟨k,a,rfl,ha⟩:=hr y (by simp)
  have hr':=fun v hv=>hr v (zar _ hv)
  obtain ⟨b1,b2,bs,b3⟩:=hb
  obtain ⟨a1,a2,as,a3⟩:=ha
  dsimp only
  split
  ·exact yab ⟨rfl,rfl,hr'⟩
  ·refine yaa (gg 8 d (by lia) b1 b3 ?_)
   rw [yIn (by decide)]
   refine yaa (gg 8 k (by lia) a1 a3 ?_)
   rw [yIn (by decide)]
   refine yaa (kc 8 d (by lia) b1 b3 ?_)
   rw [yIn (by decide)]
   refine yaa (kc 8 k (by lia) a1 a3 ?_)
   rw [yIn (by decide)]
   exact yab ⟨rfl,rfl,hr'⟩
 ·rintro r s' ⟨rfl,rfl,_⟩
  exact yab h
noncomputable def iT (w:yak) (k:yam×Addr):Int×yai:=(aV w k.1,.ref k.2)
theorem search {a b:Addr}{o:Obj}{es:Array (Int×yai)}{ep:Nat}{t:SetTable}{l:List Ent}{ks:List (yam×Addr)}{d:yam}{Q:SetFound→yah→Prop} (ho:s.heap.get? a=some o) (hd:o.data = .set es ep t) (T:Tab t es l) (hks:es.toList=ks.map (iT w)) (hk:∀ k∈ks,isKey s.heap k.1 k.2)
  (hb:isKey s.heap d b) (hu:A.units+10<cLine) {N:Nat} (hNf:N<10*turns t.mask) (hN:(road t.mask (aV w d) N).j ∉ fs l) (hbN:∀ n<N,(road t.mask (aV w d) n).j∈fs l)
  (q1:(∃ k∈ks,k.1=d)→Q (.there none) s) (q2:(∀ k∈ks,k.1≠d)→Q (.free (road t.mask (aV w d) N).j false) s) :
  ∀ (f n:Nat) (st:Option Probe),st.getD (t.probeStart (aV w d))=road t.mask (aV w d) n→n≤N→N - n<f→(∀ n'<n,∀ k∈ks,((road t.mask (aV w d) n').j,iT w k)∈l→k.1≠d) →
   yar (model prog w) A (setSearchFrom a (.ref b) (aV w d) true f st) Q E s
 | 0,n,st,_,_,h,_=>by lia
 | f+1,n,st,hst,hn,hf,hne=>by
  have ent:∀ e,e∈l.map (·.2)→∃ k∈ks,e=iT w k:=fun e he=>by
   rw [← T.el,hks] at he
   obtain ⟨k,h1,h2⟩:=zbO.mp he
   exact ⟨k,h1,h2.symm⟩
  unfold setSearchFrom
  refine yaa (wpAny_setState_of ho hd T.fits ?_)
  dsimp only
  rw [yIn (by unfold SetTable.gaveWay;rcases T.mm with e | e | e <;> rw [e] <;> decide)]
  rw [hst]
  unfold SetTable.probe
  generalize hG:SetTable.probe.go t _ (aV w d) (10*turns t.mask) (road t.mask (aV w d) n)=G
  rcases T.probe (hashAt:=fun i=>(es[i]?.map (·.1)).getD 0) (h:=aV w d) (fun i e he=>by show (es[i]?.map (·.1)).getD 0=e.1;rw [he];rfl) hN hbN (10*turns t.mask) n hn (by lia) with ⟨p1,p2⟩ | ⟨n1,e,i,c1,c2,c3,c4,c5,c6,c7,c8⟩
  ·obtain rfl:some _=G:=p1.symm.trans hG
   dsimp only
   refine yab (q2 fun k hk1 e => ?_)
   have hm:iT w k∈l.map (·.2):=by rw [← T.el,hks];exact zbO.mpr ⟨k,hk1,rfl⟩
   obtain ⟨⟨j,e'⟩,he',e2⟩:=zbO.mp hm
   have e2:e'=iT w k:=e2
   subst e2
   obtain ⟨n0,r1,r2⟩:=T.way _ he'
   have hh:(iT w k).1=aV w d:=by rw [← e];rfl
   have r1:(road t.mask (aV w d) n0).j=j:=by have r1:(road t.mask (iT w k).1 n0).j=j:=r1;rw [hh] at r1;exact r1
   have r2:∀ n'<n0,(road t.mask (aV w d) n').j∈fs l:=fun n' hn'=>by have r2:(road t.mask (iT w k).1 n').j∈fs l:=r2 n' hn';rw [hh] at r2;exact r2
   rw [← r1] at he'
   have hjm:(road t.mask (aV w d) n0).j∈fs l:=zbO.mpr ⟨_,he',rfl⟩
   have hlt:n0<N:=by
    rcases Nat.lt_trichotomy n0 N with z | z | z
    ·exact z
    ·rw [z] at hjm;exact absurd hjm hN
    ·exact absurd (r2 N z) hN
   rcases zbV n0 n with z | z
   ·exact hne n0 z k hk1 he' e
   ·exact p2 n0 z hlt _ he' hh
  ·obtain rfl:some _=G:=c7.symm.trans hG
   dsimp only
   obtain ⟨k,k1,rfl⟩:=ent e (zbO.mpr ⟨_,c3,rfl⟩)
   have DR:∀ v∈List.map (fun x:Int×yai=>x.2) (Array.filter (fun x=>x.1==aV w d) es).toList,∃ k a,v = .ref a∧isKey s.heap k a:=fun v hv=>by
    obtain ⟨e,he,rfl⟩:=zbO.mp hv
    rw [Array.toList_filter] at he
    have he:=(List.mem_filter.mp he).1
    rw [hks] at he
    obtain ⟨k',h1,rfl⟩:=zbO.mp he
    exact ⟨k'.1,k'.2,rfl,hk k' h1⟩
   by_cases hl:(!t.led)=true
   case' pos=>(rw [yIp hl];refine yaa (uQ hb DR ?_);rw [yIn (by decide)])
   case' neg=>rw [yIn hl]
   all_goals
    rw [c6]
    show yar _ _ (holding [Value.ref k.2] (eqBool (.ref k.2) (.ref b)) >>= _) _ _ _
    refine yaa (yad ((cE prog w).eqBool hu (hk k k1) hb ?_))
    refine yaa (wpAny_setState_of ho hd T.fits ?_)
    by_cases he:k.1=d
    ·rw [yDt he]
     exact yab (q1 ⟨k,k1,he⟩)
    ·rw [yDf he,yIn (by decide)]
     have hsm:t.sameMemory t.moves t.mask=some true:=by unfold SetTable.sameMemory;rw [yIp (by simp)]
     dsimp only
     rw [hsm]
     dsimp only
     rw [yIp rfl,c5]
     dsimp only
     rw [c6]
     show yar _ _ (isSame (.ref k.2) (.ref k.2) >>= _) _ _ _
     refine yaa (wpAny_isSame_ref_self ?_)
     refine yaa (yab ?_)
     rw [yIp rfl]
     dsimp only
     rw [yIn (by decide)]
     refine search ho hd T hks hk hb hu hNf hN hbN q1 q2 f (n1+1) _ rfl (by lia) (by lia) fun n' hn' k' hk' hm' => ?_
     rcases zbV n' n with z | z
     ·exact hne n' z k' hk' hm'
     ·rcases Nat.eq_or_lt_of_le (zaX hn') with z2 | z2
      ·subst z2
       obtain ⟨i',j1,j2,_⟩:=T.live hm'
       rw [c5] at j1
       injection j1 with j1
       subst j1
       rw [c6] at j2
       have j2:=zcd.inj j2
       injection j2 with _ j3
       injection j3 with j3
       have a1:=hk k k1
       have a2:=hk k' hk'
       rw [← j3] at a2
       rw [← (cE prog w).inj a1 a2]
       exact he
      ·intro e
       refine c8 n' z z2 _ hm' ?_
       rw [← e];rfl
end
def cF (h h':Heap):Prop:=∀ c o,o.cls = .type "tuple" → h.get? c=some o→h'.get? c=some o
theorem cF.trans {h h1 h2:Heap} (x:cF h h1) (y:cF h1 h2):cF h h2:=fun c o e z=>y c o e (x c o e z)
theorem cF.but {h h':Heap}{b:Addr}{ob:Obj} (hb:h.get? b=some ob) (hc:ob.cls ≠ .type "tuple") (k:∀ c o,c≠b→h.get? c=some o→h'.get? c=some o):cF h h':=fun c o e z =>
 k c o (fun e2=>by subst e2;rw [hb] at z;cases z;exact hc e) z
mutual
theorem sA {h h':Heap} (kp:cF h h'):∀ (d:yam) {v:yai}{as:List Addr},bh d=true→Reads h v d as→Reads h' v d as
 | .int i,v,as,hk,hr=>by cases hr;exact .int ..
 | .str i,v,as,hk,hr=>by cases hr;exact .str ..
 | .tuple xs,v,as,hk,hr=>by
  cases hr with
  | @tuple a o vs m _ _ ho hc hdat hall=>exact .tuple (kp a o hc ho) hc hdat (oJ kp xs hk hall)
 | .none,_,_,h,_=>by simp [bh] at h
 | .bool _,_,_,h,_=>by simp [bh] at h
 | .list _,_,_,h,_=>by simp [bh] at h
 | .dict _,_,_,h,_=>by simp [bh] at h
theorem oJ {h h':Heap} (kp:cF h h'):∀ (ds:List yam) {vs:List yai}{as:List Addr},bX ds=true→ReadsAll h vs ds as→ReadsAll h' vs ds as
 | [],vs,as,hk,hr=>by cases hr;exact .nil
 | d::ds,vs,as,hk,hr=>by
  simp only [bX,zbm] at hk
  cases hr with
  | cons hx hr=>exact .cons (sA kp d hk.1 hx) (oJ kp ds hk.2 hr)
end
theorem lU {h h':Heap} (kp:cF h h') {d:yam}{a:Addr} (x:isKey h d a):isKey h' d a:=let ⟨k1,k2,as,hr⟩:=x;⟨k1,k2,as,sA kp d k1 hr⟩
def zc (w:yak) (B:List (yam×Addr)) (h:Heap) (a:Addr) (S:List yam):Prop :=
 ∃ o es ep t l,∃ ks:List (yam×Addr),h.get? a=some o∧o.ExactSet∧o.data = .set es ep t∧Tab t es l∧t.led=(!w.params.followText "set-order")∧es.toList=ks.map (iT w)∧(∀ k∈ks,k∈B∧isKey h k.1 k.2)∧(ks.map (·.1)).Perm S
theorem zc.keep {w:yak}{B:List (yam×Addr)}{h h':Heap}{a:Addr}{S:List yam} (x:zc w B h a S) (e:∀ o,h.get? a=some o→h'.get? a=some o) (kp:cF h h'):zc w B h' a S :=
 let ⟨o,es,ep,t,l,ks,ho,r1,r2,r3,r4,r5,r6,r7⟩:=x;⟨o,es,ep,t,l,ks,e o ho,r1,r2,r3,r4,r5,fun k hk=>⟨(r6 k hk).1,lU kp (r6 k hk).2⟩,r7⟩
noncomputable def kC (S:List yam) (x:yam):List yam:=if x∈S then S else S++[x]
theorem CF {o:Obj} (h:o.ExactSet):o.cls ≠ .type "tuple" := by
 rw [h.1];intro z;injection z with z;exact absurd z (by decide)
theorem EX {h h':Heap}{a:Addr}{o:Obj} (ho:h.get? a=some o) (hex:o.ExactSet) (sb:Heap.SameBut a h h'):cF h h' :=
 cF.but ho (CF hex) fun c o hc e=>by rw [sb.2 c hc];exact e
theorem lO {w:yak}{ks:List (yam×Addr)}{es:List (Int×yai)} (h:es.Perm (ks.map (iT w))):∃ ks':List (yam×Addr),ks'.Perm ks∧es=ks'.map (iT w):=gF h
section
variable {prog:yaj}{w:yak}{A:yal}{E:yai→yah→Prop}{s:yah}
theorem Bg {a b:Addr}{S:List yam}{d:yam}{Q:Bool→yah→Prop}{B:List (yam×Addr)} (hS:zc w B s.heap a S) (hbB:(d,b)∈B) (hb:isKey s.heap d b) (hu:A.units+10<cLine) (hn:S.length+1<64)
  (h:∀ r h',Heap.SameBut a s.heap h'→cF s.heap h'→zc w B h' a (kC S d)→Q r { s with heap:=h' }) :
  yar (model prog w) A (setAddHashed a (.ref b) (aV w d)) Q E s:=by
 obtain ⟨o,es,ep,t,l,ks,ho,hex,hd,T,hled,hks,hkB,hp⟩:=hS
 have hk:∀ k∈ks,isKey s.heap k.1 k.2:=fun k hk1=>(hkB k hk1).2
 have hlen:l.length=S.length:=by
  rw [← hp.length_eq,zbr,← T.GY,← zaB,hks,zbr]
 have hmm:=T.mm
 have hnf:=T.nf
 obtain ⟨N,n1,n2,n3⟩:=qU (tF hmm) (aV w d) (occ:=fs l) (by unfold fs;rw [zbr];lia)
 unfold setAddHashed
 unfold setAddHashedIn
 refine yad (yaa (wpAny_setState_of ho hd T.fits ?_))
 dsimp only
 rw [yIn (by unfold byScan;simp [Value.scannable])]
 refine yaa ?_
 unfold setSearch
 refine search ho hd T hks hk hb hu n1 n2 n3 (fun hx => ?_) (fun hx => ?_) 100000 0 none rfl (zcc _) (by
  have:turns t.mask≤142:=by unfold turns;rcases hmm with e | e | e <;> lia
  lia) (fun n' hn'=>absurd hn' (Nat.not_lt_zero _))
 ·dsimp only
  obtain ⟨k,k1,k2⟩:=hx
  have hm:d∈S:=hp.mem_iff.mp (zbO.mpr ⟨k,k1,k2⟩)
  refine yab ?_
  have q:=h false s.heap (Heap.SameBut.refl a s.heap) (fun c o _ z=>z) (by
   unfold kC
   rw [yIp hm]
   exact ⟨o,es,ep,t,l,ks,ho,hex,hd,T,hled,hks,hkB,hp⟩)
  exact q
 ·dsimp only
  have hm:d ∉ S:=fun z=>by
   obtain ⟨k,k1,k2⟩:=zbO.mp (hp.mem_iff.mpr z)
   exact hx k k1 k2
  have hadd:kC S d=S++[d]:=by unfold kC;rw [yIn hm]
  rw [hadd] at h
  refine yaa (wpAny_setState_of ho hd T.fits ?_)
  dsimp only
  have hes:=wR T (j:=(road t.mask (aV w d) N).j) (h:=aV w d) (x:=.ref b)
  have HS:=T.put (x:=.ref b) n2 n3
  have x6:(SetTable.insertAt es (t.put (road t.mask (aV w d) N).j).2 (aV w d,Value.ref b)).size=l.length+1:=by
   rw [← zaB,hes,zbr,(cP ..).length_eq];rfl
  have hpe:(SetTable.insertAt es (t.put (road t.mask (aV w d) N).j).2 (aV w d,Value.ref b)).toList.Perm (((d,b)::ks).map (iT w)):=by
   rw [hes]
   refine ((cP ..).map _).trans ?_
   rw [zbC,← T.el,hks]
   exact .refl _
  have FO:(t.put (road t.mask (aV w d) N).j).1.place.size=l.length+1:=by
   show (SetTable.insertAt t.place _ _).size=_
   rw [← zaB,jZ,zaE,zbk,zbb,zbc,zaB,T.sz]
   have:=(e9 T.rise (road t.mask (aV w d) N).j).1
   rw [T.sz] at this
   lia
  have hdm:(t.put (road t.mask (aV w d) N).j).1.dummies = #[]:=by
   have hh:SetTable.has t.dummies (road t.mask (aV w d) N).j=false:=by rw [T.dm];unfold SetTable.has;rfl
   show (if SetTable.has t.dummies _=true then _ else t.dummies) = #[]
   rw [yIn (by rw [hh];decide)];exact T.dm
  have B8:(t.put (road t.mask (aV w d) N).j).1.led=t.led:=rfl
  have FQ:(t.put (road t.mask (aV w d) N).j).1.mask=t.mask:=rfl
  generalize (t.put (road t.mask (aV w d) N).j)=tp at *
  obtain ⟨t1,p⟩:=tp
  dsimp only at *
  generalize hE1:SetTable.insertAt es p (aV w d,Value.ref b)=es1 at *
  have fin:∀ t2:SetTable,t2.place=t1.place→t2.dummies=t1.dummies→t2.mask=t1.mask→t2.led=t1.led→yar (model prog w) A (do
    storeSet a es1 t2
    if (!false&&t2.tooFull)=true then do
      setRelay a (SetTable.grown (es.size+1))
      pure true
     else pure true) Q E s:=by
   intro t2 e1 e2 e3 e4
   have ho1:=iZ es1 t2 ho hd
   have sb1:=Heap.SameBut.update s.heap a (Obj.putSet es1 t2)
   have kt1:=EX ho hex sb1
   refine yaa (wpAny_storeSet_of ho hd ?_ (by rw [x6,yaf];lia))
   have htf:t2.tooFull=decide ((l.length+1)*5≥t.mask*3):=by
    unfold SetTable.tooFull SetTable.fill
    rw [e1,e2,e3,FO,hdm,FQ]
    simp
   rw [htf]
   by_cases hfull:(l.length+1)*5≥t.mask*3
   ·rw [yDt hfull,yIp (by decide)]
    have hfit:t2.fits es1.size=true:=by
     unfold SetTable.fits SetTable.fill
     rw [e1,e2,e3,FO,hdm,FQ,x6]
     simp
     rcases hmm with e | e | e <;> lia
    have hg:SetTable.grown (es.size+1)=(l.length+1)*4:=by
     unfold SetTable.grown
     rw [T.GY,yIn (by lia)]
    obtain ⟨m,m1,m2,m3,m4⟩:∃ m,SetTable.sizeAbove ((l.length+1)*4) - 1=m∧(m=7∨m=31∨m=127)∧es1.size*5<m*3∧SetTable.sizeAbove ((l.length+1)*4)≤128:=by
     rcases hmm with e | e | e
     ·have:l.length=4:=by lia
      rw [this]
      exact ⟨31,by decide +kernel,.inr (.inl rfl),by rw [x6,this];decide,by decide +kernel⟩
     ·have:l.length=18:=by lia
      rw [this]
      exact ⟨127,by decide +kernel,.inr (.inr rfl),by rw [x6,this];decide,by decide +kernel⟩
     ·lia
    obtain ⟨t3,od,l3,r1,r2,r3,r4,r5⟩:=wK (t:=t2) (es:=es1) m1 m2 m3
    refine yaa ?_
    unfold setRelay
    refine yaa (wpAny_setState_of ho1 rfl hfit ?_)
    dsimp only
    rw [hg,yIn (by rw [yaf];lia),r1]
    have FL:(od.filterMap (es1[·]?)).size=es1.size:=by
     rw [← zaB,r2.el,r3.length_eq,zaB]
    refine yaa ?_
    show yar _ _ (if ((od.filterMap (es1[·]?)).size != es1.size)=true then _ else _) _ _ _
    rw [yIn (by rw [FL];simp)]
    refine yab ?_
    dsimp only
    refine wpAny_storeSet_of ho1 rfl ?_ (by rw [FL,x6,yaf];lia)
    refine yab ?_
    have sb2:=sb1.trans (Heap.SameBut.update _ a (Obj.putSet (od.filterMap (es1[·]?)) t3))
    have kt2:=EX ho hex sb2
    obtain ⟨ks',p1,p2⟩:=lO (w:=w) (ks:=(d,b)::ks) (es:=(od.filterMap (es1[·]?)).toList) (by rw [r2.el];exact r3.trans hpe)
    refine h true _ sb2 kt2 ⟨_,_,_,t3,l3,ks',iZ _ t3 ho1 rfl,hex,rfl,r2,by rw [r4,e4,B8,hled],p2,fun k hk1 => ?_,?_⟩
    ·rcases zbB.mp (p1.mem_iff.mp hk1) with rfl | hk1
     ·exact ⟨hbB,lU kt2 hb⟩
     ·exact ⟨(hkB k hk1).1,lU kt2 (hk k hk1)⟩
    ·refine (p1.map _).trans ?_
     rw [zbC]
     refine (hp.cons d).trans ?_
     exact List.perm_append_singleton d S |>.symm
   ·rw [yDf hfull,yIn (by decide)]
    refine yab ?_
    have T1:=HS (by lia)
    obtain ⟨ks',p1,p2⟩:=lO hpe
    refine h true _ sb1 kt1 ⟨_,_,_,t2,_,ks',ho1,hex,rfl,⟨by rw [e2];exact T1.dm,by rw [e1];exact T1.pl,T1.el,T1.up,by rw [e3];exact T1.mm,by rw [e3];exact T1.nf,by rw [e3];exact T1.le,by rw [e3];exact T1.way⟩,by rw [e4,B8,hled],p2,fun k hk1 => ?_,?_⟩
    ·rcases zbB.mp (p1.mem_iff.mp hk1) with rfl | hk1
     ·exact ⟨hbB,lU kt1 hb⟩
     ·exact ⟨(hkB k hk1).1,lU kt1 (hk k hk1)⟩
    ·refine (p1.map _).trans ?_
     rw [zbC]
     refine (hp.cons d).trans ?_
     exact List.perm_append_singleton d S |>.symm
  obtain ⟨b1,b2,bs,b3⟩:=hb
  cases hpt:t1.plain with
  | true =>
   rw [yIp rfl]
   refine yaa (qf 8 d (by lia) b1 b3 fun r => ?_)
   cases r
   ·exact fin _ rfl rfl rfl rfl
   ·exact fin _ rfl rfl rfl rfl
  | false =>
   rw [yIn (by decide)]
   refine yaa (yab ?_)
   exact fin _ rfl rfl rfl rfl
end
end M8
namespace M8
open PySem PySem.Spec PyProof.Rows M5 M6 M7
noncomputable def lg (val:Nat→yam):Nat→List yam
 | 0=>[]
 | i+1=>kC (lg val i) (val i)
theorem kq (val:Nat→yam):∀ i,(lg val i).length≤i
 | 0=>zca _
 | i+1=>by
  have:=kq val i
  show (kC _ _).length≤_
  unfold kC
  split
  ·lia
  ·rw [zaE];show _+1≤_;lia
theorem oX (val:Nat→yam) (y:yam):∀ n,y∈lg val n↔∃ i,i<n∧val i=y
 | 0=>by simp [lg]
 | n+1=>by
  have ih:=oX val y n
  have e0:y∈lg val (n+1)↔y∈lg val n∨y=val n:=by
   show y∈kC _ _↔_
   unfold kC
   split
   ·exact ⟨.inl,fun z=>z.elim id fun e=>e ▸ ‹_›⟩
   ·simp
  rw [e0,ih]
  constructor
  ·rintro (⟨i,h,e⟩ | e)
   ·exact ⟨i,by lia,e⟩
   ·exact ⟨n,by lia,e.symm⟩
  ·rintro ⟨i,h,e⟩
   rcases zbV i n with z | z
   ·exact .inl ⟨i,z,e⟩
   ·obtain rfl:i=n:=by lia
    exact .inr e.symm
theorem jS (val:Nat→yam):∀ n,(lg val n).Nodup
 | 0=>List.nodup_nil
 | n+1=>by
  have ih:=jS val n
  show (kC _ _).Nodup
  unfold kC
  split
  ·exact ih
  ·rename_i hx
   rw [zaT]
   refine ⟨ih,by simp,fun a ha b hb e => ?_⟩
   rw [zaF.mp hb] at e
   exact hx (e ▸ ha)
section
variable {prog:yaj}{w:yak}{A:yal}{R:Result→yah→Prop}{I:Addr}{fp wr:List Addr}{G:Array yaw→Array yaw→Prop}{n:Nat}{P:Nat→yai→Prop}{St:Nat→yah→Prop}
theorem xK {h0:Heap}{B:List (yam×Addr)} (W:WalksS prog w A.in1 I fp wr G n P St) (a:Addr) (ha:a ∉ fp) (val:Nat→yam×Addr) (hval:∀ i v,P i v→v = .ref (val i).2) (hB:∀ i,i<n→val i∈B) (hk0:∀ i,i<n→isKey h0 (val i).1 (val i).2)
  (hI:∀ i s,St i s→∃ o,s.heap.get? I=some o∧o.cls ≠ .type "tuple") (hw:∀ b∈wr,b=I) (hu:A.units+11<cLine) (hn:n<63) :
  ∀ (k i:Nat) (s:yah),n - i=k→i≤n→St i s→zc w B s.heap a (lg (fun i=>(val i).1) i)→cF h0 s.heap →
   (∀ s',Moved (a::wr) G s s'→cF h0 s'.heap→zc w B s'.heap a (lg (fun i=>(val i).1) n)→R (.ok (.ret .none)) s') →
   codeAny (model prog w) A (.builtin "set.update.loop" ⟨[.ref a,.ref I],[]⟩) R s:=by
 have haw:a ∉ wr:=fun z=>ha (W.sub _ z)
 have sub:∀ b∈wr,b∈a::wr:=fun b z=>zar _ z
 have kt:∀ {i:Nat}{s s':yah},St i s→Moved wr G s s'→cF s.heap s'.heap:=fun {i s s'} hst hm=>by
  obtain ⟨o,ho,hc⟩:=hI _ _ hst
  exact cF.but ho hc fun c o hc1 e=>hm.heap c o (fun z=>hc1 (hw c z)) e
 intro k
 induction k with
 | zero =>
  intro i s hk hi hst hS hT hR
  obtain rfl:i=n:=by lia
  refine codeAny_builtin PyProof.Rows.F.entry_set_update_loop ?_
  rw [Around.under_plainId PyProof.Rows.F.plain_set_update_loop _]
  show yar _ A.in1 (pyNext (.ref I) >>= _) _ _ s
  refine yaa (W.done s _ _ hst fun s' hm => ?_)
  have k1:=kt hst hm
  exact yab (hR s' (hm.mono sub) (hT.trans k1) (hS.keep (fun o e=>hm.heap a o haw e) k1))
 | succ k ih =>
  intro i s hk hi hst hS hT hR
  have hlt:i<n:=by lia
  refine codeAny_builtin PyProof.Rows.F.entry_set_update_loop ?_
  rw [Around.under_plainId PyProof.Rows.F.plain_set_update_loop _]
  show yar _ A.in1 (pyNext (.ref I) >>= _) _ _ s
  refine yaa (W.item i s _ _ hlt hst fun v s' hP hst' hm => ?_)
  have k1:=kt hst hm
  obtain rfl:=hval i v hP
  have hS':=hS.keep (fun o e=>hm.heap a o haw e) k1
  have hT':=hT.trans k1
  have hkey:isKey s'.heap (val i).1 (val i).2:=lU hT' (hk0 i hlt)
  show yar _ A.in1 (holding [Value.ref (val i).2] (setAdd a (.ref (val i).2)) >>= _) _ _ s'
  refine yaa (yad ?_)
  unfold setAdd
  refine yad (yaa ((cE prog w).pyHash (by show A.units+1+10<cLine;lia) hkey ?_))
  have:=kq (fun i=>(val i).1) i
  refine Bg (s:={ s' with toks:=s'.toks+GZ (val i).1 }) hS' (hB i hlt) hkey (by show A.units+1+10<cLine;lia) (by lia) fun b h' hsb hkt hS2 => ?_
  refine yab ⟨plainId_quiet PyProof.Rows.F.plain_set_update_loop _,ih (i+1) _ (by lia) hlt (W.frame _ s' _ _ hst' (Nat.le_add_right _ _) fun b hb o e => ?_) hS2 (hT'.trans hkt) fun s'' hm'' hT'' hS'' => ?_⟩
  ·rw [hsb.2 b fun z:b=a=>ha (z ▸ hb)];exact e
  ·refine hR s'' (Moved.trans W.gtrans ((hm.mono sub).then_heap (Nat.le_add_right _ _) fun b o hb e => ?_) hm'') hT'' hS''
   rw [hsb.2 b fun z:b=a=>hb (z ▸ zaD)];exact e
end
section
variable {prog:yaj}{w:yak}{A:yal}{E:yai→yah→Prop}{s:yah}
theorem vh {B:List (yam×Addr)}{h:Heap}{a:Addr} (e:h.get? a=some (aK (!w.params.followText "set-order"))):zc w B h a [] :=
 ⟨_,#[],0,_,[],[],e,⟨rfl,rfl,rfl⟩,rfl,⟨rfl,rfl,rfl,.nil,.inl rfl,(by show 0*5<7*3;decide),fun e he=>by simp at he,fun e he=>by simp at he⟩,rfl,rfl,fun k hk=>by simp at hk,.nil⟩
theorem oj {a:Addr}{B:List (yam×Addr)}{S:List yam}{Q:yai→yah→Prop} (hh:A.handled=none) (hS:zc w B s.heap a S) (h0:∀ d∈S,∃ p r,d = .tuple (.int p::r)) (hc:∀ x∈S,∀ y∈S,aA x y=true) (hn:S.length<64) (hu:A.units+20<cLine)
  (h:∀ (s1:yah) (h2:Heap) (out:List (yam×Addr)) (c:Nat),s1.gens=s.gens→s1.os=s.os→(∀ b o,s.heap.get? b=some o→s1.heap.get? b=some o)→(∀ b o,s1.heap.get? b=some o→h2.get? b=some o)→h2.get? s1.heap.objs.size=some (seqObj "list" (out.map fun k=>Value.ref k.2).toArray c)→(∀ k∈out,k∈B)→(out.map (·.1)).Perm S→out.Pairwise (fun x y=>eV y.1 x.1=false)→Q (.ref s1.heap.objs.size) { s1 with heap:=h2 }) :
  yar (model prog w) A (call (.builtin "sorted") [.ref a]) Q E s:=by
 obtain ⟨o,es,ep,t,l,ks,ho,hex,hd,T,hled,hks,hkB,hp⟩:=hS
 have hm:∀ k∈ks,k.1∈S:=fun k hk=>hp.mem_iff.mp (zbO.mpr ⟨k,hk,rfl⟩)
 have hlen:ks.length=S.length:=by rw [← hp.length_eq,zbr]
 have hsz:es.size=ks.length:=by rw [← zaB,hks,zbr]
 refine ql (ks:=ks) (R:=fun s1=>s1.gens=s.gens∧s1.os=s.os) hh (fun k hk=>⟨(hkB k hk).2,h0 _ (hm k hk)⟩) (fun k hk l hl=>hc _ (hm k hk) _ (hm l hl)) (by lia) hu (fun hh' hQ=>pG (es:=es) (ep:=ep) (t:=t) hh' ⟨o,ho,hex,hd,T.fits,hled,fun _=>T.rise⟩ (by lia) fun s1 ord kp e1 e2 le tx => ?_) fun s1 h2 out c hR k1 k2 g hp1 hp2 => ?_
 ·have e:es.toList.map (·.2)=ks.map fun k=>Value.ref k.2:=by rw [hks,zbP];rfl
  rw [e] at tx
  obtain ⟨o',p1,rfl⟩:=gF tx
  exact hQ s1 o' kp ⟨e1,e2⟩ p1
 ·exact h s1 h2 out c hR.1 hR.2 k1 k2 g (fun k hk=>(hkB k (hp1.mem_iff.mp hk)).1) ((hp1.map _).trans hp) hp2
end
end M8
namespace L2
open PySem PySem.Spec PyProof.Rows M6 M8
section
variable {X:Cx}{e:Expr}{ta:TE}{p p2 pos pos2:Pos}
theorem fX {α:Type} (f:α→Addr):∀ {l:List α}{us:List yai},Vals (l.map fun x=>V.ref (f x)) us→us=l.map fun x=>Value.ref (f x)
 | [],us,h=>by cases h;rfl
 | x::l,us,h=>by
  cases h with
  | cons h1 h2=>cases h1;rw [fX f h2];rfl
end
end L2
namespace M
open PySem PySem.Spec PyProof.Rows L2 M6
section
variable {K:yaE}
theorem jF {α β:Type}{f:α→β}{l:List α}:∀ {out:List β},(∀ y∈out,y∈l.map f)→∃ o':List α,(∀ x∈o',x∈l)∧out=o'.map f
 | [],_=>⟨[],fun _ h=>by simp at h,rfl⟩
 | y::out,h=>by
  obtain ⟨x,x1,x2⟩:=zbO.mp (h y (by simp))
  obtain ⟨o',o1,o2⟩:=jF (l:=l) (f:=f) fun z hz=>h z (zar _ hz)
  refine ⟨x::o',fun z hz => ?_,by rw [zbC,x2,← o2]⟩
  rcases zbB.mp hz with rfl | hz
  ·exact x1
  ·exact o1 z hz
theorem lH {w:Wd}:∀ {ks:List D}{xs:List V},aj K w ks xs→(∀ k∈ks,∃ es,k = .tup es)→∃ bs:List Addr,xs=bs.map V.ref
 | [],xs,h,_=>by simp only [aj] at h;exact ⟨[],h⟩
 | k::ks,xs,h,g=>by
  simp only [aj] at h
  obtain ⟨x,r,rfl,h1,h2⟩:=h
  obtain ⟨es,rfl⟩:=g k (by simp)
  simp only [Rep] at h1
  obtain ⟨b,ys,rfl,_⟩:=h1
  obtain ⟨bs,rfl⟩:=lH h2 fun k hk=>g k (zar _ hk)
  exact ⟨b::bs,rfl⟩
end
end M
namespace M9
open PySem PySem.Spec PyProof.Rows
section
variable {prog:yaj}{w:yak}{A:yal}{E:yai→yah→Prop}{s:yah}
theorem sS {I t:Addr}{i:Nat}{its:Array yai}{x:yai}{Q:yai→yah→Prop} (hI:s.heap.IsTupleIter I t i) (ht:s.heap.IsTuple t its) (hx:its[i]? = some x)
  (h:∀ h',h'.IsTupleIter I t (i+1)→Heap.SameBut I s.heap h'→Q x { s with heap:=h' }):yar (model prog w) A (Builtin.SmallTypes.nextOf (.ref I)) Q E s:=by
 obtain ⟨o,ho,hc,hd⟩:=id hI
 obtain ⟨ol,hol,_,nl,hdl⟩:=ht
 unfold Builtin.SmallTypes.nextOf
 refine yaa (wpAny_callSpecial?_slot (name:=Str.ofString "__next__") hI.typeIs F.slot_tuple_iterator_next (wpAny_call_entry F.slot_tuple_iterator_next hI.typeIs F.entry_tuple_iterator_next ?_ (F.args_tuple_iterator_next_1 _)))
 show yar _ _ (field (.ref I) 0 >>= _) _ _ s
 refine yaa (wpAny_field ho hd (x:=.ref t) rfl ?_)
 rw [yIn (by simp : ¬ ((Value.ref t==Value.none)=true))]
 show yar _ _ (field (.ref I) 1 >>= _) _ _ s
 refine yaa (wpAny_field ho hd (x:=.int i 0) rfl (yaa (wpAny_seqItems hol hdl ?_)))
 simp only [zaY,hx]
 refine yaa (wpAny_setField ho hd (by simp) (yab ⟨x,rfl,yab (h _ ⟨_,zaq _ ho (Obj.isFreed_of_fields (Obj.data_mapFields hd _)),(Obj.cls_mapFields ..).trans hc,by rw [Obj.data_mapFields hd];simp [rawInt]⟩ (Heap.SameBut.update ..))⟩))
structure ZAt (h:Heap) (z TI TO i1 i2 l1 l2:Addr) (f:yai) (k:Nat):Prop where
 hz:IsZip h z TI TO f
 hTI:IsPair h TI (.ref i1) (.ref i2)
 hTO:∃ a b,IsPair h TO a b
 h1:h.IsTupleIter i1 l1 k
 h2:h.IsTupleIter i2 l2 k
noncomputable abbrev vz (l:Addr):Obj:={ cls:=.type "tuple_iterator",data:=.fields #[.ref l,.int 0 0] }
noncomputable abbrev Iz (a b:yai):Obj:={ cls:=.type "tuple",data:=.seq #[a,b] }
noncomputable abbrev zO (a b:Addr):Obj:={ cls:=.type "zip",data:=.fields #[.none,.bool false,.bool false,.ref a,.ref b] }
noncomputable abbrev q2 (h:Heap) (l1 l2:Addr):Heap:=(h.push (vz l1)).push (vz l2)
noncomputable abbrev q3 (h:Heap) (l1 l2:Addr):Heap:=(q2 h l1 l2).push (Iz (.ref h.objs.size) (.ref (h.push (vz l1)).objs.size))
noncomputable abbrev q4 (h:Heap) (l1 l2:Addr):Heap:=(q3 h l1 l2).push (Iz .none .none)
noncomputable abbrev q5 (h:Heap) (l1 l2:Addr):Heap:=(q4 h l1 l2).push (zO (q2 h l1 l2).objs.size (q3 h l1 l2).objs.size)
end
end M9
namespace M10
open PySem PyProof.Rows
noncomputable def KR (R:Keyed→Int) (xs:Array Keyed) (i:Nat):Int:=(xs[i]?.map R).getD 0
def Up (R:Keyed→Int) (xs:Array Keyed) (lo m:Nat):Prop:=∀ i j,lo≤i→i≤j→j<lo+m→KR R xs i≤KR R xs j
section
variable {prog:yaj}{w:yak}{A:yal}{E:yai→yah→Prop}{s:yah}{R:Keyed→Int}{κ:SortKind}{T:Keyed→Prop}{a₀ b:Array Keyed}{p:Array (Nat×Nat×Nat)}{lo:Nat}
noncomputable def t3 (lo n nrem:Nat):StateT SortSt Sem (Option Nat):=do
 let mut n:=n
 reverseSlice' lo (lo+n)
 for _ in [n:nrem] do
  let some sm ← ltAt' (lo+n) (lo+n - 1) | return none
  if sm then break
  n:=n+1
 return some n
end
section
variable {prog:yaj}{w:yak}{A:yal}{E:yai→yah→Prop}{s:yah}{R:Keyed→Int}{κ:SortKind}{T:Keyed→Prop}{a₀:Array Keyed}
set_option hygiene false in
local macro_rules | `(tactic| exact_mod_cast ⟨1,$N⟩) => `(tactic| (
 obtain ⟨ys,g3,rfl,hp3,hr3⟩:=B3.ri hr
 refine wpS_bind (wpS_get ?_)
 have fin:∀ (zs:Array Keyed) (p':Array (Nat×Nat×Nat)) (g':Nat),zs.Perm a₀→Runs R zs p'.toList 0 lo→(∀ k,lo≤k→zs[k]? = ys[k]?)→RI R κ a₀ (lo + $N) (SortSt.mk' κ zs (p'.push (lo,$N,0)) g' none):=fun zs p' g' q1 q2 q3 =>
  ⟨zs,_,g',rfl,q1,by
   rw [zaZ]
   exact q2.app ⟨rfl,n1,hu3.of fun k k1 k2=>KR_congr (q3 k k1),rfl⟩⟩
 split
 ·rename_i s1 n1' q' hb
  refine wpS_bind (wpS_mono (wpS_forRange
   (I:=fun x c st'=>c=(none,())∧∃ zs p g,st'=SortSt.mk' κ zs p g none∧zs.Perm a₀∧Runs R zs p.toList 0 lo∧∀ k,lo≤k→zs[k]? = ys[k]?)
   (Q:=fun c st'=>c=(none,())∧∃ zs p g,st'=SortSt.mk' κ zs p g none∧zs.Perm a₀∧Runs R zs p.toList 0 lo∧∀ k,lo≤k→zs[k]? = ys[k]?) ?step3 (fun _ _ h=>h) ⟨rfl,ys,p,g3,rfl,hp3,hr3,fun _ _=>rfl⟩) ?post3)
  case step3 =>
   rintro x3 c st' _ _ ⟨rfl,zs,p4,g4,rfl,hp4,hr4,hk4⟩
   refine wpS_bind (wpS_get ?_)
   split
   ·rename_i o1 o2 o3 ho
    split
    ·exact wpS_pure ⟨rfl,zs,p4,g4,rfl,hp4,hr4,hk4⟩
    ·have hs4:p4.size > 1:=by
      by_cases hc:p4.size > 1
      ·exact hc
      ·rw [yIn hc] at ho;cases ho
     refine wpS_bind (mrg_ok C (tp hp4) hr4 (by rw [hp4.size_eq];lia) (show p4.size - 2+1<p4.size by lia) fun z5 p5 g5 q1 q2 q3 q4 => ?_)
     rw [yIn (by decide)]
     exact wpS_pure ⟨rfl,z5,p5,g5,rfl,q1.trans hp4,q2,fun k hk=>(q4 k hk).trans (hk4 k hk)⟩
   ·exact wpS_pure ⟨rfl,zs,p4,g4,rfl,hp4,hr4,hk4⟩
  case post3 =>
   rintro c st' ⟨rfl,zs,p4,g4,rfl,hp4,hr4,hk4⟩
   refine wpS_bind (wpS_modify (wpS_bind (wpS_modify (wpS_pure ⟨_,rfl,by lia,n2,fin zs _ g4 hp4 ?_ hk4⟩))))
   refine hr4.pow ?_
   rw [Array.toList_modify]
   exact map_mod _ _ _
 ·exact wpS_bind (wpS_modify (wpS_pure ⟨_,rfl,by lia,n2,fin ys p g3 hp3 hr3 fun _ _=>rfl⟩))))
end
end M10
namespace M10
open PySem PySem.Spec PyProof.Rows
section
variable {prog:yaj}{w:yak}{A:yal}{E:yai→yah→Prop}{s:yah}{R:Keyed→Int}{T:Keyed→Prop}
def TS (ss:List Str) (p:Keyed):Prop:=∃ x t,p.1 = .str x t∧x∈ss
end
end M10
namespace L2
open PySem PySem.Spec PyProof.Rows M6
def HA (K:yaE) (W:yak) (neg:Bool):R2:=fun y x H Q=>∃ (a a' b:Addr) (ks:List (yam×Addr)) (d:yam),x = .ref a∧y = .ref b∧H a=some (.ext (gk W a' ks))∧pZ K H ks∧bh d=true∧d.depth≤6∧bJ K H d (.ref b)∧Q (.bl (neg != (ks.any fun x=>decide (x.1=d)))) H
section
variable {X:Cx}
theorem mh (d:yam):∀ ks:List (yam×Addr),(atKey (ks.map fun x=>(x.1,x.2,Value.bool true)) d).isSome=(ks.any fun x=>decide (x.1=d))
 | []=>rfl
 | x::xs=>by
  have ih:=mh d xs
  unfold atKey at ih ⊢
  rw [Option.isSome_map] at ih ⊢
  rw [zbC,List.find?_cons,zbE]
  by_cases h:x.1=d
  ·simp [h]
  ·simp only [h,decide_false,Bool.false_or];exact ih
end
end L2
namespace M
open PySem PySem.Spec PyProof.Rows L2 M6
section
variable {X:Cx}{e o:Expr}{es:List Expr}{p p2 pos pos2:Pos}{C:Addr}{k:Nat}{m:Str}{ps:List Str}{sp:AN}{K:yaE}
noncomputable def ya (ks:List D) (k:D):Bool:=ks.any fun j=>decide (py j=py k)
def Ii (W:yak) (neg:Bool):A2:=fun x y S Q=>∃ n ks,y = .loc n∧S[n]? = some (some (nO W ks))∧ef x∧(∀ k∈ks,ef k)∧Q (.dat (.bl (neg != ya ks x))) S
theorem lz {ks:List D}{bs:List Addr} (hlen:ks.length=bs.length):(∀ x∈(ks.map py).zip bs,∃ k∈ks,x.1=py k)∧(ks.map py).zip bs=(ks.zip bs).map (fun x=>(py x.1,x.2))∧((ks.map py).zip bs).map (fun k=>V.ref k.2)=bs.map V.ref∧((ks.map py).zip bs).map (·.1)=ks.map py:=by
 refine ⟨fun x hx => ?_,by rw [List.zip_map_left];rfl,?_,zbl (by rw [zbr];lia)⟩
 ·obtain ⟨k,hk,e⟩:=zbO.mp (zbq hx).1
  exact ⟨k,hk,e.symm⟩
 ·have:((ks.map py).zip bs).map (·.2)=bs:=List.map_snd_zip (by rw [zbr];lia)
  rw [← this,zbP,this];rfl
theorem Dy {w:Wd}{H:Hp}{S:aJ}{n:Nat}{v:V}{W:yak}{ks:List D} (ok:Ok K w H S) (r:Rep K w (.loc n) v) (z:S[n]? = some (some (nO W ks))) :
  ∃ (a a':Addr) (bs:List Addr),v = .ref a∧H a=some (.ext (gk W a' ((ks.map py).zip bs)))∧aj K w ks (bs.map V.ref)∧ks.length=bs.length:=by
 simp only [Rep] at r
 obtain ⟨a,h0,rfl⟩:=r
 obtain ⟨a1,u,k1,k2,k3,a',bs,rfl,k5⟩:=ok.live n _ z
 rw [h0] at k1;cases k1
 exact ⟨a,a',bs,rfl,k3,k5,by have:=k5.length;rw [zbr] at this;exact this.symm⟩
end
end M
namespace L2
open PySem PySem.Spec PyProof.Rows
def XN (C:Addr) (d0:Option Addr) (x:Addr):HO:=.ext fun h=>∃ t0:Addr,h.get? x=some (PySem.W.F5 C d0 #[.ref t0,.none,.none,.none,.bool false,.none])
abbrev Cx.at (X:Cx) (e:yai):Cx:={ X with A:=X.A.mark (some e),calm:=false,xe:=fun _ _=>False }
end L2
namespace L2
open PySem
section
variable {K:yaE}{mg:Str→Option yai}{C:Addr}
structure kL (K:yaE) (x:Str) (st:Stmt):Prop where
 ex:∃ f oc od kV doc pm an cdv ct osl,zbX K yaq x=some (some (.ref f))∧K.lookup f=some ⟨oc,od,.func (zbW x x (cz st) (bO st) (ak st) .none kV doc pm an cdv ct),osl⟩∧zbz K cdv x=true∧zby K (.ref f)=true
theorem kL.of {x:Str}{st:Stmt}{f:Addr}{oc:yai}{od an:Option Addr}{osl:Array (Option yai)}{kV doc pm cdv ct:yai} (a:zbX K yaq x=some (some (.ref f))) (l:K.lookup f=some ⟨oc,od,.func (zbW x x (cz st) (bO st) (ak st) .none kV doc pm an cdv ct),osl⟩)
  (c:zbz K cdv x=true) (k:zby K (.ref f)=true):kL K x st:=⟨_,_,_,_,_,_,_,_,_,_,a,l,c,k⟩
theorem kL.src {x:Str}{st:Stmt}{ps:List Str}{h:Heap} (e:kL K x st) (X:K.In h) (G:h.Ns yaq mg)
  (b:∀ (kV doc pm:yai) (an:Option Addr) (cdv ct:yai) (us:List yai),us.length=ps.length→yay (zbW x x (cz st) (bO st) (ak st) .none kV doc pm an cdv ct) ⟨us,[]⟩=pure (ps.zip us)):Src K mg x ps st:=by
 obtain ⟨f,oc,od,kV,doc,pm,an,cdv,ct,osl,a,l,c,k⟩:=e.ex
 exact J.CB X G a l c k b
end
end L2
namespace M12
open PySem PySem.Spec PyProof.Rows M9
theorem aY {x y:Nat} (h:x<y∨y<x):@Ne Addr x y:=fun e=>by have e:(x:Nat)=y:=e;lia
abbrev ZO (h:Heap) (z TI TO:Addr) (f0 f1:yai):Prop:=h.get? z=some { cls:=.type "zip",dict:=none,data:=.fields #[f0,f1,.bool false,.ref TI,.ref TO],slots := #[] }
abbrev rK (h:Heap) (T:Addr) (a b c:yai):Prop:=h.get? T=some { cls:=.type "tuple",data:=.seq #[a,b,c] }
structure ZI (h:Heap) (n:Nat) (l1 l2 l3:Addr) (xs ys zs:Array yai) (k:Nat):Prop where
 ti:rK h (n+3) (.ref n) (.ref (n+1)) (.ref (n+2))
 to:∃ a b c,rK h (n+4) a b c
 h1:h.IsListIter n l1 k
 h2:h.IsTupleIter (n+1) l2 k
 h3:h.IsListIter (n+2) l3 k
 m1:h.IsList l1 xs
 m2:h.IsTuple l2 ys
 m3:h.IsList l3 zs
theorem ZI.at {h h':Heap}{n:Nat}{l1 l2 l3:Addr}{xs ys zs:Array yai}{k:Nat} (Z:ZI h n l1 l2 l3 xs ys zs k) (b1:l1<n) (b2:l2<n) (b3:l3<n) (kp:∀ c o,c<n+5→h.get? c=some o→h'.get? c=some o):ZI h' n l1 l2 l3 xs ys zs k:=by
 have lt:∀ {x:Nat},x<n→x<n+5:=fun h=>by lia
 obtain ⟨a,b,c,e⟩:=Z.to
 exact ⟨kp (n+3) _ (by show (n+3:Nat)<n+5;lia) Z.ti,⟨a,b,c,kp (n+4) _ (by show (n+4:Nat)<n+5;lia) e⟩,Z.h1.at fun o e=>kp n o (by show (n:Nat)<n+5;lia) e,Z.h2.at fun o e=>kp (n+1) o (by show (n+1:Nat)<n+5;lia) e,Z.h3.at fun o e=>kp (n+2) o (by show (n+2:Nat)<n+5;lia) e,
  Z.m1.at fun o e=>kp l1 o (lt b1) e,Z.m2.at fun o e=>kp l2 o (lt b2) e,Z.m3.at fun o e=>kp l3 o (lt b3) e⟩
section
variable {prog:yaj}{w:yak}{A:yal}{E:yai→yah→Prop}{s:yah}
theorem mz {T:Addr}{a b c x:yai}{k:Nat}{Q:Unit→yah→Prop} (hT:rK s.heap T a b c)
  (h:∀ h',h'.get? T=some { cls:=.type "tuple",data:=.seq ((#[a,b,c]:Array yai).setIfInBounds k x) }→Heap.SameBut T s.heap h'→Q () { s with heap:=h' }) :
  yar (model prog w) A (updateSeq T (·.setIfInBounds k x)) Q E s:=by
 refine wpAny_updateSeq hT rfl (h _ ?_ (Heap.SameBut.update ..))
 rw [zaq _ hT rfl]
 simp [Obj.mapSeq]
theorem zw {n:Nat}{l1 l2 l3:Addr}{xs ys zs:Array yai}{x y v:yai}{Q:Option yai→yah→Prop} (b1:l1<n) (b2:l2<n) (b3:l3<n) (hz:ZO s.heap (n+5) (n+3) (n+4) .none (.bool false)) (Z:ZI s.heap n l1 l2 l3 xs ys zs 0)
  (hx:xs[0]? = some x) (hy:ys[0]? = some y) (hv:zs[0]? = some v)
  (hQ:∀ h',ZO h' (n+5) (n+3) (n+4) (rawInt s.heap.objs.size) (.bool false)→ZI h' n l1 l2 l3 xs ys zs 1→rK h' s.heap.objs.size x y v→h'.objs.size=s.heap.objs.size+1→(∀ c o,c<n∨n+5<c→s.heap.get? c=some o→h'.get? c=some o)→Q (some (.ref s.heap.objs.size)) { s with heap:=h' }) :
  yar (model prog w) A (pyNext (.ref (n+5:Nat))) Q E s:=by
 obtain ⟨hTI,⟨a,b,c,hTO⟩,h1,h2,h3,m1,m2,m3⟩:=Z
 have hT:s.TypeIs (.ref (n+5:Nat)) "zip" := ⟨_,hz,rfl⟩
 unfold pyNext
 refine yaa (wpAny_attempt (wpAny_callSpecial?_slot (name:=Str.ofString "__next__") hT F.slot_zip_next (wpAny_call_entry F.slot_zip_next hT F.entry_zip_next ?_ (F.args_zip_next_1 _))))
 show yar _ _ (field (.ref (n+5:Nat)) 2 >>= _) _ _ _
 refine yaa (wpAny_field hz rfl (x:=.bool false) rfl ?_)
 show yar _ _ (field (.ref (n+5:Nat)) 3 >>= _) _ _ _
 refine yaa (wpAny_field hz rfl (x:=.ref (n+3:Nat)) rfl (yaa (wpAny_seqItems hTI rfl ?_)))
 show yar _ _ (Builtin.SmallTypes.ownedTupleIsFree (.ref (n+5:Nat)) >>= _) _ _ _
 refine yaa ?_
 unfold Builtin.SmallTypes.ownedTupleIsFree
 refine yaa (wpAny_field hz rfl (x:=.none) rfl (yab ?_))
 simp only [if_true]
 refine yaa (wpAny_rule (yaa (wpAny_field hz rfl (x:=.ref (n+4:Nat)) rfl (yaa (wpAny_setField_rec hz (by simp) fun g1 z1 s1 => ?_)))))
 replace z1:ZO g1 (n+5) (n+3) (n+4) .ellipsis (.bool false):=z1
 refine yaa ?_
 simp only [List.zipIdx_cons,List.zipIdx_nil,zbt,List.forIn_nil]
 refine yaa (yaa (yaA ?_))
 show yar _ _ (Builtin.SmallTypes.nextOf (.ref n) >>= _) _ _ _
 refine yaa (wpAny_nextOf_list_item (h1.at fun o e=>s1.extBut _ _ (aY (by lia)) e) (m1.at fun o e=>s1.extBut _ _ (aY (.inl (zbU b1 (by lia)))) e) hx fun g2 j1 s2=>yab ?_)
 have u2:∀ c o,c≠(n+5:Nat)→c≠(n:Nat)→s.heap.get? c=some o→g2.get? c=some o:=fun c o c1 c2 e=>s2.extBut _ _ c2 (s1.extBut _ _ c1 e)
 have t2:rK g2 (n+4) a b c:=u2 _ _ (aY (by lia)) (aY (by lia)) hTO
 refine yaa (wpAny_seqItems t2 rfl (yaa (mz t2 fun g3 t3 s3 => ?_)))
 replace t3:rK g3 (n+4) x b c:=t3
 refine yaa (wpAny_letGo (yab (yaa (yaa (yaA ?_)))))
 show yar _ _ (Builtin.SmallTypes.nextOf (.ref (n+1:Nat)) >>= _) _ _ _
 have u3:∀ c o,c≠(n+5:Nat)→c≠(n:Nat)→c≠(n+4:Nat)→s.heap.get? c=some o→g3.get? c=some o:=fun c o c1 c2 c3 e=>s3.extBut _ _ c3 (u2 c o c1 c2 e)
 refine yaa (sS (h2.at fun o e=>u3 _ o (aY (by lia)) (aY (by lia)) (aY (by lia)) e) (m2.at fun o e=>u3 _ o (aY (.inl (zbU b2 (by lia)))) (aY (.inl b2)) (aY (.inl (zbU b2 (by lia)))) e) hy fun g4 j2 s4=>yab ?_)
 have t4:rK g4 (n+4) x b c:=s4.extBut _ _ (aY (by lia)) t3
 refine yaa (wpAny_seqItems t4 rfl (yaa (mz t4 fun g5 t5 s5 => ?_)))
 replace t5:rK g5 (n+4) x y c:=t5
 refine yaa (wpAny_letGo (yab (yaa (yaa (yaA ?_)))))
 show yar _ _ (Builtin.SmallTypes.nextOf (.ref (n+2:Nat)) >>= _) _ _ _
 have u5:∀ c o,c≠(n+5:Nat)→c≠(n:Nat)→c≠(n+4:Nat)→c≠(n+1:Nat)→s.heap.get? c=some o→g5.get? c=some o:=fun c o c1 c2 c3 c4 e=>s5.extBut _ _ c3 (s4.extBut _ _ c4 (u3 c o c1 c2 c3 e))
 refine yaa (wpAny_nextOf_list_item (h3.at fun o e=>u5 _ o (aY (by lia)) (aY (by lia)) (aY (by lia)) (aY (by lia)) e) (m3.at fun o e=>u5 _ o (aY (.inl (zbU b3 (by lia)))) (aY (.inl b3)) (aY (.inl (zbU b3 (by lia)))) (aY (.inl (zbU b3 (by lia)))) e) hv fun g6 j3 s6=>yab ?_)
 have t6:rK g6 (n+4) x y c:=s6.extBut _ _ (aY (by lia)) t5
 refine yaa (wpAny_seqItems t6 rfl (yaa (mz t6 fun g7 t7 s7 => ?_)))
 replace t7:rK g7 (n+4) x y v:=t7
 refine yaa (wpAny_letGo (yab (yab (yaa (wpAny_seqItems t7 rfl (yaa (wpAny_newTuple ?_)))))))
 have hsz:g7.objs.size=s.heap.objs.size:=by rw [s7.1,s6.1,s5.1,s4.1,s3.1,s2.1,s1.1]
 have u7:∀ c o,c<n∨c=(n+3:Nat)∨n+5<c→s.heap.get? c=some o→g7.get? c=some o:=fun c o hc e=>s7.extBut _ _ (aY (by lia)) (s6.extBut _ _ (aY (by lia)) (u5 c o (aY (by lia)) (aY (by lia)) (aY (by lia)) (aY (by lia)) e))
 have z7:ZO g7 (n+5) (n+3) (n+4) .ellipsis (.bool false):=s7.extBut _ _ (aY (by lia)) (s6.extBut _ _ (aY (by lia)) (s5.extBut _ _ (aY (by lia)) (s4.extBut _ _ (aY (by lia)) (s3.extBut _ _ (aY (by lia)) (s2.extBut _ _ (aY (by lia)) z1)))))
 have zlt:(n+5:Nat)<g7.objs.size:=zbY z7
 show yar _ _ (Builtin.SmallTypes.ownedTupleHandOut (.ref (n+5:Nat)) (.ref g7.objs.size) >>= _) _ _ _
 refine yaa ?_
 unfold Builtin.SmallTypes.ownedTupleHandOut
 have z8:ZO (g7.push { cls:=.type "tuple",data:=.seq #[x,y,v] }) (n+5) (n+3) (n+4) .ellipsis (.bool false):=zak _ z7
 refine yaa (wpAny_setField_rec z8 (by simp) fun g9 z9 s9 => ?_)
 replace z9:ZO g9 (n+5) (n+3) (n+4) (rawInt g7.objs.size) (.bool false):=z9
 refine wpAny_setField_rec z9 (by simp) fun g10 z10 s10 => ?_
 replace z10:ZO g10 (n+5) (n+3) (n+4) (rawInt g7.objs.size) (.bool false):=z10
 have up:∀ c o,c≠(n+5:Nat)→g7.get? c=some o→g10.get? c=some o:=fun c o c1 e=>s10.extBut _ _ c1 (s9.extBut _ _ c1 (zak _ e))
 have T10:rK g10 g7.objs.size x y v:=s10.extBut _ _ (zbT zlt) (s9.extBut _ _ (zbT zlt) (zaC _ rfl))
 have EO:g10.objs.size=g7.objs.size+1:=by rw [s10.1,s9.1,zbA]
 rw [hsz] at z10 T10 EO
 refine yab ⟨_,rfl,yab ?_⟩
 show Q (some (.ref g7.objs.size)) _
 rw [hsz]
 refine hQ g10 z10 ⟨up _ _ (aY (by lia)) (u7 _ _ (by lia) hTI),⟨x,y,v,up _ _ (aY (by lia)) t7⟩,j1.at fun o e=>up _ o (aY (by lia)) (s7.extBut _ _ (aY (by lia)) (s6.extBut _ _ (aY (by lia)) (s5.extBut _ _ (aY (by lia)) (s4.extBut _ _ (aY (by lia)) (s3.extBut _ _ (aY (by lia)) e))))),
  j2.at fun o e=>up _ o (aY (by lia)) (s7.extBut _ _ (aY (by lia)) (s6.extBut _ _ (aY (by lia)) (s5.extBut _ _ (aY (by lia)) e))),j3.at fun o e=>up _ o (aY (by lia)) (s7.extBut _ _ (aY (by lia)) e),
  m1.at fun o e=>up _ o (aY (.inl (zbU b1 (by lia)))) (u7 _ o (.inl b1) e),m2.at fun o e=>up _ o (aY (.inl (zbU b2 (by lia)))) (u7 _ o (.inl b2) e),m3.at fun o e=>up _ o (aY (.inl (zbU b3 (by lia)))) (u7 _ o (.inl b3) e)⟩ T10 EO fun c o hc e=>up c o (aY (by lia)) (u7 c o (by lia) e)
theorem lQ {n T:Nat}{f:Bool}{oT:Obj}{Q:Bool→yah→Prop} (hz:ZO s.heap (n+5) (n+3) (n+4) (rawInt T) (.bool f)) (hT:s.heap.get? T=some oT)
  (h:∀ g,ZO g (n+5) (n+3) (n+4) (rawInt T) (.bool true)→Heap.SameBut (n+5) s.heap g→Q false { s with heap:=g }):yar (model prog w) A (Builtin.SmallTypes.ownedTupleIsFree (.ref (n+5:Nat))) Q E s:=by
 unfold Builtin.SmallTypes.ownedTupleIsFree
 refine yaa (wpAny_field hz rfl (x:=rawInt T) rfl ?_)
 show yar _ _ (loadIfAlive ((T:Int).toNat) >>= _) _ _ _
 rw [zaY]
 refine yaa (PySem.W.kdx_alive hT ?_)
 simp only [Option.isNone_some,zaK,if_false]
 refine yaa (wpAny_field hz rfl (x:=.bool f) rfl ?_)
 cases f with
 | true =>
  rw [yIn (show ¬ ((Value.bool true != Value.bool true)=true) from zaJ)]
  exact yab (h _ hz (Heap.SameBut.refl _ _))
 | false =>
  rw [yIp (show (Value.bool false != Value.bool true)=true from rfl)]
  exact yaa (wpAny_setField_rec hz (by simp) fun g zg sg=>yab (h g zg sg))
theorem Co {n T k:Nat}{f:Bool}{oT:Obj}{l1 l2 l3:Addr}{xs ys zs:Array yai}{x y v:yai}{Q:Option yai→yah→Prop} (b1:l1<n) (b2:l2<n) (b3:l3<n) (hz:ZO s.heap (n+5) (n+3) (n+4) (rawInt T) (.bool f)) (hT0:s.heap.get? T=some oT) (Z:ZI s.heap n l1 l2 l3 xs ys zs k)
  (hx:xs[k]? = some x) (hy:ys[k]? = some y) (hv:zs[k]? = some v)
  (hQ:∀ h',ZO h' (n+5) (n+3) (n+4) (rawInt T) (.bool true)→ZI h' n l1 l2 l3 xs ys zs (k+1)→rK h' s.heap.objs.size x y v→h'.objs.size=s.heap.objs.size+1→(∀ c o,c<n∨n+5<c→s.heap.get? c=some o→h'.get? c=some o)→Q (some (.ref s.heap.objs.size)) { s with heap:=h' }) :
  yar (model prog w) A (pyNext (.ref (n+5:Nat))) Q E s:=by
 obtain ⟨hTI,⟨a,b,c,hTO⟩,h1,h2,h3,m1,m2,m3⟩:=Z
 have hT:s.TypeIs (.ref (n+5:Nat)) "zip" := ⟨_,hz,rfl⟩
 unfold pyNext
 refine yaa (wpAny_attempt (wpAny_callSpecial?_slot (name:=Str.ofString "__next__") hT F.slot_zip_next (wpAny_call_entry F.slot_zip_next hT F.entry_zip_next ?_ (F.args_zip_next_1 _))))
 show yar _ _ (field (.ref (n+5:Nat)) 2 >>= _) _ _ _
 refine yaa (wpAny_field hz rfl (x:=.bool false) rfl ?_)
 show yar _ _ (field (.ref (n+5:Nat)) 3 >>= _) _ _ _
 refine yaa (wpAny_field hz rfl (x:=.ref (n+3:Nat)) rfl (yaa (wpAny_seqItems hTI rfl ?_)))
 show yar _ _ (Builtin.SmallTypes.ownedTupleIsFree (.ref (n+5:Nat)) >>= _) _ _ _
 refine yaa (lQ hz hT0 fun g1 z1 s1 => ?_)
 simp only [zaK,if_false]
 simp only [← zaL,zbt,List.forIn_nil]
 refine yaa (yaa (yaa (yad ?_)))
 show yar _ _ (Builtin.SmallTypes.nextOf (.ref n) >>= _) _ _ _
 refine yaa (wpAny_nextOf_list_item (h1.at fun o e=>s1.extBut _ _ (aY (by lia)) e) (m1.at fun o e=>s1.extBut _ _ (aY (.inl (zbU b1 (by lia)))) e) hx fun g2 j1 s2=>yab (yab ?_))
 have u2:∀ c o,c≠(n+5:Nat)→c≠(n:Nat)→s.heap.get? c=some o→g2.get? c=some o:=fun c o c1 c2 e=>s2.extBut _ _ c2 (s1.extBut _ _ c1 e)
 refine yaa (yaa (yad ?_))
 show yar _ _ (Builtin.SmallTypes.nextOf (.ref (n+1:Nat)) >>= _) _ _ _
 refine yaa (sS (h2.at fun o e=>u2 _ o (aY (by lia)) (aY (by lia)) e) (m2.at fun o e=>u2 _ o (aY (.inl (zbU b2 (by lia)))) (aY (.inl b2)) e) hy fun g4 j2 s4=>yab (yab ?_))
 have u4:∀ c o,c≠(n+5:Nat)→c≠(n:Nat)→c≠(n+1:Nat)→s.heap.get? c=some o→g4.get? c=some o:=fun c o c1 c2 c3 e=>s4.extBut _ _ c3 (u2 c o c1 c2 e)
 refine yaa (yaa (yad ?_))
 show yar _ _ (Builtin.SmallTypes.nextOf (.ref (n+2:Nat)) >>= _) _ _ _
 refine yaa (wpAny_nextOf_list_item (h3.at fun o e=>u4 _ o (aY (by lia)) (aY (by lia)) (aY (by lia)) e) (m3.at fun o e=>u4 _ o (aY (.inl (zbU b3 (by lia)))) (aY (.inl b3)) (aY (.inl (zbU b3 (by lia)))) e) hv fun g6 j3 s6=>yab (yab (yab ?_)))
 have u6:∀ c o,c≠(n+5:Nat)→c≠(n:Nat)→c≠(n+1:Nat)→c≠(n+2:Nat)→s.heap.get? c=some o→g6.get? c=some o:=fun c o c1 c2 c3 c4 e=>s6.extBut _ _ c4 (u4 c o c1 c2 c3 e)
 have hsz:g6.objs.size=s.heap.objs.size:=by rw [s6.1,s4.1,s2.1,s1.1]
 have z6:ZO g6 (n+5) (n+3) (n+4) (rawInt T) (.bool true):=s6.extBut _ _ (aY (by lia)) (s4.extBut _ _ (aY (by lia)) (s2.extBut _ _ (aY (by lia)) z1))
 show yar _ _ (newTuple [x,y,v] >>= _) _ _ _
 refine yaa (wpAny_newTuple (yab ⟨_,rfl,yab ?_⟩))
 show Q (some (.ref g6.objs.size)) _
 have T7:rK (g6.push { cls:=.type "tuple",data:=.seq #[x,y,v] }) g6.objs.size x y v:=zaC _ rfl
 rw [hsz] at T7 ⊢
 have up:∀ c o,g6.get? c=some o→(g6.push { cls:=.type "tuple",data:=.seq #[x,y,v] }).get? c=some o:=fun c o e=>zak _ e
 refine hQ _ (up _ _ z6) ⟨up _ _ (u6 _ _ (aY (by lia)) (aY (by lia)) (aY (by lia)) (aY (by lia)) hTI),⟨a,b,c,up _ _ (u6 _ _ (aY (by lia)) (aY (by lia)) (aY (by lia)) (aY (by lia)) hTO)⟩,j1.at fun o e=>up _ o (s6.extBut _ _ (aY (by lia)) (s4.extBut _ _ (aY (by lia)) e)),
  j2.at fun o e=>up _ o (s6.extBut _ _ (aY (by lia)) e),j3.at fun o e=>up _ o e,m1.at fun o e=>up _ o (u6 _ o (aY (.inl (zbU b1 (by lia)))) (aY (.inl b1)) (aY (.inl (zbU b1 (by lia)))) (aY (.inl (zbU b1 (by lia)))) e),
  m2.at fun o e=>up _ o (u6 _ o (aY (.inl (zbU b2 (by lia)))) (aY (.inl b2)) (aY (.inl (zbU b2 (by lia)))) (aY (.inl (zbU b2 (by lia)))) e),m3.at fun o e=>up _ o (u6 _ o (aY (.inl (zbU b3 (by lia)))) (aY (.inl b3)) (aY (.inl (zbU b3 (by lia)))) (aY (.inl (zbU b3 (by lia)))) e)⟩ T7 (by rw [zbA,hsz]) fun c o hc e=>up c o (u6 c o (aY (by lia)) (aY (by lia)) (aY (by lia)) (aY (by lia)) e)
theorem Ex {n T k:Nat}{f:Bool}{oT:Obj}{l1 l2 l3:Addr}{xs ys zs:Array yai}{Q:Option yai→yah→Prop} (hh:A.handled=none) (b1:l1<n) (hz:ZO s.heap (n+5) (n+3) (n+4) (rawInt T) (.bool f)) (hT0:s.heap.get? T=some oT) (Z:ZI s.heap n l1 l2 l3 xs ys zs k)
  (hx:xs[k]? = none) (hQ:∀ h',(∀ c o,c<n∨n+5<c→s.heap.get? c=some o→h'.get? c=some o)→Q none { s with heap:=h' }) :
  yar (model prog w) A (pyNext (.ref (n+5:Nat))) Q E s:=by
 obtain ⟨hTI,_,h1,h2,h3,m1,m2,m3⟩:=Z
 have hT:s.TypeIs (.ref (n+5:Nat)) "zip" := ⟨_,hz,rfl⟩
 unfold pyNext
 refine yaa (wpAny_attempt (wpAny_callSpecial?_slot (name:=Str.ofString "__next__") hT F.slot_zip_next (wpAny_call_entry F.slot_zip_next hT F.entry_zip_next ?_ (F.args_zip_next_1 _))))
 show yar _ _ (field (.ref (n+5:Nat)) 2 >>= _) _ _ _
 refine yaa (wpAny_field hz rfl (x:=.bool false) rfl ?_)
 show yar _ _ (field (.ref (n+5:Nat)) 3 >>= _) _ _ _
 refine yaa (wpAny_field hz rfl (x:=.ref (n+3:Nat)) rfl (yaa (wpAny_seqItems hTI rfl ?_)))
 show yar _ _ (Builtin.SmallTypes.ownedTupleIsFree (.ref (n+5:Nat)) >>= _) _ _ _
 refine yaa (lQ hz hT0 fun g1 z1 s1 => ?_)
 simp only [zaK,if_false]
 simp only [← zaL,zbt,List.forIn_nil]
 refine yaa (yaa (yaa (yad ?_)))
 show yar _ _ (Builtin.SmallTypes.nextOf (.ref n) >>= _) _ _ _
 refine yaa (wpAny_nextOf_list_end hh (h1.at fun o e=>s1.extBut _ _ (aY (by lia)) e) (m1.at fun o e=>s1.extBut _ _ (aY (.inl (zbU b1 (by lia)))) e) hx fun g2 e s2 he => ?_)
 obtain ⟨oe,hoe,hce⟩:=he
 exact yaa (wpAny_isInstance (T := "StopIteration") (b:=true) ⟨oe,hoe,hce⟩ isSubtype_stop (yab (hQ g2 fun c o hc e=>s2 _ _ (aY (by lia)) (s1.extBut _ _ (aY (by lia)) e))))
end
namespace F
theorem jo (a b c:yai):checkTypeCall "zip" ⟨[a,b,c],[]⟩=pure ():=by kernel_rfl
theorem kU (a b c:yai):checkBuiltinCall "zip.__new__" ⟨[.type "zip",a,b,c],[]⟩=pure ():=by kernel_rfl
theorem gp (a b c d:yai):argsOk "object.__init__" ⟨[a,b,c,d],[]⟩:=by
 unfold argsOk;rw [signature?_of (id := "object.__init__") (n:=['_','_','t','i','n','i','_','_']) (o:=['t','c','e','j','b','o']) (by kernel_rfl) PySem.F.owner_object];kernel_rfl
theorem qd:typeLookup (.type "zip") "__len__" = pure none:=by rw [typeLookup_type,builtinLookup_eq_fast];kernel_rfl
theorem nX:typeLookup (.type "zip") "__length_hint__" = pure none:=by rw [typeLookup_type,builtinLookup_eq_fast];kernel_rfl
end F
noncomputable abbrev p9 (l:Addr):Obj:={ cls:=.type "list_iterator",data:=.fields #[.ref l,.int 0 0] }
noncomputable abbrev GN (a b c:yai):Obj:={ cls:=.type "tuple",data:=.seq #[a,b,c] }
noncomputable abbrev p3 (h:Heap) (l1 l2 l3:Addr):Heap:=((h.push (p9 l1)).push (vz l2)).push (p9 l3)
noncomputable abbrev p4 (h:Heap) (l1 l2 l3:Addr):Heap:=(p3 h l1 l2 l3).push (GN (.ref h.objs.size) (.ref (h.push (p9 l1)).objs.size) (.ref ((h.push (p9 l1)).push (vz l2)).objs.size))
noncomputable abbrev p5 (h:Heap) (l1 l2 l3:Addr):Heap:=(p4 h l1 l2 l3).push (GN .none .none .none)
noncomputable abbrev p6 (h:Heap) (l1 l2 l3:Addr):Heap:=(p5 h l1 l2 l3).push (zO (p3 h l1 l2 l3).objs.size (p4 h l1 l2 l3).objs.size)
theorem Ey (l1 l2 l3:Addr) (xs ys zs:Array yai) :
  Meets (Builtin.«zip.__new__» ⟨[.type "zip",.ref l1,.ref l2,.ref l3],[]⟩) (fun _ R s=>s.heap.IsList l1 xs∧s.heap.IsTuple l2 ys∧s.heap.IsList l3 zs∧R (.ok (.ret (.ref (p5 s.heap l1 l2 l3).objs.size))) { s with heap:=p6 s.heap l1 l2 l3 }) :=
 .of_wp fun prog w A R s h=>by
  obtain ⟨hp,g,d,tk,os⟩:=s;obtain ⟨hl1,hl2,hl3,h⟩:=h
  have hsub:=sub_zip
  have m1:Heap.IsList (Shared.heap ⟨hp,g,d,tk,os⟩) l1 xs:=hl1
  have m2:Heap.IsTuple (Shared.heap ⟨hp.push (p9 l1),g,d,tk,os⟩) l2 ys:=hl2.at fun o e=>zak _ e
  have m3:Heap.IsList (Shared.heap ⟨(hp.push (p9 l1)).push (vz l2),g,d,tk,os⟩) l3 zs:=hl3.at fun o e=>zak _ (zak _ e)
  wp_walk using wpAny_pyIter_list m1,wpAny_pyIter_tuple m2,wpAny_pyIter_list m3
  exact ⟨_,rfl,h⟩
section
variable {prog:yaj}{w:yak}{A:yal}{E:yai→yah→Prop}{s:yah}
theorem Cq {l1 l2 l3:Addr}{xs ys zs:Array yai}{Q:yai→yah→Prop} (hl1:s.heap.IsList l1 xs) (hl2:s.heap.IsTuple l2 ys) (hl3:s.heap.IsList l3 zs)
  (h:∀ h',ZO h' (s.heap.objs.size+5) (s.heap.objs.size+3) (s.heap.objs.size+4) .none (.bool false)→ZI h' s.heap.objs.size l1 l2 l3 xs ys zs 0→h'.objs.size=s.heap.objs.size+6→(∀ c o,s.heap.get? c=some o→h'.get? c=some o)→Q (.ref (s.heap.objs.size+5)) { s with heap:=h' }) :
  yar (model prog w) A (call (.type "zip") [.ref l1,.ref l2,.ref l3]) Q E s:=by
 refine callType_new PySem.F.called_zip (by decide) (F.jo _ _ _) (F.kU _ _ _) (fun obj=>F.gp obj _ _ _) PySem.F.entry_zip_new (Ey l1 l2 l3 xs ys zs) ⟨hl1,hl2,hl3,?_⟩
 have z1:(s.heap.push (p9 l1)).objs.size=s.heap.objs.size+1:=zbA ..
 have z2:((s.heap.push (p9 l1)).push (vz l2)).objs.size=s.heap.objs.size+2:=by rw [zbA,z1]
 have z3:(p3 s.heap l1 l2 l3).objs.size=s.heap.objs.size+3:=by rw [zbA,z2]
 have z4:(p4 s.heap l1 l2 l3).objs.size=s.heap.objs.size+4:=by rw [zbA,z3]
 have z5:(p5 s.heap l1 l2 l3).objs.size=s.heap.objs.size+5:=by rw [zbA,z4]
 have z6:(p6 s.heap l1 l2 l3).objs.size=s.heap.objs.size+6:=by rw [zbA,z5]
 have k6:∀ c o,(p5 s.heap l1 l2 l3).get? c=some o→(p6 s.heap l1 l2 l3).get? c=some o:=fun c o q=>zak _ q
 have k5:∀ c o,(p4 s.heap l1 l2 l3).get? c=some o→(p6 s.heap l1 l2 l3).get? c=some o:=fun c o q=>k6 c o (zak _ q)
 have k4:∀ c o,(p3 s.heap l1 l2 l3).get? c=some o→(p6 s.heap l1 l2 l3).get? c=some o:=fun c o q=>k5 c o (zak _ q)
 have k3:∀ c o,((s.heap.push (p9 l1)).push (vz l2)).get? c=some o→(p6 s.heap l1 l2 l3).get? c=some o:=fun c o q=>k4 c o (zak _ q)
 have k2:∀ c o,(s.heap.push (p9 l1)).get? c=some o→(p6 s.heap l1 l2 l3).get? c=some o:=fun c o q=>k3 c o (zak _ q)
 have kk:∀ c o,s.heap.get? c=some o→(p6 s.heap l1 l2 l3).get? c=some o:=fun c o q=>k2 c o (zak _ q)
 have g6:(p6 s.heap l1 l2 l3).get? (p5 s.heap l1 l2 l3).objs.size=some (zO (p3 s.heap l1 l2 l3).objs.size (p4 s.heap l1 l2 l3).objs.size):=zaC _ rfl
 have g5:(p6 s.heap l1 l2 l3).get? (p4 s.heap l1 l2 l3).objs.size=some (GN .none .none .none):=k6 _ _ (zaC _ rfl)
 have g4:(p6 s.heap l1 l2 l3).get? (p3 s.heap l1 l2 l3).objs.size=some (GN (.ref s.heap.objs.size) (.ref (s.heap.push (p9 l1)).objs.size) (.ref ((s.heap.push (p9 l1)).push (vz l2)).objs.size)):=k5 _ _ (zaC _ rfl)
 have g3:(p6 s.heap l1 l2 l3).get? ((s.heap.push (p9 l1)).push (vz l2)).objs.size=some (p9 l3):=k4 _ _ (zaC _ rfl)
 have g2:(p6 s.heap l1 l2 l3).get? (s.heap.push (p9 l1)).objs.size=some (vz l2):=k3 _ _ (zaC _ rfl)
 have g1:(p6 s.heap l1 l2 l3).get? s.heap.objs.size=some (p9 l1):=k2 _ _ (zaC _ rfl)
 generalize p6 s.heap l1 l2 l3=r6 at *
 rw [z3,z4,z5] at g6
 rw [z4] at g5
 rw [z1,z2,z3] at g4
 rw [z2] at g3
 rw [z1] at g2
 show _∧_
 rw [z5]
 exact ⟨⟨_,g6,rfl⟩,h _ g6 ⟨g4,⟨_,_,_,g5⟩,⟨_,g1,rfl,rfl⟩,⟨_,g2,rfl,rfl⟩,⟨_,g3,rfl,rfl⟩,hl1.at fun o e=>kk _ o e,hl2.at fun o e=>kk _ o e,hl3.at fun o e=>kk _ o e⟩ z6 kk⟩
end
structure G3 (xs ys zs:Array yai) (lo:Addr) (h:Heap) (as:List Addr):Prop where
 rise:as.Pairwise (· < ·)
 above:∀ a∈as,lo<a
 p8:∀ (j:Nat) (a:Addr),as[j]? = some a→∃ x y v,xs[j]? = some x∧ys[j]? = some y∧zs[j]? = some v∧rK h a x y v
theorem G3.there {xs ys zs:Array yai}{lo:Addr}{h:Heap}{as:List Addr} (g:G3 xs ys zs lo h as) {a:Addr} (ha:a∈as):a<h.objs.size:=by
 obtain ⟨j,hj⟩:=List.mem_iff_getElem?.mp ha
 obtain ⟨_,_,_,_,_,_,e⟩:=g.p8 j a hj
 exact zbY e
def IG (h:Heap) (n:Nat) (S:Addr) (i:Nat):Prop:=(i=0∧ZO h (n+5) (n+3) (n+4) .none (.bool false))∨∃ (T:Nat) (f:Bool) (oT:Obj),ZO h (n+5) (n+3) (n+4) (rawInt T) (.bool f)∧h.get? T=some oT∧S<T
section
variable {prog:yaj}{w:yak}{A:yal}{R:Result→yah→Prop}{s:yah}
theorem Cp {n m:Nat}{S l1 l2 l3:Addr}{xs ys zs:Array yai} (hh:A.handled=none) (b1:l1<n) (b2:l2<n) (b3:l3<n) (hS6:S=(n+6:Nat)) (e1:xs.size=m) (e2:ys.size=m) (e3:zs.size=m) (hm:0<m) (hn:m≤yag) (res:yai) {h₁:Heap}
  (hR:∀ h' acc c as,(∀ b o,b<n→h₁.get? b=some o→h'.get? b=some o)→h'.get? S=some { cls:=.type "list",dict:=none,data:=.seq acc c,slots := #[] }→as.length=m→G3 xs ys zs S h' as→acc.toList=as.map Value.ref→R (.ok (.ret res)) { s with heap:=h' }) :
  ∀ (k i:Nat) (h:Heap) (c:Nat) (acc:Array yai) (as:List Addr),m - i=k→i≤m→IG h n S i→ZI h n l1 l2 l3 xs ys zs i→(∀ b o,b<n→h₁.get? b=some o→h.get? b=some o) →
   h.get? S=some { cls:=.type "list",dict:=none,data:=.seq acc c,slots := #[] }→acc.toList=as.map Value.ref→as.length=i→G3 xs ys zs S h as →
   codeAny (model prog w) A (.builtin "list.extend.loop" ⟨[.ref S,.ref (n+5:Nat),res],[]⟩) R { s with heap:=h }:=by
 subst hS6
 intro k
 induction k with
 | zero =>
  intro i h c acc as hk hi hst hZ hkeep hS hacc hal hG
  have hin:i=m:=by lia
  obtain ⟨T,f,oT,hz,hT,hTS⟩:∃ (T:Nat) (f:Bool) (oT:Obj),ZO h (n+5) (n+3) (n+4) (rawInt T) (.bool f)∧h.get? T=some oT∧(n+6:Nat)<T:=by
   rcases hst with ⟨e,_⟩ | h
   ·lia
   ·exact h
  refine codeAny_builtin PySem.F.entry_extend_loop ?_
  rw [Around.under_plainId PySem.F.plain_extend_loop _]
  show yar _ A.in1 (pyNext (.ref (n+5:Nat)) >>= _) _ _ _
  refine yaa (Ex (s:={ s with heap:=h }) (A:=A.in1) hh b1 hz hT hZ (zaj (by lia)) fun h' he => ?_)
  have up:∀ b o,b<n∨n+5<b→h.get? b=some o→h'.get? b=some o:=fun b o hb e=>he b o hb e
  refine yab (hR h' acc c as (fun b o hb e=>up b o (.inl hb) (hkeep b o hb e)) (up (n+6) _ (by show (n+6:Nat)<n∨n+5<n+6;lia) hS) (by lia) ⟨hG.rise,hG.above,fun j a hj => ?_⟩ hacc)
  obtain ⟨x,y,v,q1,q2,q3,q4⟩:=hG.p8 j a hj
  have:=hG.above a (zau hj)
  exact ⟨x,y,v,q1,q2,q3,up a _ (.inr (zbU (by lia) this)) q4⟩
 | succ k ih =>
  intro i h c acc as hk hi hst hZ hkeep hS hacc hal hG
  have hlt:i<m:=by lia
  obtain ⟨x,hx⟩:∃ x,xs[i]? = some x:=⟨_,zag (by lia)⟩
  obtain ⟨y,hy⟩:∃ x,ys[i]? = some x:=⟨_,zag (by lia)⟩
  obtain ⟨v,hv⟩:∃ x,zs[i]? = some x:=⟨_,zag (by lia)⟩
  have hsz:acc.size=i:=by rw [← zaB,hacc,zbr,hal]
  have hSl:(n+6:Nat)<h.objs.size:=zbY hS
  refine codeAny_builtin PySem.F.entry_extend_loop ?_
  rw [Around.under_plainId PySem.F.plain_extend_loop _]
  show yar _ A.in1 (pyNext (.ref (n+5:Nat)) >>= _) _ _ _
  have step:∀ (Q:Option yai→yah→Prop) (E:yai→yah→Prop),(∀ h',IG h' n (n+6) (i+1)→ZI h' n l1 l2 l3 xs ys zs (i+1)→rK h' h.objs.size x y v→h'.objs.size=h.objs.size+1→(∀ c o,c<n∨n+5<c→h.get? c=some o→h'.get? c=some o)→Q (some (.ref h.objs.size)) { s with heap:=h' })→yar (model prog w) A.in1 (pyNext (.ref (n+5:Nat))) Q E { s with heap:=h }:=fun Q E hQ=>by
   rcases hst with ⟨rfl,hz⟩ | ⟨T,f,oT,hz,hT,hTS⟩
   ·exact zw (s:={ s with heap:=h }) b1 b2 b3 hz hZ hx hy hv fun h' q1 q2 q3 q4 q5=>hQ h' (.inr ⟨_,_,_,q1,q3,hSl⟩) q2 q3 q4 q5
   ·exact Co (s:={ s with heap:=h }) b1 b2 b3 hz hT hZ hx hy hv fun h' q1 q2 q3 q4 q5=>hQ h' (.inr ⟨_,_,_,q1,q5 _ _ (.inr (zbU (by lia) hTS)) hT,hTS⟩) q2 q3 q4 q5
  refine yaa (step _ _ fun h' hst' hZ' ht hz hkp => ?_)
  have hS':=hkp (n+6) _ (by show (n+6:Nat)<n∨n+5<n+6;lia) hS
  have up:∀ b o,b≠(n+6:Nat)→h'.get? b=some o→(h'.update (n+6:Nat) (Obj.mapSeq (·.push (Value.ref h.objs.size)))).get? b=some o:=fun b o hb e=>(zal _ _ (Ne.symm hb)).trans e
  show yar _ A.in1 (updateSeq (n+6:Nat) (·.push (Value.ref h.objs.size)) >>= _) _ _ _
  refine yaa ?_
  refine wpAny_updateSeq hS' rfl (yab ⟨plainId_quiet PySem.F.plain_extend_loop _,ih (i+1) _ _ (acc.push (Value.ref h.objs.size)) (as++[h.objs.size]) (by lia) hlt ?_ (hZ'.at b1 b2 b3 fun b o hb e=>up b o (aY (.inl (zbU hb (by lia)))) e)
   (fun b o hb e=>up b o (aY (.inl (zbU hb (by lia)))) (hkp b o (.inl hb) (hkeep b o hb e))) (zaq _ hS' rfl) (by rw [zaZ,hacc,zbu];rfl) (by rw [zaE,hal];rfl) ⟨?_,?_,?_⟩⟩) (by rw [hsz];lia) (by show (acc.push (Value.ref h.objs.size)).size≤yag+1;rw [Array.size_push,hsz];lia)
  ·rcases hst' with ⟨e,_⟩ | ⟨T,f,oT,q1,q2,q3⟩
   ·lia
   ·exact .inr ⟨T,f,oT,up _ _ (aY (by lia)) q1,up _ _ (aY (.inr q3)) q2,q3⟩
  ·refine zav.mpr ⟨hG.rise,List.pairwise_singleton _ _,fun a ha b hb => ?_⟩
   rw [zaF.mp hb]
   exact hG.there ha
  ·intro a ha
   rcases zbn.mp ha with ha | ha
   ·exact hG.above a ha
   ·rw [zaF.mp ha];exact hSl
  ·intro j b hj
   rcases Nat.lt_trichotomy j as.length with h1 | h1 | h1
   ·rw [zad h1] at hj
    obtain ⟨x',y',v',q1,q2,q3,q4⟩:=hG.p8 j b hj
    have hb:=hG.above b (zau hj)
    exact ⟨x',y',v',q1,q2,q3,up b _ (aY (.inr hb)) (hkp b _ (.inr (zbU (by lia) hb)) q4)⟩
   ·subst h1
    have hb:h.objs.size=b:=by simpa using hj
    subst hb
    exact ⟨x,y,v,by rw [hal];exact hx,by rw [hal];exact hy,by rw [hal];exact hv,up _ _ (aY (.inr hSl)) ht⟩
   ·have hnone:(as++[h.objs.size])[j]? = none:=zan (by rw [zaE,List.length_singleton];lia)
    rw [hnone] at hj;cases hj
end
end M12
namespace M12
open PySem PySem.Spec PyProof.Rows M9
section
variable {prog:yaj}{w:yak}{A:yal}{E:yai→yah→Prop}{s:yah}
theorem xX {I:Addr}{Q:Bool→yah→Prop} (hT:s.TypeIs (.ref I) "zip") (h:Q true s):yar (model prog w) A (Builtin.List.listLengthHint (.ref I)) Q E s:=by
 unfold Builtin.List.listLengthHint
 refine yaa (wpAny_specialOf hT F.qd ?_)
 show yar _ _ (specialOf (Value.ref I) (Str.ofString "__length_hint__") >>= _) _ _ _
 refine yaa (wpAny_specialOf hT F.nX ?_)
 exact yab h
theorem xM {n m:Nat}{l1 l2 l3:Addr}{xs ys zs:Array yai}{Q:yai→yah→Prop} (hh:A.handled=none) (hn:s.heap.objs.size=n+6) (b1:l1<n) (b2:l2<n) (b3:l3<n) (hz:ZO s.heap (n+5) (n+3) (n+4) .none (.bool false)) (Z:ZI s.heap n l1 l2 l3 xs ys zs 0) (e1:xs.size=m) (e2:ys.size=m) (e3:zs.size=m) (hm:0<m) (hsz:m≤yag)
  (hQ:∀ h' acc c as,(∀ b o,b<n→s.heap.get? b=some o→h'.get? b=some o)→h'.get? (n+6:Nat)=some { cls:=.type "list",dict:=none,data:=.seq acc c,slots := #[] }→as.length=m→G3 xs ys zs (n+6:Nat) h' as→acc.toList=as.map Value.ref→Q (.ref (n+6:Nat)) { s with heap:=h' }) :
  yar (model prog w) A (call (.type "list") [.ref (n+5:Nat)]) Q E s:=by
 refine callType_codes (Q₁:=fun obj s₁=>obj = .ref (n+6:Nat)∧s₁={ s with heap:=s.heap.push { cls:=.type "list",data:=.seq #[] } }) PySem.F.called_list (PySem.F.typeCall_list_1 _) PySem.F.entry_list_init
  (code_list_new _ ⟨by rw [hn],rfl⟩) fun obj s₁ h₁ => ?_
 obtain ⟨rfl,rfl⟩:=h₁
 have hS:(s.heap.push { cls:=.type "list",data:=.seq #[] }).get? (n+6:Nat)=some { cls:=.type "list",data:=.seq #[] }:=by rw [← hn];exact zaC _ rfl
 have z1:ZO (s.heap.push { cls:=.type "list",data:=.seq #[] }) (n+5) (n+3) (n+4) .none (.bool false):=zak _ hz
 have Z1:ZI (s.heap.push { cls:=.type "list",data:=.seq #[] }) n l1 l2 l3 xs ys zs 0:=Z.at b1 b2 b3 fun c o _ e=>zak _ e
 have k1:∀ b o,b<n→s.heap.get? b=some o→(s.heap.push { cls:=.type "list",data:=.seq #[] }).get? b=some o:=fun b o _ e=>zak _ e
 refine ⟨⟨_,hS,rfl⟩,PySem.F.args_list_init_2 _ _,?_⟩
 generalize s.heap.push { cls:=.type "list",data:=.seq #[] }=g1 at hS z1 Z1 k1 ⊢
 show yar _ _ (do let old ← Builtin.List.listItems (.ref (n+6:Nat));Builtin.List.listUpdate (.ref (n+6:Nat)) (fun _ => #[]);letGo old.toList.reverse;Builtin.List.listExtendWith (.ref (n+6:Nat)) (.ref (n+5:Nat)) .none) _ _ _
 refine yaa ?_
 unfold Builtin.List.listItems
 refine yaa (wpAny_seqItems hS rfl (yab ?_))
 show yar _ _ (updateSeq (n+6:Nat) (fun _ => #[]) >>= fun _=>letGo (#[]:Array yai).toList.reverse >>= fun _=>Builtin.List.listExtendWith (.ref (n+6:Nat)) (.ref (n+5:Nat)) .none) _ _ _
 refine yaa (wpAny_updateSeq hS rfl ?_)
 have hS₂:=zaq (Obj.mapSeq (fun _=>(#[]:Array yai))) hS rfl
 have oth:∀ b o,b<(n+6:Nat)→g1.get? b=some o→(g1.update (n+6:Nat) (Obj.mapSeq (fun _=>(#[]:Array yai)))).get? b=some o :=
  fun b o hb e=>(zal _ _ (aY (.inr hb))).trans e
 have z2:=oth (n+5) _ (by show (n+5:Nat)<n+6;lia) z1
 have Z2:=Z1.at b1 b2 b3 fun c o hc e=>oth c o (zbU hc (by lia)) e
 have k2:∀ b o,b<n→s.heap.get? b=some o→_:=fun b o hb e=>oth b o (zbU hb (by lia)) (k1 b o hb e)
 refine yaa (wpAny_letGo ?_)
 have hS₃:(g1.update (n+6:Nat) (Obj.mapSeq (fun _=>(#[]:Array yai)))).get? (n+6:Nat)=some { cls:=.type "list",dict:=none,data:=.seq #[] _,slots := #[] }:=hS₂
 generalize g1.update (n+6:Nat) (Obj.mapSeq (fun _=>(#[]:Array yai)))=g2 at hS₃ z2 Z2 k2 ⊢
 have hT:Shared.TypeIs { s with heap:=g2 } (.ref (n+5:Nat)) "zip" := ⟨_,z2,rfl⟩
 unfold Builtin.List.listExtendWith
 refine yaa (wpAny_typeOf hT ?_)
 have h1:Builtin.List.listSameRef (.ref (n+6:Nat)) (.ref (n+5:Nat))=false:=by simp [Builtin.List.listSameRef]
 have h2:(Value.type "zip" == Value.type "list")=false:=by decide
 have h3:(Value.type "zip" == Value.type "tuple")=false:=by decide
 simp only [h1,h2,h3,zbH,zaK,if_false]
 refine yaa (wpAny_pyIter_zip z2 ?_)
 refine yaa (yad (xX hT ?_))
 show yar _ _ (rule "list.extend.makes-room" >>= fun _=>Builtin.List.listTouch (.ref (n+6:Nat)) >>= fun _=>again (.builtin "list.extend.loop" ⟨[.ref (n+6:Nat),.ref (n+5:Nat),.none],[]⟩)) _ _ _
 refine yaa (wpAny_rule (yaa ?_))
 show yar _ _ (updateSeq (n+6:Nat) (·.push .none) >>= fun _=>updateSeq (n+6:Nat) (·.pop)) _ _ _
 refine yaa (wpAny_updateSeq hS₃ rfl ?_)
 have hS₄:=zaq (Obj.mapSeq (·.push Value.none)) hS₃ rfl
 refine wpAny_updateSeq hS₄ rfl ?_
 have hS₅:((g2.update (n+6:Nat) (Obj.mapSeq (·.push Value.none))).update (n+6:Nat) (Obj.mapSeq (·.pop))).get? (n+6:Nat)=some { cls:=.type "list",dict:=none,data:=.seq #[] _,slots := #[] }:=zaq (Obj.mapSeq (·.pop)) hS₄ rfl
 have Dh:∀ b o,b<(n+6:Nat)→g2.get? b=some o→((g2.update (n+6:Nat) (Obj.mapSeq (·.push Value.none))).update (n+6:Nat) (Obj.mapSeq (·.pop))).get? b=some o :=
  fun b o hb e=>(zal _ _ (aY (.inr hb))).trans ((zal _ _ (aY (.inr hb))).trans e)
 have z3:=Dh (n+5) _ (by show (n+5:Nat)<n+6;lia) z2
 have Z3:=Z2.at b1 b2 b3 fun c o hc e=>Dh c o (zbU hc (by lia)) e
 exact yab ⟨plainId_quiet PySem.F.plain_extend_loop _,Cp (A:=A.in1) hh b1 b2 b3 rfl e1 e2 e3 hm hsz .none (fun h' acc c as q1 q2 q3 q4 q5=>⟨rfl,hQ h' acc c as (fun b o hb e=>q1 b o hb (Dh b o (zbU hb (by lia)) (k2 b o hb e))) q2 q3 q4 q5⟩) m 0 _ _ #[] [] (by lia) (zcc _) (.inl ⟨rfl,z3⟩) Z3 (fun _ _ _ e=>e) hS₅ rfl rfl ⟨.nil,by simp,fun j a hj=>by simp at hj⟩⟩
end
end M12
namespace L2
open PySem PySem.Spec PyProof.Rows M12
noncomputable def p8 (xs ys zs:List V):List (List V):=(xs.zip (ys.zip zs)).map fun t=>[t.1,t.2.1,t.2.2]
noncomputable def iC:Hp→List (Addr×List V)→Hp
 | H,[]=>H
 | H,(a,t)::r=>iC (upd H a (.tup t)) r
theorem ny {b:Addr}:∀ {r:List (Addr×List V)}{H:Hp},(∀ t∈r,t.1≠b)→iC H r b=H b
 | [],_,_=>rfl
 | (a,t)::r,H,h=>by
  show iC (upd H a (.tup t)) r b=_
  rw [ny fun u hu=>h u (zar _ hu),aH (Ne.symm (h (a,t) (by simp)))]
def BC (K:yaE) (ta:TA):TE:=fun σ H Q=>ta σ H fun vs H1=>∃ l1 l2 l3 xs ys zs,vs=[.ref l1,.ref l2,.ref l3]∧cj K H1 l1 xs∧ck K H1 l2 ys∧cj K H1 l3 zs∧xs.length=ys.length∧zs.length=ys.length∧0<ys.length∧ys.length≤1000 ∧
 ∀ (as:List Addr) (p:Addr),as.Nodup→p ∉ as→(∀ a∈p::as,H1 a=none)→as.length=ys.length→Q (.ref p) (upd (iC H1 (as.zip (p8 xs ys zs))) p (.lst (as.map V.ref)))
theorem zD {xs ys zs:List V}{j:Nat}{t:List V} (h:(p8 xs ys zs)[j]? = some t):∃ x y z,xs[j]? = some x∧ys[j]? = some y∧zs[j]? = some z∧t=[x,y,z]:=by
 unfold p8 at h
 rw [zaP] at h
 cases e:(xs.zip (ys.zip zs))[j]? with
 | none=>rw [e] at h;cases h
 | some p =>
  rw [e] at h
  obtain ⟨h1,h2⟩:=zae.mp e
  obtain ⟨h3,h4⟩:=zae.mp h2
  exact ⟨_,_,_,h1,h3,h4,(zcd.inj h).symm⟩
section
variable {X:Cx}{pins:List (Addr×Obj)}{σ:St}{s:yah}
theorem Inv.iC (n:Nat) (hn:X.s₀.heap.objs.size≤n) (hL:∀ D,n≤D→D≠X.env.locals∧(∀ x c,X.env.cells.lookup x=some c→c≠D)∧∀ p∈X.pn++pins,p.1≠D) :
  ∀ (r:List (Addr×List V)) (H:Hp),Inv X pins σ H s→(r.map (·.1)).Nodup→(∀ t∈r,n≤t.1∧H t.1=none∧∀ H',bD X.prog X.w H' s.heap t.1 (.tup t.2))→Inv X pins σ (iC H r) s
 | [],H,I,_,_=>I
 | (a,t)::r,H,I,hd,h=>by
  obtain ⟨h1,h2,h3⟩:=h (a,t) (by simp)
  rw [zbC,zbp] at hd
  refine Inv.iC n hn hL r _ (I.nZ h2 (zbR hn h1) (hL a h1).1 (hL a h1).2.1 (hL a h1).2.2 (h3 _)) hd.2 fun u hu => ?_
  obtain ⟨k1,k2,k3⟩:=h u (zar _ hu)
  refine ⟨k1,?_,k3⟩
  rw [aH (fun e=>hd.1 (zbO.mpr ⟨u,hu,e⟩))]
  exact k2
end
section
variable {X:Cx}{a b c:Expr}{ta:TA}{p p2 pos pos2:Pos}
theorem m5 (hc:X.calm=true) (hg:Gl X "list") (hm:X.mg "list" = none) (hg2:Gl X "zip") (hm2:X.mg "zip" = none) (ha:PA X [a,b,c] ta) (hs:yao [a,b,c] X.env=[(false,eval a X.env),(false,eval b X.env),(false,eval c X.env)]:=by rfl) (hs2:yao [b,c] X.env=[(false,eval b X.env),(false,eval c X.env)]:=by rfl) :
  PE X (.Call (.Name "list" p) [.Call (.Name "zip" p2) [a,b,c] [] pos2] [] pos) (BC X.K ta):=by
 intro pins s σ H Q I h
 refine wpAny_Call_Name_kw (cV I hg hm boot_list ?_ (by decide +kernel) (by decide +kernel))
 refine PyProof.Rows.callWith_type1 (E:=X.xe) ?_ (aM [] X.env rfl) rfl
 rw [aM [] X.env rfl]
 refine zaN ?_
 refine Call_ (cV I hg2 hm2 (u:=.type "zip") (by decide +kernel) (PyProof.Rows.callWith_type1 (b5 (ha pos2 pins s σ H _ I h) fun us s1 ⟨vs,H1,I1,r1,q1⟩ => ?_) (by rw [hs,hs2]) (by rw [hs2];rfl)) (by decide +kernel) (by decide +kernel))
 obtain ⟨l1,l2,l3,xs,ys,zs,e,g1,g2,g3,n1,n2,n3,n4,q⟩:=q1
 subst e
 cases r1 with
 | cons r rr=>cases rr with
  | cons r' rr'=>cases rr' with
   | cons r'' rr'' =>
    cases rr''
    cases r
    cases r'
    cases r''
    obtain ⟨i1,v1,t1,_⟩:=I1.list g1
    obtain ⟨i2,v2,t2,_⟩:=I1.tuple g2
    obtain ⟨i3,v3,t3,_⟩:=I1.list g3
    have c1:=v1.length
    have c2:=v2.length
    have c3:=v3.length
    have b1:l1<s1.heap.objs.size:=let ⟨o,e,_⟩:=t1.isList;zbY e
    have b2:l2<s1.heap.objs.size:=let ⟨o,e,_⟩:=t2;zbY e
    have b3:l3<s1.heap.objs.size:=let ⟨o,e,_⟩:=t3.isList;zbY e
    refine Cq t1.isList (show s1.heap.IsTuple l2 i2.toArray from t2) t3.isList fun h' hz Z sz kp => ?_
    refine zba ?_
    refine xM (s:={ s1 with heap:=h' }) (m:=ys.length) (I1.ok.hd hc) sz b1 b2 b3 hz Z (by simp;lia) (by simp;lia) (by simp;lia) n3 (by rw [yaf];lia) fun h2 acc cc as k1 k2 k3 k4 k5 => ?_
    have kp2:∀ b o,s1.heap.get? b=some o→h2.get? b=some o:=fun b o e=>k1 b o (zbY e) (kp b o e)
    have I2:Inv X pins σ H1 { s1 with heap:=h2 }:=I1.kept (t':=s1.toks) kp2
    have nd:as.Nodup:=k4.rise.imp fun h=>zbQ h
    have up:∀ a∈as,s1.heap.objs.size+6<a:=k4.above
    have lt:(p8 xs ys zs).length=ys.length:=by simp [p8];lia
    have none:∀ a,s1.heap.objs.size≤a→H1 a=none:=fun a ha=>I1.hok.fresh ha
    have fp:∀ D,s1.heap.objs.size≤D→D≠X.env.locals∧(∀ x c,X.env.cells.lookup x=some c→c≠D)∧∀ p∈X.pn++pins,p.1≠D:=fun D hD=>let f:=I1.qS (H':=H1) hD (none D hD);⟨f.2.1,f.2.2.2.2.1,f.2.2.2.2.2⟩
    have em:(as.zip (p8 xs ys zs)).map (·.1)=as:=zbl (by lia)
    have I3:=Inv.iC s1.heap.objs.size I1.sz fp (as.zip (p8 xs ys zs)) H1 I2 (by rw [em];exact nd) fun t ht=>by
     obtain ⟨j,hj⟩:=List.mem_iff_getElem?.mp ht
     obtain ⟨q1,q2⟩:=zae.mp hj
     have ha:s1.heap.objs.size≤t.1:=zbS (zbU (by lia) (up _ (zau q1)))
     refine ⟨ha,none _ ha,fun H' => ?_⟩
     obtain ⟨x,y,z,w1,w2,w3,w4⟩:=zD q2
     obtain ⟨x',y',z',u1,u2,u3,u4⟩:=k4.p8 j _ q1
     obtain ⟨a1,a2,a3⟩:=v1.get w1
     obtain ⟨a4,a5,a6⟩:=v2.get w2
     obtain ⟨a7,a8,a9⟩:=v3.get w3
     rw [show i1.toArray[j]? = i1[j]? by simp,a2] at u1;cases u1
     rw [show i2.toArray[j]? = i2[j]? by simp,a5] at u2;cases u2
     rw [show i3.toArray[j]? = i3[j]? by simp,a8] at u3;cases u3
     rw [w4]
     exact ⟨by rw [yaf];show 3≤_;lia,[x',y',z'],.cons a3 (.cons a6 (.cons a9 .nil)),⟨_,u4,rfl,_,rfl⟩⟩
    have hp6:s1.heap.objs.size≤(s1.heap.objs.size+6:Nat):=by lia
    have pn:(s1.heap.objs.size+6:Nat) ∉ as:=fun h=>zbF _ (up _ h)
    have I4:=I3.nZ (D:=(s1.heap.objs.size+6:Nat)) (o:=.lst (as.map V.ref)) (by rw [ny fun t ht e=>pn (by rw [← e];exact (zbq ht).1)];exact none _ hp6) (zbR I1.sz hp6) (fp _ hp6).1 (fp _ hp6).2.1 (fp _ hp6).2.2
     ⟨by rw [zbr,yaf];lia,as.map Value.ref,cc,fB (fun a=>a) as,by rw [k2,← k5]⟩
    refine ⟨.ref (s1.heap.objs.size+6:Nat),_,I4,rfl,q as _ nd pn (fun a ha => ?_) k3⟩
    rcases zbB.mp ha with rfl | ha
    ·exact none _ hp6
    ·exact none _ (zbS (zbU (by lia) (up _ ha)))
end
end L2
namespace M
open PySem PySem.Spec PyProof.Rows L2
noncomputable def nY (es fs gs:List D):List (List D):=(es.zip (fs.zip gs)).map fun t=>[t.1,t.2.1,t.2.2]
theorem vv {xs ys zs:List D}{j:Nat}{t:List D} (h:(nY xs ys zs)[j]? = some t):∃ x y z,xs[j]? = some x∧ys[j]? = some y∧zs[j]? = some z∧t=[x,y,z]:=by
 unfold nY at h
 rw [zaP] at h
 cases e:(xs.zip (ys.zip zs))[j]? with
 | none=>rw [e] at h;cases h
 | some p =>
  rw [e] at h
  obtain ⟨h1,h2⟩:=zae.mp e
  obtain ⟨h3,h4⟩:=zae.mp h2
  exact ⟨_,_,_,h1,h3,h4,(zcd.inj h).symm⟩
theorem Ok.iC {K:yaE}{S:aJ}:∀ (as:List Addr) (vs:List (List V)) (ts:List (List D)) {w:Wd}{H:Hp},Ok K w H S→as.Nodup→(∀ a∈as,H a=none)→as.length=vs.length→as.length=ts.length→(∀ (j:Nat) (ds:List D),ts[j]? = some ds→∃ t,vs[j]? = some t∧aj K w ds t) →
  ∃ w',w.le w'∧Ok K w' (L2.iC H (as.zip vs)) S∧aj K w' (ts.map D.tup) (as.map V.ref)
 | [],vs,ts,w,H,ok,_,_,e1,e2,_=>by
  cases ts with
  | nil=>exact ⟨w,.refl,ok,.nil⟩
  | cons _ _=>simp at e2
 | a::as,[],ts,w,H,ok,_,_,e1,e2,_=>by simp at e1
 | a::as,v::vs,[],w,H,ok,_,_,e1,e2,_=>by simp at e2
 | a::as,v::vs,d::ts,w,H,ok,nd,hn,e1,e2,h=>by
  rw [zbp] at nd
  obtain ⟨t,ht,r⟩:=h 0 d rfl
  obtain rfl:v=t:=by simpa using ht
  obtain ⟨w1,le1,ok1,rep1⟩:=ok.jU (hn a (by simp)) r
  obtain ⟨w2,le2,ok2,rep2⟩:=Ok.iC as vs ts ok1 nd.2 (fun b hb=>by rw [aH (fun e:b=a=>nd.1 (e ▸ hb))];exact hn b (zar _ hb)) (by simpa using e1) (by simpa using e2) fun j ds hj=>by
   obtain ⟨t,ht,r⟩:=h (j+1) ds (by simpa using hj)
   exact ⟨t,by simpa using ht,r.le le1⟩
  exact ⟨w2,le1.trans le2,ok2,.cons (rep1.le le2) rep2⟩
def yG (a:AA):AE:=fun δ S Q=>a δ S fun ds S1=>∃ d1 d2 d3 es fs gs,ds=[d1,d2,d3]∧aU S1 d1 = .lst es∧aU S1 d2 = .tup fs∧aU S1 d3 = .lst gs∧es.length=fs.length∧gs.length=fs.length∧0<fs.length∧fs.length≤1000∧Q (.new (.lst ((nY es fs gs).map D.tup))) S1
theorem CJ {K:yaE}{a:AA}:∀ σ H Q,bu K (yG a) σ H Q→BC K (iU K a) σ H Q:=by
 rintro σ H Q ⟨w,δ,S,Qa,ok,env,q,bk⟩
 refine ⟨w,δ,S,_,ok,env,q,fun ds S1 vs w1 H1 le1 ok1 rep1 ⟨d1,d2,d3,es,fs,gs,hd,z1,z2,z3,n1,n2,n3,n4,q1⟩ => ?_⟩
 subst hd
 simp only [aj] at rep1
 obtain ⟨x,r,rfl,g1,x',r',rfl,g2,x'',r'',rfl,g3,rfl⟩:=rep1
 obtain ⟨a1,xs,rfl,k1,j1⟩:=bq ok1 g1 z1
 obtain ⟨a2,ys,rfl,k2,j2⟩:=b6 ok1 g2 z2
 obtain ⟨a3,zs,rfl,k3,j3⟩:=bq ok1 g3 z3
 have l1:=j1.length
 have l2:=j2.length
 have l3:=j3.length
 refine ⟨a1,a2,a3,xs,ys,zs,rfl,cj.of k1,ck.of k2,cj.of k3,by lia,by lia,by lia,by lia,fun as p nd hp hn hl => ?_⟩
 obtain ⟨w2,le2,ok2,rep2⟩:=Ok.iC as (p8 xs ys zs) (nY es fs gs) ok1 nd (fun a ha=>hn a (zar _ ha)) (by simp [p8];lia) (by simp [nY];lia) fun j ds hj=>by
  obtain ⟨x,y,z,h1,h2,h3,rfl⟩:=vv hj
  obtain ⟨u1,e1,r1⟩:=j1.get h1
  obtain ⟨u2,e2,r2⟩:=j2.get h2
  obtain ⟨u3,e3,r3⟩:=j3.get h3
  refine ⟨[u1,u2,u3],?_,.cons r1 (.cons r2 (.cons r3 .nil))⟩
  unfold p8
  rw [zaP,zae (z:=(u1,u2,u3)) |>.mpr ⟨e1,zae (z:=(u2,u3)) |>.mpr ⟨e2,e3⟩⟩]
  rfl
 have hpn:L2.iC H1 (as.zip (p8 xs ys zs)) p=none:=by rw [ny fun t ht e=>hp (by rw [← e];exact (zbq ht).1)];exact hn p (by simp)
 exact bk (.new (.lst ((nY es fs gs).map D.tup))) S1 _ w2 _ (le1.trans le2) (ok2.alloc hpn) (ok2.fresh hpn ⟨_,rfl,rep2⟩) q1
theorem m5 {X:Cx}{a b c:Expr}{ta:AA}{p p2 pos pos2:Pos} (hc:X.calm=true) (hg:Gl X "list") (hm:X.mg "list" = none) (hg2:Gl X "zip") (hm2:X.mg "zip" = none) (ha:GA X [a,b,c] ta) (hs:yao [a,b,c] X.env=[(false,eval a X.env),(false,eval b X.env),(false,eval c X.env)]:=by rfl) (hs2:yao [b,c] X.env=[(false,eval b X.env),(false,eval c X.env)]:=by rfl) :
  GE X (.Call (.Name "list" p) [.Call (.Name "zip" p2) [a,b,c] [] pos2] [] pos) (yG ta):=⟨mE (L2.m5 hc hg hm hg2 hm2 ha.p hs hs2) CJ⟩
end M
namespace L2
open PySem PySem.Spec PyProof.Rows M6
theorem iF:∀ {xs:List V}{us:List yai},xs.length=us.length→(∀ (k:Nat) (x:V) (u:yai),xs[k]? = some x→us[k]? = some u→RelV x u)→Vals xs us
 | [],[],_,_=>.nil
 | [],_::_,h,_=>by simp at h
 | _::_,[],h,_=>by simp at h
 | x::xs,u::us,h,g=>.cons (g 0 x u rfl rfl) (iF (by simpa using h) fun k y v h1 h2=>g (k+1) y v (by simpa using h1) (by simpa using h2))
def vC (ta:TA):TE:=fun σ H Q=>ta σ H fun vs H1=>∃ i j:Int,vs=[.int i,.int j] ∧ -(2 ^ 60)≤i∧i<2 ^ 60∧i≤j∧j≤i+1000∧∀ p,H1 p=none→Q (.ref p) (upd H1 p (.lst ((zce (j - i).toNat).map fun k:Nat=>V.int (i+k))))
section
variable {X:Cx}{a b:Expr}{ta:TA}{p p2 pos pos2:Pos}
theorem jI (hc:X.calm=true) (hg:Gl X "list") (hm:X.mg "list" = none) (hg2:Gl X "range") (hm2:X.mg "range" = none) (ha:PA X [a,b] ta) (hs:yao [a,b] X.env=[(false,eval a X.env),(false,eval b X.env)]:=by rfl) (hs2:yao [b] X.env=[(false,eval b X.env)]:=by rfl) :
  PE X (.Call (.Name "list" p) [.Call (.Name "range" p2) [a,b] [] pos2] [] pos) (vC ta):=by
 intro pins s σ H Q I h
 refine wpAny_Call_Name_kw (cV I hg hm boot_list ?_ (by decide +kernel) (by decide +kernel))
 refine PyProof.Rows.callWith_type1 (E:=X.xe) ?_ (aM [] X.env rfl) rfl
 rw [aM [] X.env rfl]
 refine zaN ?_
 refine Call_ (cV I hg2 hm2 boot_range (PyProof.Rows.callWith_type1 (b5 (ha pos2 pins s σ H _ I h) fun us s1 ⟨vs,H1,I1,r1,q1⟩ => ?_) (by rw [hs,hs2]) (by rw [hs2];rfl)))
 obtain ⟨i,j,e,n1,n2,n3,n4,q⟩:=q1
 subst e
 cases r1 with
 | cons r rr =>
  cases rr with
  | cons r' rr =>
   cases rr
   obtain ⟨t,rfl⟩:=r
   obtain ⟨t',rfl⟩:=r'
   refine call_range_2 ?_
   refine zba ?_
   have hz:(j - i).toNat≤1000:=by lia
   refine call_list_range (s:={ s1 with heap:=s1.heap.push _,toks:=_ }) (n:=(j - i).toNat) (I1.ok.hd hc) (IsRange.new ..) (small_one (by lia) (by lia) (by lia) (by lia)) (by rw [rangeSize_one];split <;> lia) (by lia) fun h' tk acc c kp g hacc => ?_
   have kp0:∀ b o,s1.heap.get? b=some o→h'.get? b=some o:=fun b o e=>kp b o (zak _ e)
   have hsz:∀ o:Obj,(s1.heap.push o).objs.size=s1.heap.objs.size+1:=fun o=>zbA ..
   have ev:Vals ((zce (j - i).toNat).map fun k:Nat=>V.int (i+k)) acc.toList:=by
    refine iF (by rw [zbr,zaU,zaB,hacc.1]) fun k x u hx hu => ?_
    rw [zaP] at hx
    cases e:(zce (j - i).toNat)[k]? with
    | none=>rw [e] at hx;cases hx
    | some m =>
     rw [e] at hx
     obtain ⟨_,rfl⟩:=zac.mp e
     rw [List.getElem_range] at hx
     obtain rfl:=zcd.inj hx
     obtain ⟨tk,rfl⟩:=hacc.2 k u (by simpa using hu)
     exact ⟨tk,by simp⟩
   refine ⟨.ref (s1.heap.push { cls:=.type "range",data:=.fields #[.int i t,.int j t',.int 1 s1.toks] }).objs.size,_,I1.laid (a:=(s1.heap.push { cls:=.type "range",data:=.fields #[.int i t,.int j t',.int 1 s1.toks] }).objs.size) (t':=tk) (o:=.lst ((zce (j - i).toNat).map fun k:Nat=>V.int (i+k))) kp0 (by rw [hsz];exact zcb _) ⟨by rw [zbr,zaU,yaf];lia,acc.toList,c,ev,by rw [Array.toArray_toList];exact g⟩,rfl,q _ (I1.hok.fresh (by rw [hsz];exact zcb _))⟩
end
def vF (K:yaE) (W:yak) (tk:TE):TE:=fun σ H Q=>∀ p,H p=none→tk σ (upd H p (.ext (gk W p []))) fun x H2=>∃ b d a',[(x,V.bl true)]=[(V.ref b,V.bl true)]∧H2 p=some (.ext (gk W a' []))∧bh d=true∧d.depth≤6∧bJ K H2 d (.ref b)∧(a'=p→Q (.ref p) (upd H2 p (.ext (gk W p [(d,b)]))))
def C6 (W:yak):List V→Hp→VK→Prop:=fun xs H Q=>∃ (a a':Addr) (ks:List (yam×Addr)),xs=[.ref a]∧H a=some (.ext (gk W a' ks))∧ks.length≤1000∧∀ p,H p=none→Q (.ref p) (upd H p (.lst (ks.map fun k=>V.ref k.2)))
def wg (K:yaE) (W:yak) (td ty tv:TE):TS:=fun D σ H=>tv σ H fun v H1=>td σ H1 fun x H2=>ty σ H2 fun y H3=>∃ (a a' b:Addr) (xs:List (yam×Addr)) (d:yam),v = .bl true∧x = .ref a∧y = .ref b∧H3 a=some (.ext (gk W a' xs)) ∧
 pZ K H3 xs∧bh d=true∧d.depth≤6∧bJ K H3 d (.ref b)∧xs.length<10000000∧(a'=a→D.nx σ (upd H3 a (.ext (gk W a (qy xs d b)))))
section
variable {X:Cx}{pins:List (Addr×Obj)}{σ:St}{H:Hp}{s:yah}{A:yal}{E:yai→yah→Prop}
theorem qG {a:Addr}{xs:List (yam×Addr)} (I:Inv X pins σ H s) (e:H a=some (.ext (gk X.w a xs))) (hk:pZ X.K H xs):(a==yas)=false∧Heap.DictOfH (cE X.prog X.w) s.heap a (xs.map fun x=>(x.1,x.2,Value.bool true)):=by
 obtain ⟨⟨z,o,es,ep,ho,hx,hd,hes,hn⟩,_,_⟩:=(show bD X.prog X.w H s.heap a (.ext (gk X.w a xs)) from I.hok a _ e)
 refine ⟨z,o,es,ep,ho,hx,hd,?_,fun x hx' => ?_,?_⟩
 ·rw [hes,zbP];rfl
 ·obtain ⟨y,hy,rfl⟩:=zbO.mp hx'
  obtain ⟨k1,k2,k3⟩:=hk y hy
  exact I.key k1 k2 k3
 ·rw [zbP];exact hn
theorem sV {a b:Addr}{xs:List (yam×Addr)}{d:yam}{h':Heap}{tk:Nat} (I:Inv X pins σ H s) (e:H a=some (.ext (gk X.w a xs))) (z:(a==yas)=false) (dd':Heap.DictOfH (cE X.prog X.w) h' a (storedH (xs.map fun x=>(x.1,x.2,Value.bool true)) d b (.bool true))) (hs:Heap.SameBut a s.heap h'):Inv X pins σ (upd H a (.ext (gk X.w a (qy xs d b)))) { s with heap:=h',toks:=tk }:=by
 rw [oM] at dd'
 obtain ⟨q,es',ep',hq,x1,x2,x3,_,x5⟩:=dd'
 have nn:gk X.w a (qy xs d b) h':=⟨z,q,es',ep',hq,x1,x2,by rw [x3,zbP];rfl,by rw [zbP] at x5;exact x5⟩
 exact AW I (by rw [e];exact True.intro) hs ⟨q,hq⟩ nn.ok
end
section
variable {X:Cx}{o i value k v:Expr}{td ty tv tk:TE}{pos pos':Pos}
theorem jD (hu:X.A.units+20<cLine) (ho:PE X o td) (hi:PE X i ty) (hv:PE X value tv) (hs:yat value (some (.Subscript o i pos')) pos.line X.env=pure false) :
  PS X (.Assign [.Subscript o i pos'] value pos) (wg X.K X.w td ty tv):=by
 intro pins s σ H D I h
 refine wpAny_Assign_Subscript (b5 (hv pins s σ H _ I h) fun r s1 ⟨v,H1,I1,rv,q1⟩=>b5 (ho pins s1 σ H1 _ I1 q1) fun u s2 ⟨x,H2,I2,rx,q2⟩=>b5 (hi pins s2 σ H2 _ I2 q2) fun iv s3 ⟨y,H3,I3,ry,a,a',b,xs,d,ev,ex,ey,e,k1,k2,k3,k4,k5,q3⟩ => ?_) hs
 subst ev ex ey
 obtain rfl:u=Value.ref a:=rx
 obtain rfl:iv=Value.ref b:=ry
 obtain rfl:r=Value.bool true:=rv
 obtain rfl:=jh (show bD X.prog X.w H3 s3.heap a (.ext (gk X.w a' xs)) from I3.hok a _ e)
 obtain ⟨z,dd⟩:=qG I3 e k1
 exact wpAny_setItem_heap (knd:=cE X.prog X.w) (hsz:=by rw [zbr,yaf];lia) (show X.A.units+1+10<cLine by lia) (I3.key k2 k3 k4) dd fun h' dd' hs=>⟨σ,_,sV I3 e z dd' hs,q3 rfl⟩
theorem jK (hu:X.A.units+20<cLine) (hk:PE X k tk) (hv:PE X v (tC (.bl true))):PE X (.Dict [some k] [v] pos) (vF X.K X.w tk):=by
 intro pins s σ H Q I q
 have hn:=I.hok.fresh (zca s.heap.objs.size)
 have I1:=I.laid (a:=s.heap.objs.size) (o:=.ext (gk X.w s.heap.objs.size [])) (h':=s.heap.push { cls:=.type "dict",data:=.dict #[] }) (t':=s.toks) (fun _ _ q=>zak _ q) (zca _)
  (gk.ok ⟨beq_eq_false_iff_ne.mpr (Ne.symm (zbQ I.big)),_,#[],0,zaC _ rfl,⟨rfl,rfl,rfl⟩,rfl,rfl,List.nodup_nil⟩)
 refine wpAny_Dict_any rfl rfl (List.cons_ne_nil _ _) (by show 1≤15;decide) (b5 (wW hk hv zZ pins _ σ _ (fun ps H2=>∃ b d a',ps=[(.ref b,.bl true)]∧H2 s.heap.objs.size=some (.ext (gk X.w a' []))∧bh d=true∧d.depth≤6∧bJ X.K H2 d (.ref b)∧(a'=s.heap.objs.size→Q (.ref s.heap.objs.size) (upd H2 s.heap.objs.size (.ext (gk X.w s.heap.objs.size [(d,b)]))))) I1 ?_) fun ws s2 ⟨ps,H2,I2,rel,b,d,a',ep,e,k1,k2,k3,q2⟩ => ?_)
 ·exact q _ hn
 ·subst ep
  cases rel with
  | @cons p w ps ws r t =>
   cases t
   obtain ⟨wk,wv⟩:=w
   obtain rfl:wk=Value.ref b:=r.1
   obtain rfl:wv=Value.bool true:=r.2
   have ea:=jh (show bD X.prog X.w H2 s2.heap s.heap.objs.size (.ext (gk X.w a' [])) from I2.hok _ _ e)
   rw [ea] at e
   obtain ⟨z,dd⟩:=qG I2 e (fun x hx=>by simp at hx)
   unfold storeAll
   simp only [zbt,List.forIn_nil]
   refine yaa (yaa (wpAny_dictSet_heap (knd:=cE X.prog X.w) (hsz:=zcc _) (show X.A.units+10<cLine by lia) (I2.key k1 k2 k3) dd fun h' dd' hs=>yab (yab ⟨.ref s.heap.objs.size,_,sV I2 e z dd' hs,rfl,q2 ea⟩)))
theorem rj {k:Nat} (hr:bC k X.A):cg X (.type "list") (C6 X.w):=by
 intro pins s σ H xs us Q I r h
 obtain ⟨a,a',ks,rfl,e,hz,q⟩:=h
 obtain ⟨u,rfl,ru⟩:=vals1 r
 cases ru
 have ob:=(show bD X.prog X.w H s.heap a (.ext (gk X.w a' ks)) from I.hok a _ e)
 obtain rfl:=jh ob
 obtain ⟨⟨z,o,es,ep,ho,hx,hd,hes,hn⟩,_,_⟩:=ob
 have hv:es.toList.map (·.key)=ks.map fun k=>Value.ref k.2:=by rw [hes,zbP];rfl
 have hl:es.size=ks.length:=by have:=congrArg zbZ hv;simpa using this
 refine W.kdl_call (Hg z) hr.hd ⟨o,ho,hx,hd⟩ (by rw [hl,yaf];lia) fun h' tk acc c kp g hacc => ?_
 have ea:acc.toList=es.toList.map (·.key):=xT hacc
 refine ⟨.ref s.heap.objs.size,_,I.laid (a:=s.heap.objs.size) (t':=tk) (o:=.lst (ks.map fun k=>V.ref k.2)) kp (zca _) ⟨by rw [zbr,yaf];lia,acc.toList,c,by rw [ea,hv];exact fB (fun k=>k.2) ks,by rw [Array.toArray_toList];exact g⟩,rfl,q _ (I.hok.fresh (zca _))⟩
theorem uz {k:Nat} (hr:bC k X.A):fV X (yan .NotIn) (HA X.K X.w true):=by
 intro pins s σ H y x v u Q I ry rx h
 obtain ⟨a,a',b,ks,d,rfl,rfl,e,hk,h1,h2,h3,q⟩:=h
 obtain rfl:u=Value.ref a:=rx
 obtain rfl:v=Value.ref b:=ry
 obtain rfl:=jh (show bD X.prog X.w H s.heap a (.ext (gk X.w a' ks)) from I.hok a _ e)
 obtain ⟨z,dd⟩:=qG I e hk
 have hu:=hr.units
 refine wpAny_notIn_heap (knd:=cE X.prog X.w) (show X.A.units+1+10<cLine by lia) (I.key h1 h2 h3) z dd ?_
 rw [mh d ks]
 exact ⟨.bl (!(ks.any fun x=>decide (x.1=d))),H,I.tok _,rfl,by simpa using q⟩
end
end L2
namespace M
open PySem PySem.Spec PyProof.Rows L2 M6
section
variable {K:yaE}
def rF (a:AA):AE:=fun δ S Q=>a δ S fun ds S1=>∃ i j:Int,ds=[.int i,.int j] ∧ -(2 ^ 60)≤i∧i<2 ^ 60∧i≤j∧j≤i+1000∧Q (.new (.lst ((zce (j - i).toNat).map fun k:Nat=>D.int (i+k)))) S1
theorem zM {a:AA}:∀ σ H Q,bu K (rF a) σ H Q→vC (iU K a) σ H Q:=by
 rintro σ H Q ⟨w,δ,S,Qa,ok,env,q,bk⟩
 refine ⟨w,δ,S,_,ok,env,q,fun ds S1 vs w1 H1 le1 ok1 rep1 ⟨i,j,hd,n1,n2,n3,n4,q1⟩ => ?_⟩
 subst hd
 simp only [aj,Rep] at rep1
 obtain ⟨x,r,rfl,rfl,x',r',rfl,rfl,rfl⟩:=rep1
 refine ⟨i,j,rfl,n1,n2,n3,n4,fun p hp=>bk (.new (.lst _)) S1 _ w1 _ le1 (ok1.alloc hp) (ok1.fresh hp ⟨_,rfl,?_⟩) q1⟩
 generalize zce (j - i).toNat=l
 induction l with
 | nil=>exact .nil
 | cons k l ih=>exact .cons .int ih
def rH (W:yak) (a:AE):AE:=fun δ S Q=>a δ (S++[some (nO W [])]) fun r S1=>S1[S.length]? = some (some (nO W []))∧ef r.d∧Q (.dat (.loc S.length)) (S1.set S.length (some (nO W [r.d])))
theorem zR {W:yak}{a:AE}:∀ σ H Q,bu K (rH W a) σ H Q→vF K W (bu K a) σ H Q:=by
 rintro σ H Q ⟨w,δ,S,Qa,ok,env,q,bk⟩ p hp
 have ok1:=ok.alloc (o:=.ext (gk W p [])) hp
 obtain ⟨w2,le2,ok2,rep2⟩:=store ok1 (ok.fresh (o:=.ext (gk W p [])) (m:=nO W []) hp ⟨p,[],rfl,.nil⟩)
 refine ⟨w2,δ,_,_,ok2,env.le le2,q,.go fun r S1 v w1 H1 le1 ok1 rep1 ⟨hS,g,q1⟩ => ?_⟩
 obtain ⟨a,a',bs,ea,k3,k5,hlen⟩:=Dy ok1 (rep2.le le1) hS
 cases ea
 obtain rfl:bs=[]:=by cases bs with
  | nil=>rfl
  | cons _ _=>simp at hlen
 obtain ⟨b,rfl,hb⟩:=gQ ok1 rep1 g
 have h0:w1.r S.length=some p:=by
  have:=rep2.le le1
  simp only [Rep] at this
  obtain ⟨a,h0,e⟩:=this
  cases e;exact h0
 refine ⟨b,py r.d,a',rfl,k3,g.2.1,g.2.2.1,hb,fun e => ?_⟩
 exact bk.dat (le2.trans le1) (ok1.put hS h0 (o':=nO W [r.d]) ⟨p,[b],rfl,.cons rep1 .nil⟩) (rep2.le le1) q1
def yL (W:yak):AN:=fun ds S Q=>∃ n ks,ds=[.loc n]∧S[n]? = some (some (nO W ks))∧ks.length≤1000∧Q (.new (.lst ks)) S
def rG (W:yak) (a b c:AE):AS:=fun D δ S=>c δ S fun r3 S1=>a δ S1 fun r1 S2=>b δ S2 fun r2 S3=>∃ n ks,r3.d = .bl true∧r1.d = .loc n∧S3[n]? = some (some (nO W ks))∧ef r2.d∧(∀ k∈ks,ef k)∧ks.length<10000000∧D.nx δ (S3.set n (some (nO W (putN ks r2.d))))
theorem zP {W:yak}{a b c:AE}:∀ D σ H,eZ K (rG W a b c) D σ H→wg K W (bu K a) (bu K b) (bu K c) D σ H:=by
 rintro D σ H ⟨w,δ,S,Da,ok,env,q,bk⟩
 refine ⟨w,δ,S,_,ok,env,q,.go fun r3 S1 v3 w1 H1 le1 ok1 rep3 q1 => ?_⟩
 refine ⟨w1,δ,S1,_,ok1,env.le le1,q1,.go fun r1 S2 v1 w2 H2 le2 ok2 rep1 q2 => ?_⟩
 refine ⟨w2,δ,S2,_,ok2,(env.le le1).le le2,q2,.go fun r2 S3 v2 w3 H3 le3 ok3 rep2 ⟨n,ks,z0,z1,z2,g1,g2,hl,q3⟩ => ?_⟩
 rw [z1] at rep1
 have rep1:=rep1.le le3
 simp only [Rep] at rep1
 obtain ⟨a,h0,rfl⟩:=rep1
 obtain ⟨a1,u,k1,k2,k3,a',bs,rfl,k5⟩:=ok3.live n _ z2
 rw [h0] at k1;cases k1
 obtain ⟨b,rfl,hb⟩:=gQ ok3 rep2 g1
 have hlen:ks.length=bs.length:=by have:=k5.length;rw [zbr] at this;exact this.symm
 refine ⟨a,a',b,_,py r2.d,?_,rfl,rfl,k3,gM ok3 k5 g2,g1.2.1,g1.2.2.1,hb,?_,fun e => ?_⟩
 ·rw [qx rep3 z0]
 ·rw [List.length_zip,zbr];lia
 ·subst e
  obtain ⟨bs',e1,e2⟩:=wU (k:=r2.d) (b:=b) hlen
  rw [e1]
  refine bk.nx δ _ σ w3 _ ((le1.trans le2).trans le3) (ok3.put z2 h0 (o':=nO W (putN ks r2.d)) ⟨a',bs',rfl,?_⟩) (((env.le le1).le le2).le le3) q3
  rcases e2 with ⟨rfl,e⟩ | ⟨rfl,e⟩
  ·rw [e];exact k5
  ·rw [e,zbu];exact k5.snoc rep2
end
section
variable {X:Cx}{o i value k v a b:Expr}{p p2 pos pos' pos2:Pos}
theorem jI {ta:AA} (hc:X.calm=true) (hg:Gl X "list") (hm:X.mg "list" = none) (hg2:Gl X "range") (hm2:X.mg "range" = none) (ha:GA X [a,b] ta) (hs:yao [a,b] X.env=[(false,eval a X.env),(false,eval b X.env)]:=by rfl) (hs2:yao [b] X.env=[(false,eval b X.env)]:=by rfl) :
  GE X (.Call (.Name "list" p) [.Call (.Name "range" p2) [a,b] [] pos2] [] pos) (rF ta):=⟨mE (L2.jI hc hg hm hg2 hm2 ha.p hs hs2) zM⟩
theorem jK {j:Nat} (hr:bC j X.A) {tk:AE} (hk:GE X k tk) {jj}:GE X (.Dict [some k] [.Constant (.bool true) jj p] pos) (rH X.w tk):=⟨mE (L2.jK (by have:=hr.units;lia) hk.p L2.iH) zR⟩
theorem jD {j:Nat} (hr:bC j X.A) {ta tb tc:AE} (ho:GE X o ta) (hi:GE X i tb) (hv:GE X value tc) (hs:yat value (some (.Subscript o i pos')) pos.line X.env=pure false):GS X (.Assign [.Subscript o i pos'] value pos) (rG X.w ta tb tc) :=
 ⟨mS (L2.jD (by have:=hr.units;lia) ho.p hi.p hv.p hs) zP⟩
theorem Ak {j:Nat} (hr:bC j X.A):Bw X (.type "list") (yL X.w):=⟨mC (rj hr) fun xs H Q h=>by
 obtain ⟨w,ds,S,Qa,ok,rep,⟨n,ks,rfl,z,hl,q⟩,bk⟩:=h
 obtain ⟨v,rfl,r1⟩:=jA rep
 obtain ⟨a,a',bs,rfl,k3,k5,hlen⟩:=Dy ok r1 z
 obtain ⟨_,_,e1,_⟩:=lz hlen
 refine ⟨a,a',_,rfl,k3,by rw [List.length_zip,zbr];lia,fun p hp => ?_⟩
 rw [e1]
 exact bk (.new (.lst ks)) S _ w _ .refl (ok.alloc hp) (ok.fresh hp ⟨_,rfl,k5⟩) q⟩
theorem xq {j:Nat} (hr:bC j X.A):qb X (yan .NotIn) (Ii X.w true):=⟨m2 (uz hr) fun x y H Q h=>by
 obtain ⟨w,d,e,S,Qa,ok,r1,r2,⟨n,ks,rfl,z,g1,g2,q⟩,bk⟩:=h
 obtain ⟨a,a',bs,rfl,k3,k5,hlen⟩:=Dy ok r2 z
 obtain ⟨b,rfl,hb⟩:=gQ ok r1 g1
 obtain ⟨Aq,ez,e1,e2⟩:=lz hlen
 refine ⟨a,a',b,_,py d,rfl,rfl,k3,gM ok k5 g2,g1.2.1,g1.2.2.1,hb,bk.dat .refl ok .bl ?_⟩
 have:(((ks.map py).zip bs).any fun x=>decide (x.1=py d))=ya ks d:=by
  have h1:(((ks.map py).zip bs).any fun x=>decide (x.1=py d))=((((ks.map py).zip bs).map (·.1)).any fun z=>decide (z=py d)):=by rw [zbN];rfl
  rw [h1,e2,zbN];rfl
 rw [this];exact q⟩
end
end M
namespace M8
open PySem PySem.Spec PyProof.Rows M5 M6 M7
section
variable {prog:yaj}{w:yak}{A:yal}{E:yai→yah→Prop}{s:yah}
theorem uq {l:Addr}{its:Array yai}{ks:List (yam×Addr)}{Q:yai→yah→Prop} (hh:A.handled=none) (hl:s.heap.IsList l its) (hv:its.toList=ks.map fun k=>.ref k.2) (hk:∀ k∈ks,isKey s.heap k.1 k.2) (hu:A.units+13<cLine) (hn:ks.length<63)
  (h:∀ (h':Heap) (tk:Nat) (S:List yam),S.Nodup→(∀ y,y∈S↔y∈ks.map (·.1))→S.length<63→zc w ks h' s.heap.objs.size S→(∀ b o,b<s.heap.objs.size→s.heap.get? b=some o→h'.get? b=some o)→Q (.ref s.heap.objs.size) { s with heap:=h',toks:=tk }) :
  yar (model prog w) A (call (.type "set") [.ref l]) Q E s:=by
 have el:its.size=ks.length:=by rw [← zaB,hv,zbr]
 have hget:∀ i (hi:i<ks.length),ks.getD i (.none,0)=ks[i]:=fun i hi=>by simp [zch,hi]
 have hlen:=kq (fun i=>(ks.getD i (.none,0)).1) its.size
 refine uR (T := "list") (ob:={ cls:=.type "list_iterator",data:=.fields #[.ref l,.int 0 0] }) (Z:=fun h'=>zc w ks h' s.heap.objs.size (lg (fun i=>(ks.getD i (.none,0)).1) its.size)) hl.typeIs PySem.F.sub_list_set PySem.F.sub_list_frozenset (by decide) (fun kp q=>wpAny_pyIter_list (hl.at (kp l)) q) rfl (fun I h0 R kp gS gI hne hSf hR => ?_)
  fun h' tk hZ kp=>h h' tk _ (jS _ _) (fun y => ?_) (by lia) hZ kp
 ·refine xK (h0:=h0) (B:=ks) (St:=fun i s=>s.heap.IsListIter I l i∧s.heap.IsList l its) (P:=fun i v=>its[i]? = some v) (Walks.list (A:=A.in1.in1.in1) hh I l hne its).toS s.heap.objs.size hSf (fun i=>ks.getD i (.none,0)) (fun i v hv' => ?_) (fun i hi => ?_) (fun i hi => ?_) (fun i s' hst => ?_) (fun b hb=>by simpa using hb) (by show A.units+1+1+11<cLine;lia) (by lia) (its.size - 0) 0 _ rfl (zcc _) ?_ (vh gS) (fun c o _ z=>z) fun s' hm hT hS' => ?_
  ·rw [← zap,hv,zaP] at hv'
   cases e:ks[i]? with
   | none=>rw [e] at hv';cases hv'
   | some k =>
    rw [e] at hv'
    have:ks.getD i (.none,0)=k:=by rw [zch,e];rfl
    rw [this]
    exact (zcd.inj hv').symm
  ·rw [hget i (by lia)];exact zbg _
  ·rw [hget i (by lia)]
   obtain ⟨k1,k2,as,k3⟩:=hk _ (zbg (by lia:i<ks.length))
   exact ⟨k1,k2,as,Reads.keeps kp k3⟩
  ·obtain ⟨⟨o,ho,hc,_⟩,_⟩:=hst
   exact ⟨o,ho,by rw [hc];intro z;injection z with z;exact absurd z (by decide)⟩
  ·exact ⟨⟨_,gI,rfl,rfl⟩,hl.at (kp l)⟩
  ·obtain ⟨h',g',d',tk',os'⟩:=s'
   obtain rfl:g'=s.gens:=hm.gens
   obtain rfl:d'=s.drawn:=hm.drawn
   obtain rfl:os'=s.os:=hm.os
   exact hR h' tk' hS' fun b o hb e=>hm.heap b o hb e
 ·rw [oX,zbO]
  constructor
  ·rintro ⟨i,hi,e⟩
   rw [hget i (by lia)] at e
   exact ⟨_,zbg (by lia),e⟩
  ·rintro ⟨k,hk1,e⟩
   obtain ⟨i,hi,rfl⟩:=zaz hk1
   exact ⟨i,by lia,by rw [hget i hi];exact e⟩
end
end M8
namespace L2
open PySem PySem.Spec PyProof.Rows M6 M8
def lB (K:yaE) (ta:TE):TE:=fun σ H Q=>ta σ H fun x H1=>∃ (p:Addr) (ks:List (yam×Addr)),x = .ref p∧cj K H1 p (ks.map fun k=>V.ref k.2)∧pZ K H1 ks∧(∀ k∈ks,∃ q r,k.1 = .tuple (.int q::r))∧(∀ k∈ks,∀ l∈ks,aA k.1 l.1=true)∧ks.length<63 ∧
 ∀ (l:Addr) (out:List (yam×Addr)),H1 l=none→(∀ k∈out,k∈ks)→(∀ y,y∈out.map (·.1)↔y∈ks.map (·.1))→(out.map (·.1)).Nodup→out.Pairwise (fun x y=>eV y.1 x.1=false)→Q (.ref l) (upd H1 l (.lst (out.map fun k=>V.ref k.2)))
section
variable {X:Cx}{e:Expr}{ta:TE}{p p2 pos pos2:Pos}
theorem eU {k:Nat} (hr:bC k X.A) (hc:X.calm=true) (hg:Gl X "sorted") (hm:X.mg "sorted" = none) (hg2:Gl X "set") (hm2:X.mg "set" = none) (he:PE X e ta) (hs:notStar e=true:=by rfl) :
  PE X (.Call (.Name "sorted" p) [.Call (.Name "set" p2) [e] [] pos2] [] pos) (lB X.K ta):=by
 intro pins s σ H Q I h
 have hk:=I.ok.hd hc
 refine wpAny_Call_Name_kw (cV I hg hm (u:=.builtin "sorted") (by decide +kernel) ?_ (by decide +kernel) (by decide +kernel))
 refine PyProof.Rows.callWith_builtin1 (E:=X.xe) ?_ (aM [] X.env rfl) rfl
 rw [aM [] X.env rfl]
 refine zaN ?_
 refine wpAny_Call_Name_kw (cV I hg2 hm2 (u:=.type "set") (by decide +kernel) ?_ (by decide +kernel) (by decide +kernel))
 refine PyProof.Rows.callWith_type1 (E:=X.xe) ?_ (aM [] X.env hs) rfl
 rw [aM [] X.env hs]
 refine zaN (b5 (he pins s σ H _ I h) fun u s1 ⟨x,H1,I1,rx,a,ks,ex,hq,hkd,h0,hcm,hl,q⟩ => ?_)
 subst ex
 obtain rfl:u=Value.ref a:=rx
 refine zba ?_
 obtain ⟨its,r',pl,hz⟩:=I1.list hq
 have hun:=hr.units
 refine uq (its:=its.toArray) (ks:=ks) hk pl.isList (by simpa using fX (fun k:yam×Addr=>k.2) r') (fun k hk1 => ?_) (by lia) hl fun h' tk S n1 n2 n3 tS kp => ?_
 ·obtain ⟨k1,k2,k3⟩:=hkd k hk1
  exact I1.key k1 k2 k3
 ·refine zba ?_
  have mS:∀ d∈S,∃ k∈ks,k.1=d:=fun d hd=>zbO.mp ((n2 d).mp hd)
  refine oj (s:={ s1 with heap:=h',toks:=tk }) hk tS (fun d hd => ?_) (fun x hx y hy => ?_) (by lia) (by lia) fun s2 h2 out c e1 e2 kp1 kp2 g hB hp hsrt => ?_
  ·obtain ⟨k,k1,rfl⟩:=mS d hd
   exact h0 k k1
  ·obtain ⟨k,k1,rfl⟩:=mS x hx
   obtain ⟨k',k2,rfl⟩:=mS y hy
   exact hcm k k1 k' k2
  ·obtain ⟨hh2,g2,d2,t2,o2⟩:=s2
   obtain rfl:g2=s1.gens:=e1
   obtain rfl:o2=s1.os:=e2
   have kpA:∀ b o,s1.heap.get? b=some o→h2.get? b=some o:=fun b o z=>kp2 b o (kp1 b o (kp b o (zbY z) z))
   have le1:s1.heap.objs.size≤hh2.objs.size:=by
    obtain ⟨o,es,ep,t,l,ks',ho,_⟩:=tS
    exact zbS (zbY (kp1 _ _ ho))
   have hlen2:out.length<64:=by have:=hp.length_eq;rw [zbr] at this;lia
   refine ⟨.ref hh2.objs.size,_,(I1.laid (a:=hh2.objs.size) (t':=t2) (o:=.lst (out.map fun k=>V.ref k.2)) kpA le1 ⟨by rw [zbr,yaf];lia,_,c,fB (fun k=>k.2) out,g⟩).ID d2,rfl,q _ out (I1.hok.fresh le1) hB (fun y=>(hp.mem_iff).trans (n2 y)) (hp.nodup_iff.mpr n1) hsrt⟩
end
end L2
namespace M
open PySem PySem.Spec PyProof.Rows L2 M6
section
variable {K:yaE}
def iD (a:AE):AE:=fun δ S Q=>a δ S fun r S1=>∃ ks:List D,aU S1 r.d = .lst ks∧(∀ k∈ks,ef k∧∃ q r,py k=PyData.tuple (.int q::r))∧(∀ k∈ks,∀ l∈ks,aA (py k) (py l)=true)∧ks.length<63 ∧
 ∀ ks':List D,(∀ k∈ks',k∈ks)→(∀ y,y∈ks'.map py↔y∈ks.map py)→(ks'.map py).Nodup→ks'.Pairwise (fun x y=>eV (py y) (py x)=false)→Q (.new (.lst ks')) S1
theorem qo {a:AE}:∀ σ H Q,bu K (iD a) σ H Q→lB K (bu K a) σ H Q:=by
 rintro σ H Q ⟨w,δ,S,Qa,ok,env,q,bk⟩
 refine ⟨w,δ,S,_,ok,env,q,.go fun r1 S1 v1 w1 H1 le1 ok1 rep1 ⟨ks,z,g1,g2,hl,q1⟩ => ?_⟩
 obtain ⟨a,xs,rfl,h1,h2⟩:=bq ok1 rep1 z
 obtain ⟨bs,rfl⟩:=lH h2 fun k hk=>(g1 k hk).1.2.2.2
 have hlen:ks.length=bs.length:=by have:=h2.length;rw [zbr] at this;exact this.symm
 have Aq:∀ x∈(ks.map py).zip bs,∃ k∈ks,x.1=py k:=fun x hx=>by
  obtain ⟨k,hk,e⟩:=zbO.mp (zbq hx).1
  exact ⟨k,hk,e.symm⟩
 have ez:(ks.map py).zip bs=(ks.zip bs).map fun x=>(py x.1,x.2):=by rw [List.zip_map_left];rfl
 have e1:((ks.map py).zip bs).map (fun k=>V.ref k.2)=bs.map V.ref:=by
  have:((ks.map py).zip bs).map (·.2)=bs:=List.map_snd_zip (by rw [zbr];lia)
  rw [← this,zbP,this];rfl
 have e2:((ks.map py).zip bs).map (·.1)=ks.map py:=zbl (by rw [zbr];lia)
 refine ⟨a,(ks.map py).zip bs,rfl,by rw [e1];exact cj.of h1,gM ok1 h2 (fun k hk=>(g1 k hk).1),fun x hx => ?_,fun x hx y hy => ?_,by rw [List.length_zip,zbr];lia,fun l out hp hin hmem hnd hso => ?_⟩
 ·obtain ⟨k,hk,e⟩:=Aq x hx
  rw [e];exact (g1 k hk).2
 ·obtain ⟨k,hk,e⟩:=Aq x hx
  obtain ⟨k',hk',e'⟩:=Aq y hy
  rw [e,e'];exact g2 k hk k' hk'
 ·rw [ez] at hin
  obtain ⟨o',p1,rfl⟩:=jF hin
  have e3:(List.map (fun k:yam×Addr=>V.ref k.2) (o'.map fun x=>(py x.1,x.2)))=o'.map fun x=>V.ref x.2:=by rw [zbP];rfl
  have e4:List.map (fun x:yam×Addr=>x.1) (o'.map fun x=>(py x.1,x.2))=(o'.map (·.1)).map py:=by rw [zbP,zbP];rfl
  rw [e3]
  rw [e4] at hnd
  rw [e2,e4] at hmem
  refine bk (.new (.lst (o'.map (·.1)))) S1 _ w1 _ le1 (ok1.alloc hp) (ok1.fresh hp ⟨_,rfl,f6 fun x hx=>rM h2 x (p1 x hx)⟩) (q1 _ (fun k hk => ?_) hmem hnd ?_)
  ·obtain ⟨x,x1,rfl⟩:=zbO.mp hk
   exact (zbq (p1 x x1)).1
  ·rw [zaV] at hso ⊢
   exact hso
end
section
variable {X:Cx}{e:Expr}{p p2 pos pos2:Pos}
theorem eU {ta:AE}{k:Nat} (hr:bC k X.A) (hc:X.calm=true) (hg:Gl X "sorted") (hm:X.mg "sorted" = none) (hg2:Gl X "set") (hm2:X.mg "set" = none) (he:GE X e ta) (hs:notStar e=true:=by rfl) :
  GE X (.Call (.Name "sorted" p) [.Call (.Name "set" p2) [e] [] pos2] [] pos) (iD ta):=⟨mE (L2.eU hr hc hg hm hg2 hm2 he.p hs) qo⟩
end
end M
theorem L2.eu {N P:List PySem.Str}{sc:PySem.Scope} (h1:sc.kind = .function:=by rfl) (h2:sc.isCoroutine=false:=by rfl) (h3:sc.isGenerator=false:=by rfl) (h4:N.Nodup:=by decide +kernel) (h5:N.take P.length=P:=by rfl) (h6:∀ x∈P,sc.names.lookup x=some .local∨sc.names.lookup x=some .cell:=by decide +kernel) (h7:∀ y∈sc.names,y.2 ≠ .free:=by decide +kernel):L2.aP N P sc:=⟨h1,h2,h3,h4,h5,h6,h7⟩
namespace M
open PySem L2
theorem ow {X:Cx}{e:Expr}{es:List Expr}{pos p:Pos}{k j:Nat}{ps:List Str}{sp:AN}{t:AA}{x:Str} (D:Def X.prog X.w X.K X.mg X.base k x ps (aF X.K sp)) (hr:bC j X.A) (ha:GA X (e::es) t) (hk:k≤j:=by decide) (hg:Gl X x:=by rfl) (hdb:(x==("__debug__" : Str))=false:=by decide +kernel) (hs:(e::es).all notStar=true:=by rfl):GE X (.Call (.Name x p) (e::es) [] pos) (aCall sp t):=M.cS D (hr.mono hk) hg ha hdb hs
end M
namespace K33
open PySem L2
noncomputable def top (i:Nat):Stmt:=PySem.Challenge.pw_pathask_k33_whole_every_web.main.body.getD i (.Pass ⟨0,0,0,0⟩)
noncomputable abbrev wu:Stmt:=top 11
noncomputable abbrev uc:List Str:=["_law_script","_law_k"]
noncomputable abbrev ir:List Str:=["_law_script","_law_k"]
theorem CI:aP uc ir (ak wu):=L2.eu
noncomputable abbrev qp:Stmt:=top 13
noncomputable abbrev pV:List Str:=[]
noncomputable abbrev ff:List Str:=[]
theorem zJ:aP pV ff (ak qp):=L2.eu
noncomputable abbrev qt:Stmt:=top 14
noncomputable abbrev pX:List Str:=[]
noncomputable abbrev fj:List Str:=[]
theorem zK:aP pX fj (ak qt):=L2.eu
noncomputable abbrev wm:Stmt:=top 15
noncomputable abbrev t9:List Str:=["_law_way","_law_number"]
noncomputable abbrev fP:List Str:=["_law_way","_law_number"]
theorem CH:aP t9 fP (ak wm):=L2.eu
noncomputable abbrev qv:Stmt:=top 12
noncomputable abbrev pY:List Str:=["_law_cell","_law_sizes","_law_found","_law_figures","_law_k","_law_mixed"]
noncomputable abbrev fk:List Str:=["_law_cell","_law_sizes"]
theorem dc:aP pY fk (ak qv):=L2.eu
structure Txt (K:yaE) (mg:Str→Option yai):Prop where
 len:mg "len" = none
 tuple:mg "tuple" = none
 list:mg "list" = none
 range:mg "range" = none
 sorted:mg "sorted" = none
 set:mg "set" = none
 zip:mg "zip" = none
 max:mg "max" = none
 min:mg "min" = none
 begin:∃ t,mg "BEGIN" = some (.int 0 t)
 end_:∃ t,mg "END" = some (.int 1 t)
 DF:∃ a,mg "LEAVES" = some (.ref a)∧∀ H:Hp,ck K H a ((["stay","step","at","off"]:List Str).map V.str)
 stay:∃ a,mg "STAY" = some (.ref a)∧∀ H:Hp,ck K H a ((["stay"]:List Str).map V.str)
section
variable {X:Cx}{pos:Pos}{mg:Str→Option yai}{K:yaE}
theorem Cb {x:Str}{i:Int} (e:∃ t,mg x=some (.int i t)) (hg:Gl X x) (hm:X.mg=mg) (hd:(x==("__debug__" : Str))=false):M.GE X (.Name x pos) (M.aC (.int i)):=by
 obtain ⟨t,e⟩:=e
 exact M.jc (v:=.int i) hg (by rw [hm];exact e) ⟨t,rfl⟩ (fun _=>.int) hd
theorem Ca {x:Str}{ss:List Str} (e:∃ a,mg x=some (.ref a)∧∀ H:Hp,ck K H a (ss.map V.str)) (hg:Gl X x) (hm:X.mg=mg) (hK:X.K=K) (hd:(x==("__debug__" : Str))=false):M.GE X (.Name x pos) (M.aC (.ju ss)):=by
 obtain ⟨a,e,h⟩:=e
 subst hK
 exact M.jc (v:=.ref a) hg (by rw [hm];exact e) rfl (fun w=>by simp only [M.Rep];exact ⟨a,rfl,h _⟩) hd
theorem Txt.oN (T:Txt K mg) (hg:Gl X "BEGIN" := by rfl) (hm:X.mg=mg:=by rfl):M.GE X (.Name "BEGIN" pos) (M.aC (.int 0)):=Cb T.begin hg hm (by decide +kernel)
theorem Txt.w9 (T:Txt K mg) (hg:Gl X "END" := by rfl) (hm:X.mg=mg:=by rfl):M.GE X (.Name "END" pos) (M.aC (.int 1)):=Cb T.end_ hg hm (by decide +kernel)
theorem Txt.uy (T:Txt K mg) (hg:Gl X "LEAVES" := by rfl) (hm:X.mg=mg:=by rfl) (hK:X.K=K:=by rfl):M.GE X (.Name "LEAVES" pos) (M.aC (.ju ["stay","step","at","off"])):=Ca T.DF hg hm hK (by decide +kernel)
theorem Txt.m6 (T:Txt K mg) (hg:Gl X "STAY" := by rfl) (hm:X.mg=mg:=by rfl) (hK:X.K=K:=by rfl):M.GE X (.Name "STAY" pos) (M.aC (.ju ["stay"])):=Ca T.stay hg hm hK (by decide +kernel)
end
open M
theorem sz {n:Nat} (h:decide (n≤100)=true):n≤yag:=by rw [yaf];have:=of_decide_eq_true h;lia
theorem aN {ds:List D}{i:Int}{S:aJ}{Q:AK}:kO (.tup ds) (.int i) S Q=∃ e,fN ds i=some e∧Q (.dat e) S:=rfl
theorem qM {ss:List Str}{i:Int}{S:aJ}{Q:AK}:kO (.ju ss) (.int i) S Q=∃ x,fN ss i=some x∧Q (.dat (.str x)) S:=rfl
theorem xQ {ds:List D}{i:Int}{S:aJ}{Q:AK}:kO (.lst ds) (.int i) S Q=∃ e,fN ds i=some e∧Q (.dat e) S:=rfl
theorem dM {α:Type}{a:α}{r:List α}:fN (a::r) (0:Int)=some a:=(dh (j:=0) rfl:fN (a::r) ((0:Nat):Int)=some a)
theorem ee {α:Type}{a b:α}{r:List α}:fN (a::b::r) (1:Int)=some b:=(dh (j:=1) rfl:fN (a::b::r) ((1:Nat):Int)=some b)
theorem at2 {α:Type}{a b c:α}{r:List α}:fN (a::b::c::r) (2:Int)=some c:=(dh (j:=2) rfl:fN (a::b::c::r) ((2:Nat):Int)=some c)
theorem Ew {α:Type}{a b c d:α}{r:List α}:fN (a::b::c::d::r) (3:Int)=some d:=(dh (j:=3) rfl:fN (a::b::c::d::r) ((3:Nat):Int)=some d)
theorem Gj {ds:List D}{z:Nat} (h:z<ds.length):∃ e,fN ds (z:Int)=some e∧e∈ds:=⟨ds[z],dh (zah h),zbg h⟩
theorem pick {ds:List D}{z:Nat}{S:aJ}{Q:AK} (h:z<ds.length) (k:∀ e∈ds,Q (.dat e) S):kO (.lst ds) (.int z) S Q:=by
 obtain ⟨e,h1,h2⟩:=Gj h
 exact ⟨e,h1,k e h2⟩
inductive Lf where
 | stay | lC | step (b:Bool) (x:Str) | mk (b:Bool) (m:Str)
noncomputable def side (b:Bool):Str:=if b then "on" else "back"
noncomputable def Ao (b:Bool):Str:=if b then "at" else "off"
noncomputable def lD:Lf→D
 | .stay=>.tup [.str "stay"]
 | .lC=>.ju ["stay"]
 | .step b x=>.tup [.str "step",.str (side b),.str x]
 | .mk b m=>.tup [.str (Ao b),.str m]
noncomputable def WD:List Str:=["a","ab","stay","*"]
noncomputable def MK:List Str:=["a","many"]
def kK:Lf→Prop
 | .stay=>True
 | .lC=>True
 | .step _ x=>x∈WD
 | .mk _ m=>m∈MK
theorem vn {x:Str} (h:x∈WD):kT x=true:=by
 simp only [WD,zbB,zbh,or_false] at h
 rcases h with rfl | rfl | rfl | rfl <;> decide +kernel
theorem xB {x:Str} (h:x∈MK):kT x=true:=by
 simp only [MK,zbB,zbh,or_false] at h
 rcases h with rfl | rfl <;> decide +kernel
theorem nA {m:Str}:∀ {mg:List Str},xV (.str m) mg=decide (m∈mg)
 | []=>rfl
 | a::r=>by
  have ih:=nA (m:=m) (mg:=r)
  unfold xV at ih ⊢
  rw [zbE,ih]
  simp only [DP]
  by_cases h1:m=a <;> by_cases h2:m∈r <;> simp [h1,h2]
noncomputable def hold (l:Lf) (ms:List Str):Bool:=match l with
 | .stay=>true
 | .lC=>true
 | .step _ _=>false
 | .mk b m=>decide (m∈ms)==b
noncomputable def take (l:Lf) (s w:Str):Bool:=match l with
 | .step b x=>decide (side b=s)&&(decide (x=w)||decide (x = "*"))
 | _=>false
def texts (ss:List Str):Prop:=ss.length≤50∧∀ x∈ss,kT x=true
local macro_rules
 | `(tactic| push_cast [$xs,*]) => `(tactic| simp only [$xs,*,Bj,Gn,Gv,Ie,Gq,aCall,iN,nQ,fU,aC,qa,aUn,aB,Ea,Ij,Ec,Eh,Ef,Bo,Ig,yO,cI,yJ,Ej,Ic,yI,nP,yN,Bh,Bl,gf,mV,je,Aw,Ar,yM,yE,kB,tL,AV,Ct,zC,zA,true_and,Ih,Gs,vW,vS,zH,vV,ou,cB,oz,vU,List.getElem?_cons_zero,zai,List.set_cons_zero,List.set_cons_succ,zcd.injEq,exists_eq_left',zci.injEq,and_true,D.ty.injEq,D.bl.injEq,D.int.injEq,D.str.injEq,and_assoc,exists_and_left,exists_eq_left,exists_and_right,C1,zU,zaK,if_true,if_false,Bool.not_true,Bool.not_false])
section
variable {P:yaj}{w:yak}{K:yaE}{mg:Str→Option yai}{base:Heap}
def vP:AN:=fun ds S Q=>∃ (ns:List Int) (k:Nat),ds=[.i6 ns,.int k]∧∀ z:Int,Q (.dat (.int z)) S
theorem D0 (T:Txt K mg) (F:Src K mg "_law_cell_at" ir wu):Def P w K mg base 1 "_law_cell_at" ir (aF K vP):=by
 refine eY F CI (fun ds S Q h => ?_) (fun f cdv A outer s H E hr => ?_)
 ·obtain ⟨ns,k,rfl,_⟩:=h;rfl
 ·refine ⟨_,(M.af (M.bI (M.az M.Aj (M.pv 1) (M.sG M.jP (by rfl) T.len (by decide +kernel) (M.ao (M.pv 0) M.aa)) (aW _))
    (M.ai (M.aL (M.au M.aS (M.pv 0) (M.pv 1) (fun _ _=>rfl))))
    M.aR)
   (M.ai (M.aL M.ah))),fun ds S Q h => ?_⟩
  obtain ⟨ns,k,rfl,q⟩:=h
  have e0:bf uc [.i6 ns,.int k]=[some (.i6 ns),some (.int k)]:=rfl
  rw [e0]
  push_cast [true_and]
  refine ⟨ns.length,rfl,d7 (fun h => ?_) (fun h=>q _)⟩
  have h:k<ns.length:=by have:=of_decide_eq_true h;lia
  exact ⟨ns[k],dh (zah h),bM rfl (q _)⟩
def rT:AN:=fun ds S Q=>ds=[]∧Q (.new (.lst [.str "a",.str "ab",.str "stay"])) S
theorem A0 (T:Txt K mg) (F:Src K mg "_law_words" ff qp):Def P w K mg base 1 "_law_words" ff (aF K rT):=by
 refine eY F zJ (fun ds S Q h => ?_) (fun f cdv A outer s H E hr => ?_)
 ·obtain ⟨rfl,_⟩:=h;rfl
 ·refine ⟨_,(M.ai (M.aL (M.aO (M.ao M.av (M.ao M.av (M.ao M.av M.aa)))))),fun ds S Q h => ?_⟩
  obtain ⟨rfl,q⟩:=h
  have e0:bf pV []=[]:=rfl
  rw [e0]
  push_cast [true_and]
  exact ⟨sz rfl,dg rfl q⟩
def rW:AN:=fun ds S Q=>ds=[]∧Q (.new (.lst [.str "a",.str "many"])) S
theorem A4 (T:Txt K mg) (F:Src K mg "_law_marks" fj qt):Def P w K mg base 1 "_law_marks" fj (aF K rW):=by
 refine eY F zK (fun ds S Q h => ?_) (fun f cdv A outer s H E hr => ?_)
 ·obtain ⟨rfl,_⟩:=h;rfl
 ·refine ⟨_,(M.ai (M.aL (M.aO (M.ao M.av (M.ao M.av M.aa))))),fun ds S Q h => ?_⟩
  obtain ⟨rfl,q⟩:=h
  have e0:bf pX []=[]:=rfl
  rw [e0]
  push_cast [true_and]
  exact ⟨sz rfl,dg rfl q⟩
def qj:AN:=fun ds S Q=>∃ (a b:Nat),ds=[.int a,.int b]∧a<5∧∀ l:Lf,kK l→Q (.dat (lD l)) S
theorem DX (T:Txt K mg) (F:Src K mg "_law_leaf" fP wm) (D_law_words:Def P w K mg base 1 "_law_words" ff (aF K rT)) (D_law_marks:Def P w K mg base 1 "_law_marks" fj (aF K rW)):Def P w K mg base 2 "_law_leaf" fP (aF K qj):=by
 refine eY F CH (fun ds S Q h => ?_) (fun f cdv A outer s H E hr => ?_)
 ·obtain ⟨a,b,rfl,_⟩:=h;rfl
 ·refine ⟨_,(M.af (M.bI (M.az (M.fQ hr) (M.pv 0) M.ah (aW _))
    (M.ai (M.aL (M.aE (M.ao M.av M.aa))))
    M.aR)
   (M.af (M.bI (M.az M.Aj (M.pv 0) M.ah (aW _))
    (M.ai (M.aL (M.aE (M.ao M.av (M.ao (M.au M.aS (M.aO (M.ao M.av (M.ao M.av M.aa))) (M.aD M.d8 (M.pv 1) M.ah) (fun _ _=>rfl)) (M.ao (M.au M.aS (M.aD M.bz (M.sF D_law_words (hr.mono (by decide)) (by rfl)) (M.aO (M.ao M.av M.aa))) (M.aD M.d8 (M.aD M.xw (M.pv 1) M.ah) M.ah) (fun _ _=>rfl)) M.aa))))))
    M.aR)
   (M.ai (M.aL (M.aE (M.ao (M.au M.aS (M.aO (M.ao M.av (M.ao M.av M.aa))) (M.aD M.oS (M.pv 0) M.ah) (fun _ _=>rfl)) (M.ao (M.au M.aS (M.sF D_law_marks (hr.mono (by decide)) (by rfl)) (M.aD M.d8 (M.pv 1) M.ah) (fun _ _=>rfl)) M.aa))))))),fun ds S Q h => ?_⟩
  obtain ⟨a,b,rfl,ha,q⟩:=h
  have e0:bf t9 [.int a,.int b]=[some (.int a),some (.int b)]:=rfl
  rw [e0]
  push_cast [true_and]
  refine d7 (fun h=>⟨sz rfl,bM rfl (q .stay trivial)⟩) (fun h => ?_)
  have h0 : ¬ ((a:Int)=0):=by simpa using h
  refine d7 (fun h1 => ?_) (fun h1 => ?_)
  ·refine ⟨sz rfl,by decide,?_⟩
   rw [show ((b:Int) % 2)=((b % 2:Nat):Int) by lia,show ((b:Int) / 2 % 4)=((b / 2 % 4:Nat):Int) by lia]
   refine pick (by show b % 2<2;lia) fun e he => ?_
   obtain ⟨c,rfl⟩:∃ c,e = .str (side c):=by
    simp only [zbB,zbh,or_false] at he
    rcases he with rfl | rfl
    ·exact ⟨true,rfl⟩
    ·exact ⟨false,rfl⟩
   refine ⟨rfl,sz rfl,sz rfl,⟨by decide,by decide⟩,by decide,?_⟩
   refine pick (by show b / 2 % 4<4;lia) fun e he => ?_
   obtain ⟨x,rfl,hx⟩:∃ x,e = .str x∧x∈WD:=by
    simp only [zbj,zbs,zbB,zbh,or_false] at he
    rcases he with rfl | rfl | rfl | rfl <;> exact ⟨_,rfl,by simp [WD]⟩
   exact ⟨sz rfl,bM rfl (q (.step c x) hx)⟩
  ·have h3 : ¬ ((a:Int)<3):=by simpa using h1
   refine ⟨sz rfl,?_⟩
   rw [show ((b:Int) % 2)=((b % 2:Nat):Int) by lia,show ((a:Int) - 3)=((a - 3:Nat):Int) by lia]
   refine pick (by show a - 3<2;lia) fun e he => ?_
   obtain ⟨c,rfl⟩:∃ c,e = .str (Ao c):=by
    simp only [zbB,zbh,or_false] at he
    rcases he with rfl | rfl
    ·exact ⟨true,rfl⟩
    ·exact ⟨false,rfl⟩
   refine ⟨rfl,by decide,?_⟩
   refine pick (by show b % 2<2;lia) fun e he => ?_
   obtain ⟨x,rfl,hx⟩:∃ x,e = .str x∧x∈MK:=by
    simp only [zbB,zbh,or_false] at he
    rcases he with rfl | rfl <;> exact ⟨_,rfl,by simp [MK]⟩
   exact ⟨sz rfl,bM rfl (q (.mk c x) hx)⟩
noncomputable def nL (ns:List Nat):List D:=ns.map fun n:Nat=>D.int n
theorem dS:∀ ns:List Nat,bE (nL ns)=true
 | []=>rfl
 | n::ns=>by
  have:=dS ns
  unfold nL at this ⊢
  simp only [zbC,bE,bN,this,zbJ]
theorem xA {i j:Int}{S:aJ}{Q:AK}:Bk (.int i) (.int j) S Q=(ze i j∧Q (.dat (.int (i*j))) S):=rfl
def rY:AN:=fun ds S Q=>∃ (z:Int) (ss:List Nat),ds=[.int z,.lst (nL ss)]∧(∀ n∈ss,0<n∧n<1000)∧ss.length≤100∧∀ ys:List Nat,ys.length=ss.length→(∀ (i:Nat) (a b:Nat),ys[i]? = some a→ss[i]? = some b→a<b)→Q (.new (.lst (nL ys))) S
theorem A5 (T:Txt K mg) (F:Src K mg "_law_draws" fk qv):Def P w K mg base 1 "_law_draws" fk (aF K rY):=by
 refine eY F dc (fun ds S Q h => ?_) (fun f cdv A outer s H E hr => ?_)
 ·obtain ⟨z,ss,rfl,_⟩:=h;rfl
 ·refine ⟨_,(M.af (M.aq (i:=2) dc.nd rfl (Or.inl rfl) (M.Bd (M.aO M.aa)))
   (M.af (M.aq (i:=3) dc.nd rfl (Or.inl rfl) (M.aD M.oS (M.pv 0) (M.aD M.BW M.ah M.ah)))
   (M.af (M.bT PassesOwn.never rfl (M.dH (by rfl) T.range (M.ao (M.sG M.jP (by rfl) T.len (by decide +kernel) (M.ao (M.pv 1) M.aa)) M.aa)) (M.aG (i:=4) dc.nd rfl (Or.inl rfl))
    (M.af (M.aq (i:=5) dc.nd rfl (Or.inl rfl) (M.aD M.d8 (M.aD M.lS (M.aD M.bz (M.aD M.d8 (M.pv 0) M.ah) M.ah) (M.aD M.bz (M.aD M.lS (M.pv 4) (M.pv 4)) M.ah)) M.ah))
    (M.af (M.aq (i:=5) dc.nd rfl (Or.inl rfl) (M.aD M.d8 (M.aD M.lS (M.aD M.bz (M.aD M.bz (M.aD M.lS (M.pv 5) (M.pv 5)) (M.aD M.lS M.ah (M.pv 4))) M.ah) M.ah) M.ah))
    (M.af (M.bI (M.az M.HG (M.pv 0) (M.aD M.BW M.ah M.ah) (aW _))
     (M.ai (M.aq (i:=5) dc.nd rfl (Or.inl rfl) (M.pv 3)))
     M.aR)
    (M.af (M.bA (M.cJ PySem.F.plainAttrs_list PySem.F.slot_list_append PySem.F.type_list_append M.bB (M.pv 2) (M.ao (M.aD M.d8 (M.pv 5) (M.au M.aS (M.pv 1) (M.pv 4) (fun _ _=>rfl))) M.aa)))
    (M.ai (M.aq (i:=3) dc.nd rfl (Or.inl rfl) (M.aD M.xw (M.pv 3) (M.au M.aS (M.pv 1) (M.pv 4) (fun _ _=>rfl))))))))))
   (M.ai (M.aL (M.pv 2)))))),fun ds S Q h => ?_⟩
  obtain ⟨z,ss,rfl,hs,hl,q⟩:=h
  have e0:bf pY [.int z,.lst (nL ss)]=[some (.int z),some (.lst (nL ss)),none,none,none,none]:=rfl
  rw [e0]
  push_cast [cY,Bl,nQ,fc,xW]
  refine ⟨zcc _,⟨by decide,by decide,by decide⟩,ss.length,by simp [iQ,nL],by lia,by lia,?_⟩
  refine bG (fun rest δ S'=>∃ (ys:List Nat) (fg:Int) (v4 v5:Option D),δ=[some (.int z),some (.lst (nL ss)),some (.loc S.length),some (.int fg),v4,v5]∧S'=S++[some (.lst (nL ys))] ∧
    rest=((zce ss.length).drop ys.length).map (fun a:Nat=>D.int a)∧ys.length≤ss.length∧∀ (i a b:Nat),ys[i]? = some a→ss[i]? = some b→a<b) ?_ ?_ _ _ _ ⟨[],_,none,none,rfl,rfl,by simp [j5],zcc _,fun i a b h=>by simp at h⟩
  ·rintro δ S' ⟨ys,fg,v4,v5,rfl,rfl,hr,hle,hlt⟩
   have hlen:ys.length=ss.length:=by
    have:=congrArg zbZ hr
    simp at this;lia
   refine ⟨trivial,_,rfl,?_⟩
   exact mU (n:=S.length) (zca _) (dS ys) (by simp) (by simp) (q ys hlen hlt)
  ·rintro t rest δ S' N' ⟨ys,fg,v4,v5,rfl,rfl,hr,hle,hlt⟩ hN'
   have hi:ys.length<ss.length:=by
    rcases zbV ys.length ss.length with h | h
    ·exact h
    ·rw [List.drop_of_length_le (by simpa using h)] at hr;simp at hr
   rw [zaf (by simpa using hi),zbC,List.getElem_range] at hr
   injection hr with e1 e2
   subst e1;subst e2
   have hb:ss[ys.length]? = some ss[ys.length]:=zah hi
   obtain ⟨b0,b1⟩:=hs _ (zbg hi)
   generalize ss[ys.length]=b at hb b0 b1
   have hat:fN (nL ss) ((ys.length:Nat):Int)=some (.int (b:Int)):=dh (by rw [nL,zaP,hb];rfl)
   have es:aU (S++[some (.lst (nL ys))]) (.loc S.length) = .lst (nL ys):=by simp [aU,MO.d]
   have fin:∀ (mx:Int) (v5':Option D),qN "list" (aU (S++[some (.lst (nL ys))]) (.loc S.length))∧kO (.lst (nL ss)) (.int ((ys.length:Nat):Int)) (S++[some (.lst (nL ys))]) (fun y S2=>aI (fun x j=>0<j) (fun i j=>D.int (i % j)) (.int mx) y.d S2 fun x S1=>fO (.loc S.length) [x.d] S1 fun x S1 =>
     kO (.lst (nL ss)) (.int ((ys.length:Nat):Int)) S1 fun y S2=>aI Ep (fun i j=>D.int (i / j)) (.int fg) y.d S2 fun r S1=>N' [some (.int z),some (.lst (nL ss)),some (.loc S.length),some r.d,some (.int ((ys.length:Nat):Int)),v5'] S1):=fun mx v5'=>by
    rw [es]
    refine ⟨rfl,?_⟩
    push_cast [xQ,hat,zcd.injEq,exists_eq_left']
    have h0:=Int.emod_nonneg mx (show (b:Int)≠0 by lia)
    have h1:=zaI mx (show (0:Int)<b by lia)
    obtain ⟨c,hc⟩:∃ c:Nat,mx % (b:Int)=c:=⟨(mx % b).toNat,by lia⟩
    rw [hc] at h1 ⊢
    refine ⟨by lia,S.length,nL ys,_,rfl,rfl,by simp,by rw [nL,zbr,yaf];lia,?_⟩
    rw [zao _ _ (zca _),Nat.sub_self]
    push_cast [xQ,hat,zcd.injEq,exists_eq_left']
    refine ⟨⟨by lia,by lia⟩,hN' _ _ ⟨ys++[c],_,_,_,rfl,by simp [nL],by rw [zaE];rfl,by rw [zaE];exact hi,fun i x y h2 h3 => ?_⟩⟩
    rcases zbV i ys.length with h | h
    ·rw [zad h] at h2;exact hlt i x y h2 h3
    ·rw [zab h] at h2
     obtain rfl:i=ys.length:=by
      have:=(zac.mp h2).1
      simp at this;lia
     rw [hb] at h3;cases h3
     simp at h2;lia
   refine ⟨trivial,?_⟩
   push_cast [xA]
   have b0:=Int.emod_nonneg z (show (1000003:Int)≠0 by decide)
   have b1:=zaI z (show (0:Int)<1000003 by decide)
   refine ⟨by decide,.inl ⟨by lia,by lia⟩,.inl ⟨by lia,by lia⟩,by decide,?_⟩
   generalize (z % 1000003+1)*((ys.length:Int)*(ys.length:Int)+48271)=u
   have c0:=Int.emod_nonneg u (show (65537:Int)≠0 by decide)
   have c1:=zaI u (show (0:Int)<65537 by decide)
   generalize u % 65537=v at c0 c1 ⊢
   refine ⟨.inl ⟨by lia,by lia⟩,.inl ⟨by decide,by decide⟩,.inr ⟨by decide,by decide⟩,by decide,⟨by decide,by decide,by decide⟩,d7 (fun _ => ?_) (fun _ => ?_)⟩
   ·push_cast [pR]
    exact fin _ _
   ·push_cast [pR]
    exact fin _ _
end
open PySem L2 M
abbrev Mv:=Nat×Lf×Nat
inductive Pt where
 | lf (l:Lf) | many (p:Pt) | seq (ps:List Pt) | alt (ps:List Pt)
mutual
noncomputable def tD:Pt→D
 | .lf l=>lD l
 | .many p=>.tup [.str "many",tD p]
 | .seq ps=>.tup [.str "then",.tup (nU ps)]
 | .alt ps=>.tup [.str "either",.tup (nU ps)]
noncomputable def nU:List Pt→List D
 | []=>[]
 | p::ps=>tD p::nU ps
end
theorem c9:∀ ps,nU ps=ps.map tD
 | []=>rfl
 | p::ps=>by simp [nU,c9 ps]
mutual
noncomputable def oc:Pt→Nat
 | .lf _=>1
 | .many p=>oc p+2
 | .seq ps | .alt ps=>br ps+1
noncomputable def br:List Pt→Nat
 | []=>0
 | p::ps=>oc p+br ps
end
mutual
noncomputable def dp:Pt→Nat
 | .lf _=>0
 | .many p=>dp p+1
 | .seq ps | .alt ps=>yg ps+1
noncomputable def yg:List Pt→Nat
 | []=>0
 | p::ps=>max (dp p) (yg ps)
end
mutual
def eH:Pt→Prop
 | .lf l=>kK l
 | .many p=>eH p
 | .seq ps | .alt ps=>fW ps
def fW:List Pt→Prop
 | []=>True
 | p::ps=>eH p∧fW ps
end
theorem jM:∀ {ps:List Pt},fW ps→∀ p∈ps,eH p
 | [],_,p,h=>by simp at h
 | q::ps,g,p,h=>by
  simp only [fW] at g
  rcases zbB.mp h with rfl | h
  ·exact g.1
  ·exact jM g.2 p h
theorem fK:∀ {ps:List Pt},∀ p∈ps,dp p≤yg ps
 | [],p,h=>by simp at h
 | q::ps,p,h=>by
  simp only [yg]
  rcases zbB.mp h with rfl | h
  ·lia
  ·have:=fK p h;lia
theorem cH:∀ p,0<oc p:=fun p=>by cases p <;> simp only [oc] <;> lia
theorem nh:∀ ps:List Pt,ps.length≤br ps
 | []=>zca _
 | p::ps=>by
  have:=nh ps
  have:=cH p
  simp only [br,zbk];lia
theorem sR:∀ {ps:List Pt},∀ p∈ps,oc p≤br ps
 | [],p,h=>by simp at h
 | q::ps,p,h=>by
  simp only [br]
  rcases zbB.mp h with rfl | h
  ·lia
  ·have:=sR p h;lia
structure Wr where
 ms:Nat→List Str
 sd:Nat→Str
 wd:Nat→Str
def iS (W:Wr) (l:Lf) (i j:Nat):Prop:=(hold l (W.ms i)=true∧i=j)∨(take l (W.sd i) (W.wd i)=true∧j=i+1)
inductive pT (R:Nat→Nat→Prop):Nat→Nat→Prop
 | nil {i:Nat}:pT R i i
 | snoc {i k j:Nat}:pT R i k→R k j→pT R i j
mutual
def di (W:Wr):Pt→Nat→Nat→Prop
 | .lf l,i,j=>iS W l i j
 | .many p,i,j=>pT (di W p) i j
 | .seq ps,i,j=>iu W ps i j
 | .alt ps,i,j=>iX W ps i j
def iu (W:Wr):List Pt→Nat→Nat→Prop
 | [],i,j=>i=j
 | p::ps,i,j=>∃ k,di W p i k∧iu W ps k j
def iX (W:Wr):List Pt→Nat→Nat→Prop
 | [],_,_=>False
 | p::ps,i,j=>di W p i j∨iX W ps i j
end
theorem j7 {W:Wr}{i j:Nat}:∀ {ps:List Pt},iX W ps i j↔∃ p∈ps,di W p i j
 | []=>by simp [iX]
 | p::ps=>by simp only [iX,j7 (ps:=ps),zbB,exists_eq_or_imp]
abbrev Ed:=Nat×Pt×Nat
abbrev iY:=Nat→Nat→Prop
def Cl (W:Wr) (F:iY) (E:List Ed):Prop:=∀ e∈E,∀ i j,F e.1 i→di W e.2.1 i j→F e.2.2 j
noncomputable def eM (m:Mv):Ed:=(m.1,.lf m.2.1,m.2.2)
theorem fE {W:Wr}{i j:Nat}:di W (.lf .lC) i j↔i=j:=by
 simp [di,iS,hold,take]
theorem bW {W:Wr}{i j:Nat}:iS W .stay i j↔i=j:=by
 simp [iS,hold,take]
structure dN (p:Pt) (n:Nat) (E:List Ed):Prop where
 two:2≤n
 zh:∀ e∈E,e.1<n∧e.2.2<n
 snd:∀ W,∃ F:iY,F 0 0∧Cl W F E∧∀ j,F 1 j→di W p 0 j
 cmp:∀ W (F:iY),Cl W F E→F 0 0→∀ j,di W p 0 j→F 1 j
theorem dN.start (p:Pt):dN p 2 [(0,p,1)]:=by
 refine ⟨zca _,by simp,fun W=>⟨fun x i=>(x=0∧i=0)∨(x=1∧di W p 0 i),.inl ⟨rfl,rfl⟩,fun e he i j h1 h2 => ?_,fun j h => ?_⟩,fun W F h h0 j hj=>h (0,p,1) (by simp) 0 j h0 hj⟩
 ·obtain rfl:=zaF.mp he
  rcases h1 with ⟨_,rfl⟩ | ⟨h,_⟩
  ·exact .inr ⟨rfl,h2⟩
  ·cases h
 ·rcases h with ⟨h,_⟩ | h
  ·cases h
  ·exact h.2
theorem dN.yp {p:Pt}{n:Nat}{E E':List Ed} (h:dN p n E) (g:∀ e,e∈E'↔e∈E):dN p n E' :=
 ⟨h.two,fun e he=>h.zh e ((g e).mp he),fun W=>let ⟨F,h1,h2,h3⟩:=h.snd W;⟨F,h1,fun e he=>h2 e ((g e).mp he),h3⟩,fun W F hF=>h.cmp W F fun e he=>hF e ((g e).mpr he)⟩
theorem dN.cut {p:Pt}{n k:Nat}{e:Ed}{E C:List Ed} (h:dN p n (e::E)) (hn:∀ c∈C,c.1<n+k∧c.2.2<n+k)
  (hs:∀ (W:Wr) (F:iY),(∀ i j,F e.1 i→di W e.2.1 i j→F e.2.2 j)→∃ F':iY,(∀ x,x<n→F' x=F x)∧Cl W F' C)
  (hc:∀ (W:Wr) (F:iY),Cl W F C→∀ i j,F e.1 i→di W e.2.1 i j→F e.2.2 j):dN p (n+k) (C++E):=by
 have h2:=h.two
 refine ⟨by lia,fun c hc => ?_,fun W => ?_,fun W F hF=>h.cmp W F fun c hc' => ?_⟩
 ·rcases zbn.mp hc with g | g
  ·exact hn c g
  ·have:=h.zh c (zar _ g);lia
 ·obtain ⟨F,f1,f2,f3⟩:=h.snd W
  obtain ⟨F',g1,g2⟩:=hs W F (f2 e (by simp))
  refine ⟨F',by rw [g1 0 (by lia)];exact f1,fun c hc => ?_,fun j hj=>f3 j (by rw [← g1 1 (by lia)];exact hj)⟩
  rcases zbn.mp hc with g | g
  ·exact g2 c g
  ·have:=h.zh c (zar _ g)
   rw [g1 _ this.1,g1 _ this.2]
   exact f2 c (zar _ g)
 ·rcases zbB.mp hc' with rfl | g
  ·exact hc W F fun c hc=>hF c (zas _ hc)
  ·exact hF c (zam _ g)
theorem dN.alt {p:Pt}{n a b:Nat}{ps:List Pt}{E:List Ed} (h:dN p n ((a,.alt ps,b)::E)):dN p n (ps.map (fun q=>(a,q,b))++E):=by
 have hn:=h.zh (a,.alt ps,b) (by simp)
 refine h.cut (k:=0) (fun c hc => ?_) (fun W F hF=>⟨F,fun _ _=>rfl,fun c hc i j h1 h2 => ?_⟩) (fun W F hF i j h1 h2 => ?_)
 ·obtain ⟨q,_,rfl⟩:=zbO.mp hc
  exact hn
 ·obtain ⟨q,hq,rfl⟩:=zbO.mp hc
  exact hF i j h1 (by simp only [di];exact j7.mpr ⟨q,hq,h2⟩)
 ·simp only [di] at h2
  obtain ⟨q,hq,h2⟩:=j7.mp h2
  exact hF (a,q,b) (zbO.mpr ⟨q,hq,rfl⟩) i j h1 h2
theorem dN.many {p q:Pt}{n a b:Nat}{E:List Ed} (h:dN p n ((a,.many q,b)::E)):dN p (n+1) ([(a,.lf .lC,n),(n,q,n),(n,.lf .lC,b)]++E):=by
 have hn:a<n∧b<n:=h.zh (a,.many q,b) (by simp)
 refine h.cut (k:=1) (fun c hc => ?_) (fun W F hF=>⟨fun x j=>if x=n then ∃ i,F a i∧pT (di W q) i j else F x j,fun x hx => ?_,fun c hc i j h1 h2 => ?_⟩) (fun W F hF i j h1 h2 => ?_)
 ·simp only [zbB,zbh,or_false] at hc
  rcases hc with rfl | rfl | rfl <;> dsimp only <;> lia
 ·funext j
  exact yIn (by lia)
 ·simp only [zbB,zbh,or_false] at hc
  rcases hc with rfl | rfl | rfl
  ·dsimp only at h1 h2 ⊢
   rw [yIn (by lia)] at h1
   rw [yIp rfl]
   rw [fE] at h2;subst h2
   exact ⟨i,h1,.nil⟩
  ·dsimp only at h1 h2 ⊢
   rw [yIp rfl] at h1 ⊢
   obtain ⟨k,h3,h4⟩:=h1
   exact ⟨k,h3,h4.snoc h2⟩
  ·dsimp only at h1 h2 ⊢
   rw [yIp rfl] at h1
   rw [yIn (by lia)]
   rw [fE] at h2;subst h2
   obtain ⟨k,h3,h4⟩:=h1
   exact hF k i h3 (by simp only [di];exact h4)
 ·simp only [di] at h2
  have hA:=hF (a,.lf .lC,n) (by simp) i i h1 (fE.mpr rfl)
  have key:∀ j,pT (di W q) i j→F n j:=fun j hj=>by
   induction hj with
   | nil=>exact hA
   | snoc _ g ih=>exact hF (n,q,n) (by simp) _ _ ih g
  exact hF (n,.lf .lC,b) (by simp) j j (key j h2) (fE.mpr rfl)
theorem dN.nil {p:Pt}{n a b:Nat}{E:List Ed} (h:dN p n ((a,.seq [],b)::E)):dN p n ([(a,.lf .lC,b)]++E):=by
 have hn:a<n∧b<n:=h.zh (a,.seq [],b) (by simp)
 refine h.cut (k:=0) (fun c hc => ?_) (fun W F hF=>⟨F,fun _ _=>rfl,fun c hc i j h1 h2 => ?_⟩) (fun W F hF i j h1 h2 => ?_)
 ·obtain rfl:=zaF.mp hc
  exact hn
 ·obtain rfl:=zaF.mp hc
  exact hF i j h1 (by simp only [di,iu];exact fE.mp h2)
 ·simp only [di,iu] at h2
  exact hF (a,.lf .lC,b) (by simp) i j h1 (fE.mpr h2)
noncomputable def chain (a:Nat):List Pt→Nat→Nat→List Ed
 | [],_,_=>[]
 | [p],_,b=>[(a,p,b)]
 | p::q::ps,n,b=>(a,p,n)::chain n (q::ps) (n+1) b
theorem dN.seq {p:Pt}:∀ (ps:List Pt) (q:Pt) {n a b:Nat}{E:List Ed},dN p n ((a,.seq (q::ps),b)::E)→dN p (n+ps.length) (chain a (q::ps) n b++E)
 | [],q,n,a,b,E,h=>by
  have hn:a<n∧b<n:=h.zh (a,.seq [q],b) (by simp)
  refine h.cut (k:=0) (fun c hc => ?_) (fun W F hF=>⟨F,fun _ _=>rfl,fun c hc i j h1 h2 => ?_⟩) (fun W F hF i j h1 h2 => ?_)
  ·obtain rfl:=zaF.mp hc
   exact hn
  ·obtain rfl:=zaF.mp hc
   exact hF i j h1 (by simp only [di,iu];exact ⟨j,h2,rfl⟩)
  ·simp only [di,iu] at h2
   obtain ⟨k,h2,rfl⟩:=h2
   exact hF (a,q,b) (by simp [chain]) i k h1 h2
 | q2::ps,q,n,a,b,E,h=>by
  have hn:a<n∧b<n:=h.zh (a,.seq (q::q2::ps),b) (by simp)
  have h1:dN p (n+1) ([(a,q,n),(n,.seq (q2::ps),b)]++E):=by
   refine h.cut (k:=1) (fun c hc => ?_) (fun W F hF=>⟨fun x j=>if x=n then ∃ i,F a i∧di W q i j else F x j,fun x hx => ?_,fun c hc i j h1 h2 => ?_⟩) (fun W F hF i j h1 h2 => ?_)
   ·simp only [zbB,zbh,or_false] at hc
    rcases hc with rfl | rfl <;> dsimp only <;> lia
   ·funext j
    exact yIn (by lia)
   ·simp only [zbB,zbh,or_false] at hc
    rcases hc with rfl | rfl
    ·dsimp only at h1 h2 ⊢
     rw [yIn (by lia)] at h1
     rw [yIp rfl]
     exact ⟨i,h1,h2⟩
    ·dsimp only at h1 h2 ⊢
     rw [yIp rfl] at h1
     rw [yIn (by lia)]
     obtain ⟨k,h3,h4⟩:=h1
     simp only [di] at h2
     exact hF k j h3 (by simp only [di];rw [iu];exact ⟨i,h4,h2⟩)
   ·simp only [di] at h2
    rw [iu] at h2
    obtain ⟨k,h3,h4⟩:=h2
    exact hF (n,.seq (q2::ps),b) (by simp) k j (hF (a,q,n) (by simp) i k h1 h3) (by simp only [di];exact h4)
  have h2:dN p (n+1) ((n,.seq (q2::ps),b)::((a,q,n)::E)):=h1.yp fun e=>by
   simp only [zbB,zbj,zbs]
   exact or_left_comm
  have h3:=dN.seq ps q2 h2
  have e:n+(q2::ps).length=n+1+ps.length:=by rw [zbk];lia
  rw [e]
  refine h3.yp fun c => ?_
  show c∈(a,q,n)::chain n (q2::ps) (n+1) b++E↔_
  simp only [zbB,zbn,zbj]
  exact or_left_comm
mutual
noncomputable def om:Pt→Nat→Nat→List Mv
 | .lf l,a,n=>[(a,l,n+1)]
 | .seq ps,a,n=>(a,.stay,n+1)::kN ps (n+1)
 | .many p,a,n=>(a,.stay,n+1)::(om p (n+1) (n+1)++[(n+1+oc p,.stay,n+1),(n+1,.stay,n+1+oc p+1)])
 | .alt ps,a,n=>iP ps a n++(ends ps n).map fun e=>(e,.stay,n+br ps+1)
noncomputable def kN:List Pt→Nat→List Mv
 | [],_=>[]
 | p::ps,n=>om p n n++kN ps (n+oc p)
noncomputable def iP:List Pt→Nat→Nat→List Mv
 | [],_,_=>[]
 | p::ps,a,n=>om p a n++iP ps a (n+oc p)
noncomputable def ends:List Pt→Nat→List Nat
 | [],_=>[]
 | p::ps,n=>(n+oc p)::ends ps (n+oc p)
end
def mq (W:Wr) (F:iY) (mv:List Mv):Prop:=∀ m∈mv,∀ i j,F m.1 i→iS W m.2.1 i j→F m.2.2 j
theorem mq.left {W:Wr}{F:iY}{a b:List Mv} (h:mq W F (a++b)):mq W F a:=fun m hm=>h m (zas _ hm)
theorem mq.right {W:Wr}{F:iY}{a b:List Mv} (h:mq W F (a++b)):mq W F b:=fun m hm=>h m (zam _ hm)
theorem mq.append {W:Wr}{F:iY}{a b:List Mv} (h:mq W F a) (g:mq W F b):mq W F (a++b):=fun m hm=>(zbn.mp hm).elim (h m) (g m)
mutual
theorem m9 (W:Wr) (F:iY):∀ (p:Pt) (a n:Nat),mq W F (om p a n)→∀ i j,F a i→di W p i j→F (n+oc p) j
 | .lf l,a,n,h,i,j,h1,h2=>by
  simp only [di] at h2
  exact h (a,l,n+1) (by simp [om]) i j h1 h2
 | .seq ps,a,n,h,i,j,h1,h2=>by
  simp only [di] at h2
  simp only [om] at h
  have h3:=h (a,.stay,n+1) (by simp) i i h1 (bW.mpr rfl)
  have:=sN W F ps (n+1) (fun m hm=>h m (zar _ hm)) i j h3 h2
  rw [show n+oc (.seq ps)=n+1+br ps by simp only [oc];lia];exact this
 | .many p,a,n,h,i,j,h1,h2=>by
  simp only [di] at h2
  simp only [om] at h
  have h3:=h (a,.stay,n+1) (by simp) i i h1 (bW.mpr rfl)
  have key:F (n+1) j:=by
   induction h2 with
   | nil=>exact h3
   | snoc _ g ih=>exact h (n+1+oc p,.stay,n+1) (by simp) _ _ (m9 W F p (n+1) (n+1) (fun m hm=>h m (by simp [hm])) _ _ ih g) (bW.mpr rfl)
  have:=h (n+1,.stay,n+1+oc p+1) (by simp) j j key (bW.mpr rfl)
  rw [show n+oc (.many p)=n+1+oc p+1 by simp only [oc];lia];exact this
 | .alt ps,a,n,h,i,j,h1,h2=>by
  simp only [di] at h2
  simp only [om] at h
  obtain ⟨e,he,h3⟩:=sP W F ps a n h.left i j h1 h2
  have:=h.right (e,.stay,n+br ps+1) (zbO.mpr ⟨e,he,rfl⟩) j j h3 (bW.mpr rfl)
  rw [show n+oc (.alt ps)=n+br ps+1 by simp only [oc];lia];exact this
theorem sN (W:Wr) (F:iY):∀ (ps:List Pt) (n:Nat),mq W F (kN ps n)→∀ i j,F n i→iu W ps i j→F (n+br ps) j
 | [],n,h,i,j,h1,h2=>by
  simp only [iu] at h2;subst h2
  simpa only [br,Nat.add_zero] using h1
 | p::ps,n,h,i,j,h1,h2=>by
  rw [iu] at h2
  obtain ⟨k,h2,h3⟩:=h2
  rw [kN] at h
  have:=sN W F ps (n+oc p) h.right k j (m9 W F p n n h.left i k h1 h2) h3
  rw [show n+br (p::ps)=n+oc p+br ps by simp only [br];lia];exact this
theorem sP (W:Wr) (F:iY):∀ (ps:List Pt) (a n:Nat),mq W F (iP ps a n)→∀ i j,F a i→iX W ps i j→∃ e∈ends ps n,F e j
 | [],a,n,h,i,j,h1,h2=>by simp only [iX] at h2
 | p::ps,a,n,h,i,j,h1,h2=>by
  rw [iX] at h2
  rw [iP] at h
  rcases h2 with h2 | h2
  ·exact ⟨n+oc p,by simp [ends],m9 W F p a n h.left i j h1 h2⟩
  ·obtain ⟨e,he,h3⟩:=sP W F ps a (n+oc p) h.right i j h1 h2
   exact ⟨e,by simp [ends,he],h3⟩
end
theorem nD:∀ (ps:List Pt) (n:Nat),∀ e∈ends ps n,n<e∧e≤n+br ps
 | [],n,e,h=>by simp [ends] at h
 | p::ps,n,e,h=>by
  rw [ends] at h
  have:=cH p
  simp only [br]
  rcases zbB.mp h with rfl | h
  ·lia
  ·have:=nD ps _ e h;lia
mutual
theorem gi:∀ (p:Pt) (a n:Nat),a≤n→∀ m∈om p a n,m.1≤n+oc p∧m.2.2≤n+oc p
 | .lf l,a,n,ha,m,hm=>by
  simp only [om,zaF] at hm;subst hm
  simp only [oc];lia
 | .seq ps,a,n,ha,m,hm=>by
  rw [om] at hm
  simp only [oc]
  rcases zbB.mp hm with rfl | hm
  ·dsimp only;lia
  ·have:=sM ps (n+1) m hm;lia
 | .many p,a,n,ha,m,hm=>by
  rw [om] at hm
  simp only [oc]
  rcases zbB.mp hm with rfl | hm
  ·dsimp only;lia
  ·rcases zbn.mp hm with hm | hm
   ·have:=gi p (n+1) (n+1) (zca _) m hm;lia
   ·simp only [zbB,zbh,or_false] at hm
    rcases hm with rfl | rfl <;> dsimp only <;> lia
 | .alt ps,a,n,ha,m,hm=>by
  rw [om] at hm
  simp only [oc]
  rcases zbn.mp hm with hm | hm
  ·have:=ng ps a n ha m hm;lia
  ·obtain ⟨e,he,rfl⟩:=zbO.mp hm
   have:=nD ps n e he
   dsimp only;lia
theorem sM:∀ (ps:List Pt) (n:Nat),∀ m∈kN ps n,m.1≤n+br ps∧m.2.2≤n+br ps
 | [],n,m,hm=>by simp [kN] at hm
 | p::ps,n,m,hm=>by
  rw [kN] at hm
  simp only [br]
  rcases zbn.mp hm with hm | hm
  ·have:=gi p n n (zca _) m hm;lia
  ·have:=sM ps _ m hm;lia
theorem ng:∀ (ps:List Pt) (a n:Nat),a≤n→∀ m∈iP ps a n,m.1≤n+br ps∧m.2.2≤n+br ps
 | [],a,n,ha,m,hm=>by simp [iP] at hm
 | p::ps,a,n,ha,m,hm=>by
  rw [iP] at hm
  simp only [br]
  rcases zbn.mp hm with hm | hm
  ·have:=gi p a n ha m hm;lia
  ·have:=ng ps a _ (by lia) m hm;lia
end
theorem mq.ext {W:Wr}{F F':iY}{mv:List Mv}{n:Nat} (h:mq W F mv) (e:∀ x,x≤n→F' x=F x) (hn:∀ m∈mv,m.1≤n∧m.2.2≤n):mq W F' mv:=fun m hm i j=>by
 rw [e _ (hn m hm).1,e _ (hn m hm).2];exact h m hm i j
def Bb (F:iY) (n:Nat) (P:Nat→Prop):iY:=fun x i=>(x=n∧P i)∨(x≠n∧F x i)
theorem bZ {F:iY}{n:Nat}{P:Nat→Prop}{x:Nat} (h:x≠n):Bb F n P x=F x:=by
 funext i;simp [Bb,h]
theorem dw {F:iY}{n:Nat}{P:Nat→Prop}:Bb F n P n=P:=by
 funext i;simp [Bb]
mutual
theorem m8 (W:Wr):∀ (p:Pt) (a n:Nat) (F:iY),a≤n→∃ F':iY,(∀ x,x≤n→F' x=F x)∧mq W F' (om p a n)∧∀ j,F' (n+oc p) j→∃ i,F a i∧di W p i j
 | .lf l,a,n,F,ha=>by
  refine ⟨Bb F (n+1) fun j=>∃ i,F a i∧iS W l i j,fun x hx=>bZ (by lia),fun m hm i j h1 h2 => ?_,fun j hj => ?_⟩
  ·simp only [om,zaF] at hm;subst hm
   dsimp only at h1 h2 ⊢
   rw [bZ (by lia)] at h1
   rw [dw]
   exact ⟨i,h1,h2⟩
  ·simp only [oc] at hj
   rw [dw] at hj
   simp only [di];exact hj
 | .seq ps,a,n,F,ha=>by
  obtain ⟨F',g1,g2,g3⟩:=sJ W ps (n+1) (Bb F (n+1) (F a))
  refine ⟨F',fun x hx=>by rw [g1 x (by lia),bZ (by lia)],fun m hm => ?_,fun j hj => ?_⟩
  ·rw [om] at hm
   rcases zbB.mp hm with rfl | hm
   ·intro i j h1 h2
    dsimp only at h1 h2 ⊢
    rw [bW] at h2;subst h2
    rw [g1 _ (by lia),bZ (by lia)] at h1
    rw [g1 _ (by lia),dw];exact h1
   ·exact g2 m hm
  ·rw [show n+oc (.seq ps)=n+1+br ps by simp only [oc];lia] at hj
   obtain ⟨i,h1,h2⟩:=g3 j hj
   rw [dw] at h1
   exact ⟨i,h1,by simp only [di];exact h2⟩
 | .many p,a,n,F,ha=>by
  have hp:=cH p
  obtain ⟨F',g1,g2,g3⟩:=m8 W p (n+1) (n+1) (Bb F (n+1) fun j=>∃ i,F a i∧pT (di W p) i j) (zca _)
  have i1:F' (n+1)=fun j=>∃ i,F a i∧pT (di W p) i j:=by rw [g1 _ (zca _),dw]
  refine ⟨Bb F' (n+1+oc p+1) (F' (n+1)),fun x hx=>by rw [bZ (by lia),g1 x (by lia),bZ (by lia)],fun m hm => ?_,fun j hj => ?_⟩
  ·rw [om] at hm
   rcases zbB.mp hm with rfl | hm
   ·intro i j h1 h2
    dsimp only at h1 h2 ⊢
    rw [bW] at h2;subst h2
    rw [bZ (by lia),g1 _ (by lia),bZ (by lia)] at h1
    rw [bZ (by lia),i1];exact ⟨i,h1,.nil⟩
   ·rcases zbn.mp hm with hm | hm
    ·exact g2.ext (n:=n+1+oc p) (fun x hx=>bZ (by lia)) (gi p (n+1) (n+1) (zca _)) m hm
    ·intro i j h1 h2
     simp only [zbB,zbh,or_false] at hm
     rcases hm with rfl | rfl
     ·dsimp only at h1 h2 ⊢
      rw [bW] at h2;subst h2
      rw [bZ (by lia)] at h1 ⊢
      obtain ⟨k,h3,h4⟩:=g3 i h1
      rw [dw] at h3
      obtain ⟨k',h5,h6⟩:=h3
      rw [i1];exact ⟨k',h5,h6.snoc h4⟩
     ·dsimp only at h1 h2 ⊢
      rw [bW] at h2;subst h2
      rw [bZ (by lia)] at h1
      rw [dw];exact h1
  ·rw [show n+oc (.many p)=n+1+oc p+1 by simp only [oc];lia,dw,i1] at hj
   simp only [di];exact hj
 | .alt ps,a,n,F,ha=>by
  obtain ⟨F',g1,g2,g3⟩:=sO W ps a n F ha
  refine ⟨Bb F' (n+br ps+1) fun j=>∃ i,F a i∧iX W ps i j,fun x hx=>by rw [bZ (by lia),g1 x hx],fun m hm => ?_,fun j hj => ?_⟩
  ·rw [om] at hm
   rcases zbn.mp hm with hm | hm
   ·exact g2.ext (n:=n+br ps) (fun x hx=>bZ (by lia)) (ng ps a n ha) m hm
   ·intro i j h1 h2
    obtain ⟨e,he,rfl⟩:=zbO.mp hm
    have:=nD ps n e he
    dsimp only at h1 h2 ⊢
    rw [bW] at h2;subst h2
    rw [bZ (by lia)] at h1
    rw [dw];exact g3 e he i h1
  ·rw [show n+oc (.alt ps)=n+br ps+1 by simp only [oc];lia,dw] at hj
   simp only [di];exact hj
theorem sJ (W:Wr):∀ (ps:List Pt) (n:Nat) (F:iY),∃ F':iY,(∀ x,x≤n→F' x=F x)∧mq W F' (kN ps n)∧∀ j,F' (n+br ps) j→∃ i,F n i∧iu W ps i j
 | [],n,F=>⟨F,fun _ _=>rfl,fun m hm=>by simp [kN] at hm,fun j hj=>⟨j,by simpa only [br,Nat.add_zero] using hj,by simp only [iu]⟩⟩
 | p::ps,n,F=>by
  obtain ⟨F1,g1,g2,g3⟩:=m8 W p n n F (zca _)
  obtain ⟨F2,k1,k2,k3⟩:=sJ W ps (n+oc p) F1
  refine ⟨F2,fun x hx=>by rw [k1 x (by lia),g1 x hx],?_,fun j hj => ?_⟩
  ·rw [kN]
   exact (g2.ext k1 (gi p n n (zca _))).append k2
  ·rw [show n+br (p::ps)=n+oc p+br ps by simp only [br];lia] at hj
   obtain ⟨i,h1,h2⟩:=k3 j hj
   obtain ⟨i',h3,h4⟩:=g3 i h1
   exact ⟨i',h3,by rw [iu];exact ⟨i,h4,h2⟩⟩
theorem sO (W:Wr):∀ (ps:List Pt) (a n:Nat) (F:iY),a≤n→∃ F':iY,(∀ x,x≤n→F' x=F x)∧mq W F' (iP ps a n)∧∀ e∈ends ps n,∀ j,F' e j→∃ i,F a i∧iX W ps i j
 | [],a,n,F,ha=>⟨F,fun _ _=>rfl,fun m hm=>by simp [iP] at hm,fun e he=>by simp [ends] at he⟩
 | p::ps,a,n,F,ha=>by
  obtain ⟨F1,g1,g2,g3⟩:=m8 W p a n F ha
  obtain ⟨F2,k1,k2,k3⟩:=sO W ps a (n+oc p) F1 (by lia)
  refine ⟨F2,fun x hx=>by rw [k1 x (by lia),g1 x hx],?_,fun e he j hj => ?_⟩
  ·rw [iP]
   exact (g2.ext k1 (gi p a n ha)).append k2
  ·rw [ends] at he
   rcases zbB.mp he with rfl | he
   ·rw [k1 _ (zca _)] at hj
    obtain ⟨i,h1,h2⟩:=g3 j hj
    exact ⟨i,h1,by rw [iX];exact .inl h2⟩
   ·obtain ⟨i,h1,h2⟩:=k3 e he j hj
    rw [g1 a ha] at h1
    exact ⟨i,h1,by rw [iX];exact .inr h2⟩
end
inductive Rc (W:Wr) (mv:List Mv):Nat→Nat→Prop
 | base:Rc W mv 0 0
 | go {m:Mv}{i j:Nat}:m∈mv→Rc W mv m.1 i→iS W m.2.1 i j→Rc W mv m.2.2 j
theorem Rc.sub {W:Wr}{mv:List Mv}{F:iY} (h0:F 0 0) (h:mq W F mv) {x i:Nat} (r:Rc W mv x i):F x i:=by
 induction r with
 | base=>exact h0
 | go hm _ hf ih=>exact h _ hm _ _ ih hf
theorem C2 (W:Wr) (p:Pt) (j:Nat):Rc W (om p 0 0) (oc p) j↔di W p 0 j:=by
 constructor
 ·intro h
  obtain ⟨F,g1,g2,g3⟩:=m8 W p 0 0 (fun x i=>x=0∧i=0) (zca _)
  obtain ⟨i,⟨_,rfl⟩,h2⟩:=g3 j (by rw [Nat.zero_add];exact h.sub (by rw [g1 0 (zca _)];exact ⟨rfl,rfl⟩) g2)
  exact h2
 ·intro h
  have:=m9 W (Rc W (om p 0 0)) p 0 0 (fun m hm i j h1 h2=>.go hm h1 h2) 0 j .base h
  rwa [Nat.zero_add] at this
theorem C3 {W:Wr}{p:Pt}{n:Nat}{mv:List Mv} (h:dN p n (mv.map eM)) (j:Nat):Rc W mv 1 j↔di W p 0 j:=by
 constructor
 ·intro r
  obtain ⟨F,h1,h2,h3⟩:=h.snd W
  refine h3 j (r.sub h1 fun m hm i j g1 g2=>h2 (eM m) (zbO.mpr ⟨m,hm,rfl⟩) i j g1 (by simp only [eM,di];exact g2))
 ·intro g
  refine h.cmp W (Rc W mv) (fun e he i j h1 h2 => ?_) .base j g
  obtain ⟨m,hm,rfl⟩:=zbO.mp he
  simp only [eM,di] at h2
  exact .go hm h1 h2
open PySem L2 M
theorem cD:∀ (n:Nat) (l:List Nat),l.Nodup→(∀ x∈l,x<n)→l.length≤n
 | 0,[],_,_=>zca _
 | 0,x::_,_,h=>absurd (h x (by simp)) (by lia)
 | n+1,l,h1,h2=>by
  have:=cD n (l.erase n) (h1.erase n) fun x hx=>by
   have h3:=(List.Nodup.mem_erase_iff h1).mp hx
   have:=h2 x h3.2
   have:=h3.1
   lia
  have h4:l.length - 1≤(l.erase n).length:=by
   rw [List.length_erase];split <;> lia
  lia
theorem jR {ks:List Nat}{k:Nat} (h:ks.Nodup) (hk:k ∉ ks):(ks++[k]).Nodup:=by
 rw [zaT]
 refine ⟨h,by simp,fun a ha b hb => ?_⟩
 rw [zaF.mp hb]
 intro e;exact hk (e ▸ ha)
inductive Reach (mv:List Mv) (ms:List Str) (st:List Nat):Nat→Prop
 | base {x:Nat}:x∈st→Reach mv ms st x
 | go {m:Mv}:Reach mv ms st m.1→m∈mv→hold m.2.1 ms=true→Reach mv ms st m.2.2
def Gz (n:Nat) (m:Mv):Prop:=m.1<n∧kK m.2.1∧m.2.2<n
theorem Reach.lt {n:Nat}{mv:List Mv}{ms:List Str}{st:List Nat} (hmv:∀ m∈mv,Gz n m) (hst:∀ s∈st,s<n) {x:Nat} (h:Reach mv ms st x):x<n:=by
 induction h with
 | base h=>exact hst _ h
 | go _ h _ _=>exact (hmv _ h).2.2
theorem Reach.closed {mv:List Mv}{ms:List Str}{st ks:List Nat} (h1:∀ s∈st,s∈ks) (h2:∀ m∈mv,m.1∈ks→hold m.2.1 ms=true→m.2.2∈ks) {x:Nat} (h:Reach mv ms st x):x∈ks:=by
 induction h with
 | base h=>exact h1 _ h
 | go _ h g ih=>exact h2 _ h ih g
def G4 (mv:List Mv) (st:List Nat) (s w:Str) (x:Nat):Prop:=∃ m∈mv,m.1∈st∧take m.2.1 s w=true∧m.2.2=x
def Bf (W:Wr) (mv:List Mv) (n x:Nat):Prop:=(n=0∧x=0)∨∃ k m,n=k+1∧m∈mv∧Rc W mv m.1 k∧take m.2.1 (W.sd k) (W.wd k)=true∧m.2.2=x
theorem gD {W:Wr}{mv:List Mv}{n:Nat}{st:List Nat} (h:∀ x,x∈st↔Bf W mv n x) (x:Nat):Reach mv (W.ms n) st x↔Rc W mv x n:=by
 constructor
 ·intro r
  induction r with
  | base g =>
   rcases (h _).mp g with ⟨rfl,rfl⟩ | ⟨k,m,rfl,hm,r,ht,rfl⟩
   ·exact .base
   ·exact .go hm r (.inr ⟨ht,rfl⟩)
  | go _ hm hh ih=>exact .go hm ih (.inl ⟨hh,rfl⟩)
 ·intro r
  generalize hn:n=n' at r
  induction r with
  | base=>subst hn;exact .base ((h _).mpr (.inl ⟨rfl,rfl⟩))
  | @go m i j hm r hf ih =>
   rcases hf with ⟨hh,rfl⟩ | ⟨ht,rfl⟩
   ·subst hn
    exact .go (ih rfl) hm hh
   ·exact .base ((h _).mpr (.inr ⟨i,m,hn,hm,r,ht,rfl⟩))
theorem vI {W:Wr}{mv:List Mv}{n:Nat}{st:List Nat} (h:∀ x,x∈st↔Rc W mv x n) (x:Nat):G4 mv st (W.sd n) (W.wd n) x↔Bf W mv (n+1) x:=by
 constructor
 ·rintro ⟨m,hm,h1,h2,rfl⟩
  exact .inr ⟨n,m,rfl,hm,(h _).mp h1,h2,rfl⟩
 ·rintro (⟨h1,_⟩ | ⟨k,m,e,hm,r,ht,rfl⟩)
  ·cases h1
  ·obtain rfl:n=k:=by lia
   exact ⟨m,hm,(h _).mpr r,ht,rfl⟩
noncomputable def Wr.put (W:Wr) (n:Nat) (ms:List Str) (s w:Str):Wr:=⟨fun i=>if i=n then ms else W.ms i,fun i=>if i=n then s else W.sd i,fun i=>if i=n then w else W.wd i⟩
theorem wL {W:Wr}{mv:List Mv}{n:Nat}{ms:List Str}{s w:Str}{x i:Nat} (hi:i<n):Rc (W.put n ms s w) mv x i↔Rc W mv x i:=by
 constructor
 ·intro r
  induction r with
  | base=>exact .base
  | @go m i j hm r hf ih =>
   have hij:i<n:=by rcases hf with ⟨_,rfl⟩ | ⟨_,rfl⟩ <;> lia
   refine .go hm (ih hij) ?_
   unfold iS at hf ⊢
   simp only [Wr.put,yIn (zbQ hij)] at hf
   exact hf
 ·intro r
  induction r with
  | base=>exact .base
  | @go m i j hm r hf ih =>
   have hij:i<n:=by rcases hf with ⟨_,rfl⟩ | ⟨_,rfl⟩ <;> lia
   refine .go hm (ih hij) ?_
   unfold iS at hf ⊢
   simp only [Wr.put,yIn (zbQ hij)]
   exact hf
theorem nI {W:Wr}{mv:List Mv}{n:Nat}{ms:List Str}{s w:Str}{x:Nat}:Bf (W.put n ms s w) mv n x↔Bf W mv n x:=by
 unfold Bf
 refine or_congr Iff.rfl ⟨?_,?_⟩
 ·rintro ⟨k,m,rfl,hm,r,ht,rfl⟩
  simp only [Wr.put,yIn (show ¬ k=k+1 by lia)] at ht
  exact ⟨k,m,rfl,hm,(wL (by lia)).mp r,ht,rfl⟩
 ·rintro ⟨k,m,rfl,hm,r,ht,rfl⟩
  refine ⟨k,m,rfl,hm,(wL (by lia)).mpr r,?_,rfl⟩
  simp only [Wr.put,yIn (show ¬ k=k+1 by lia)]
  exact ht
def zf (m1 m2:List Mv) (s1 s2:List Nat):Prop:=∃ W n,(∀ x,x∈s1↔Bf W m1 n x)∧(∀ x,x∈s2↔Bf W m2 n x)
theorem rz {m1 m2:List Mv}:zf m1 m2 [0] [0]:=by
 refine ⟨⟨fun _=>[],fun _ => "",fun _ => ""⟩,0,fun x => ?_,fun x => ?_⟩ <;>
 ·simp only [zaF,Bf,true_and]
  refine ⟨.inl,fun h => ?_⟩
  rcases h with h | ⟨k,m,h,_⟩
  ·exact h
  ·cases h
theorem yx {p:Pt}{n:Nat}{mv:List Mv} (h:dN p n (mv.map eM)) {s1 s2 h1 h2:List Nat}{ms:List Str} (b:zf mv (om p 0 0) s1 s2) (e1:∀ x,x∈h1↔Reach mv ms s1 x) (e2:∀ x,x∈h2↔Reach (om p 0 0) ms s2 x):1∈h1↔oc p∈h2:=by
 obtain ⟨W,k,b1,b2⟩:=b
 have g1:∀ x,x∈s1↔Bf (W.put k ms "" "") mv k x:=fun x=>(b1 x).trans nI.symm
 have g2:∀ x,x∈s2↔Bf (W.put k ms "" "") (om p 0 0) k x:=fun x=>(b2 x).trans nI.symm
 have em:(W.put k ms "" "").ms k=ms:=by simp [Wr.put]
 have r1:=gD g1 1
 have r2:=gD g2 (oc p)
 rw [em] at r1 r2
 rw [e1,e2,r1,r2,C3 h,C2]
theorem uV {m1 m2:List Mv}{s1 s2 h1 h2 t1 t2:List Nat}{ms:List Str}{s w:Str} (b:zf m1 m2 s1 s2) (e1:∀ x,x∈h1↔Reach m1 ms s1 x) (e2:∀ x,x∈h2↔Reach m2 ms s2 x) (f1:∀ x,x∈t1↔G4 m1 h1 s w x) (f2:∀ x,x∈t2↔G4 m2 h2 s w x):zf m1 m2 t1 t2:=by
 obtain ⟨W,k,b1,b2⟩:=b
 have g1:∀ x,x∈s1↔Bf (W.put k ms s w) m1 k x:=fun x=>(b1 x).trans nI.symm
 have g2:∀ x,x∈s2↔Bf (W.put k ms s w) m2 k x:=fun x=>(b2 x).trans nI.symm
 have em:(W.put k ms s w).ms k=ms:=by simp [Wr.put]
 have es:(W.put k ms s w).sd k=s:=by simp [Wr.put]
 have ew:(W.put k ms s w).wd k=w:=by simp [Wr.put]
 have r1:∀ x,x∈h1↔Rc (W.put k ms s w) m1 x k:=fun x=>by rw [e1,← gD g1,em]
 have r2:∀ x,x∈h2↔Rc (W.put k ms s w) m2 x k:=fun x=>by rw [e2,← gD g2,em]
 refine ⟨W.put k ms s w,k+1,fun x => ?_,fun x => ?_⟩
 ·rw [f1,← vI r1,es,ew]
 ·rw [f2,← vI r2,es,ew]
noncomputable def k9:Nat→List (List Nat)
 | 0=>[[]]
 | n+1=>k9 n++(k9 n).map (· ++ [n])
theorem ko:∀ n,(k9 n).length=2 ^ n
 | 0=>rfl
 | n+1=>by rw [k9,zaE,zbr,ko n,Nat.pow_succ];lia
theorem g8:∀ (n:Nat) (l:List Nat),l.Pairwise (· < ·)→(∀ x∈l,x<n)→l∈k9 n
 | 0,[],_,_=>by simp [k9]
 | 0,x::_,_,h=>absurd (h x (by simp)) (by lia)
 | n+1,l,h1,h2=>by
  rw [k9,zbn]
  by_cases hn:n∈l
  ·right
   rcases List.eq_nil_or_concat l with rfl | ⟨r,a,rfl⟩
   ·simp at hn
   ·rw [List.concat_eq_append] at *
    rw [zav] at h1
    have ha:a<n+1:=h2 a (by simp)
    have hr:∀ x∈r,x<a:=fun x hx=>h1.2.2 x hx a (by simp)
    have e:a=n:=by
     rcases zbn.mp hn with h | h
     ·have:=hr n h;lia
     ·exact (zaF.mp h).symm
    subst e
    exact zbO.mpr ⟨r,g8 a r h1.1 hr,rfl⟩
  ·left
   refine g8 n l h1 fun x hx => ?_
   have:=h2 x hx
   have:x≠n:=fun e=>hn (e ▸ hx)
   lia
noncomputable def Gm (n m:Nat):List (List Nat×List Nat):=(k9 n).flatMap fun a=>(k9 m).map fun b=>(a,b)
theorem yC (n m:Nat):(Gm n m).length=2 ^ n*2 ^ m:=by
 unfold Gm
 rw [← ko n]
 induction k9 n with
 | nil=>simp
 | cons a l ih=>rw [List.flatMap_cons,zaE,ih,zbr,ko,zbk,Nat.succ_mul];lia
theorem sub_len {α:Type} [DecidableEq α]:∀ (l L:List α),l.Nodup→(∀ x∈l,x∈L)→l.length≤L.length
 | [],_,_,_=>zcc _
 | a::l,L,h1,h2=>by
  rw [zbp] at h1
  have ha:=h2 a (by simp)
  have:=sub_len l (L.erase a) h1.2 fun x hx=>(List.mem_erase_of_ne (fun e:x=a=>h1.1 (e ▸ hx))).mpr (h2 x (zar _ hx))
  rw [List.length_erase_of_mem ha] at this
  have:=List.length_pos_of_mem ha
  rw [zbk];lia
theorem lP {n m:Nat}{l:List (List Nat×List Nat)} (hd:l.Nodup) (h:∀ x∈l,(x.1.Pairwise (· < ·)∧∀ y∈x.1,y<n)∧x.2.Pairwise (· < ·)∧∀ y∈x.2,y<m):l.length≤2 ^ n*2 ^ m:=by
 rw [← yC]
 refine sub_len l _ hd fun x hx => ?_
 obtain ⟨⟨h1,h2⟩,h3,h4⟩:=h x hx
 exact List.mem_flatMap.mpr ⟨x.1,g8 n _ h1 h2,zbO.mpr ⟨x.2,g8 m _ h3 h4,rfl⟩⟩
open PySem L2 M M6
noncomputable abbrev CU:Stmt:=top 6
noncomputable abbrev yX:List Str:=["joint"]
noncomputable abbrev iE:List Str:=["joint"]
theorem EW:aP yX iE (ak CU):=L2.eu
noncomputable abbrev CZ:Stmt:=top 7
noncomputable abbrev zb:List Str:=["span","fresh","one","joint","other","firsts","lasts"]
noncomputable abbrev kI:List Str:=["span","fresh"]
theorem lG:aP zb kI (ak CZ):=L2.eu
noncomputable def eD (e:Ed):D:=.tup [.int e.1,tD e.2.1,.int e.2.2]
noncomputable def qO:Pt→Bool
 | .lf _=>true
 | _=>false
noncomputable def ns:Pt→Nat
 | .many _=>1
 | .seq ps=>ps.length - 1
 | _=>0
noncomputable def fS (a n b:Nat):Pt→List Ed
 | .lf _=>[]
 | .alt ps=>ps.map fun q=>(a,q,b)
 | .many q=>[(a,.lf .lC,n),(n,q,n),(n,.lf .lC,b)]
 | .seq []=>[(a,.lf .lC,b)]
 | .seq (q::ps)=>chain a (q::ps) n b
noncomputable def sy (n k:Nat):List D:=(zce k).map fun i:Nat=>D.int ((n:Int)+i)
theorem wI (n k:Nat):sy n (k+1) = .int n::sy (n+1) k:=by
 unfold sy
 rw [List.range_succ_eq_map,zbC,zbP]
 refine congr (congrArg _ (by simp)) (zaA fun i _ => ?_)
 simp only [Function.comp]
 congr 1;lia
theorem lZ:∀ (ps:List Pt) (q:Pt) (a n b:Nat),(nY (.int a::sy n ps.length) (nU (q::ps)) (sy n ps.length++[.int b])).map D.tup=(chain a (q::ps) n b).map eD
 | [],q,a,n,b=>rfl
 | q2::ps,q,a,n,b=>by
  have ih:=lZ ps q2 n (n+1) b
  rw [zbk,wI,chain,zbC,← ih,nU]
  unfold nY
  rw [zbj,zaG,zaG,zbC,zbC]
  rfl
mutual
theorem eL:∀ p:Pt,bN (tD p)=true
 | .lf l=>by cases l <;> simp [tD,lD,bN,bE]
 | .many p=>by simp [tD,bN,bE,eL p]
 | .seq ps=>by simp [tD,bN,bE,gx ps]
 | .alt ps=>by simp [tD,bN,bE,gx ps]
theorem gx:∀ ps:List Pt,bE (nU ps)=true
 | []=>by simp [nU,bE]
 | p::ps=>by simp [nU,bE,eL p,gx ps]
end
theorem j8 (e:Ed):bN (eD e)=true:=by simp [eD,bN,bE,eL]
theorem b9 {α:Type}{f:α→D}:∀ {l:List α},(∀ x∈l,bN (f x)=true)→bE (l.map f)=true
 | [],_=>rfl
 | x::l,h=>by simp only [zbC,bE,h x (by simp),b9 fun y hy=>h y (zar _ hy),zbJ]
theorem dO (ps:List Pt):(nU ps).length=ps.length:=by rw [c9,zbr]
section
variable {P:yaj}{w:yak}{K:yaE}{mg:Str→Option yai}{base:Heap}
def vM:AN:=fun ds S Q=>∃ p:Pt,ds=[tD p]∧qO p=false∧Q (.dat (.int (ns p))) S
theorem F8 (T:Txt K mg) (F:Src K mg "new_stands" iE CU):Def P w K mg base 1 "new_stands" iE (aF K vM):=by
 refine eY F EW (fun ds S Q h => ?_) (fun f cdv A outer s H E hr => ?_)
 ·obtain ⟨p,rfl,_⟩:=h;rfl
 ·refine ⟨_,(M.af (M.bI (M.az (M.fQ hr) (M.au M.aS (M.pv 0) M.ah (fun _ _=>rfl)) M.av (aW _))
    (M.ai (M.aL M.ah))
    M.aR)
   (M.ai (M.aL (M.jJ (M.az (M.fQ hr) (M.au M.aS (M.pv 0) M.ah (fun _ _=>rfl)) M.av (aW _)) (M.sG (M.Dt rfl) (by rfl) T.max (by decide +kernel) (M.ao (M.aD M.oS (M.sG M.jP (by rfl) T.len (by decide +kernel) (M.ao (M.au M.aS (M.pv 0) M.ah (fun _ _=>rfl)) M.aa)) M.ah) (M.ao M.ah M.aa))) M.ah)))),fun ds S Q h => ?_⟩
  obtain ⟨p,rfl,hl,q⟩:=h
  have e0:bf yX [tD p]=[some (tD p)]:=rfl
  rw [e0]
  cases p with
  | lf l=>cases hl
  | many p =>
   push_cast [tD,aN,dM,ee]
   rw [yIp (by decide)]
   exact q
  | seq ps =>
   push_cast [tD,aN,dM,ee]
   rw [yIn (by decide),yIp (by decide)]
   refine ⟨ps.length,by simp [iQ,dO],_,_,rfl,?_⟩
   have e:(if (0:Int) > (ps.length:Int) - 1 then (0:Int) else (ps.length:Int) - 1)=((ns (.seq ps):Nat):Int):=by
    simp only [ns];split <;> lia
   rw [e]
   exact bM rfl q
  | alt ps =>
   push_cast [tD,aN,dM,ee]
   rw [yIn (by decide),yIn (by decide)]
   exact q
def BK:AN:=fun ds S Q=>∃ (p:Pt) (a n b:Nat),ds=[eD (a,p,b),.int n]∧qO p=false∧n≤1000∧oc p≤100∧Q (.new (.lst ((fS a n b p).map eD))) S
theorem Gb (T:Txt K mg) (F:Src K mg "cut" kI CZ) (D_new_stands:Def P w K mg base 1 "new_stands" iE (aF K vM)):Def P w K mg base 2 "cut" kI (aF K BK):=by
 refine eY F lG (fun ds S Q h => ?_) (fun f cdv A outer s H E hr => ?_)
 ·obtain ⟨p,a,n,b,rfl,_⟩:=h;rfl
 ·refine ⟨_,(M.af (M.aq (i:=2) lG.nd rfl (Or.inr rfl) (M.au M.aS (M.pv 0) M.ah (fun _ _=>rfl)))
   (M.af (M.aq (i:=3) lG.nd rfl (Or.inl rfl) (M.au M.aS (M.pv 0) M.ah (fun _ _=>rfl)))
   (M.af (M.aq (i:=4) lG.nd rfl (Or.inr rfl) (M.au M.aS (M.pv 0) M.ah (fun _ _=>rfl)))
   (M.af (M.bI (M.az (M.fQ hr) (M.au M.aS (M.pv 3) M.ah (fun _ _=>rfl)) M.av (aW _))
    (M.ai (M.aL (M.dX (N:=["part","one","other"]) (caps:=[none,some 2,some 4]) (pN (by decide +kernel)) (by rfl) (by rfl) rfl (M.bU (M.au M.aS (M.pv 3) M.ah (fun _ _=>rfl))) (fun _ _ _ _=>(M.aG (i:=0) (by decide +kernel:List.Nodup (["part","one","other"]:List Str)) rfl (Or.inl rfl))) (fun _ _ _ _=>M.i8) (fun _ _ _ _=>(M.aE (M.ao (M.pv 1) (M.ao (M.pv 0) (M.ao (M.pv 2) M.aa))))))))
    M.aR)
   (M.af (M.bI (M.az (M.fQ hr) (M.au M.aS (M.pv 3) M.ah (fun _ _=>rfl)) M.av (aW _))
    (M.ai (M.aL (M.aO (M.ao (M.aE (M.ao (M.pv 2) (M.ao T.m6 (M.ao (M.pv 1) M.aa)))) (M.ao (M.aE (M.ao (M.pv 1) (M.ao (M.au M.aS (M.pv 3) M.ah (fun _ _=>rfl)) (M.ao (M.pv 1) M.aa)))) (M.ao (M.aE (M.ao (M.pv 1) (M.ao T.m6 (M.ao (M.pv 4) M.aa)))) M.aa))))))
    M.aR)
   (M.af (M.bI (M.mZ (M.qz (M.au M.aS (M.pv 3) M.ah (fun _ _=>rfl))))
    (M.ai (M.aL (M.aO (M.ao (M.aE (M.ao (M.pv 2) (M.ao T.m6 (M.ao (M.pv 4) M.aa)))) M.aa))))
    M.aR)
   (M.af (M.aq (i:=5) lG.nd rfl (Or.inl rfl) (M.aD M.bz (M.aO (M.ao (M.pv 2) M.aa)) (M.jI rfl (by rfl) T.list (by rfl) T.range (M.ao (M.pv 1) (M.ao (M.aD M.bz (M.pv 1) (M.ow D_new_stands hr (M.ao (M.pv 3) M.aa))) M.aa)))))
   (M.af (M.aq (i:=6) lG.nd rfl (Or.inl rfl) (M.aD M.bz (M.gG M.BV (M.pv 5) (M.i9 M.ah) M.ja) (M.aO (M.ao (M.pv 4) M.aa))))
   (M.ai (M.aL (M.m5 rfl (by rfl) T.list (by rfl) T.zip (M.ao (M.pv 5) (M.ao (M.au M.aS (M.pv 3) M.ah (fun _ _=>rfl)) (M.ao (M.pv 6) M.aa)))))))))))))),fun ds S Q h => ?_⟩
  obtain ⟨p,a,n,b,rfl,hl,hn,ho,q⟩:=h
  have e0:bf zb [eD (a,p,b),.int n]=[some (eD (a,p,b)),some (.int n),none,none,none,none,none]:=rfl
  rw [e0]
  push_cast [eD,aN,dM,ee,at2]
  cases p with
  | lf l=>cases hl
  | many p =>
   push_cast [tD,aN,dM,ee]
   rw [yIn (by decide),yIp (by decide)]
   refine ⟨sz rfl,sz rfl,sz rfl,sz rfl,dg ?_ q⟩
   simp [bN,bE,eL]
  | alt ps =>
   push_cast [tD,aN,dM,ee]
   rw [yIp (by decide)]
   push_cast [mj,eB,aN,ee,cK]
   refine comp_map (δ:=[none,some (.int a),some (.int b)]) (fun x=>.tup [.int a,x,.int b]) trivial _ [] _ rfl (fun x hx Q q => ?_) (by rw [dO,yaf];have:=nh ps;simp only [oc] at ho;simp;lia) ?_
   ·push_cast [true_and]
    exact ⟨sz rfl,q⟩
   ·have e:(nU ps).map (fun x=>D.tup [.int a,x,.int b])=(fS a n b (.alt ps)).map eD:=by
     rw [c9,zbP,fS,zbP];rfl
    rw [zbs,e]
    exact dg (b9 fun e _=>j8 e) q
  | seq ps =>
   push_cast [tD,aN,dM,ee]
   rw [yIn (by decide),yIn (by decide)]
   cases ps with
   | nil =>
    rw [yIp (by rfl)]
    exact ⟨sz rfl,sz rfl,dg (by simp [bN,bE]) q⟩
   | cons p0 ps =>
    rw [yIn (by simp [nU])]
    have hlen:ps.length<100:=by have:=nh (p0::ps);simp only [oc,zbk] at ho this;lia
    push_cast [rF]
    refine ⟨sz rfl,.seq (p0::ps),rfl,rfl,?_⟩
    have en:ns (.seq (p0::ps))=ps.length:=by simp [ns]
    have hr0:(sy n ps.length).length=ps.length:=by simp [sy]
    rw [en]
    refine ⟨_,rfl,by lia,by lia,by lia,by lia,?_⟩
    rw [show ((n:Int)+(ps.length:Int) - n).toNat=ps.length by lia,show (zce ps.length).map (fun k:Nat=>D.int ((n:Int)+k))=sy n ps.length from rfl]
    refine ⟨by rw [hr0,yaf];simp;lia,?_⟩
    simp only [mV,je,Eb,cB]
    have ec:cutD ([D.int a]++sy n ps.length) (some 1) none=sy n ps.length:=by
     unfold cutD
     rw [show HT.bL ([D.int a]++sy n ps.length).length 0 (some 1)=1 by simp [HT.bL]]
     simp [HT.bL]
    rw [ec]
    refine ⟨sz rfl,?_⟩
    show rJ (.lst (sy n ps.length)) (.lst [.int b]) S _
    rw [kB]
    refine ⟨by rw [hr0,yaf];simp;lia,?_⟩
    push_cast [yG,aN,ee]
    refine ⟨_,rfl,_,rfl,_,rfl,by simp [hr0,dO],by simp [hr0,dO],by simp [dO],by simp [dO];lia,?_⟩
    have ez:=lZ ps p0 a n b
    rw [show [D.int (a:Int)]++sy n ps.length = .int a::sy n ps.length from rfl,ez]
    exact dg (b9 fun e _=>j8 e) q
end
open PySem L2 M M6
noncomputable abbrev wo:Stmt:=top 5
noncomputable abbrev ua:List Str:=["pattern","many","moves","spans","narrower","span"]
noncomputable abbrev ig:List Str:=["pattern"]
theorem eS:aP ua ig (ak wo):=L2.eu
noncomputable abbrev CV:Stmt:=top 9
noncomputable abbrev yY:List Str:=["pattern","laid"]
noncomputable abbrev kG:List Str:=["pattern"]
theorem BL:aP yY kG (ak CV):=L2.eu
noncomputable def vD (m:Mv):D:=.tup [.int m.1,lD m.2.1,.int m.2.2]
theorem vp (m:Mv):eD (eM m)=vD m:=rfl
noncomputable def mD (n b:Nat) (es:List Nat) (mv:List Mv):D:=.tup [.int n,.int b,.tup (nL es),.tup (mv.map vD)]
noncomputable def ws (E:List Ed):Nat:=(E.map fun e=>oc e.2.1).sum
noncomputable def vs (E:List Ed):Nat:=(E.map fun e=>oc e.2.1 - 1).sum
theorem uf (A B:List Ed):ws (A++B)=ws A+ws B:=by simp [ws]
theorem ug (A B:List Ed):vs (A++B)=vs A+vs B:=by simp [vs]
theorem fz (e:Ed) (B:List Ed):ws (e::B)=oc e.2.1+ws B:=by simp [ws]
theorem gq (e:Ed) (B:List Ed):vs (e::B)=(oc e.2.1 - 1)+vs B:=by simp [vs]
theorem qe:∀ E:List Ed,E.length≤ws E
 | []=>zcc _
 | e::E=>by
  have:=qe E
  have:=cH e.2.1
  rw [fz,zbk];lia
theorem yz {a b:Nat}:∀ ps:List Pt,ws (ps.map fun q=>(a,q,b))=br ps∧vs (ps.map fun q=>(a,q,b))+ps.length=br ps
 | []=>⟨rfl,rfl⟩
 | p::ps=>by
  obtain ⟨h1,h2⟩:=yz (a:=a) (b:=b) ps
  have:=cH p
  rw [zbC,fz,gq,zbk,br]
  dsimp only
  lia
theorem pJ:∀ (ps:List Pt) (q:Pt) (a n b:Nat),ws (chain a (q::ps) n b)=br (q::ps)∧vs (chain a (q::ps) n b)+ps.length+1=br (q::ps)
 | [],q,a,n,b=>by
  have:=cH q
  simp only [chain,fz,gq,br]
  simp [ws,vs];lia
 | q2::ps,q,a,n,b=>by
  obtain ⟨h1,h2⟩:=pJ ps q2 n (n+1) b
  have:=cH q
  rw [chain,fz,gq,br,zbk]
  dsimp only
  lia
theorem l0:∀ (ps:List Pt) (q:Pt) (a n b:Nat),∀ e∈chain a (q::ps) n b,e.2.1∈q::ps
 | [],q,a,n,b,e,h=>by
  rw [chain,zaF] at h;subst h;simp
 | q2::ps,q,a,n,b,e,h=>by
  rw [chain] at h
  rcases zbB.mp h with rfl | h
  ·simp
  ·exact zar _ (l0 ps q2 n (n+1) b e h)
theorem ym (a n b:Nat) (p:Pt) (hl:qO p=false):ws (fS a n b p)≤oc p∧ns p+vs (fS a n b p)≤oc p - 1:=by
 cases p with
 | lf _=>cases hl
 | many q =>
  have:=cH q
  simp only [fS,fz,gq,ns,oc]
  simp [ws,vs];lia
 | alt ps =>
  obtain ⟨h1,h2⟩:=yz (a:=a) (b:=b) ps
  simp only [fS,ns,oc];lia
 | seq ps =>
  cases ps with
  | nil=>simp [fS,ws,vs,ns,oc]
  | cons q ps =>
   obtain ⟨h1,h2⟩:=pJ ps q a n b
   simp only [fS,ns,oc,zbk];lia
theorem D3 (a n b:Nat) (p:Pt) (hl:qO p=false) (ho:eH p):∀ e∈fS a n b p,eH e.2.1∧dp e.2.1<dp p:=by
 intro e he
 cases p with
 | lf _=>cases hl
 | many q =>
  simp only [fS,zbB,zbh,or_false] at he
  simp only [eH] at ho
  rcases he with rfl | rfl | rfl
  ·exact ⟨by simp [eH,kK],by simp [dp]⟩
  ·exact ⟨ho,by simp [dp]⟩
  ·exact ⟨by simp [eH,kK],by simp [dp]⟩
 | alt ps =>
  obtain ⟨q,hq,rfl⟩:=zbO.mp he
  simp only [eH] at ho
  have:=fK q hq
  exact ⟨jM ho q hq,by simp only [dp];lia⟩
 | seq ps =>
  simp only [eH] at ho
  cases ps with
  | nil =>
   simp only [fS,zaF] at he;subst he
   exact ⟨by simp [eH,kK],by simp [dp]⟩
  | cons q ps =>
   have h:=l0 ps q a n b e he
   have:=fK e.2.1 h
   exact ⟨jM ho _ h,by simp only [dp];lia⟩
theorem dN.step {p q:Pt}{n a b:Nat}{E:List Ed} (h:dN p n ((a,q,b)::E)) (hl:qO q=false):dN p (n+ns q) (fS a n b q++E):=by
 cases q with
 | lf _=>cases hl
 | many q=>exact h.many
 | alt ps=>exact h.alt
 | seq ps =>
  cases ps with
  | nil=>exact h.nil
  | cons q ps =>
   have:=dN.seq ps q h
   simpa [ns,fS] using this
theorem AJ {l:Lf} (h:kK l) {S:aJ}{Q:AK} (q:Q (.dat (.bl true)) S):kO (lD l) (.int 0) S fun r S1=>nV false r.d (.ju ["stay","step","at","off"]) S1 Q:=by
 have key:∀ x:Str,x∈(["stay","step","at","off"]:List Str)→nV false (.str x) (.ju ["stay","step","at","off"]) S Q:=fun x hx=>by
  refine xU (n:=0) (by simp only [zbB,zbh,or_false] at hx;rcases hx with rfl | rfl | rfl | rfl <;> decide +kernel) (by decide) (by decide +kernel) ?_
  have:xV (.str x) ["stay","step","at","off"]=true:=by simp only [zbB,zbh,or_false] at hx;rcases hx with rfl | rfl | rfl | rfl <;> decide +kernel
  rw [this];exact q
 cases l with
 | stay=>exact ⟨_,dM,key _ (by simp)⟩
 | lC=>exact ⟨_,dM,key _ (by simp)⟩
 | step b x=>exact ⟨_,dM,key _ (by simp)⟩
 | mk b m=>exact ⟨_,dM,key _ (by cases b <;> simp [Ao])⟩
theorem AH {p:Pt} (h:qO p=false) {S:aJ}{Q:AK} (q:Q (.dat (.bl false)) S):kO (tD p) (.int 0) S fun r S1=>nV false r.d (.ju ["stay","step","at","off"]) S1 Q:=by
 have key:∀ x:Str,x∈(["many","then","either"]:List Str)→nV false (.str x) (.ju ["stay","step","at","off"]) S Q:=fun x hx=>by
  refine xU (n:=0) (by simp only [zbB,zbh,or_false] at hx;rcases hx with rfl | rfl | rfl <;> decide +kernel) (by decide) (by decide +kernel) ?_
  have:xV (.str x) ["stay","step","at","off"]=false:=by simp only [zbB,zbh,or_false] at hx;rcases hx with rfl | rfl | rfl <;> decide +kernel
  rw [this];exact q
 cases p with
 | lf _=>cases h
 | many p=>exact ⟨_,dM,key _ (by simp)⟩
 | seq ps=>exact ⟨_,dM,key _ (by simp)⟩
 | alt ps=>exact ⟨_,dM,key _ (by simp)⟩
theorem gA {S T:aJ}{d:D}{Q:AK} (h:bN d=true) (q:Q (.dat d) S):M.ret S (S++T) (.dat d) Q :=
 ⟨_,m7 h,fun k o hk e=>.inl (by rw [zad hk] at e;exact e),by rw [List.take_left];exact q⟩
section
variable {P:yaj}{w:yak}{K:yaE}{mg:Str→Option yai}{base:Heap}
def vO:AN:=fun ds S Q=>∃ p:Pt,ds=[tD p]∧eH p∧oc p≤50∧∀ (n:Nat) (mv:List Mv),dN p n (mv.map eM)→n≤oc p+1→mv.length≤oc p→(∀ m∈mv,kK m.2.1)→Q (.dat (.tup [.int n,.lst (mv.map vD)])) S
theorem DZ (T:Txt K mg) (F:Src K mg "laid_out" ig wo) (D_new_stands:Def P w K mg base 1 "new_stands" iE (aF K vM)) (D_cut:Def P w K mg base 2 "cut" kI (aF K BK)):Def P w K mg base 3 "laid_out" ig (aF K vO):=by
 refine eY F eS (fun ds S Q h => ?_) (fun f cdv A outer s H E hr => ?_)
 ·obtain ⟨p,rfl,_⟩:=h;rfl
 ·refine ⟨_,(M.af (M.aq (i:=1) eS.nd rfl (Or.inl rfl) M.ah)
   (M.af (M.aq (i:=2) eS.nd rfl (Or.inl rfl) (M.Bd (M.aO M.aa)))
   (M.af (M.aq (i:=3) eS.nd rfl (Or.inl rfl) (M.aO (M.ao (M.aE (M.ao T.oN (M.ao (M.pv 0) (M.ao T.w9 M.aa)))) M.aa)))
   (M.af (M.eT PassesOwn.never (M.qz (M.pv 3))
    (M.af (M.aq (i:=4) eS.nd rfl (Or.inl rfl) (M.Bd (M.aO M.aa)))
    (M.af (M.bT PassesOwn.never rfl (M.bU (M.pv 3)) (M.aG (i:=5) eS.nd rfl (Or.inl rfl))
     (M.ai (M.bI (M.az (M.oV hr) (M.au M.aS (M.au M.aS (M.pv 5) M.ah (fun _ _=>rfl)) M.ah (fun _ _=>rfl)) T.uy rfl)
      (M.ai (M.bA (M.cJ PySem.F.plainAttrs_list PySem.F.slot_list_append PySem.F.type_list_append M.bB (M.pv 2) (M.ao (M.pv 5) M.aa))))
      (M.af (M.bA (M.cJ PySem.F.plainAttrs_list PySem.F.slot_list_extend PySem.F.type_list_extend M.xD (M.pv 4) (M.ao (M.ow D_cut hr (M.ao (M.pv 5) (M.ao (M.pv 1) M.aa))) M.aa)))
      (M.ai (M.uv (i:=1) eS.nd rfl (Or.inl rfl) (M.ow D_new_stands hr (M.ao (M.au M.aS (M.pv 5) M.ah (fun _ _=>rfl)) M.aa))))))))
    (M.ai (M.aq (i:=3) eS.nd rfl (Or.inl rfl) (M.pv 4))))))
   (M.ai (M.aL (M.fre (M.aE (M.ao (M.pv 1) (M.ao (M.pv 2) M.aa)))))))))),fun ds S Q h => ?_⟩
  obtain ⟨p,rfl,hp,ho,q⟩:=h
  have e0:bf ua [tD p]=[some (tD p),none,none,none,none,none]:=rfl
  rw [e0]
  push_cast [cY]
  refine ⟨sz rfl,sz rfl,sz rfl,?_⟩
  have ee:∀ (a:MO) (T:aJ),(S++some a::T)[S.length]? = some (some a):=fun a T=>by simp
  have atT:∀ (a:MO) (T:aJ) (k:Nat),(S++some a::T)[S.length+1+k]? = T[k]? := fun a T k=>by
   rw [zab (by lia),show S.length+1+k - S.length=k+1 by lia,zai]
  have ET:∀ (a:MO) (b:Option MO) (T:aJ),(S++some a::T).set S.length b=S++b::T:=fun a b T=>by rw [zao _ _ (zca _)];simp
  have Hh:∀ (a:MO) (T:aJ) (x y:Option MO),(S++some a::(T++[x])).set (S.length+1+T.length) y=S++some a::(T++[y]):=fun a T x y=>by
   rw [zao _ _ (by lia),show S.length+1+T.length - S.length=T.length+1 by lia,List.set_cons_succ,zao _ _ (zca _)];simp
  obtain ⟨W,hW⟩:∃ W:Nat→bQ→aJ→Prop,W=fun μ δ S2=>∃ (n:Nat) (mv:List Mv) (E:List Ed) (d:D) (v4 v5:Option D) (T:aJ),δ=[some (tD p),some (.int n),some (.loc S.length),some d,v4,v5]∧S2=S++some (.lst (mv.map vD))::T∧(d = .lst (E.map eD)∨∃ k,d = .loc (S.length+1+k)∧T[k]? = some (some (.lst (E.map eD)))) ∧
    dN p n (mv.map eM++E)∧n+vs E≤oc p+1∧mv.length+ws E≤oc p∧(∀ m∈mv,kK m.2.1)∧∀ e∈E,eH e.2.1∧dp e.2.1<μ:=⟨_,rfl⟩
  have hop:=cH p
  refine ⟨W,⟨dp p+1,by rw [hW];exact ⟨2,[],[(0,p,1)],_,none,none,[],rfl,rfl,.inl rfl,dN.start p,by simp [vs];lia,by simp [ws],by simp,fun e he=>by rw [zaF.mp he];exact ⟨hp,by simp⟩⟩⟩,?_⟩
  intro μ δ S2 hw
  rw [hW] at hw
  obtain ⟨n,mv,E,d,v4,v5,T,rfl,rfl,hd,hB,hv,hws,hlf,hE⟩:=hw
  have DR:aU (S++some (.lst (mv.map vD))::T) d = .lst (E.map eD):=by
   rcases hd with rfl | ⟨k,rfl,hk⟩
   ·rfl
   ·simp only [aU,atT,hk];rfl
  push_cast [true_and]
  refine ⟨!E.isEmpty,by rw [DR];simp [cX],d7 (fun hw => ?_) (fun hw => ?_)⟩
  ·obtain ⟨N,hN⟩:∃ N:bQ→aJ→Prop,N=fun δ S2=>∃ (n:Nat) (mv:List Mv) (E:List Ed) (d:D) (v4 v5:Option D) (T:aJ),δ=[some (tD p),some (.int n),some (.loc S.length),some d,v4,v5]∧S2=S++some (.lst (mv.map vD))::T∧(d = .lst (E.map eD)∨∃ k,d = .loc (S.length+1+k)∧T[k]? = some (some (.lst (E.map eD)))) ∧
     dN p n (mv.map eM++E)∧n+vs E≤oc p+1∧mv.length+ws E≤oc p∧(∀ m∈mv,kK m.2.1)∧∀ e∈E,eH e.2.1∧dp e.2.1<μ - 1:=⟨_,rfl⟩
   have hmu:0<μ:=by
    cases E with
    | nil=>simp at hw
    | cons e E=>have:=(hE e (by simp)).2;lia
   refine ⟨N,?_,?_⟩
   ·rw [hN,hW]
    rintro δ' S3 h
    exact ⟨μ - 1,by lia,h⟩
   ·push_cast [cY,fc,eB]
    refine ⟨zcc _,?_⟩
    rw [zaR,show zbZ (S++some (MO.lst (mv.map vD))::T)=S.length+1+T.length by simp;lia]
    have hiter:∀ Q':List D→(aJ→Prop)→aJ→Prop,(∀ Pr:aJ→Prop,(∀ (a:MO) (x:Option MO),Pr (S++some a::(T++[x])))→Q' (E.map eD) Pr (S++some (.lst (mv.map vD))::(T++[some (.lst [])])))→cK (S++some (.lst (mv.map vD))::(T++[some (.lst [])])) Q' d:=fun Q' h=>by
     rcases hd with rfl | ⟨k,rfl,hk⟩
     ·exact h _ fun _ _=>trivial
     ·have hkT:k<T.length:=(zac.mp hk).1
      refine ⟨_,by rw [atT,zad hkT];exact hk,h _ fun a x=>by rw [atT,zad hkT];exact hk⟩
    refine hiter _ fun Pr hPr => ?_
    refine bG (fun rest δ S3=>∃ (n:Nat) (mv:List Mv) (R NR:List Ed) (v5:Option D),rest=R.map eD∧δ=[some (tD p),some (.int n),some (.loc S.length),some d,some (.loc (S.length+1+T.length)),v5]∧S3=S++some (.lst (mv.map vD))::(T++[some (.lst (NR.map eD))]) ∧
     dN p n (mv.map eM++(R++NR))∧n+vs R+vs NR≤oc p+1∧mv.length+ws R+ws NR≤oc p∧(∀ m∈mv,kK m.2.1)∧(∀ e∈R,eH e.2.1∧dp e.2.1<μ)∧∀ e∈NR,eH e.2.1∧dp e.2.1<μ - 1) ?_ ?_ _ _ _ ⟨n,mv,E,[],v5,rfl,rfl,rfl,by rw [zbo];exact hB,by simp [vs] at hv ⊢;exact hv,by simp [ws] at hws ⊢;exact hws,hlf,hE,by simp⟩
    ·rintro δ S3 ⟨n,mv,R,NR,v5,hr,rfl,rfl,g1,g2,g3,g4,g5,g6⟩
     have:R=[]:=by cases R with
      | nil=>rfl
      | cons _ _=>simp at hr
     subst this
     refine ⟨hPr _ _,?_⟩
     push_cast [true_and]
     rw [hN]
     refine ⟨n,mv,NR,_,_,_,_,rfl,rfl,.inr ⟨T.length,rfl,by simp⟩,g1,by simpa [vs] using g2,by simpa [ws] using g3,g4,g6⟩
    ·rintro x rest δ S3 N' ⟨n,mv,R,NR,v5,hr,rfl,rfl,g1,g2,g3,g4,g5,g6⟩ hN'
     cases R with
     | nil=>simp at hr
     | cons r R =>
      rw [zbC] at hr
      injection hr with e1 e2
      subst e1;subst e2
      obtain ⟨ok1,ok2⟩:=g5 r (by simp)
      refine ⟨hPr _ _,?_⟩
      push_cast [true_and]
      rw [show eD r = .tup [.int r.1,tD r.2.1,.int r.2.2] from rfl]
      push_cast [aN,K33.ee]
      have hwr:=fz r R
      have hvr:=gq r R
      cases hl:qO r.2.1 with
      | true =>
       obtain ⟨a,pr,b⟩:=r
       cases pr with
       | lf l =>
        simp only [eH] at ok1
        refine AJ ok1 ⟨_,rfl,?_⟩
        rw [yIp rfl]
        push_cast [pR]
        refine ⟨by simp only [aU,ee];rfl,S.length,_,_,rfl,rfl,ee _ _,?_,?_⟩
        ·rw [zbr,yaf];lia
        ·rw [ET,show mv.map vD++[D.tup [.int a,tD (.lf l),.int b]]=(mv++[(a,l,b)]).map vD by rw [zbu];rfl]
         refine hN' _ _ ⟨n,mv++[(a,l,b)],R,NR,_,rfl,rfl,rfl,?_,?_,?_,?_,fun e he=>g5 e (zar _ he),g6⟩
         ·refine g1.yp fun e => ?_
          simp only [zbu,zbn,zbB,zbC,zbM,zbh,or_false,zbj]
          rw [show eM (a,l,b)=(a,.lf l,b) from rfl]
          constructor
          ·rintro ((h | h) | h | h)
           ·exact .inl h
           ·exact .inr (.inl h)
           ·exact .inr (.inr (.inl h))
           ·exact .inr (.inr (.inr h))
          ·rintro (h | h | h | h)
           ·exact .inl (.inl h)
           ·exact .inl (.inr h)
           ·exact .inr (.inl h)
           ·exact .inr (.inr h)
         ·lia
         ·simp only [oc] at hwr;rw [zaE];show mv.length+1+_+_≤_;lia
         ·intro m hm
          rcases zbn.mp hm with h | h
          ·exact g4 m h
          ·rw [zaF.mp h];exact ok1
       | _=>cases hl
      | false =>
       refine AH hl ⟨_,rfl,?_⟩
       rw [yIn (by decide)]
       have ow:=cH r.2.1
       push_cast [pR,Gu]
       refine ⟨by simp only [aU,atT];simp;rfl,r.2.1,r.1,n,r.2.2,rfl,hl,by lia,by lia,?_⟩
       refine ⟨_,NR.map eD,_,_,rfl,rfl,by rw [atT];simp,.inl rfl,?_,?_⟩
       ·have h1:=qe NR
        have h2:=qe (fS r.1 n r.2.2 r.2.1)
        have h3:=(ym r.1 n r.2.2 r.2.1 hl).1
        rw [zbr,zbr,yaf];lia
       ·rw [Hh,← zbu]
        refine ⟨_,rfl,r.2.1,rfl,hl,_,_,rfl,rfl,?_⟩
        have c1:=ym r.1 n r.2.2 r.2.1 hl
        have c2:=D3 r.1 n r.2.2 r.2.1 hl ok1
        refine hN' _ _ ⟨n+ns r.2.1,mv,R,NR++fS r.1 n r.2.2 r.2.1,_,rfl,by push_cast;rfl,rfl,?_,by rw [ug];lia,by rw [uf];lia,g4,fun e he=>g5 e (zar _ he),fun e he => ?_⟩
        ·have h1:dN p n ((r.1,r.2.1,r.2.2)::(mv.map eM++(R++NR))):=g1.yp fun e=>by
          simp only [zbn,zbB,zbj]
          exact or_left_comm
         refine (h1.step hl).yp fun e => ?_
         simp only [zbn]
         constructor
         ·rintro (h | h | h | h)
          ·exact .inr (.inl h)
          ·exact .inr (.inr (.inl h))
          ·exact .inr (.inr (.inr h))
          ·exact .inl h
         ·rintro (h | h | h | h)
          ·exact .inr (.inr (.inr h))
          ·exact .inl h
          ·exact .inr (.inl h)
          ·exact .inr (.inr (.inl h))
        ·rcases zbn.mp he with h | h
         ·exact g6 e h
         ·have:=c2 e h;exact ⟨this.1,by lia⟩
  ·have:E=[]:=by simpa using hw
   subst this
   rw [zbo] at hB
   push_cast [Ei]
   refine ⟨sz rfl,S.length,_,_,rfl,ee _ _,?_⟩
   rw [ET]
   have es:([D.int (n:Int),D.loc S.length]:List D).map (sb S.length (.lst (mv.map vD)))=[.int n,.lst (mv.map vD)]:=by simp [sb]
   rw [es]
   refine gA ?_ (q n mv hB (by simpa [vs] using hv) (by simpa [ws] using hws) hlf)
   have:bE (mv.map vD)=true:=b9 fun m _=>by rw [← vp];exact j8 _
   simp only [bN,bE,this,zbJ]
theorem gb {x:Str} (h:kT x=true):(PyData.str x).canLay0=true:=by
 have:=cQ (n:=0) (d:=.str x) h (by decide)
 unfold fit PySem.SeqAt.shaped at this
 simp only [zbm] at this
 exact this.2.1
theorem B0 {l:Lf} (h:kK l):bh (py (lD l))=true∧(py (lD l)).depth≤1∧bN (lD l)=true:=by
 cases l with
 | stay=>exact ⟨by simp only [lD,py,cG,bh,bX,zbK];exact gb (by decide +kernel),by decide,rfl⟩
 | lC=>exact ⟨by simp only [lD,py,zbC,zbM,bh,bX,zbK];exact gb (by decide +kernel),by decide,rfl⟩
 | step b x =>
  refine ⟨?_,by simp [lD,py,cG,PyData.depth,PyData.depthAll],rfl⟩
  simp only [lD,py,cG,bh,bX,zbK,zbm]
  exact ⟨gb (by decide +kernel),gb (by cases b <;> decide +kernel),gb (vn h)⟩
 | mk b m =>
  refine ⟨?_,by simp [lD,py,cG,PyData.depth,PyData.depthAll],rfl⟩
  simp only [lD,py,cG,bh,bX,zbK,zbm]
  exact ⟨gb (by cases b <;> decide +kernel),gb (xB h)⟩
theorem Am {m:Mv} (h:kK m.2.1):ef (vD m):=by
 obtain ⟨h1,h2,h3⟩:=B0 h
 refine ⟨by simp only [vD,bN,bE,h3,zbJ],?_,?_,_,rfl⟩
 ·simp only [vD,py,cG,bh,bX,h1,zbJ]
 ·simp only [vD,py,cG,PyData.depth,PyData.depthAll]
  lia
theorem DE (l k:Lf):aA (py (lD l)) (py (lD k))=true:=by cases l <;> cases k <;> simp [lD,py,cG,aA,cW]
theorem DA (m k:Mv):aA (py (vD m)) (py (vD k))=true:=by simp only [vD,py,cG,aA,cW,DE,zbJ]
theorem Dz (m:Mv):∃ p r,py (vD m)=PyData.tuple (.int p::r):=⟨_,_,rfl⟩
theorem vR {a b:Bool} (h:side a=side b):a=b:=by
 cases a <;> cases b <;> first | rfl | exact absurd h (by decide)
theorem An {a b:Bool} (h:Ao a=Ao b):a=b:=by
 cases a <;> cases b <;> first | rfl | exact absurd h (by decide)
theorem Av {l k:Lf} (h:py (lD l)=py (lD k)):(∀ ms,hold l ms=hold k ms)∧∀ s w,take l s w=take k s w:=by
 cases l <;> cases k <;> simp only [lD,py,cG,zbC,zbM,PyData.tuple.injEq,zci.injEq,PyData.str.injEq,and_true,reduceCtorEq,and_false,List.nil_eq,List.cons_ne_nil] at h
 all_goals first
  | exact ⟨fun _=>rfl,fun _ _=>rfl⟩
  | (obtain ⟨_,h1,rfl⟩:=h;rw [vR h1];exact ⟨fun _=>rfl,fun _ _=>rfl⟩)
  | (obtain ⟨h1,rfl⟩:=h;rw [An h1];exact ⟨fun _=>rfl,fun _ _=>rfl⟩)
  | exact absurd h (by decide)
  | exact h.elim
theorem Al {m k:Mv} (h:py (vD m)=py (vD k)):m.1=k.1∧m.2.2=k.2.2∧∀ W i j,iS W m.2.1 i j↔iS W k.2.1 i j:=by
 simp only [vD,py,cG,PyData.tuple.injEq,zci.injEq,PyData.int.injEq,and_true] at h
 obtain ⟨h1,h2,h3⟩:=h
 obtain ⟨g1,g2⟩:=Av h2
 exact ⟨by lia,by lia,fun W i j=>by unfold iS;rw [g1,g2]⟩
theorem dN.same {p:Pt}{n:Nat}{mv mv':List Mv} (h:dN p n (mv.map eM)) (h1:∀ m∈mv',m∈mv) (h2:∀ m∈mv,∃ m'∈mv',py (vD m')=py (vD m)):dN p n (mv'.map eM):=by
 have sub:∀ e∈mv'.map eM,e∈mv.map eM:=fun e he=>by
  obtain ⟨m,hm,rfl⟩:=zbO.mp he
  exact zbO.mpr ⟨m,h1 m hm,rfl⟩
 refine ⟨h.two,fun e he=>h.zh e (sub e he),fun W => ?_,fun W F hF=>h.cmp W F fun e he i j g1 g2 => ?_⟩
 ·obtain ⟨F,f1,f2,f3⟩:=h.snd W
  exact ⟨F,f1,fun e he=>f2 e (sub e he),f3⟩
 ·obtain ⟨m,hm,rfl⟩:=zbO.mp he
  obtain ⟨m',hm',e⟩:=h2 m hm
  obtain ⟨k1,k2,k3⟩:=Al e
  have:=hF (eM m') (zbO.mpr ⟨m',hm',rfl⟩) i j
  simp only [eM,di] at this g1 g2 ⊢
  rw [k1,k2] at this
  exact this g1 ((k3 W i j).mpr g2)
theorem Dc {n b:Nat}{es:List Nat}{mv:List Mv}:bN (mD n b es mv)=true:=by
 have:bE (mv.map vD)=true:=b9 fun m _=>by rw [← vp];exact j8 _
 simp only [mD,bN,bE,dS,this,zbJ]
def BI:AN:=fun ds S Q=>∃ p:Pt,ds=[tD p]∧eH p∧oc p≤50∧∀ (n:Nat) (mv:List Mv),dN p n (mv.map eM)→n≤oc p+1→mv.length≤oc p→(∀ m∈mv,kK m.2.1)→Q (.dat (mD n 0 [1] mv)) S
theorem F9 (T:Txt K mg) (F:Src K mg "machine_of" kG CV) (D_laid_out:Def P w K mg base 3 "laid_out" ig (aF K vO)):Def P w K mg base 4 "machine_of" kG (aF K BI):=by
 refine eY F BL (fun ds S Q h => ?_) (fun f cdv A outer s H E hr => ?_)
 ·obtain ⟨p,rfl,_⟩:=h;rfl
 ·refine ⟨_,(M.af (M.aq (i:=1) BL.nd rfl (Or.inl rfl) (M.ow D_laid_out hr (M.ao (M.pv 0) M.aa)))
   (M.ai (M.aL (M.aE (M.ao (M.au M.aS (M.pv 1) M.ah (fun _ _=>rfl)) (M.ao T.oN (M.ao (M.aE (M.ao T.w9 M.aa)) (M.ao (M.xg M.dI (by rfl) T.tuple (by decide +kernel) (M.ao (M.eU hr rfl (by rfl) T.sorted (by rfl) T.set (M.au M.aS (M.pv 1) M.ah (fun _ _=>rfl))) M.aa)) M.aa)))))))),fun ds S Q h => ?_⟩
  obtain ⟨p,rfl,hp,ho,q⟩:=h
  have e0:bf yY [tD p]=[some (tD p),none]:=rfl
  rw [e0]
  push_cast [true_and]
  refine ⟨p,rfl,hp,ho,fun n mv h1 h2 h3 h4 => ?_⟩
  push_cast [iD,aN,dM,ee]
  refine ⟨sz rfl,_,rfl,fun k hk => ?_,fun k hk l hl => ?_,by rw [zbr];lia,fun ks' k1 k2 k3 k4 => ?_⟩
  ·obtain ⟨m,hm,rfl⟩:=zbO.mp hk
   exact ⟨Am (h4 m hm),Dz m⟩
  ·obtain ⟨m,_,rfl⟩:=zbO.mp hk
   obtain ⟨m',_,rfl⟩:=zbO.mp hl
   exact DA m m'
  ·obtain ⟨mv',o1,rfl⟩:=jF k1
   refine ⟨_,rfl,?_⟩
   push_cast [true_and]
   refine ⟨sz rfl,bM (Dc (es:=[1]) (b:=0)) (q n mv' (h1.same o1 fun m hm => ?_) h2 ?_ fun m hm=>h4 m (o1 m hm))⟩
   ·obtain ⟨d,hd,e⟩:=zbO.mp ((k2 (py (vD m))).mpr (zbO.mpr ⟨vD m,zbO.mpr ⟨m,hm,rfl⟩,rfl⟩))
    obtain ⟨m',hm',rfl⟩:=zbO.mp hd
    exact ⟨m',hm',e⟩
   ·have:=@sub_len yam (fun _ _=>Classical.propDecidable _) ((mv'.map vD).map py) ((mv.map vD).map py) k3 fun y hy=>(k2 y).mp hy
    simp only [zbr] at this;lia
end
open PySem L2 M M6
noncomputable abbrev oF:Stmt:=top 16
noncomputable abbrev t8:List Str:=["_law_ds","_law_at","_law_deep","_law_way","_law_number","_law_part_here","_law_parts","_law_k"]
noncomputable abbrev cA:List Str:=["_law_ds","_law_at","_law_deep"]
theorem cR:aP t8 cA (ak oF):=L2.eu
noncomputable abbrev wc:Stmt:=top 17
noncomputable abbrev tZ:List Str:=["_law_cell","_law_deep"]
noncomputable abbrev ie:List Str:=["_law_cell","_law_deep"]
theorem CG:aP tZ ie (ak wc):=L2.eu
noncomputable def cap:Nat→Nat
 | 0=>1
 | 1=>3
 | _=>10
theorem A9 (k:Nat):1≤cap k:=by unfold cap;split <;> lia
theorem Cj {ys:List Nat}{i a:Nat} (h:ys[i]? = some a):fN (nL ys) (i:Int)=some (.int (a:Int)):=dh (by rw [nL,zaP,h];rfl)
theorem BR {ys:List Nat}{a:Nat}{S:aJ}{Q:AK} (h:0<ys.length) (q:∀ y∈ys,Q (.dat (.int (y:Int))) S):kO (.lst (nL ys)) (.int ((a:Int) % (ys.length:Int))) S Q:=by
 rw [show ((a:Int) % (ys.length:Int))=((a % ys.length:Nat):Int) by lia]
 have hlt:=zcf a h
 exact ⟨_,Cj (zah hlt),q _ (zbg hlt)⟩
theorem gH:∀ (ps:List Pt) (p:Pt),br (ps++[p])=br ps+oc p
 | [],p=>by simp [br]
 | q::ps,p=>by rw [zbj,br,br,gH ps p];lia
theorem pq:∀ (ps:List Pt) (p:Pt),yg (ps++[p])=max (yg ps) (dp p)
 | [],p=>by simp [yg]
 | q::ps,p=>by rw [zbj,yg,yg,pq ps p];lia
theorem lR:∀ (ps:List Pt) (p:Pt),fW ps→eH p→fW (ps++[p])
 | [],p,_,h=>by simp [fW,h]
 | q::ps,p,g,h=>by
  rw [zbj,fW]
  rw [fW] at g
  exact ⟨g.1,lR ps p g.2 h⟩
section
variable {P:yaj}{w:yak}{K:yaE}{mg:Str→Option yai}{base:Heap}
def mH (k:Nat):AN:=fun ds S Q=>∃ (ys:List Nat) (a:Nat),ds=[.lst (nL ys),.int a,.int k]∧0<ys.length∧ys.length≤1000∧∀ (p:Pt) (a':Nat),eH p→dp p≤k→oc p≤cap k→Q (.dat (.tup [tD p,.int a'])) S
theorem tP (T:Txt K mg) (F:Src K mg "_law_part" cA oF) (D_law_leaf:Def P w K mg base 2 "_law_leaf" fP (aF K qj)) (k:Nat) (hk:k≤2) (D_law_part:Def P w K mg base (k+2) "_law_part" cA (aF K (fun ds S Q=>∃ j,j+1=k∧mH j ds S Q))):Def P w K mg base (k+3) "_law_part" cA (aF K (mH k)):=by
 refine eY F cR (fun ds S Q h => ?_) (fun f cdv A outer s H E hr => ?_)
 ·obtain ⟨ys,a,rfl,_⟩:=h;rfl
 ·refine ⟨_,(M.af (M.aq (i:=3) cR.nd rfl (Or.inl rfl) (M.aD M.d8 (M.au M.aS (M.pv 0) (M.aD M.d8 (M.pv 1) (M.sG M.jP (by rfl) T.len (by decide +kernel) (M.ao (M.pv 0) M.aa))) (fun _ _=>rfl)) (M.au M.aS (M.aO (M.ao M.ah (M.ao M.ah (M.ao M.ah M.aa)))) (M.sG (M.xu rfl) (by rfl) T.min (by decide +kernel) (M.ao (M.pv 2) (M.ao M.ah M.aa))) (fun _ _=>rfl))))
   (M.af (M.aq (i:=4) cR.nd rfl (Or.inl rfl) (M.au M.aS (M.pv 0) (M.aD M.d8 (M.aD M.bz (M.pv 1) M.ah) (M.sG M.jP (by rfl) T.len (by decide +kernel) (M.ao (M.pv 0) M.aa))) (fun _ _=>rfl)))
   (M.af (M.bI (M.az M.Aj (M.pv 3) M.ah (aW _))
    (M.ai (M.aL (M.aE (M.ao (M.cS D_law_leaf (hr.mono (by lia)) (by rfl) (M.ao (M.pv 3) (M.ao (M.pv 4) M.aa))) (M.ao (M.aD M.bz (M.pv 1) M.ah) M.aa)))))
    M.aR)
   (M.af (M.bI (M.az (M.fQ hr) (M.pv 3) M.ah (aW _))
    (M.af (M.jE (M.cS D_law_part (hr.mono (by lia)) (by rfl) (M.ao (M.pv 0) (M.ao (M.aD M.bz (M.pv 1) M.ah) (M.ao (M.aD M.oS (M.pv 2) M.ah) M.aa)))) (M.gh (n:=2) rfl (M.bw (M.aG (i:=5) cR.nd rfl (Or.inl rfl)) (M.bw (M.aG (i:=1) cR.nd rfl (Or.inl rfl)) M.dU))))
    (M.ai (M.aL (M.aE (M.ao (M.aE (M.ao M.av (M.ao (M.pv 5) M.aa))) (M.ao (M.pv 1) M.aa))))))
    M.aR)
   (M.af (M.aq (i:=1) cR.nd rfl (Or.inl rfl) (M.aD M.bz (M.pv 1) M.ah))
   (M.af (M.aq (i:=6) cR.nd rfl (Or.inl rfl) (M.Bd (M.aO M.aa)))
   (M.af (M.bT PassesOwn.never rfl (M.dH (by rfl) T.range (M.ao (M.aD M.d8 (M.pv 4) (M.au M.aS (M.aO (M.ao M.ah (M.ao M.ah (M.ao M.ah (M.ao M.ah M.aa))))) (M.sG (M.xu rfl) (by rfl) T.min (by decide +kernel) (M.ao (M.pv 2) (M.ao M.ah M.aa))) (fun _ _=>rfl))) M.aa)) (M.aG (i:=7) cR.nd rfl (Or.inl rfl))
    (M.af (M.jE (M.cS D_law_part (hr.mono (by lia)) (by rfl) (M.ao (M.pv 0) (M.ao (M.pv 1) (M.ao (M.aD M.oS (M.pv 2) M.ah) M.aa)))) (M.gh (n:=2) rfl (M.bw (M.aG (i:=5) cR.nd rfl (Or.inl rfl)) (M.bw (M.aG (i:=1) cR.nd rfl (Or.inl rfl)) M.dU))))
    (M.ai (M.bA (M.cJ PySem.F.plainAttrs_list PySem.F.slot_list_append PySem.F.type_list_append M.bB (M.pv 6) (M.ao (M.pv 5) M.aa))))))
   (M.ai (M.aL (M.aE (M.ao (M.aE (M.ao (M.au M.aS (M.aO (M.ao M.av (M.ao M.av M.aa))) (M.aD M.d8 (M.pv 3) M.ah) (fun _ _=>rfl)) (M.ao (M.xg M.dI (by rfl) T.tuple (by decide +kernel) (M.ao (M.pv 6) M.aa)) M.aa))) (M.ao (M.pv 1) M.aa)))))))))))),fun ds S Q h => ?_⟩
  obtain ⟨ys,a,rfl,hy0,hy1,q⟩:=h
  have e0:bf t8 [.lst (nL ys),.int a,.int k]=[some (.lst (nL ys)),some (.int a),some (.int k),none,none,none,none,none]:=rfl
  rw [e0]
  push_cast [yK]
  refine ⟨ys.length,by simp [iQ,nL],by lia,BR hy0 fun y1 _ => ?_⟩
  have em:(if (2:Int)<(k:Int) then (2:Int) else (k:Int))=((k:Nat):Int):=by rw [yIn (by lia)]
  have em3:(if (3:Int)<(k:Int) then (3:Int) else (k:Int))=((k:Nat):Int):=by rw [yIn (by lia)]
  push_cast [em,em3]
  refine ⟨sz rfl,?_⟩
  obtain ⟨b,hb,hb0,hb1⟩:∃ b:Nat,fN [D.int 5,D.int 8,D.int 9] (k:Int)=some (.int (b:Int))∧(k=0→b=5)∧5≤b∧b≤9:=by
   rcases (by lia:k=0∨k=1∨k=2) with rfl | rfl | rfl
   ·exact ⟨5,dM,fun _=>rfl,by lia,by lia⟩
   ·exact ⟨8,ee,fun h=>by lia,by lia,by lia⟩
   ·exact ⟨9,at2,fun h=>by lia,by lia,by lia⟩
  refine ⟨_,hb,?_⟩
  push_cast [true_and]
  refine ⟨by lia,ys.length,by simp [iQ,nL],by lia,?_⟩
  rw [show ((a:Int)+1)=((a+1:Nat):Int) by lia]
  refine BR hy0 fun y2 _ => ?_
  push_cast [true_and]
  rw [show ((y1:Int) % (b:Int))=((y1 % b:Nat):Int) by lia]
  have hw:=zcf y1 (show 0<b by lia)
  generalize y1 % b=wy at hw ⊢
  refine d7 (fun h => ?_) (fun h => ?_)
  ·have h:wy<5:=by have:=of_decide_eq_true h;lia
   refine ⟨wy,y2,rfl,h,fun l hl=>⟨sz rfl,bM ?_ ?_⟩⟩
   ·have:=(B0 hl).2.2
    simp only [gf,bN,bE,this,zbJ]
   ·exact q (.lf l) (a+2) (by simp only [eH];exact hl) (by simp [dp]) (by simp only [oc];exact A9 k)
  ·have h : ¬ wy<5:=fun z=>h (yDt (by lia))
   have hk0:k≠0:=fun e=>by have:=hb0 e;lia
   obtain ⟨j,rfl⟩:∃ j,k=j+1:=⟨k - 1,by lia⟩
   have hcap:cap j+2≤cap (j+1):=by
    rcases (by lia:j=0∨j=1) with rfl | rfl <;> simp [cap]
   refine d7 (fun h7 => ?_) (fun h7 => ?_)
   ·refine ⟨j,rfl,ys,a+1,?_,hy0,hy1,fun p a' k1 k2 k3 => ?_⟩
    ·simp only [zci.injEq,D.int.injEq,and_true,true_and];lia
    ·push_cast [pP,ku,pQ]
     refine ⟨_,rfl,rfl,_,_,rfl,_,_,rfl,rfl,sz rfl,sz rfl,bM ?_ ?_⟩
     ·simp only [bN,bE,eL,zbJ]
     ·exact q (.many p) a' (by simp only [eH];exact k1) (by simp only [dp];lia) (by simp only [oc];lia)
   ·push_cast [cY,fc,xW,yK]
    have em4:(if (3:Int)<((j+1:Nat):Int) then (3:Int) else ((j+1:Nat):Int))=((j+1:Nat):Int):=by rw [yIn (by lia)]
    rw [em4]
    obtain ⟨c,hc,hc0,hc1⟩:∃ c:Nat,fN [D.int 1,D.int 3,D.int 4,D.int 3] ((j+1:Nat):Int)=some (.int (c:Int))∧0<c∧c≤4∧(c - 1)*cap j+1≤cap (j+1):=by
     rcases (by lia:j=0∨j=1) with rfl | rfl
     ·exact ⟨3,ee,by lia,by lia,by decide⟩
     ·exact ⟨4,at2,by lia,by lia,by decide⟩
    have hm:=zcf y2 hc0
    refine ⟨sz rfl,sz rfl,⟨_,hc,?_⟩⟩
    simp only [yM,gf]
    refine ⟨by lia,_,rfl,by lia,by lia,?_⟩
    rw [show ((y2:Int) % (c:Int)).toNat=y2 % c by lia]
    generalize y2 % c=m at hm ⊢
    refine bG (fun rest δ S'=>∃ (ps:List Pt) (a:Nat) (v5 v7:Option D),δ=[some (.lst (nL ys)),some (.int a),some (.int ((j+1:Nat):Int)),some (.int wy),some (.int y2),v5,some (.loc S.length),v7]∧S'=S++[some (.lst (nU ps))]∧ps.length+rest.length=m∧fW ps∧yg ps≤j∧br ps≤ps.length*cap j) ?_ ?_ _ _ _
     ⟨[],a+2,none,none,rfl,rfl,by simp [j5],trivial,zcc _,zcc _⟩
    ·rintro δ S' ⟨ps,a,v5,v7,rfl,rfl,hl,h1,h2,h3⟩
     refine ⟨trivial,?_⟩
     push_cast [ia]
     refine ⟨sz rfl,by decide,?_⟩
     rw [show ((wy:Int) % 2)=((wy % 2:Nat):Int) by lia]
     have hoc:br ps+1≤cap (j+1):=by
      have:ps.length*cap j≤(c - 1)*cap j:=Nat.mul_le_mul_right _ (by simp at hl;lia)
      lia
     refine pick (by show wy % 2<2;lia) fun e he => ?_
     have es:aU (S++[some (.lst (nU ps))]) (.loc S.length) = .lst (nU ps):=by simp [aU,MO.d]
     rw [es]
     simp only [zbB,zbh,or_false] at he
     rcases he with rfl | rfl
     ·refine ⟨sz rfl,sz rfl,gA ?_ (q (.seq ps) a (by simp only [eH];exact h1) (by simp only [dp];lia) (by simp only [oc];exact hoc))⟩
      simp only [gf,bN,bE,gx,zbJ]
     ·refine ⟨sz rfl,sz rfl,gA ?_ (q (.alt ps) a (by simp only [eH];exact h1) (by simp only [dp];lia) (by simp only [oc];exact hoc))⟩
      simp only [gf,bN,bE,gx,zbJ]
    ·rintro x rest δ S' N' ⟨ps,a,v5,v7,rfl,rfl,hl,h1,h2,h3⟩ hN'
     refine ⟨trivial,?_⟩
     push_cast [pP,ku,pQ,pR]
     refine ⟨j,rfl,ys,a,?_,hy0,hy1,fun p a' k1 k2 k3 => ?_⟩
     ·simp only [zci.injEq,D.int.injEq,and_true,true_and];lia
     ·refine ⟨_,rfl,rfl,_,_,rfl,_,_,rfl,rfl,by simp [aU,MO.d,qN],S.length,nU ps,_,rfl,rfl,by simp,by rw [dO,yaf];simp at hl;lia,?_⟩
      rw [zao _ _ (zca _),Nat.sub_self]
      refine hN' _ _ ⟨ps++[p],a',_,_,rfl,?_,by simp at hl ⊢;lia,lR ps p h1 k1,by rw [pq];lia,?_⟩
      ·rw [List.set_cons_zero,c9,c9,zbu];rfl
      ·rw [gH,zaE,Nat.add_mul]
       show _≤_+1*cap j
       lia
theorem AX {k:Nat}{sp:AN} (F:Src K mg "_law_part" cA oF) (h:∀ ds S Q,¬ sp ds S Q):Def P w K mg base (k+1) "_law_part" cA (aF K sp) :=
 F.def cR (fun vs H Q E z=>by obtain ⟨_,_,_,_,_,_,q,_⟩:=z;exact (h _ _ _ q).elim) fun f cdv A outer s H vs Q E hr z=>by obtain ⟨_,_,_,_,_,_,q,_⟩:=z;exact (h _ _ _ q).elim
theorem yj (T:Txt K mg) (F:Src K mg "_law_part" cA oF) (D_law_leaf:Def P w K mg base 2 "_law_leaf" fP (aF K qj)):∀ k,k≤2→Def P w K mg base (k+3) "_law_part" cA (aF K (mH k))
 | 0,h=>tP T F D_law_leaf 0 h (AX F fun ds S Q ⟨j,e,_⟩=>by lia)
 | k+1,h=>tP T F D_law_leaf (k+1) h ((yj T F D_law_leaf k (by lia)).imp fun vs H Q E z=>by
   obtain ⟨w,ds,S,Qa,ok,rep,⟨j,e,q⟩,bk⟩:=z
   obtain rfl:j=k:=by lia
   exact ⟨w,ds,S,Qa,ok,rep,q,bk⟩)
def vL:AN:=fun ds S Q=>∃ z:Int,ds=[.int z,.int 2]∧∀ p:Pt,eH p→dp p≤2→oc p≤10→Q (.dat (tD p)) S
theorem DW (T:Txt K mg) (F:Src K mg "_law_pattern" ie wc) (D_law_draws:Def P w K mg base 1 "_law_draws" fk (aF K rY)) (D_law_part:Def P w K mg base 5 "_law_part" cA (aF K (mH 2))):Def P w K mg base 6 "_law_pattern" ie (aF K vL):=by
 refine eY F CG (fun ds S Q h => ?_) (fun f cdv A outer s H E hr => ?_)
 ·obtain ⟨z,rfl,_⟩:=h;rfl
 ·refine ⟨_,(M.ai (M.aL (M.au M.aS (M.ow D_law_part hr (M.ao (M.ow D_law_draws hr (M.ao (M.pv 0) (M.ao (M.aD M.lS (M.aO (M.ao M.ah M.aa)) M.ah) M.aa))) (M.ao M.ah (M.ao (M.pv 1) M.aa)))) M.ah (fun _ _=>rfl)))),fun ds S Q h => ?_⟩
  obtain ⟨z,rfl,q⟩:=h
  have e0:bf tZ [.int z,.int 2]=[some (.int z),some (.int 2)]:=rfl
  rw [e0]
  push_cast [Bk]
  have er:(zbx (50:Int).toNat [D.int 720]).flatten=nL (zbx 50 720):=rfl
  refine ⟨sz rfl,by decide,by decide,by decide,z,zbx 50 720,?_,fun n hn=>by rw [List.eq_of_mem_replicate hn];lia,by simp,fun ys hl hlt => ?_⟩
  ·simp only [MO.d,er]
  ·refine ⟨ys,0,rfl,by rw [hl];simp,by rw [hl];simp,fun p a' k1 k2 k3 => ?_⟩
   push_cast [aN,dM]
   exact bM (eL p) (q p k1 k2 k3)
end
open PySem L2 M M6
noncomputable abbrev qq:Stmt:=top 18
noncomputable abbrev pW:List Str:=["_law_machine","_law_stands","_law_marks_here","_law_found","_law_at","_law_one","_law_leaf_here","_law_other"]
noncomputable abbrev fh:List Str:=["_law_machine","_law_stands","_law_marks_here"]
theorem dQ:aP pW fh (ak qq):=L2.eu
noncomputable abbrev CW:Stmt:=top 19
noncomputable abbrev za:List Str:=["_law_machine","_law_stands","_law_side","_law_word","_law_found","_law_one","_law_leaf_here","_law_other"]
noncomputable abbrev kH:List Str:=["_law_machine","_law_stands","_law_side","_law_word"]
theorem oE:aP za kH (ak CW):=L2.eu
noncomputable abbrev wj:Stmt:=top 21
noncomputable abbrev yZ:List Str:=["_law_pattern_here","_law_found","_law_part_here"]
noncomputable abbrev dB:List Str:=["_law_pattern_here"]
theorem oA:aP yZ dB (ak wj):=L2.eu
noncomputable abbrev vZ:Stmt:=top 22
noncomputable abbrev tY:List Str:=["_law_some","_law_found","_law_one"]
noncomputable abbrev ic:List Str:=["_law_some"]
theorem mP:aP tY ic (ak vZ):=L2.eu
theorem BB {ns:List Nat} (h:ns.length≤100):kM 1 (.lst (nL ns))=true∧kM 1 (.tup (nL ns))=true:=by
 have:(nL ns).all (kM 0)=true:=by
  rw [zbe]
  intro x hx
  obtain ⟨k,_,rfl⟩:=zbO.mp hx
  rfl
 simp only [kM,this,zbK,decide_eq_true_eq]
 rw [nL,zbr]
 exact ⟨h,h⟩
theorem qQ {k:Nat}:∀ ns:List Nat,inD (.int (k:Int)) (nL ns)=decide (k∈ns)
 | []=>rfl
 | n::ns=>by
  have ih:=qQ (k:=k) ns
  unfold inD nL at ih ⊢
  rw [zbC,zbE,ih]
  have e:PyData.eqv (py (.int (n:Int))) (py (.int (k:Int)))=decide (k=n):=by
   simp only [py,PyData.eqv]
   by_cases h:k=n
   ·subst h;simp
   ·rw [yDf h];simp;lia
  rw [e]
  by_cases h1:k=n <;> by_cases h2:k∈ns <;> simp [h1,h2]
theorem j4 {y:D}{k:Nat}{ns:List Nat}{neg:Bool}{S:aJ}{Q:AK} (e:aU S y = .lst (nL ns)∨aU S y = .tup (nL ns)) (hl:ns.length≤100) (q:Q (.dat (.bl (neg != decide (k∈ns)))) S):nV neg (.int (k:Int)) y S Q:=by
 unfold nV
 rcases e with e | e <;> rw [e]
 ·exact ⟨cQ (n:=0) (d:=.int (k:Int)) rfl (by decide),cQ (BB hl).1 (by decide),by rw [show aU S (.int (k:Int)) = .int k from rfl,qQ];exact q⟩
 ·exact ⟨cQ (n:=0) (d:=.int (k:Int)) rfl (by decide),cQ (BB hl).2 (by decide),by rw [show aU S (.int (k:Int)) = .int k from rfl,qQ];exact q⟩
theorem DN {y:D}{ns:List Nat}{i a:Nat}{S:aJ}{Q:AK} (e:aU S y = .lst (nL ns)) (h:ns[i]? = some a) (q:Q (.dat (.int a)) S):kO y (.int (i:Int)) S Q:=by
 unfold kO
 rw [e]
 exact ⟨_,Cj h,q⟩
theorem gJ {i j:Str}{S:aJ}{Q:AK}:zm (.str i) (.str j) S Q=Q (.dat (.bl (!decide (i=j)))) S:=rfl
theorem DU {i j:Bool}{S:aJ}{Q:AK}:Ck (.bl i) (.bl j) S Q=Q (.dat (.bl (decide (i=j)))) S:=rfl
section
variable {P:yaj}{w:yak}{K:yaE}{mg:Str→Option yai}{base:Heap}
def rU:AN:=fun ds S Q=>∃ (n b:Nat) (es:List Nat) (mv:List Mv) (st:List Nat) (ms:List Str),ds=[mD n b es mv,.lst (nL st),.lst (ms.map D.str)]∧n≤20∧(∀ m∈mv,Gz n m)∧mv.length≤40∧(∀ s∈st,s<n)∧st.Nodup∧texts ms ∧
 ∀ rs:List Nat,rs.Nodup→(∀ x,x∈rs↔Reach mv ms st x)→Q (.new (.lst (nL rs))) S
theorem A3 (T:Txt K mg) (F:Src K mg "_law_still" fh qq):Def P w K mg base 1 "_law_still" fh (aF K rU):=by
 refine eY F dQ (fun ds S Q h => ?_) (fun f cdv A outer s H E hr => ?_)
 ·obtain ⟨n,b,es,mv,st,ms,rfl,_⟩:=h;rfl
 ·refine ⟨_,(M.af (M.aq (i:=3) dQ.nd rfl (Or.inl rfl) (M.Bd (M.xg M.jO (by rfl) T.list (by decide +kernel) (M.ao (M.pv 1) M.aa))))
   (M.af (M.aq (i:=4) dQ.nd rfl (Or.inl rfl) M.ah)
   (M.af (M.eT PassesOwn.never (M.az M.Aj (M.pv 4) (M.sG M.jP (by rfl) T.len (by decide +kernel) (M.ao (M.pv 3) M.aa)) (aW _))
    (M.af (M.bT PassesOwn.never rfl (M.bU (M.au M.aS (M.pv 0) M.ah (fun _ _=>rfl))) (M.gh (n:=3) rfl (M.bw (M.aG (i:=5) dQ.nd rfl (Or.inl rfl)) (M.bw (M.aG (i:=6) dQ.nd rfl (Or.inl rfl)) (M.bw (M.aG (i:=7) dQ.nd rfl (Or.inl rfl)) M.dU))))
     (M.ai (M.bI (M.pw_pt (M.pw_and (M.az (M.fQ hr) (M.pv 5) (M.au M.aS (M.pv 3) (M.pv 4) (fun _ _=>rfl)) (aW _)) (M.pw_and (M.az (M.ni hr) (M.pv 7) (M.pv 3) rfl) (M.pw_and1 (M.az (M.xr hr) (M.au M.aS (M.pv 6) M.ah (fun _ _=>rfl)) M.av (aW _))))))
      (M.ai (M.bI (M.pw_pt (M.pw_or (M.az (M.fQ hr) (M.au M.aS (M.pv 6) M.ah (fun _ _=>rfl)) M.av (aW _)) (M.pw_or1 (M.az (M.fQ hr) (M.fH (M.oV hr) (M.au M.aS (M.pv 6) M.ah (fun _ _=>rfl)) (M.pv 2) rfl) (M.fH (M.fQ hr) (M.au M.aS (M.pv 6) M.ah (fun _ _=>rfl)) M.av (aW _)) (aW _)))))
       (M.ai (M.bA (M.cJ PySem.F.plainAttrs_list PySem.F.slot_list_append PySem.F.type_list_append M.bB (M.pv 3) (M.ao (M.pv 7) M.aa))))
       M.aR))
      M.aR)))
    (M.ai (M.aq (i:=4) dQ.nd rfl (Or.inl rfl) (M.aD M.bz (M.pv 4) M.ah)))))
   (M.ai (M.aL (M.pv 3)))))),fun ds S Q h => ?_⟩
  obtain ⟨n,b,es,mv,st,ms,rfl,n6,hmv,hl,hst,hsn,hms,q⟩:=h
  have e0:bf pW [mD n b es mv,.lst (nL st),.lst (ms.map D.str)]=[some (mD n b es mv),some (.lst (nL st)),some (.lst (ms.map D.str)),none,none,none,none,none]:=rfl
  rw [e0]
  push_cast [cY,jn]
  have Ew:∀ a:MO,(S++[some a])[S.length]? = some (some a):=fun a=>by simp
  have Hl:∀ a c:MO,(S++[some a]).set S.length (some c)=S++[some c]:=fun a c=>by rw [zao _ _ (zca _)];simp
  have zI:∀ ds:List D,aU (S++[some (.lst ds)]) (.loc S.length) = .lst ds:=fun a=>by simp only [aU,Ew];rfl
  obtain ⟨W,hW⟩:∃ W:Nat→bQ→aJ→Prop,W=fun μ δ S2=>∃ (i:Nat) (ks:List Nat) (v5 v6 v7:Option D),δ=[some (mD n b es mv),some (.lst (nL st)),some (.lst (ms.map D.str)),some (.loc S.length),some (.int i),v5,v6,v7]∧S2=S++[some (.lst (nL ks))]∧μ=n - i∧i≤ks.length ∧
      ks.Nodup∧(∀ s∈st,s∈ks)∧(∀ k∈ks,Reach mv ms st k)∧(∀ m∈mv,m.1∈ks.take i→hold m.2.1 ms=true→m.2.2∈ks):=⟨_,rfl⟩
  refine ⟨W,⟨n - 0,by rw [hW];exact ⟨0,st,none,none,none,rfl,rfl,rfl,zcc _,hsn,fun s hs=>hs,fun k hk=>.base hk,fun m hm h1=>by simp at h1⟩⟩,?_⟩
  intro μ δ S2 hw
  rw [hW] at hw
  obtain ⟨i,ks,v5,v6,v7,rfl,rfl,rfl,hi,hn,h1,h2,h3⟩:=hw
  have hlt:∀ k∈ks,k<n:=fun k hk=>(h2 k hk).lt hmv hst
  have hkl:=cD n ks hn hlt
  push_cast [true_and]
  refine ⟨ks.length,by rw [zI];simp [iQ,nL],d7 (fun hw => ?_) (fun hw => ?_)⟩
  ·have hw:i<ks.length:=by have:=of_decide_eq_true hw;lia
   obtain ⟨a,ea⟩:∃ a,ks[i]? = some a:=⟨_,zah hw⟩
   obtain ⟨N,hN⟩:∃ N:bQ→aJ→Prop,N=fun δ S2=>∃ (ks1:List Nat) (v5 v6 v7:Option D),δ=[some (mD n b es mv),some (.lst (nL st)),some (.lst (ms.map D.str)),some (.loc S.length),some (.int ((i+1:Nat):Int)),v5,v6,v7]∧S2=S++[some (.lst (nL ks1))]∧i+1≤ks1.length ∧
      ks1.Nodup∧(∀ s∈st,s∈ks1)∧(∀ k∈ks1,Reach mv ms st k)∧(∀ m∈mv,m.1∈ks1.take (i+1)→hold m.2.1 ms=true→m.2.2∈ks1):=⟨_,rfl⟩
   refine ⟨N,?_,?_⟩
   ·rw [hN,hW]
    rintro δ' S3 ⟨ks1,w5,w6,w7,g1,g2,g3,g4⟩
    exact ⟨n - (i+1),by lia,i+1,ks1,w5,w6,w7,g1,g2,rfl,g3,g4⟩
   ·push_cast [fc,eB,mD,aN,K33.Ew,cK]
    refine bG (fun rest δ S3=>∃ (qm rm:List Mv) (ex:List Nat) (v5 v6 v7:Option D),rest=rm.map vD∧qm++rm=mv∧δ=[some (mD n b es mv),some (.lst (nL st)),some (.lst (ms.map D.str)),some (.loc S.length),some (.int i),v5,v6,v7]∧S3=S++[some (.lst (nL (ks++ex)))] ∧
       (ks++ex).Nodup∧(∀ k∈ks++ex,Reach mv ms st k)∧(∀ m∈qm,m.1=a→hold m.2.1 ms=true→m.2.2∈ks++ex)) ?_ ?_ _ _ _ ⟨[],mv,[],v5,v6,v7,rfl,rfl,rfl,by rw [zbo],by rw [zbo];exact hn,by rw [zbo];exact h2,by simp⟩
    ·rintro δ S3 ⟨qm,rm,ex,v5,v6,v7,hr,he,rfl,rfl,g1,g2,g3⟩
     have:rm=[]:=by cases rm with
      | nil=>rfl
      | cons _ _=>simp at hr
     subst this
     rw [zbo] at he
     subst he
     refine ⟨trivial,?_⟩
     push_cast [true_and]
     rw [hN]
     refine ⟨ks++ex,_,_,_,rfl,rfl,by rw [zaE];lia,g1,fun s hs=>zas _ (h1 s hs),g2,fun m hm k1 k2 => ?_⟩
     rw [List.take_append_of_le_length (by lia),List.take_succ,ea] at k1
     rcases zbn.mp k1 with h | h
     ·exact zas _ (h3 m hm h k2)
     ·exact g3 m hm (by simpa using h) k2
    ·rintro x rest δ S3 N' ⟨qm,rm,ex,v5,v6,v7,hr,he,rfl,rfl,g1,g2,g3⟩ hN'
     cases rm with
     | nil=>simp at hr
     | cons r rm =>
      rw [zbC] at hr
      injection hr with e1 e2
      subst e1;subst e2
      have hrm:r∈mv:=by rw [← he];simp
      have ok:=hmv r hrm
      have he':(qm++[r])++rm=mv:=by rw [zaR];exact he
      have hkl1:=cD n _ g1 fun k hk=>(g2 k hk).lt hmv hst
      have skip:(r.1=a→hold r.2.1 ms=true→r.2.2∈ks++ex)→∀ v5 v6 v7,N' [some (mD n b es mv),some (.lst (nL st)),some (.lst (ms.map D.str)),some (.loc S.length),some (.int i),v5,v6,v7] (S++[some (.lst (nL (ks++ex)))]):=fun hh v5 v6 v7 =>
       hN' _ _ ⟨qm++[r],rm,ex,_,_,_,rfl,he',rfl,rfl,g1,g2,fun m hm=>by
        rcases zbn.mp hm with h | h
        ·exact g3 m h
        ·rw [zaF.mp h];exact hh⟩
      have add:r.1=a→hold r.2.1 ms=true→r.2.2 ∉ ks++ex→∀ v5 v6,pR "list" fO (fU 3) (iN (fU 7) nQ) [some (mD n b es mv),some (.lst (nL st)),some (.lst (ms.map D.str)),some (.loc S.length),some (.int i),v5,v6,some (.int r.2.2)] (S++[some (.lst (nL (ks++ex)))]) fun x S1=>N' [some (mD n b es mv),some (.lst (nL st)),some (.lst (ms.map D.str)),some (.loc S.length),some (.int i),v5,v6,some (.int r.2.2)] S1:=fun k1 k2 k3 v5 v6=>by
       push_cast [pR]
       refine ⟨by rw [zI];rfl,S.length,_,_,rfl,rfl,Ew _,by rw [nL,zbr,yaf];lia,?_⟩
       rw [Hl,show nL (ks++ex)++[D.int (r.2.2:Int)]=nL (ks++(ex++[r.2.2])) by simp [nL]]
       refine hN' _ _ ⟨qm++[r],rm,ex++[r.2.2],_,_,_,rfl,he',rfl,rfl,?_,fun k hk => ?_,fun m hm e1 e2 => ?_⟩
       ·rw [← zaR]
        exact jR g1 k3
       ·rw [← zaR] at hk
        rcases zbn.mp hk with h | h
        ·exact g2 k h
        ·rw [zaF.mp h]
         exact .go (k1 ▸ g2 a (zas _ (zau ea))) hrm k2
       ·rw [← zaR]
        rcases zbn.mp hm with h | h
        ·exact zas _ (g3 m h e1 e2)
        ·rw [zaF.mp h];simp
      refine ⟨trivial,_,rfl,rfl,_,_,rfl,_,_,rfl,_,_,rfl,rfl,?_⟩
      push_cast [true_and]
      refine DN (zI _) (show (ks++ex)[i]? = some a by rw [zad hw];exact ea) ?_
      show Ck (D.int (r.1:Int)) (D.int (a:Int)) _ _
      rw [tL]
      refine ⟨_,rfl,d7 (fun c1 => ?_) (fun c1=>skip (fun e=>absurd (yDt (by rw [e])) c1) _ _ _)⟩
      have c1:r.1=a:=by have:=of_decide_eq_true c1;lia
      refine j4 (.inl (zI _)) (by lia) ⟨_,rfl,d7 (fun c2 => ?_) (fun c2=>skip (fun _ _=>Decidable.byContradiction fun h=>c2 (by rw [yDf h];rfl)) _ _ _)⟩
      have c2:r.2.2 ∉ ks++ex:=by simpa using c2
      have lok:=ok.2.1
      cases hlf:r.2.1 with
      | stay =>
       rw [hlf] at skip add lok
       push_cast [lD,aN,K33.dM,K33.ee,gJ]
       rw [yIp (by decide),yIp (by decide)]
       exact add c1 rfl c2 _ _
      | lC =>
       rw [hlf] at skip add lok
       push_cast [lD,qM,K33.dM,K33.ee,gJ]
       rw [yIp (by decide),yIp (by decide)]
       exact add c1 rfl c2 _ _
      | step c x =>
       rw [hlf] at skip add lok
       push_cast [lD,aN,K33.dM,K33.ee,gJ]
       rw [yIn (by decide)]
       exact skip (fun _ h=>by cases h) _ _ _
      | mk c m =>
       rw [hlf] at skip add lok
       push_cast [lD,aN,K33.dM,K33.ee,gJ]
       rw [yIp (by cases c <;> decide),yIn (by cases c <;> decide)]
       refine uL (n:=0) (ss:=ms) (xB lok) (by decide) (zbe.mpr hms.2) ?_ (by have:=hms.1;lia)
       rw [nA]
       show Ck (.bl _) (.bl _) _ _
       rw [DU]
       refine ⟨_,rfl,d7 (fun c3=>add c1 ?_ c2 _ _) (fun c3=>skip (fun _ h=>absurd ?_ c3) _ _ _)⟩
       ·simp only [hold]
        cases c <;> cases hd:decide (m∈ms) <;> rw [hd] at c3 <;> first | rfl | (exact absurd c3 (by decide))
       ·simp only [hold] at h
        cases c <;> cases hd:decide (m∈ms) <;> rw [hd] at h <;> first | decide | (exact absurd h (by decide))
  ·have hw:i=ks.length:=by
    have : ¬ ((i:Int)<(ks.length:Int)):=fun h=>hw (yDt h)
    lia
   subst hw
   rw [zbf] at h3
   refine mU (n:=S.length) (zca _) (dS ks) (Ew _) (by simp) (q ks hn fun x=>⟨h2 x,fun hx=>hx.closed h1 h3⟩)
def BJ:AN:=fun ds S Q=>∃ (n b:Nat) (es:List Nat) (mv:List Mv) (st:List Nat) (sd wd:Str),ds=[mD n b es mv,.lst (nL st),.str sd,.str wd]∧n≤20∧(∀ m∈mv,Gz n m)∧mv.length≤40∧(∀ s∈st,s<n)∧st.length≤20∧kT wd=true ∧
 ∀ rs:List Nat,rs.Nodup→(∀ x,x∈rs↔G4 mv st sd wd x)→Q (.new (.lst (nL rs))) S
theorem Ga (T:Txt K mg) (F:Src K mg "_law_by" kH CW):Def P w K mg base 1 "_law_by" kH (aF K BJ):=by
 refine eY F oE (fun ds S Q h => ?_) (fun f cdv A outer s H E hr => ?_)
 ·obtain ⟨n,b,es,mv,st,sd,wd,rfl,_⟩:=h;rfl
 ·refine ⟨_,(M.af (M.aq (i:=4) oE.nd rfl (Or.inl rfl) (M.Bd (M.aO M.aa)))
   (M.af (M.bT PassesOwn.never rfl (M.bU (M.au M.aS (M.pv 0) M.ah (fun _ _=>rfl))) (M.gh (n:=3) rfl (M.bw (M.aG (i:=5) oE.nd rfl (Or.inl rfl)) (M.bw (M.aG (i:=6) oE.nd rfl (Or.inl rfl)) (M.bw (M.aG (i:=7) oE.nd rfl (Or.inl rfl)) M.dU))))
    (M.ai (M.bI (M.pw_pt (M.pw_and (M.az (M.oV hr) (M.pv 5) (M.pv 1) rfl) (M.pw_and (M.az (M.fQ hr) (M.au M.aS (M.pv 6) M.ah (fun _ _=>rfl)) M.av (aW _)) (M.pw_and (M.az (M.fQ hr) (M.au M.aS (M.pv 6) M.ah (fun _ _=>rfl)) (M.pv 2) (aW _)) (M.pw_and1 (M.az (M.oV hr) (M.au M.aS (M.pv 6) M.ah (fun _ _=>rfl)) (M.aE (M.ao M.av (M.ao (M.pv 3) M.aa))) rfl))))))
     (M.ai (M.bI (M.az (M.ni hr) (M.pv 7) (M.pv 4) rfl)
      (M.ai (M.bA (M.cJ PySem.F.plainAttrs_list PySem.F.slot_list_append PySem.F.type_list_append M.bB (M.pv 4) (M.ao (M.pv 7) M.aa))))
      M.aR))
     M.aR)))
   (M.ai (M.aL (M.pv 4))))),fun ds S Q h => ?_⟩
  obtain ⟨n,b,es,mv,st,sd,wd,rfl,n6,hmv,hl,hst,hsl,hwd,q⟩:=h
  have e0:bf za [mD n b es mv,.lst (nL st),.str sd,.str wd]=[some (mD n b es mv),some (.lst (nL st)),some (.str sd),some (.str wd),none,none,none,none]:=rfl
  rw [e0]
  push_cast [cY,fc,eB,mD,aN,K33.Ew,cK]
  have at4:∀ a:MO,(S++[some a])[S.length]? = some (some a):=fun a=>by simp
  have Hj:∀ a c:MO,(S++[some a]).set S.length (some c)=S++[some c]:=fun a c=>by rw [zao _ _ (zca _)];simp
  have EU:∀ ds:List D,aU (S++[some (.lst ds)]) (.loc S.length) = .lst ds:=fun a=>by simp only [aU,at4];rfl
  refine ⟨zcc _,bG (fun rest δ S3=>∃ (qm rm:List Mv) (ks:List Nat) (v5 v6 v7:Option D),rest=rm.map vD∧qm++rm=mv∧δ=[some (mD n b es mv),some (.lst (nL st)),some (.str sd),some (.str wd),some (.loc S.length),v5,v6,v7]∧S3=S++[some (.lst (nL ks))] ∧
       ks.Nodup∧(∀ k∈ks,k<n)∧∀ x,x∈ks↔∃ m∈qm,m.1∈st∧take m.2.1 sd wd=true∧m.2.2=x) ?_ ?_ _ _ _ ⟨[],mv,[],none,none,none,rfl,rfl,rfl,rfl,.nil,by simp,by simp⟩⟩
  ·rintro δ S3 ⟨qm,rm,ks,v5,v6,v7,hr,he,rfl,rfl,hn,hlt,hx⟩
   have:rm=[]:=by cases rm with
    | nil=>rfl
    | cons _ _=>simp at hr
   subst this
   rw [zbo] at he
   subst he
   refine ⟨trivial,?_⟩
   push_cast [true_and]
   exact mU (n:=S.length) (zca _) (dS ks) (at4 _) (by simp) (q ks hn hx)
  ·rintro x rest δ S3 N' ⟨qm,rm,ks,v5,v6,v7,hr,he,rfl,rfl,hn,hlt,hx⟩ hN'
   cases rm with
   | nil=>simp at hr
   | cons r rm =>
    rw [zbC] at hr
    injection hr with e1 e2
    subst e1;subst e2
    have hrm:r∈mv:=by rw [← he];simp
    have ok:=hmv r hrm
    have he':(qm++[r])++rm=mv:=by rw [zaR];exact he
    have hkl:=cD n ks hn hlt
    have skip:((r.1∈st∧take r.2.1 sd wd=true)→r.2.2∈ks)→∀ v5 v6 v7,N' [some (mD n b es mv),some (.lst (nL st)),some (.str sd),some (.str wd),some (.loc S.length),v5,v6,v7] (S++[some (.lst (nL ks))]):=fun hh v5 v6 v7 =>
     hN' _ _ ⟨qm++[r],rm,ks,_,_,_,rfl,he',rfl,rfl,hn,hlt,fun x=>⟨fun h=>by
       obtain ⟨m,h1,h2⟩:=(hx x).mp h
       exact ⟨m,zas _ h1,h2⟩,fun ⟨m,h1,h2,h3,h4⟩=>by
       rcases zbn.mp h1 with h | h
       ·exact (hx x).mpr ⟨m,h,h2,h3,h4⟩
       ·rw [zaF.mp h] at h2 h3 h4
        rw [← h4];exact hh ⟨h2,h3⟩⟩⟩
    have add:r.1∈st→take r.2.1 sd wd=true→r.2.2 ∉ ks→∀ v5 v6,pR "list" fO (fU 4) (iN (fU 7) nQ) [some (mD n b es mv),some (.lst (nL st)),some (.str sd),some (.str wd),some (.loc S.length),v5,v6,some (.int r.2.2)] (S++[some (.lst (nL ks))]) fun x S1=>N' [some (mD n b es mv),some (.lst (nL st)),some (.str sd),some (.str wd),some (.loc S.length),v5,v6,some (.int r.2.2)] S1:=fun k1 k2 k3 v5 v6=>by
     push_cast [pR]
     refine ⟨by rw [EU];rfl,S.length,_,_,rfl,rfl,at4 _,by rw [nL,zbr,yaf];lia,?_⟩
     rw [Hj,show nL ks++[D.int (r.2.2:Int)]=nL (ks++[r.2.2]) by simp [nL]]
     refine hN' _ _ ⟨qm++[r],rm,ks++[r.2.2],_,_,_,rfl,he',rfl,rfl,jR hn k3,fun k hk => ?_,fun x=>⟨fun h => ?_,fun ⟨m,h1,h2,h3,h4⟩ => ?_⟩⟩
     ·rcases zbn.mp hk with h | h
      ·exact hlt k h
      ·rw [zaF.mp h];exact ok.2.2
     ·rcases zbn.mp h with h | h
      ·obtain ⟨m,h1,h2⟩:=(hx x).mp h
       exact ⟨m,zas _ h1,h2⟩
      ·exact ⟨r,by simp,k1,k2,(zaF.mp h).symm⟩
     ·rcases zbn.mp h1 with h | h
      ·exact zas _ ((hx x).mpr ⟨m,h,h2,h3,h4⟩)
      ·rw [zaF.mp h] at h4
       rw [← h4];simp
    refine ⟨trivial,_,rfl,rfl,_,_,rfl,_,_,rfl,_,_,rfl,rfl,?_⟩
    push_cast [true_and]
    refine j4 (.inl rfl) (by lia) ⟨_,rfl,d7 (fun c1 => ?_) (fun c1=>skip (fun h=>absurd (by rw [yDt h.1];rfl) c1) _ _ _)⟩
    have c1:r.1∈st:=by simpa using c1
    have lok:=ok.2.1
    cases hlf:r.2.1 with
    | stay =>
     rw [hlf] at skip add lok
     push_cast [lD,aN,K33.dM,K33.ee,K33.at2]
     rw [yIn (by decide)]
     exact skip (fun h=>by cases h.2) _ _ _
    | lC =>
     rw [hlf] at skip add lok
     push_cast [lD,qM,K33.dM,K33.ee,K33.at2]
     rw [yIn (by decide)]
     exact skip (fun h=>by cases h.2) _ _ _
    | mk c m =>
     rw [hlf] at skip add lok
     push_cast [lD,aN,K33.dM,K33.ee,K33.at2]
     rw [yIn (by cases c <;> decide)]
     exact skip (fun h=>by cases h.2) _ _ _
    | step c x =>
     rw [hlf] at skip add lok
     push_cast [lD,aN,K33.dM,K33.ee,K33.at2]
     rw [yIp (by decide)]
     refine d7 (fun c2 => ?_) (fun c2=>skip (fun h=>absurd ?_ c2) _ _ _)
     ·refine ⟨sz rfl,o8 (n:=0) (ss:=["*",wd]) (vn lok) (by decide) (by simp only [zbD,List.all_nil,hwd,zbK];decide +kernel) ⟨_,rfl,d7 (fun c3 => ?_) (fun c3=>skip (fun h=>absurd ?_ c3) _ _ _)⟩ (by simp)⟩
      ·have ht:take (.step c x) sd wd=true:=by
        simp only [xV,zbE,List.any_nil,zbH,DP,Bool.false_bne] at c3
        simp only [take,c2,zbI]
        rw [Bool.or_comm];exact c3
       refine j4 (.inl (EU _)) (by lia) ⟨_,rfl,d7 (fun c4 => ?_) (fun c4=>skip (fun _=>Decidable.byContradiction fun h=>c4 (by rw [yDf h];rfl)) _ _ _)⟩
       exact add c1 ht (by simpa using c4) _ _
      ·have h:=h.2
       simp only [take,zbm] at h
       simp only [xV,zbE,List.any_nil,zbH,DP,Bool.false_bne]
       rw [Bool.or_comm];exact h.2
     ·have h:=h.2
      simp only [take,zbm] at h
      exact h.1
end
open PySem L2 M M6
mutual
noncomputable def jg:Pt→List Lf
 | .lf l=>[l]
 | .many p=>jg p
 | .seq ps | .alt ps=>cU ps
noncomputable def cU:List Pt→List Lf
 | []=>[]
 | p::ps=>jg p++cU ps
end
theorem iB:∀ (ps:List Pt) (p:Pt),cU (ps++[p])=cU ps++jg p
 | [],p=>by simp [cU]
 | q::ps,p=>by rw [zbj,cU,cU,iB ps p,zaR]
mutual
theorem qI:∀ p:Pt,eH p→∀ l∈jg p,kK l
 | .lf l,h,k,hk=>by
  simp only [jg,zaF] at hk;subst hk
  simpa only [eH] using h
 | .many p,h,k,hk=>qI p (by simpa only [eH] using h) k (by simpa only [jg] using hk)
 | .seq ps,h,k,hk=>nq ps (by simpa only [eH] using h) k (by simpa only [jg] using hk)
 | .alt ps,h,k,hk=>nq ps (by simpa only [eH] using h) k (by simpa only [jg] using hk)
theorem nq:∀ ps:List Pt,fW ps→∀ l∈cU ps,kK l
 | [],h,k,hk=>by simp [cU] at hk
 | p::ps,h,k,hk=>by
  rw [fW] at h
  rw [cU] at hk
  rcases zbn.mp hk with hk | hk
  ·exact qI p h.1 k hk
  ·exact nq ps h.2 k hk
end
mutual
theorem nu:∀ p:Pt,(jg p).length≤oc p
 | .lf l=>by simp [jg,oc]
 | .many p=>by have:=nu p;simp only [jg,oc];lia
 | .seq ps=>by have:=gK ps;simp only [jg,oc];lia
 | .alt ps=>by have:=gK ps;simp only [jg,oc];lia
theorem gK:∀ ps:List Pt,(cU ps).length≤br ps
 | []=>by simp [cU,br]
 | p::ps=>by
  have:=nu p
  have:=gK ps
  rw [cU,br,zaE];lia
end
noncomputable def gP:Pt→Str
 | .lf .stay | .lf .lC => "stay"
 | .lf (.step _ _) => "step"
 | .lf (.mk b _)=>Ao b
 | .many _ => "many"
 | .seq _ => "then"
 | .alt _ => "either"
theorem iI {p:Pt}{S:aJ}{Q:AK} (q:Q (.dat (.str (gP p))) S):kO (tD p) (.int 0) S Q:=by
 cases p with
 | lf l=>cases l <;> exact ⟨_,dM,q⟩
 | many p=>exact ⟨_,dM,q⟩
 | seq ps=>exact ⟨_,dM,q⟩
 | alt ps=>exact ⟨_,dM,q⟩
theorem FY (p:Pt):gP p∈(["stay","step","at","off","many","then","either"]:List Str):=by
 cases p with
 | lf l=>cases l with
  | mk b m=>cases b <;> simp [gP,Ao]
  | _=>simp [gP]
 | _=>simp [gP]
theorem FW (p:Pt):kT (gP p)=true:=by
 have h:=FY p
 generalize gP p=x at h
 simp only [zbB,zbh,or_false] at h
 rcases h with rfl | rfl | rfl | rfl | rfl | rfl | rfl <;> decide +kernel
theorem B9 (l:Lf):gP (.lf l) ∉ (["then","either","many"]:List Str):=by
 have h:gP (.lf l)∈(["stay","step","at","off"]:List Str):=by
  cases l with
  | mk b m=>cases b <;> simp [gP,Ao]
  | _=>simp [gP]
 generalize gP (.lf l)=x at h
 simp only [zbB,zbh,or_false] at h
 rcases h with rfl | rfl | rfl | rfl <;> decide
theorem x8 {p:Pt}{ss:List Str}{neg:Bool}{S:aJ}{Q:AK} (hs:ss.all kT=true) (hl:ss.length≤100) (q:Q (.dat (.bl (neg != decide (gP p∈ss)))) S):kO (tD p) (.int 0) S fun r S1=>ss.length≤yag∧nV neg r.d (.tup (ss.map D.str)) S1 Q :=
 iI ⟨by rw [yaf];lia,o8 (n:=0) (ss:=ss) (FW p) (by decide) hs (by rw [gf,nA];exact q) hl⟩
theorem mY {ls:List Lf}:bE (ls.map lD)=true:=b9 fun l _=>eL (.lf l)
section
variable {P:yaj}{w:yak}{K:yaE}{mg:Str→Option yai}{base:Heap}
def oi (k:Nat):AN:=fun ds S Q=>∃ p:Pt,ds=[tD p]∧dp p≤k∧oc p≤1000∧∀ r:R,r = .dat (.lst ((jg p).map lD))∨r = .new (.lst ((jg p).map lD))→Q r S
theorem yl (T:Txt K mg) (F:Src K mg "_law_leaves" dB wj) (k:Nat) (hk:k≤2) (D_law_leaves:Def P w K mg base (k+1) "_law_leaves" dB (aF K (fun ds S Q=>∃ j,j+1=k∧oi j ds S Q))):Def P w K mg base (k+2) "_law_leaves" dB (aF K (oi k)):=by
 refine eY F oA (fun ds S Q h => ?_) (fun f cdv A outer s H E hr => ?_)
 ·obtain ⟨p,rfl,_⟩:=h;rfl
 ·refine ⟨_,(M.af (M.bI (M.az (M.oV hr) (M.au M.aS (M.pv 0) M.ah (fun _ _=>rfl)) (M.aE (M.ao M.av (M.ao M.av M.aa))) rfl)
    (M.af (M.aq (i:=1) oA.nd rfl (Or.inl rfl) (M.aO M.aa))
    (M.af (M.bT PassesOwn.never rfl (M.bU (M.au M.aS (M.pv 0) M.ah (fun _ _=>rfl))) (M.aG (i:=2) oA.nd rfl (Or.inl rfl))
     (M.ai (M.aq (i:=1) oA.nd rfl (Or.inl rfl) (M.aD M.bz (M.pv 1) (M.cS D_law_leaves (hr.mono (by lia)) (by rfl) (M.ao (M.pv 2) M.aa))))))
    (M.ai (M.aL (M.pv 1)))))
    M.aR)
   (M.af (M.bI (M.az (M.fQ hr) (M.au M.aS (M.pv 0) M.ah (fun _ _=>rfl)) M.av (aW _))
    (M.ai (M.aL (M.cS D_law_leaves (hr.mono (by lia)) (by rfl) (M.ao (M.au M.aS (M.pv 0) M.ah (fun _ _=>rfl)) M.aa))))
    M.aR)
   (M.ai (M.aL (M.aO (M.ao (M.pv 0) M.aa)))))),fun ds S Q h => ?_⟩
  obtain ⟨p,rfl,hd,ho,q⟩:=h
  have e0:bf yZ [tD p]=[some (tD p),none,none]:=rfl
  rw [e0]
  push_cast [true_and]
  have parts:∀ (ps:List Pt) (j:Nat),k=j+1→yg ps≤j→br ps≤1000→p = .seq ps∨p = .alt ps→∀ X:D,X=tD p→fc (eB (qa kO (fU 0) (aC (.int 1)))) (cI 2) (yO (qa rJ (fU 1) (aCall (fun ds S Q=>∃ j,j+1=k∧oi j ds S Q) (iN (fU 2) nQ))) (cI 1)) { nx:=Bj (fU 1) { nx:=fun x S'=>M.ret S S' (R.dat D.bP) Q,rt:=fun r S'=>M.ret S S' r Q },rt:=fun r S'=>M.ret S S' r Q } [some X,some (.lst []),none] S:=by
   rintro ps j rfl hd ho hp X rfl
   have et:∀ Q':AK,Q' (.dat (.tup (nU ps))) S→kO (tD p) (.int 1) S Q':=fun Q' h=>by
    rcases hp with rfl | rfl <;> exact ⟨_,ee,h⟩
   have el:jg p=cU ps:=by rcases hp with rfl | rfl <;> simp [jg]
   push_cast [fc,eB]
   refine et _ ?_
   simp only [gf,cK]
   refine bG (fun rest δ S'=>∃ (qs rs:List Pt) (v2:Option D),rest=rs.map tD∧qs++rs=ps∧δ=[some (tD p),some (.lst ((cU qs).map lD)),v2]∧S'=S) ?_ ?_ _ _ _ ⟨[],ps,none,c9 ps,rfl,rfl,rfl⟩
   ·rintro δ S' ⟨qs,rs,v2,hr,he,rfl,rfl⟩
    have:rs=[]:=by cases rs with
     | nil=>rfl
     | cons _ _=>simp at hr
    subst this
    rw [zbo] at he
    subst he
    refine ⟨trivial,?_⟩
    push_cast [true_and]
    exact bM (by simp only [bN,mY]) (q _ (.inl (by rw [el])))
   ·rintro x rest δ S' N' ⟨qs,rs,v2,hr,he,rfl,rfl⟩ hN'
    cases rs with
    | nil=>simp at hr
    | cons r rs =>
     rw [zbC] at hr
     injection hr with e1 e2
     subst e1;subst e2
     have hm:r∈ps:=by rw [← he];simp
     have h1:=fK r hm
     have h2:=sR r hm
     have h3:(cU qs).length+(jg r).length≤1000:=by
      have:(cU (qs++[r])).length≤1000:=by
       have e:cU ps=cU (qs++[r])++cU rs:=by
        rw [← he,show qs++r::rs=(qs++[r])++rs by simp]
        generalize qs++[r]=l
        induction l with
        | nil=>rfl
        | cons a l ih=>rw [zbj,cU,cU,ih,zaR]
       have:=gK ps
       rw [e,zaE] at this;lia
      rw [iB,zaE] at this;exact this
     refine ⟨trivial,?_⟩
     push_cast [true_and]
     refine ⟨j,rfl,r,rfl,by lia,by lia,fun rr hrr => ?_⟩
     have e3:rr.d = .lst ((jg r).map lD):=by rcases hrr with rfl | rfl <;> rfl
     show rJ (.lst ((cU qs).map lD)) rr.d S' _
     rw [e3,kB]
     refine ⟨by rw [zbr,zbr,yaf];lia,hN' _ _ ⟨qs++[r],rs,some (tD r),rfl,by rw [zaR];exact he,?_,rfl⟩⟩
     rw [iB,zbu];rfl
  refine x8 (ss:=["then","either"]) (by decide +kernel) (by decide) ⟨_,rfl,?_⟩
  cases p with
  | seq ps =>
   obtain ⟨j,rfl⟩:∃ j,k=j+1:=⟨k - 1,by simp only [dp] at hd;lia⟩
   rw [yIp (by simp [gP])]
   exact ⟨zcc _,parts ps j rfl (by simp only [dp] at hd;lia) (by simp only [oc] at ho;lia) (.inl rfl) _ rfl⟩
  | alt ps =>
   obtain ⟨j,rfl⟩:∃ j,k=j+1:=⟨k - 1,by simp only [dp] at hd;lia⟩
   rw [yIp (by simp [gP])]
   exact ⟨zcc _,parts ps j rfl (by simp only [dp] at hd;lia) (by simp only [oc] at ho;lia) (.inr rfl) _ rfl⟩
  | many p =>
   obtain ⟨j,rfl⟩:∃ j,k=j+1:=⟨k - 1,by simp only [dp] at hd;lia⟩
   rw [yIn (by simp [gP];decide)]
   refine iI ?_
   push_cast [gP]
   rw [yIp (by decide)]
   push_cast [tD,aN,ee]
   refine ⟨j,rfl,p,rfl,by simp only [dp] at hd;lia,by simp only [oc] at ho;lia,fun r hr => ?_⟩
   rcases hr with rfl | rfl
   ·exact bM (by simp only [bN,mY]) (q _ (.inl (by simp only [jg])))
   ·exact dg mY (q _ (.inr (by simp only [jg])))
  | lf l =>
   have hh:=B9 l
   rw [yIn (by
    rw [yDf fun h=>hh (by simp only [zbB,zbh,or_false] at h ⊢;rcases h with h | h <;> simp [h])];decide)]
   refine iI ?_
   push_cast [true_and]
   rw [yIn (by
    rw [yDf fun h=>hh (by rw [h];simp)];decide)]
   exact ⟨sz rfl,dg (by simp [bE,eL]) (q _ (.inr (by simp only [jg];rfl)))⟩
theorem AZ {k:Nat}{sp:AN} (F:Src K mg "_law_leaves" dB wj) (h:∀ ds S Q,¬ sp ds S Q):Def P w K mg base (k+1) "_law_leaves" dB (aF K sp) :=
 F.def oA (fun vs H Q E z=>by obtain ⟨_,_,_,_,_,_,q,_⟩:=z;exact (h _ _ _ q).elim) fun f cdv A outer s H vs Q E hr z=>by obtain ⟨_,_,_,_,_,_,q,_⟩:=z;exact (h _ _ _ q).elim
theorem Ce (T:Txt K mg) (F:Src K mg "_law_leaves" dB wj):∀ k,k≤2→Def P w K mg base (k+2) "_law_leaves" dB (aF K (oi k))
 | 0,h=>yl T F 0 h (AZ F fun ds S Q ⟨j,e,_⟩=>by lia)
 | k+1,h=>yl T F (k+1) h ((Ce T F k (by lia)).imp fun vs H Q E z=>by
   obtain ⟨w,ds,S,Qa,ok,rep,⟨j,e,q⟩,bk⟩:=z
   obtain rfl:j=k:=by lia
   exact ⟨w,ds,S,Qa,ok,rep,q,bk⟩)
end
open PySem L2 M M6
noncomputable abbrev we:Stmt:=top 20
noncomputable abbrev yW:List Str:=["_law_pattern_here","_law_one","_law_moves","_law_last","_law_part_here","_law_inner","_law_ends","_law_end"]
noncomputable abbrev dz:List Str:=["_law_pattern_here","_law_one","_law_moves","_law_last"]
theorem eO:aP yW dz (ak we):=L2.eu
noncomputable def sL (l:List Str):D:=.lst (l.map D.str)
structure II (L:List (List Str)) (n:Nat):Prop where
 len:L.length≤2 ^ n
 one:∀ l∈L,l.length≤n∧∀ x∈l,kT x=true
theorem zY {L:List (List Str)}:bE (L.map sL)=true:=b9 fun l _=>by
 unfold sL
 simp only [bN]
 exact b9 fun x _=>rfl
theorem lX {P:aJ→Prop}{e:AE}{Q:List M.D→aJ→Prop}{δ:bQ}{S:aJ} (f:M.D→M.D) (hP:P S):∀ (xs acc:List M.D) (δ':bQ),δ'.set 0 none=δ.set 0 none→(∀ x∈xs,∀ Q:AK,(∀ r:R,r.d=f x→Q r S)→e (δ.set 0 (some x)) S Q)→acc.length+xs.length≤yag→Q (acc++xs.map f) S →
  e7 P (cI 0) uX e xs acc δ' S Q
 | [],acc,δ',_,_,_,q=>⟨hP,by simpa using q⟩
 | x::xs,acc,δ',hd,h,hl,q=>by
  refine ⟨hP,?_⟩
  have e1:δ'.set 0 (some x)=δ.set 0 (some x):=by
   have:=congrArg (fun l=>l.set 0 (some x)) hd
   simpa [List.set_set] using this
  simp only [cI,uX,if_true]
  rw [e1]
  refine h x (by simp) _ fun r hr=>⟨by simp at hl;lia,?_⟩
  rw [hr]
  refine lX f hP xs _ _ (by simp [List.set_set]) (fun y hy=>h y (by simp [hy])) (by simp at hl ⊢;lia) ?_
  simpa [zaR] using q
section
variable {P:yaj}{w:yak}{K:yaE}{mg:Str→Option yai}{base:Heap}
def vK:AN:=fun ds S Q=>∃ ss:List Str,ds=[.lst (ss.map D.str)]∧ss.length≤10∧(∀ x∈ss,kT x=true)∧∀ L:List (List Str),II L ss.length→Q (.dat (.lst (L.map sL))) S
theorem DV (T:Txt K mg) (F:Src K mg "_law_sets" ic vZ):Def P w K mg base 1 "_law_sets" ic (aF K vK):=by
 refine eY F mP (fun ds S Q h => ?_) (fun f cdv A outer s H E hr => ?_)
 ·obtain ⟨ss,rfl,_⟩:=h;rfl
 ·refine ⟨_,(M.af (M.aq (i:=1) mP.nd rfl (Or.inl rfl) (M.aO (M.ao (M.aO M.aa) M.aa)))
   (M.af (M.bT PassesOwn.never rfl (M.bU (M.pv 0)) (M.aG (i:=2) mP.nd rfl (Or.inr rfl))
    (M.ai (M.aq (i:=1) mP.nd rfl (Or.inl rfl) (M.aD M.bz (M.pv 1) (M.dX (N:=["_law_rest","_law_one"]) (caps:=[none,some 2]) (pN (by decide +kernel)) (by rfl) (by rfl) rfl (M.bU (M.pv 1)) (fun _ _ _ _=>(M.aG (i:=0) (by decide +kernel:List.Nodup (["_law_rest","_law_one"]:List Str)) rfl (Or.inl rfl))) (fun _ _ _ _=>M.i8) (fun _ _ _ _=>(M.aD M.bz (M.pv 0) (M.aO (M.ao (M.pv 1) M.aa)))))))))
   (M.ai (M.aL (M.pv 1))))),fun ds S Q h => ?_⟩
  obtain ⟨ss,rfl,hl,hs,q⟩:=h
  have e0:bf tY [.lst (ss.map D.str)]=[some (.lst (ss.map D.str)),none,none]:=rfl
  rw [e0]
  push_cast [fc,eB,cK]
  refine ⟨zcc _,sz rfl,?_⟩
  refine bG (fun rest δ S'=>∃ (qs rs:List Str) (L:List (List Str)) (v2:Option D),rest=rs.map D.str∧qs++rs=ss∧δ=[some (.lst (ss.map D.str)),some (.lst (L.map sL)),v2]∧S'=S∧II L qs.length) ?_ ?_ _ _ _ ⟨[],ss,[[]],none,rfl,rfl,rfl,rfl,⟨by simp,by simp⟩⟩
  ·rintro δ S' ⟨qs,rs,L,v2,hr,he,rfl,rfl,hL⟩
   have:rs=[]:=by cases rs with
    | nil=>rfl
    | cons _ _=>simp at hr
   subst this
   rw [zbo] at he
   subst he
   refine ⟨trivial,?_⟩
   push_cast [true_and]
   exact bM (by simp only [bN,zY]) (q L hL)
  ·rintro x rest δ S' N' ⟨qs,rs,L,v2,hr,he,rfl,rfl,hL⟩ hN'
   cases rs with
   | nil=>simp at hr
   | cons r rs =>
    rw [zbC] at hr
    injection hr with e1 e2
    subst e1;subst e2
    have hm:kT r=true:=hs r (by rw [← he];simp)
    have hq:qs.length<10:=by have:=congrArg zbZ he;simp at this;lia
    have h2:(2:Nat) ^ qs.length≤2 ^ 10:=zaw (by lia) (by lia)
    have hL1:=hL.len
    refine ⟨trivial,?_⟩
    push_cast [mj,eB,cK]
    refine lX (δ:=[none,some (.str r)]) (fun d=>match d with | .lst es=>.lst (es++[.str r]) | d=>d) trivial _ [] _ rfl (fun d hd Q' q' => ?_) (by rw [zbr,yaf];simp;lia) ?_
    ·obtain ⟨l,hl,rfl⟩:=zbO.mp hd
     have:=(hL.one l hl).1
     push_cast [sL]
     exact ⟨sz rfl,by rw [zbr,yaf];simp;lia,q' _ rfl⟩
    ·have e3:(L.map sL).map (fun d=>match d with | .lst es=>D.lst (es++[.str r]) | d=>d)=(L.map (· ++ [r])).map sL:=by
      rw [zbP,zbP]
      refine zaA fun l _ => ?_
      simp [sL]
     rw [zbs,e3]
     refine ⟨by simp only [zbr];rw [yaf];lia,?_⟩
     rw [← zbu]
     refine hN' _ _ ⟨qs++[r],rs,L++L.map (· ++ [r]),some (.str r),rfl,by rw [zaR];exact he,rfl,rfl,⟨?_,fun l hl => ?_⟩⟩
     ·rw [zaE,zbr,zaE]
      show _≤2 ^ (qs.length+1)
      rw [Nat.pow_succ];lia
     ·rw [zaE]
      show _≤qs.length+1∧_
      rcases zbn.mp hl with h | h
      ·have:=hL.one l h;exact ⟨by lia,this.2⟩
      ·obtain ⟨k,hk,rfl⟩:=zbO.mp h
       have:=hL.one k hk
       refine ⟨by simp;lia,fun x hx => ?_⟩
       rcases zbn.mp hx with h | h
       ·exact this.2 x h
       ·rw [zaF.mp h];exact hm
end
open PySem L2 M M6
theorem gU:∀ (ps:List Pt) (n:Nat),(ends ps n).length=ps.length
 | [],n=>by simp [ends]
 | p::ps,n=>by simp [ends,gU ps]
mutual
theorem jL:∀ (p:Pt) (a n:Nat),(om p a n).length+1≤2*oc p
 | .lf l,a,n=>by simp [om,oc]
 | .seq ps,a,n=>by have:=nc ps (n+1);simp only [om,oc,zbk];lia
 | .many p,a,n=>by have:=jL p (n+1) (n+1);simp only [om,oc,zbk,zaE,zbv];lia
 | .alt ps,a,n=>by have:=jd ps a n;simp only [om,oc,zaE,zbr,gU];lia
theorem nc:∀ (ps:List Pt) (n:Nat),(kN ps n).length≤2*br ps
 | [],n=>by simp [kN]
 | p::ps,n=>by
  have:=jL p n n
  have:=nc ps (n+oc p)
  simp only [kN,br,zaE];lia
theorem jd:∀ (ps:List Pt) (a n:Nat),(iP ps a n).length+ps.length≤2*br ps
 | [],a,n=>by simp [iP]
 | p::ps,a,n=>by
  have:=jL p a n
  have:=jd ps a (n+oc p)
  simp only [iP,br,zaE,zbk];lia
end
theorem zX {mv:List Mv}:bE (mv.map vD)=true:=b9 fun m _=>by rw [← vp];exact j8 _
theorem gz {S T:aJ}{q:Nat}{mv:List Mv}{d:D}{Q:AK} (h:bN d=true) (k:Q (.dat d) (S.set q (some (.lst (mv.map vD))))):M.ret S (S.set q (some (.lst (mv.map vD)))++T) (.dat d) Q:=by
 refine ⟨_,m7 h,fun j o hj e => ?_,by rw [List.take_left' (by simp)];exact k⟩
 rw [zad (by simpa using hj)] at e
 by_cases hjq:q=j
 ·subst hjq
  rw [zaS,yIp rfl,yIp hj] at e
  have e:MO.lst (mv.map vD)=o:=by simpa using e
  subst e
  exact .inr (dJ _ _ zX)
 ·rw [zat hjq] at e
  exact .inl e
theorem oQ:∀ (qs:List Pt) (r:Pt) (m:Nat),kN (qs++[r]) m=kN qs m++om r (m+br qs) (m+br qs)
 | [],r,m=>by simp [kN,br]
 | p::qs,r,m=>by
  rw [zbj,kN,kN,oQ qs r,br,zaR,zbG]
theorem oR:∀ (qs:List Pt) (r:Pt) (a m:Nat),iP (qs++[r]) a m=iP qs a m++om r a (m+br qs)
 | [],r,a,m=>by simp [iP,br]
 | p::qs,r,a,m=>by
  rw [zbj,iP,iP,oR qs r,br,zaR,zbG]
theorem lW:∀ (qs:List Pt) (r:Pt) (m:Nat),ends (qs++[r]) m=ends qs m++[m+br qs+oc r]
 | [],r,m=>by simp [ends,br]
 | p::qs,r,m=>by
  rw [zbj,ends,ends,lW qs r,br,zbj,zbG m]
theorem gj:∀ (a b:List Pt),br (a++b)=br a+br b
 | [],b=>by simp [br]
 | p::a,b=>by rw [zbj,br,br,gj a b];lia
section
variable {P:yaj}{w:yak}{K:yaE}{mg:Str→Option yai}{base:Heap}
def rV (k:Nat):AN:=fun ds S Q=>∃ (p:Pt) (a n q:Nat) (mv:List Mv),ds=[tD p,.int a,.loc q,.int n]∧dp p≤k∧S[q]? = some (some (.lst (mv.map vD)))∧mv.length+2*oc p≤1000∧Q (.dat (.int ((n+oc p:Nat):Int))) (S.set q (some (.lst ((mv++om p a n).map vD))))
theorem yk (T:Txt K mg) (F:Src K mg "_law_own" dz we) (k:Nat) (hk:k≤2) (D_law_own:Def P w K mg base (k+1) "_law_own" dz (aF K (fun ds S Q=>∃ j,j+1=k∧rV j ds S Q))):Def P w K mg base (k+2) "_law_own" dz (aF K (rV k)):=by
 refine eY F eO (fun ds S Q h => ?_) (fun f cdv A outer s H E hr => ?_)
 ·obtain ⟨p,a,n,q,mv,rfl,_⟩:=h;rfl
 ·refine ⟨_,(M.af (M.bI (M.az (M.ni hr) (M.au M.aS (M.pv 0) M.ah (fun _ _=>rfl)) (M.aE (M.ao M.av (M.ao M.av (M.ao M.av M.aa)))) rfl)
    (M.af (M.bA (M.cJ PySem.F.plainAttrs_list PySem.F.slot_list_append PySem.F.type_list_append M.bB (M.pv 2) (M.ao (M.aE (M.ao (M.pv 1) (M.ao (M.pv 0) (M.ao (M.aD M.bz (M.pv 3) M.ah) M.aa)))) M.aa)))
    (M.ai (M.aL (M.aD M.bz (M.pv 3) M.ah))))
    M.aR)
   (M.af (M.bI (M.az (M.fQ hr) (M.au M.aS (M.pv 0) M.ah (fun _ _=>rfl)) M.av (aW _))
    (M.af (M.bA (M.cJ PySem.F.plainAttrs_list PySem.F.slot_list_append PySem.F.type_list_append M.bB (M.pv 2) (M.ao (M.aE (M.ao (M.pv 1) (M.ao (M.aE (M.ao M.av M.aa)) (M.ao (M.aD M.bz (M.pv 3) M.ah) M.aa)))) M.aa)))
    (M.af (M.aq (i:=3) eO.nd rfl (Or.inl rfl) (M.aD M.bz (M.pv 3) M.ah))
    (M.af (M.bT PassesOwn.never rfl (M.bU (M.au M.aS (M.pv 0) M.ah (fun _ _=>rfl))) (M.aG (i:=4) eO.nd rfl (Or.inl rfl))
     (M.ai (M.aq (i:=3) eO.nd rfl (Or.inl rfl) (M.cS D_law_own (hr.mono (by lia)) (by rfl) (M.ao (M.pv 4) (M.ao (M.pv 3) (M.ao (M.pv 2) (M.ao (M.pv 3) M.aa))))))))
    (M.ai (M.aL (M.pv 3))))))
    M.aR)
   (M.af (M.bI (M.az (M.fQ hr) (M.au M.aS (M.pv 0) M.ah (fun _ _=>rfl)) M.av (aW _))
    (M.af (M.aq (i:=5) eO.nd rfl (Or.inl rfl) (M.aD M.bz (M.pv 3) M.ah))
    (M.af (M.bA (M.cJ PySem.F.plainAttrs_list PySem.F.slot_list_append PySem.F.type_list_append M.bB (M.pv 2) (M.ao (M.aE (M.ao (M.pv 1) (M.ao (M.aE (M.ao M.av M.aa)) (M.ao (M.pv 5) M.aa)))) M.aa)))
    (M.af (M.aq (i:=3) eO.nd rfl (Or.inl rfl) (M.cS D_law_own (hr.mono (by lia)) (by rfl) (M.ao (M.au M.aS (M.pv 0) M.ah (fun _ _=>rfl)) (M.ao (M.pv 5) (M.ao (M.pv 2) (M.ao (M.pv 5) M.aa))))))
    (M.af (M.bA (M.cJ PySem.F.plainAttrs_list PySem.F.slot_list_append PySem.F.type_list_append M.bB (M.pv 2) (M.ao (M.aE (M.ao (M.pv 3) (M.ao (M.aE (M.ao M.av M.aa)) (M.ao (M.pv 5) M.aa)))) M.aa)))
    (M.af (M.bA (M.cJ PySem.F.plainAttrs_list PySem.F.slot_list_append PySem.F.type_list_append M.bB (M.pv 2) (M.ao (M.aE (M.ao (M.pv 5) (M.ao (M.aE (M.ao M.av M.aa)) (M.ao (M.aD M.bz (M.pv 3) M.ah) M.aa)))) M.aa)))
    (M.ai (M.aL (M.aD M.bz (M.pv 3) M.ah))))))))
    M.aR)
   (M.af (M.aq (i:=6) eO.nd rfl (Or.inl rfl) (M.Bd (M.aO M.aa)))
   (M.af (M.bT PassesOwn.never rfl (M.bU (M.au M.aS (M.pv 0) M.ah (fun _ _=>rfl))) (M.aG (i:=4) eO.nd rfl (Or.inl rfl))
    (M.af (M.aq (i:=3) eO.nd rfl (Or.inl rfl) (M.cS D_law_own (hr.mono (by lia)) (by rfl) (M.ao (M.pv 4) (M.ao (M.pv 1) (M.ao (M.pv 2) (M.ao (M.pv 3) M.aa))))))
    (M.ai (M.bA (M.cJ PySem.F.plainAttrs_list PySem.F.slot_list_append PySem.F.type_list_append M.bB (M.pv 6) (M.ao (M.pv 3) M.aa))))))
   (M.af (M.bT PassesOwn.never rfl (M.bU (M.pv 6)) (M.aG (i:=7) eO.nd rfl (Or.inl rfl))
    (M.ai (M.bA (M.cJ PySem.F.plainAttrs_list PySem.F.slot_list_append PySem.F.type_list_append M.bB (M.pv 2) (M.ao (M.aE (M.ao (M.pv 7) (M.ao (M.aE (M.ao M.av M.aa)) (M.ao (M.aD M.bz (M.pv 3) M.ah) M.aa)))) M.aa)))))
   (M.ai (M.aL (M.aD M.bz (M.pv 3) M.ah))))))))),fun ds S Q h => ?_⟩
  obtain ⟨p,a,n,q,mv,rfl,hd,hS,hm,hq⟩:=h
  have e0:bf yW [tD p,.int a,.loc q,.int n]=[some (tD p),some (.int a),some (.loc q),some (.int n),none,none,none,none]:=rfl
  rw [e0]
  have hqs:q<S.length:=(zac.mp hS).1
  have hop:=cH p
  have at_:∀ (o:MO) (T:aJ),(S.set q (some o)++T)[q]? = some (some o):=fun o T=>by
   rw [zad (by simpa using hqs),zaS,yIp rfl,yIp hqs]
  have zG:∀ (o o':MO) (T:aJ),(S.set q (some o)++T).set q (some o')=S.set q (some o')++T:=fun o o' T=>by
   rw [List.set_append_left _ _ (by simpa using hqs),List.set_set]
  have hS0:S=S.set q (some (.lst (mv.map vD)))++[]:=by
   rw [zbo]
   refine List.ext_getElem? fun i => ?_
   by_cases h:q=i
   ·subst h;rw [zaS,yIp rfl,yIp hqs];exact hS
   ·rw [zat h]
  have EA:qN "list" (aU S (.loc q)):=by simp only [aU,hS];rfl
  have tyq:∀ (mv:List Mv) (T:aJ),qN "list" (aU (S.set q (some (.lst (mv.map vD)))++T) (.loc q)):=fun mv T=>by simp only [aU,at_];rfl
  have app:∀ (mv:List Mv) (m:Mv) (T:aJ) (Q':AK),mv.length<10000→Q' (.dat .bP) (S.set q (some (.lst ((mv++[m]).map vD)))++T)→fO (.loc q) [vD m] (S.set q (some (.lst (mv.map vD)))++T) Q':=fun mv m T Q' h1 h2=>by
   refine ⟨q,_,_,rfl,rfl,at_ _ _,by rw [zbr,yaf];lia,?_⟩
   rw [zG,show mv.map vD++[vD m]=(mv++[m]).map vD by rw [zbu];rfl];exact h2
  have Gk:∀ (m:Mv) (Q':AK),Q' (.dat .bP) (S.set q (some (.lst ((mv++[m]).map vD)))++[])→fO (.loc q) [vD m] S Q':=fun m Q' h2=>by
   refine ⟨q,_,_,rfl,rfl,hS,by rw [zbr,yaf];lia,?_⟩
   rw [show mv.map vD++[vD m]=(mv++[m]).map vD by rw [zbu];rfl]
   rw [zbo] at h2;exact h2
  push_cast [true_and]
  refine x8 (ss:=["then","either","many"]) (by decide +kernel) (by decide) ⟨_,rfl,?_⟩
  cases p with
  | lf l =>
   rw [yIp (by rw [yDf (B9 l)];rfl)]
   push_cast [pR]
   refine ⟨by simp only [aU,hS];rfl,sz rfl,q,_,_,rfl,rfl,hS,by rw [zbr,yaf];lia,?_⟩
   rw [show mv.map vD++[D.tup [.int a,tD (.lf l),.int ((n:Int)+1)]]=(mv++om (.lf l) a n).map vD by rw [zbu];rfl]
   have:=gz (T:=[]) (Q:=Q) (S:=S) (q:=q) (mv:=mv++om (.lf l) a n) (d:=.int ((n+oc (.lf l):Nat):Int)) rfl hq
   rw [zbo] at this
   exact this
  | seq ps =>
   obtain ⟨j,rfl⟩:∃ j,k=j+1:=⟨k - 1,by simp only [dp] at hd;lia⟩
   rw [yIn (by simp [gP])]
   refine iI ?_
   push_cast [gP]
   rw [yIp (by decide)]
   simp only [oc,dp] at hm hd hq hop
   push_cast [pR,fc,eB]
   refine ⟨EA,sz rfl,sz rfl,Gk (a,.stay,n+1) _ ?_⟩
   push_cast [tD,aN,K33.ee,cK]
   refine bG (fun rest δ S'=>∃ (qs rs:List Pt) (v4:Option D),rest=rs.map tD∧qs++rs=ps∧δ=[some (tD (.seq ps)),some (.int a),some (.loc q),some (.int ((n+1+br qs:Nat):Int)),v4,none,none,none]∧S'=S.set q (some (.lst ((mv++(a,.stay,n+1)::kN qs (n+1)).map vD)))++[]) ?_ ?_ _ _ _ ⟨[],ps,none,c9 ps,rfl,rfl,rfl⟩
   ·rintro δ S' ⟨qs,rs,v4,hr,he,rfl,rfl⟩
    have:rs=[]:=by cases rs with
     | nil=>rfl
     | cons _ _=>simp at hr
    subst this
    rw [zbo] at he
    subst he
    refine ⟨trivial,?_⟩
    push_cast [true_and]
    rw [show n+1+br qs=n+(br qs+1) by lia]
    exact gz rfl hq
   ·rintro x rest δ S' N' ⟨qs,rs,v4,hr,he,rfl,rfl⟩ hN'
    cases rs with
    | nil=>simp at hr
    | cons r rs =>
     rw [zbC] at hr
     injection hr with e1 e2
     subst e1;subst e2
     have hmem:r∈ps:=by rw [← he];simp
     have h1:=fK r hmem
     have h2:br qs+oc r+br rs=br ps:=by rw [← he,gj,br];lia
     have h3:=nc qs (n+1)
     refine ⟨trivial,?_⟩
     push_cast [true_and]
     refine ⟨j,rfl,r,n+1+br qs,n+1+br qs,q,_,rfl,by lia,at_ _ _,by simp only [zaE,zbk];lia,?_⟩
     rw [zG]
     refine hN' _ _ ⟨qs++[r],rs,some (tD r),rfl,by rw [zaR];exact he,?_,?_⟩
     ·rw [gH,zbG (n+1)];rfl
     ·rw [oQ,zaR,zbj]
  | many p =>
   obtain ⟨j,rfl⟩:∃ j,k=j+1:=⟨k - 1,by simp only [dp] at hd;lia⟩
   rw [yIn (by simp [gP])]
   refine iI ?_
   push_cast [gP]
   rw [yIn (by decide)]
   refine iI ?_
   push_cast [gP]
   rw [yIp (by decide)]
   simp only [oc,dp] at hm hd hq hop
   push_cast [pR]
   refine ⟨EA,sz rfl,sz rfl,Gk (a,.stay,n+1) _ ?_⟩
   push_cast [tD,aN,K33.ee]
   have h3:=jL p (n+1) (n+1)
   refine ⟨j,rfl,p,n+1,n+1,q,_,rfl,by lia,at_ _ _,by simp only [zaE,zbk,zbv];lia,?_⟩
   rw [zG]
   push_cast [true_and]
   refine ⟨tyq _ _,sz rfl,sz rfl,app _ (n+1+oc p,.stay,n+1) [] _ (by simp only [zaE,zbk,zbv];lia) ⟨tyq _ _,sz rfl,sz rfl,app _ (n+1,.stay,n+1+oc p+1) [] _ (by simp only [zaE,zbk,zbv];lia) ?_⟩⟩
   have e:mv++[((a,Lf.stay,n+1):Mv)]++om p (n+1) (n+1)++[(n+1+oc p,.stay,n+1)]++[(n+1,.stay,n+1+oc p+1)]=mv++om (.many p) a n:=by
    simp [om]
   rw [e]
   have e2:((n+1+oc p:Nat):Int)+1=((n+(oc p+2):Nat):Int):=by lia
   rw [e2]
   exact gz rfl hq
  | alt ps =>
   obtain ⟨j,rfl⟩:∃ j,k=j+1:=⟨k - 1,by simp only [dp] at hd;lia⟩
   rw [yIn (by simp [gP])]
   refine iI ?_
   push_cast [gP]
   rw [yIn (by decide)]
   refine iI ?_
   push_cast [gP]
   rw [yIn (by decide)]
   simp only [oc,dp] at hm hd hq hop
   push_cast [cY,fc,eB,tD,aN,K33.ee,cK]
   have aT:∀ (o:Option MO) (x:MO),(S.set q o++[some x])[S.length]? = some (some x):=fun o x=>by
    rw [zab (by simp)];simp
   have sT:∀ (o x y:Option MO),(S.set q o++[x]).set S.length y=S.set q o++[y]:=fun o x y=>by
    rw [zao _ _ (by simp)];simp
   refine ⟨zcc _,bG (fun rest δ S'=>∃ (qs rs:List Pt) (v4:Option D),rest=rs.map tD∧qs++rs=ps∧δ=[some (tD (.alt ps)),some (.int a),some (.loc q),some (.int ((n+br qs:Nat):Int)),v4,none,some (.loc S.length),none]∧S'=S.set q (some (.lst ((mv++iP qs a n).map vD)))++[some (.lst (nL (ends qs n)))]) ?_ ?_ _ _ _ ⟨[],ps,none,c9 ps,rfl,rfl,?_⟩⟩
   ·rintro δ S' ⟨qs,rs,v4,hr,he,rfl,rfl⟩
    have:rs=[]:=by cases rs with
     | nil=>rfl
     | cons _ _=>simp at hr
    subst this
    rw [zbo] at he
    subst he
    refine ⟨trivial,?_⟩
    push_cast [fc,eB,cK]
    have h4:=jd qs a n
    refine ⟨_,aT _ _,?_⟩
    refine bG (fun rest δ S'=>∃ (e1 e2:List Nat) (v7:Option D),rest=nL e2∧e1++e2=ends qs n∧δ=[some (tD (.alt qs)),some (.int a),some (.loc q),some (.int ((n+br qs:Nat):Int)),v4,none,some (.loc S.length),v7]∧S'=S.set q (some (.lst ((mv++iP qs a n++e1.map fun e=>((e,Lf.stay,n+br qs+1):Mv)).map vD)))++[some (.lst (nL (ends qs n)))]) ?_ ?_ _ _ _ ⟨[],ends qs n,none,rfl,rfl,rfl,by simp⟩
    ·rintro δ S' ⟨e1,e2,v7,hr,he,rfl,rfl⟩
     have:e2=[]:=by cases e2 with
      | nil=>rfl
      | cons _ _=>simp [nL] at hr
     subst this
     rw [zbo] at he
     subst he
     refine ⟨aT _ _,?_⟩
     push_cast [true_and]
     have e2:((n+br qs:Nat):Int)+1=((n+(br qs+1):Nat):Int):=by lia
     rw [e2,zaR]
     exact gz rfl (by rw [om] at hq;exact hq)
    ·rintro x rest δ S' N' ⟨e1,e2,v7,hr,he,rfl,rfl⟩ hN'
     cases e2 with
     | nil=>simp [nL] at hr
     | cons r e2 =>
      rw [nL,zbC] at hr
      injection hr with z1 z2
      subst z1;subst z2
      have hel:e1.length≤qs.length:=by
       have:=congrArg zbZ he
       rw [gU,zaE] at this;lia
      refine ⟨aT _ _,?_⟩
      push_cast [pR]
      refine ⟨tyq _ _,sz rfl,sz rfl,app _ (r,.stay,n+br qs+1) _ _ (by simp only [zaE,zbr];lia) ?_⟩
      refine hN' _ _ ⟨e1++[r],e2,some (.int r),rfl,by rw [zaR];exact he,rfl,?_⟩
      rw [zbu (f:=fun e=>((e,Lf.stay,n+br qs+1):Mv)),← zaR (mv++iP qs a n)];rfl
   ·rintro x rest δ S' N' ⟨qs,rs,v4,hr,he,rfl,rfl⟩ hN'
    cases rs with
    | nil=>simp at hr
    | cons r rs =>
     rw [zbC] at hr
     injection hr with e1 e2
     subst e1;subst e2
     have hmem:r∈ps:=by rw [← he];simp
     have h1:=fK r hmem
     have h2:br qs+oc r+br rs=br ps:=by rw [← he,gj,br];lia
     have h3:=jd qs a n
     refine ⟨trivial,?_⟩
     push_cast [pR]
     refine ⟨j,rfl,r,a,n+br qs,q,_,rfl,by lia,at_ _ _,by simp only [zaE];lia,?_⟩
     rw [zG]
     push_cast [true_and]
     refine ⟨by simp only [aU,aT];rfl,S.length,nL (ends qs n),_,rfl,rfl,aT _ _,by rw [nL,zbr,gU,yaf];lia,?_⟩
     rw [sT]
     refine hN' _ _ ⟨qs++[r],rs,some (tD r),rfl,by rw [zaR];exact he,?_,?_⟩
     ·rw [gH,zbG n]
     ·rw [oR,lW,zaR];simp [nL]
   ·rw [hS0];simp [iP,ends,nL]
theorem AY {k:Nat}{sp:AN} (F:Src K mg "_law_own" dz we) (h:∀ ds S Q,¬ sp ds S Q):Def P w K mg base (k+1) "_law_own" dz (aF K sp) :=
 F.def eO (fun vs H Q E z=>by obtain ⟨_,_,_,_,_,_,q,_⟩:=z;exact (h _ _ _ q).elim) fun f cdv A outer s H vs Q E hr z=>by obtain ⟨_,_,_,_,_,_,q,_⟩:=z;exact (h _ _ _ q).elim
theorem Cd (T:Txt K mg) (F:Src K mg "_law_own" dz we):∀ k,k≤2→Def P w K mg base (k+2) "_law_own" dz (aF K (rV k))
 | 0,h=>yk T F 0 h (AY F fun ds S Q ⟨j,e,_⟩=>by lia)
 | k+1,h=>yk T F (k+1) h ((Cd T F k (by lia)).imp fun vs H Q E z=>by
   obtain ⟨w,ds,S,Qa,ok,rep,⟨j,e,q⟩,bk⟩:=z
   obtain rfl:j=k:=by lia
   exact ⟨w,ds,S,Qa,ok,rep,q,bk⟩)
end
open PySem L2 M M6
noncomputable abbrev mQ:Stmt:=top 23
noncomputable abbrev kJ:List Str:=["_law_machine","_law_own_here","_law_leaves_here","_law_words_here","_law_sets_here","_law_seen","_law_line","_law_one","_law_other","_law_marks_here","_law_here","_law_there","_law_word","_law_side","_law_behind","_law_pair"]
noncomputable abbrev fq:List Str:=["_law_machine","_law_own_here","_law_leaves_here"]
theorem bK:aP kJ fq (ak mQ):=L2.eu
abbrev Pr:=List Nat×List Nat
noncomputable def pD (x:Pr):D:=.tup [.tup (nL x.1),.tup (nL x.2)]
theorem wQ:∀ {a b:List Nat},cG (nL a)=cG (nL b)→a=b
 | [],[],_=>rfl
 | [],_::_,h=>by simp [nL,cG] at h
 | _::_,[],h=>by simp [nL,cG] at h
 | x::a,y::b,h=>by
  simp only [nL,zbC,cG,py,zci.injEq,PyData.int.injEq] at h
  obtain ⟨h1,h2⟩:=h
  rw [wQ (a:=a) (b:=b) h2,show x=y by lia]
theorem Dg {x y:Pr} (h:py (pD x)=py (pD y)):x=y:=by
 simp only [pD,py,cG,PyData.tuple.injEq,zci.injEq,and_true] at h
 exact Prod.ext (wQ h.1) (wQ h.2)
theorem sQ:∀ a:List Nat,bX (cG (nL a))=true
 | []=>rfl
 | x::a=>by
  have:=sQ a
  simp only [nL,zbC,cG,py,bX,bh,zbI] at this ⊢
  exact this
theorem gX:∀ a:List Nat,PyData.depthAll (cG (nL a))=0
 | []=>rfl
 | x::a=>by
  have:=gX a
  simp only [nL,zbC,cG,py,PyData.depthAll,PyData.depth] at this ⊢
  lia
theorem qL:∀ a:List Nat,PyData.canLayAll0 (cG (nL a))=true
 | []=>rfl
 | x::a=>by
  have:=qL a
  simp only [nL,zbC,cG,py,PyData.canLayAll0,PyData.canLay0,zbI] at this ⊢
  exact this
theorem fJ (x:Pr):ef (pD x):=by
 refine ⟨by simp only [pD,bN,bE,dS,zbJ],?_,?_,_,rfl⟩
 ·simp only [pD,py,cG,bh,bX,sQ,zbJ]
 ·simp only [pD,py,cG,PyData.depth,PyData.depthAll,gX];lia
theorem yd (l:List Pr):fit (.lst (l.map pD))=true:=by
 have h1:bE (l.map pD)=true:=b9 fun x _=>(fJ x).1
 have h2:PyData.canLayAll0 (cG (l.map pD))=true∧PyData.depthAll (cG (l.map pD))≤2:=by
  induction l with
  | nil=>exact ⟨rfl,by decide⟩
  | cons x l ih =>
   obtain ⟨a,b⟩:=ih (b9 fun x _=>(fJ x).1)
   simp only [zbC,cG,PyData.canLayAll0,PyData.depthAll,a,pD,py,PyData.canLay0,qL,zbJ,PyData.depth,gX,true_and]
   lia
 unfold fit PySem.SeqAt.shaped
 simp only [bN,h1,py,PyData.canLay0,h2.1,PyData.depth,zbI]
 exact yDt (by lia)
theorem qT (l:List Nat):fit (.lst (nL l))=true:=by
 unfold fit PySem.SeqAt.shaped
 simp only [bN,dS,py,PyData.canLay0,qL,PyData.depth,gX,zbI]
 decide
theorem tK:∀ ds:List D,PyData.eqv (py (.lst ds)) (py (.lst []))=ds.isEmpty
 | []=>by simp [py,cG,PyData.eqv,PyData.eqvAll]
 | d::ds=>by simp [py,cG,PyData.eqv,PyData.eqvAll]
theorem x9 (l:List Pr) (x:Pr):ya (l.map pD) (pD x)=decide (x∈l):=by
 unfold ya
 rw [zbN]
 by_cases h:x∈l
 ·rw [yDt h,List.any_eq_true]
  exact ⟨x,h,by simp⟩
 ·rw [yDf h,List.any_eq_false]
  intro y hy
  simp only [Function.comp,decide_eq_true_eq]
  exact fun e=>h (Dg e ▸ hy)
theorem C9 (l:List Pr) (x:Pr) (h:x ∉ l):putN (l.map pD) (pD x)=(l++[x]).map pD:=by
 unfold putN
 have:=x9 l x
 unfold ya at this
 rw [this,yDf h,yIn (by decide),zbu];rfl
theorem r9 {ks:List Nat}{ns':List Int} (hn:ks.Nodup) (hp:ns'.Perm (ks.map fun k:Nat=>(k:Int))) (hs:ns'.Pairwise (· ≤ ·)):∃ rs:List Nat,(∀ x,x∈rs↔x∈ks)∧rs.Pairwise (· < ·)∧ns'.map D.int=nL rs:=by
 obtain ⟨rs,h1,rfl⟩:=gF hp
 refine ⟨rs,fun x=>h1.mem_iff,?_,by rw [zbP];rfl⟩
 rw [zaV] at hs
 have hd:rs.Pairwise (· ≠ ·):=h1.symm.nodup hn
 exact (hs.and hd).imp fun ⟨h,h'⟩=>by lia
mutual
theorem sI:∀ (p:Pt) (a n:Nat),eH p→∀ m∈om p a n,kK m.2.1
 | .lf l,a,n,h,m,hm=>by
  simp only [om,zaF] at hm;subst hm
  simpa only [eH] using h
 | .seq ps,a,n,h,m,hm=>by
  rw [om] at hm
  rcases zbB.mp hm with rfl | hm
  ·trivial
  ·exact xj ps (n+1) (by simpa only [eH] using h) m hm
 | .many p,a,n,h,m,hm=>by
  rw [om] at hm
  rcases zbB.mp hm with rfl | hm
  ·trivial
  ·rcases zbn.mp hm with hm | hm
   ·exact sI p (n+1) (n+1) (by simpa only [eH] using h) m hm
   ·simp only [zbB,zbh,or_false] at hm
    rcases hm with rfl | rfl <;> trivial
 | .alt ps,a,n,h,m,hm=>by
  rw [om] at hm
  rcases zbn.mp hm with hm | hm
  ·exact xm ps a n (by simpa only [eH] using h) m hm
  ·obtain ⟨e,_,rfl⟩:=zbO.mp hm
   trivial
theorem xj:∀ (ps:List Pt) (n:Nat),fW ps→∀ m∈kN ps n,kK m.2.1
 | [],n,h,m,hm=>by simp [kN] at hm
 | p::ps,n,h,m,hm=>by
  rw [fW] at h
  rw [kN] at hm
  rcases zbn.mp hm with hm | hm
  ·exact sI p n n h.1 m hm
  ·exact xj ps _ h.2 m hm
theorem xm:∀ (ps:List Pt) (a n:Nat),fW ps→∀ m∈iP ps a n,kK m.2.1
 | [],a,n,h,m,hm=>by simp [iP] at hm
 | p::ps,a,n,h,m,hm=>by
  rw [fW] at h
  rw [iP] at hm
  rcases zbn.mp hm with hm | hm
  ·exact sI p a n h.1 m hm
  ·exact xm ps a _ h.2 m hm
end
structure Gd (n1 n2:Nat) (m1 m2:List Mv) (x:Pr):Prop where
 up1:x.1.Pairwise (· < ·)
 GU:∀ y∈x.1,y<n1
 G8:x.2.Pairwise (· < ·)
 GR:∀ y∈x.2,y<n2
 both:zf m1 m2 x.1 x.2
structure Ln (n1 n2:Nat) (m1 m2:List Mv) (seen line:List Pr) (μ:Nat):Prop where
 nd:seen.Nodup
 gd:∀ x∈seen,Gd n1 n2 m1 m2 x
 sub:∀ x∈line,x∈seen
 le:line.length≤seen.length
 mu:2*(2 ^ n1*2 ^ n2 - seen.length)+line.length≤μ
theorem Ln.few {n1 n2:Nat}{m1 m2:List Mv}{seen line:List Pr}{μ:Nat} (h:Ln n1 n2 m1 m2 seen line μ):seen.length≤2 ^ n1*2 ^ n2 :=
 lP h.nd fun x hx=>⟨⟨(h.gd x hx).up1,(h.gd x hx).GU⟩,(h.gd x hx).G8,(h.gd x hx).GR⟩
theorem Ln.add {n1 n2:Nat}{m1 m2:List Mv}{seen line:List Pr}{μ:Nat} (h:Ln n1 n2 m1 m2 seen line μ) {x:Pr} (hx:Gd n1 n2 m1 m2 x) (hn:x ∉ seen):Ln n1 n2 m1 m2 (seen++[x]) (line++[x]) μ:=by
 have nd:(seen++[x]).Nodup:=by
  rw [zaT]
  refine ⟨h.nd,by simp,fun a ha b hb => ?_⟩
  rw [zaF.mp hb]
  intro e;exact hn (e ▸ ha)
 have gd:∀ y∈seen++[x],Gd n1 n2 m1 m2 y:=fun y hy=>by
  rcases zbn.mp hy with h' | h'
  ·exact h.gd y h'
  ·rw [zaF.mp h'];exact hx
 have few:(seen++[x]).length≤2 ^ n1*2 ^ n2:=lP nd fun x hx=>⟨⟨(gd x hx).up1,(gd x hx).GU⟩,(gd x hx).G8,(gd x hx).GR⟩
 refine ⟨nd,gd,fun y hy => ?_,?_,?_⟩
 ·rcases zbn.mp hy with h' | h'
  ·exact zas _ (h.sub y h')
  ·exact zam _ h'
 ·have:=h.le
  simp only [zaE];lia
 ·have:=h.mu
  simp only [zaE,zbk,zbv] at few ⊢;lia
open PySem L2 M M6
theorem Dw {i j:Bool}{S:aJ}{Q:AK}:zm (.bl i) (.bl j) S Q=Q (.dat (.bl (!decide (i=j)))) S:=rfl
theorem ne_nil {l:List Nat}{S:aJ}{Q:AK} (q:Q (.dat (.bl (!(nL l).isEmpty))) S):zm (.lst (nL l)) (.lst []) S Q:=by
 unfold zm
 rw [cB,cB]
 exact ⟨qT _,qT [],by rw [tK];exact q⟩
theorem Ez {ls:List Lf} (h:∀ l∈ls,kK l) {S:aJ}{Q:List D→aJ→Prop} (hl:ls.length≤50) (q:∀ ss:List Str,ss.length≤ls.length→(∀ x∈ss,kT x=true)→Q (ss.map D.str) S) :
  e7 (fun _=>True) (cI 0) (Bo (aB (qa Ck (qa kO (fU 0) (aC (.int 0))) (aC (.str "step")))) (aB (qa zm (qa kO (fU 0) (aC (.int 2))) (aC (.str "*"))))) (qa kO (fU 0) (aC (.int 2))) (ls.map lD) [] [none] S Q:=by
 refine jm (fun rest acc δ S'=>∃ (qs rs:List Lf) (ss:List Str) (v:Option D),rest=rs.map lD∧qs++rs=ls∧acc=ss.map D.str∧S'=S∧δ=[v]∧ss.length≤qs.length∧∀ x∈ss,kT x=true) ?_ ?_ _ [] _ _ ⟨[],ls,[],none,rfl,rfl,rfl,rfl,rfl,zca _,by simp⟩
 ·rintro acc δ S' ⟨qs,rs,ss,v,hr,he,rfl,rfl,rfl,h1,h2⟩
  have:rs=[]:=by cases rs with
   | nil=>rfl
   | cons _ _=>simp at hr
  subst this
  rw [zbo] at he
  subst he
  exact ⟨trivial,q ss h1 h2⟩
 ·rintro x rest acc δ S' N' ⟨qs,rs,ss,v,hr,he,rfl,rfl,rfl,h1,h2⟩ hN'
  cases rs with
  | nil=>simp at hr
  | cons r rs =>
   rw [zbC] at hr
   injection hr with e1 e2
   subst e1;subst e2
   have ok:=h r (by rw [← he];simp)
   have he':(qs++[r])++rs=ls:=by rw [zaR];exact he
   have hq:qs.length<ls.length:=by rw [← he];simp
   refine ⟨trivial,?_⟩
   push_cast [true_and]
   have skip:N' (ss.map D.str) [some (lD r)] S':=hN' _ _ _ ⟨qs++[r],rs,ss,_,rfl,he',rfl,rfl,rfl,by rw [zaE];lia,h2⟩
   cases r with
   | stay =>
    push_cast [lD,aN,dM]
    rw [yIn (by decide)]
    exact skip
   | lC =>
    push_cast [lD,qM,dM]
    rw [yIn (by decide)]
    exact skip
   | mk b m =>
    push_cast [lD,aN,dM]
    rw [yIn (by cases b <;> decide)]
    exact skip
   | step b y =>
    push_cast [lD,aN,dM,at2,gJ]
    rw [yIp (by decide)]
    refine d7 (fun _=>⟨by rw [zbr,yaf];lia,?_⟩) (fun _=>skip)
    exact hN' _ _ _ ⟨qs++[.step b y],rs,ss++[y],_,rfl,he',by rw [zbu];rfl,rfl,rfl,by rw [zaE,zaE];show _+1≤_+1;lia,fun x hx=>by
     rcases zbn.mp hx with h | h
     ·exact h2 x h
     ·rw [zaF.mp h];exact vn ok⟩
theorem FE {ls:List Lf} (h:∀ l∈ls,kK l) {S:aJ}{Q:List D→aJ→Prop} (hl:ls.length≤50) (q:∀ ss:List Str,ss.length≤ls.length→(∀ x∈ss,kT x=true)→Q (ss.map D.str) S) :
  e7 (fun _=>True) (cI 0) (aB (qa (nV false) (qa kO (fU 0) (aC (.int 0))) (Bh (iN (aC (.str "at")) (iN (aC (.str "off")) nQ))))) (qa kO (fU 0) (aC (.int 1))) (ls.map lD) [] [none] S Q:=by
 refine jm (fun rest acc δ S'=>∃ (qs rs:List Lf) (ss:List Str) (v:Option D),rest=rs.map lD∧qs++rs=ls∧acc=ss.map D.str∧S'=S∧δ=[v]∧ss.length≤qs.length∧∀ x∈ss,kT x=true) ?_ ?_ _ [] _ _ ⟨[],ls,[],none,rfl,rfl,rfl,rfl,rfl,zca _,by simp⟩
 ·rintro acc δ S' ⟨qs,rs,ss,v,hr,he,rfl,rfl,rfl,h1,h2⟩
  have:rs=[]:=by cases rs with
   | nil=>rfl
   | cons _ _=>simp at hr
  subst this
  rw [zbo] at he
  subst he
  exact ⟨trivial,q ss h1 h2⟩
 ·rintro x rest acc δ S' N' ⟨qs,rs,ss,v,hr,he,rfl,rfl,rfl,h1,h2⟩ hN'
  cases rs with
  | nil=>simp at hr
  | cons r rs =>
   rw [zbC] at hr
   injection hr with e1 e2
   subst e1;subst e2
   have ok:=h r (by rw [← he];simp)
   have he':(qs++[r])++rs=ls:=by rw [zaR];exact he
   have hq:qs.length<ls.length:=by rw [← he];simp
   refine ⟨trivial,?_⟩
   push_cast [true_and]
   have skip:N' (ss.map D.str) [some (lD r)] S':=hN' _ _ _ ⟨qs++[r],rs,ss,_,rfl,he',rfl,rfl,rfl,by rw [zaE];lia,h2⟩
   refine x8 (p:=.lf r) (ss:=["at","off"]) (by decide +kernel) (by decide) ⟨_,rfl,?_⟩
   cases r with
   | stay =>
    rw [yIn (by simp [gP];decide)]
    exact skip
   | lC =>
    rw [yIn (by simp [gP];decide)]
    exact skip
   | step b y =>
    rw [yIn (by simp [gP];decide)]
    exact skip
   | mk b m =>
    rw [yIp (by cases b <;> simp [gP,Ao])]
    push_cast [lD,aN,ee]
    refine ⟨by rw [zbr,yaf];lia,?_⟩
    exact hN' _ _ _ ⟨qs++[.mk b m],rs,ss++[m],_,rfl,he',by rw [zbu];rfl,rfl,rfl,by rw [zaE,zaE];show _+1≤_+1;lia,fun x hx=>by
     rcases zbn.mp hx with h | h
     ·exact h2 x h
     ·rw [zaF.mp h];exact xB ok⟩
section
variable {P:yaj}{w:yak}{K:yaE}{mg:Str→Option yai}{base:Heap}
def rZ:AN:=fun ds S Q=>∃ (p:Pt) (n:Nat) (mv:List Mv) (ls:List Lf),ds=[mD n 0 [1] mv,mD (oc p+1) 0 [oc p] (om p 0 0),.lst (ls.map lD)]∧eH p∧oc p≤10∧dN p n (mv.map eM)∧n≤11∧mv.length≤10∧(∀ m∈mv,kK m.2.1)∧(∀ l∈ls,kK l)∧ls.length≤10∧Q (.dat (.bl true)) S
theorem A6 (T:Txt K mg) (F:Src K mg "_law_alike" fq mQ) (D_law_still:Def P w K mg base 1 "_law_still" fh (aF K rU)) (D_law_by:Def P w K mg base 1 "_law_by" kH (aF K BJ)) (D_law_sets:Def P w K mg base 1 "_law_sets" ic (aF K vK)):Def P w K mg base 2 "_law_alike" fq (aF K rZ):=by
 refine eY F bK (fun ds S Q h => ?_) (fun f cdv A outer s H E hr => ?_)
 ·obtain ⟨p,n,mv,ls,rfl,_⟩:=h;rfl
 ·refine ⟨_,(M.af (M.aq (i:=3) bK.nd rfl (Or.inl rfl) (M.aD M.bz (M.dW rfl (by rfl) T.sorted (by rfl) T.set (M.dX (N:=["_law_leaf_here"]) (caps:=[none]) (pN (by decide +kernel)) (by rfl) (by rfl) rfl (M.bU (M.pv 2)) (fun _ _ _ _=>(M.aG (i:=0) (by decide +kernel:List.Nodup (["_law_leaf_here"]:List Str)) rfl (Or.inl rfl))) (fun _ _ _ _=>(M.gE (M.pw_pt (M.pw_and (M.az (M.fQ hr) (M.au M.aS (M.pv 0) M.ah (fun _ _=>rfl)) M.av (aW _)) (M.pw_and1 (M.az (M.xr hr) (M.au M.aS (M.pv 0) M.ah (fun _ _=>rfl)) M.av (aW _))))))) (fun _ _ _ _=>(M.au M.aS (M.pv 0) M.ah (fun _ _=>rfl))))) (M.aO (M.ao M.av M.aa))))
   (M.af (M.aq (i:=4) bK.nd rfl (Or.inl rfl) (M.ow D_law_sets hr (M.ao (M.dW rfl (by rfl) T.sorted (by rfl) T.set (M.dX (N:=["_law_leaf_here"]) (caps:=[none]) (pN (by decide +kernel)) (by rfl) (by rfl) rfl (M.bU (M.pv 2)) (fun _ _ _ _=>(M.aG (i:=0) (by decide +kernel:List.Nodup (["_law_leaf_here"]:List Str)) rfl (Or.inl rfl))) (fun _ _ _ _=>(M.gE (M.az (M.oV hr) (M.au M.aS (M.pv 0) M.ah (fun _ _=>rfl)) (M.aE (M.ao M.av (M.ao M.av M.aa))) rfl))) (fun _ _ _ _=>(M.au M.aS (M.pv 0) M.ah (fun _ _=>rfl))))) M.aa)))
   (M.af (M.aq (i:=5) bK.nd rfl (Or.inl rfl) (M.jK hr (M.aE (M.ao (M.aE (M.ao (M.au M.aS (M.pv 0) M.ah (fun _ _=>rfl)) M.aa)) (M.ao (M.aE (M.ao (M.au M.aS (M.pv 1) M.ah (fun _ _=>rfl)) M.aa)) M.aa)))))
   (M.af (M.aq (i:=6) bK.nd rfl (Or.inl rfl) (M.Bd (M.xg (M.Ak hr) (by rfl) T.list (by decide +kernel) (M.ao (M.pv 5) M.aa))))
   (M.af (M.eT PassesOwn.never (M.az (M.xr hr) (M.pv 6) (M.aO M.aa) (aW _))
    (M.af (M.jE (M.qB PySem.F.plainAttrs_list PySem.F.slot_list_pop PySem.F.type_list_pop M.FG (M.pv 6)) (M.gh (n:=2) rfl (M.bw (M.aG (i:=7) bK.nd rfl (Or.inl rfl)) (M.bw (M.aG (i:=8) bK.nd rfl (Or.inl rfl)) M.dU))))
    (M.ai (M.bT PassesOwn.never rfl (M.bU (M.pv 4)) (M.aG (i:=9) bK.nd rfl (Or.inl rfl))
     (M.af (M.aq (i:=10) bK.nd rfl (Or.inl rfl) (M.ow D_law_still hr (M.ao (M.pv 0) (M.ao (M.xg M.jO (by rfl) T.list (by decide +kernel) (M.ao (M.pv 7) M.aa)) (M.ao (M.pv 9) M.aa)))))
     (M.af (M.aq (i:=11) bK.nd rfl (Or.inl rfl) (M.ow D_law_still hr (M.ao (M.pv 1) (M.ao (M.xg M.jO (by rfl) T.list (by decide +kernel) (M.ao (M.pv 8) M.aa)) (M.ao (M.pv 9) M.aa)))))
     (M.af (M.bI (M.az (M.xr hr) (M.fH (M.xr hr) (M.dX (N:=["_law_end","_law_machine"]) (caps:=[none,some 0]) (pN (by decide +kernel)) (by rfl) (by rfl) rfl (M.bU (M.pv 10)) (fun _ _ _ _=>(M.aG (i:=0) (by decide +kernel:List.Nodup (["_law_end","_law_machine"]:List Str)) rfl (Or.inl rfl))) (fun _ _ _ _=>(M.gE (M.az (M.oV hr) (M.pv 0) (M.au M.aS (M.pv 1) M.ah (fun _ _=>rfl)) rfl))) (fun _ _ _ _=>(M.pv 0))) (M.aO M.aa) (aW _)) (M.fH (M.oV hr) (M.au M.aS (M.au M.aS (M.pv 1) M.ah (fun _ _=>rfl)) M.ah (fun _ _=>rfl)) (M.pv 11) rfl) (aW _))
      (M.ai (M.aL M.iH))
      M.aR)
     (M.ai (M.bT PassesOwn.never rfl (M.bU (M.pv 3)) (M.aG (i:=12) bK.nd rfl (Or.inl rfl))
      (M.ai (M.bT PassesOwn.never rfl (M.bU (M.aO (M.ao M.av (M.ao M.av M.aa)))) (M.aG (i:=13) bK.nd rfl (Or.inl rfl))
       (M.af (M.aq (i:=14) bK.nd rfl (Or.inl rfl) (M.sG M.oU (by rfl) T.sorted (by decide +kernel) (M.ao (M.ow D_law_by hr (M.ao (M.pv 0) (M.ao (M.pv 10) (M.ao (M.pv 13) (M.ao (M.pv 12) M.aa))))) M.aa)))
       (M.af (M.aq (i:=15) bK.nd rfl (Or.inl rfl) (M.aE (M.ao (M.xg M.dI (by rfl) T.tuple (by decide +kernel) (M.ao (M.pv 14) M.aa)) (M.ao (M.xg M.dI (by rfl) T.tuple (by decide +kernel) (M.ao (M.sG M.oU (by rfl) T.sorted (by decide +kernel) (M.ao (M.ow D_law_by hr (M.ao (M.pv 1) (M.ao (M.pv 11) (M.ao (M.pv 13) (M.ao (M.pv 12) M.aa))))) M.aa)) M.aa)) M.aa))))
       (M.ai (M.bI (M.az (M.xq hr) (M.pv 15) (M.pv 5) rfl)
        (M.af (M.jD hr (M.pv 5) (M.pv 15) M.iH rfl)
        (M.ai (M.bA (M.cJ PySem.F.plainAttrs_list PySem.F.slot_list_append PySem.F.type_list_append M.bB (M.pv 6) (M.ao (M.pv 15) M.aa)))))
        M.aR)))))))))))))))
   (M.ai (M.aL M.iH))))))),fun ds S Q h => ?_⟩
  obtain ⟨p,n,mv,ls,rfl,hp,ho,hB,hn,hml,hmv,hls,hll,q⟩:=h
  have e0:bf kJ [mD n 0 [1] mv,mD (oc p+1) 0 [oc p] (om p 0 0),.lst (ls.map lD)]=[some (mD n 0 [1] mv),some (mD (oc p+1) 0 [oc p] (om p 0 0)),some (.lst (ls.map lD)),none,none,none,none,none,none,none,none,none,none,none,none,none]:=rfl
  rw [e0]
  push_cast [cY,kD,mj,eB,cK,yL,rH]
  refine Ez hls (by lia) fun ws1 hw1 hw2 => ?_
  generalize (kX qc P w K mg base kJ "_law_alike" (ak mQ) f cdv A outer s H E).w=W0
  refine ⟨ws1,.inr rfl,by lia,fun ws2 k1 k2 _ => ?_⟩
  have hws2:ws2.length≤10:=by have:=sub_len ws2 ws1 k1 fun x hx=>(k2 x).mp hx;lia
  refine ⟨sz rfl,by rw [zbr,yaf];simp;lia,?_⟩
  have ews:ws2.map D.str++[D.str "other"]=(ws2++[("other" : Str)]).map D.str:=by rw [zbu];rfl
  rw [ews]
  have hwo:∀ x∈ws2++[("other" : Str)],kT x=true:=fun x hx=>by
   rcases zbn.mp hx with h | h
   ·exact hw2 x ((k2 x).mp h)
   ·rw [zaF.mp h];decide +kernel
  have hwl:(ws2++[("other" : Str)]).length≤11:=by simp;lia
  generalize ws2++[("other" : Str)]=ws at hwo hwl ⊢
  refine FE hls (by lia) fun ms1 hm1 hm2 => ?_
  refine ⟨ms1,.inr rfl,by lia,fun ms2 k3 k4 _ => ?_⟩
  have HU:ms2.length≤10:=by have:=sub_len ms2 ms1 k3 fun x hx=>(k4 x).mp hx;lia
  refine ⟨ms2,rfl,HU,fun x hx=>hm2 x ((k4 x).mp hx),fun L hL => ?_⟩
  push_cast [mD,aN,K33.ee]
  refine ⟨sz rfl,sz rfl,sz rfl,by simp,?_⟩
  have hg0:ef (D.tup [D.tup [D.int ((0:Nat):Int)],D.tup [D.int ((0:Nat):Int)]]):=fJ ([0],[0])
  refine ⟨hg0,?_⟩
  have FN:List.set (S++[some (nO W0 [])]) S.length (some (nO W0 [D.tup [D.tup [D.int ((0:Nat):Int)],D.tup [D.int ((0:Nat):Int)]]]))=S++[some (nO W0 ([(([0],[0]):Pr)].map pD))]:=by
   rw [zao _ _ (zca _)];simp [pD,nL]
  rw [FN]
  refine ⟨S.length,rfl,[(([0],[0]):Pr)].map pD,by simp,by simp,?_⟩
  rw [zaR,show zbZ (S++[some (nO W0 ([(([0],[0]):Pr)].map pD))])=S.length+1 by simp]
  have atS:∀ a b:MO,(S++[some a,some b])[S.length]? = some (some a):=fun a b=>by simp
  have atL:∀ a b:MO,(S++[some a,some b])[S.length+1]? = some (some b):=fun a b=>by rw [zab (by lia)];simp
  have Hi:∀ a b c:MO,(S++[some a,some b]).set S.length (some c)=S++[some c,some b]:=fun a b c=>by rw [zao _ _ (zca _)];simp
  have ES:∀ a b c:MO,(S++[some a,some b]).set (S.length+1) (some c)=S++[some a,some c]:=fun a b c=>by rw [zao _ _ (by lia)];simp
  have hm1:∀ m∈mv,Gz n m:=fun m hm=>by
   have:=hB.zh (eM m) (zbO.mpr ⟨m,hm,rfl⟩)
   exact ⟨this.1,hmv m hm,this.2⟩
  have hm2:∀ m∈om p 0 0,Gz (oc p+1) m:=fun m hm=>by
   have:=gi p 0 0 (zca _) m hm
   exact ⟨by lia,sI p 0 0 hp m hm,by lia⟩
  have FP:(om p 0 0).length≤40:=by have:=jL p 0 0;lia
  have hop:=cH p
  have hbig:2 ^ n*2 ^ (oc p+1)≤4194304:=by
   have h1:(2:Nat) ^ n≤2 ^ 11:=zaw (by lia) hn
   have h2:(2:Nat) ^ (oc p+1)≤2 ^ 11:=zaw (by lia) (by lia)
   have:=Nat.mul_le_mul h1 h2
   lia
  obtain ⟨W,hW⟩:∃ W:Nat→bQ→aJ→Prop,W=fun μ δ S2=>∃ (seen line:List Pr) (v7 v8 v9 v10 v11 v12 v13 v14 v15:Option D),δ=[some (mD n 0 [1] mv),some (mD (oc p+1) 0 [oc p] (om p 0 0)),some (.lst (ls.map lD)),some (.lst (ws.map D.str)),some (.lst (L.map sL)),some (.loc S.length),some (.loc (S.length+1)),v7,v8,v9,v10,v11,v12,v13,v14,v15]∧S2=S++[some (nO W0 (seen.map pD)),some (.lst (line.map pD))]∧Ln n (oc p+1) mv (om p 0 0) seen line μ:=⟨_,rfl⟩
  have h0:Gd n (oc p+1) mv (om p 0 0) ([0],[0]):=⟨by simp,by have:=hB.two;simp;lia,by simp,by simp,rz⟩
  refine ⟨W,⟨2*(2 ^ n*2 ^ (oc p+1))+1,by rw [hW];exact ⟨[([0],[0])],[([0],[0])],none,none,none,none,none,none,none,none,none,rfl,rfl,by simp,fun x hx=>by rw [zaF.mp hx];exact h0,fun x hx=>hx,zca _,by simp;lia⟩⟩,?_⟩
  intro μ δ S2 hw
  rw [hW] at hw
  obtain ⟨seen,line,v7,v8,v9,v10,v11,v12,v13,v14,v15,rfl,rfl,hL0⟩:=hw
  have hfew:=hL0.few
  push_cast [true_and]
  refine ⟨zcc _,?_⟩
  have hne:∀ Q':AK,Q' (.dat (.bl (!line.isEmpty))) (S++[some (nO W0 (seen.map pD)),some (.lst (line.map pD))])→zm (.loc (S.length+1)) (.lst []) (S++[some (nO W0 (seen.map pD)),some (.lst (line.map pD))]) Q':=fun Q' h=>by
   unfold zm
   rw [show aU (S++[some (nO W0 (seen.map pD)),some (.lst (line.map pD))]) (.loc (S.length+1)) = .lst (line.map pD) by simp only [aU,atL];rfl,cB]
   refine ⟨yd line,qT [],?_⟩
   rw [tK]
   cases line <;> exact h
  refine hne _ ⟨_,rfl,d7 (fun hw => ?_) (fun hw=>gA rfl q)⟩
  obtain ⟨line',x,rfl⟩:∃ ws' a,line=ws'++[a]:=by
   rcases List.eq_nil_or_concat line with rfl | ⟨l,a,rfl⟩
   ·simp at hw
   ·exact ⟨l,a,by simp⟩
  have hx:=hL0.gd x (hL0.sub x (by simp))
  have hmu:=hL0.mu
  obtain ⟨N,hN⟩:∃ N:bQ→aJ→Prop,N=fun δ S2=>∃ (seen line:List Pr) (v7 v8 v9 v10 v11 v12 v13 v14 v15:Option D),δ=[some (mD n 0 [1] mv),some (mD (oc p+1) 0 [oc p] (om p 0 0)),some (.lst (ls.map lD)),some (.lst (ws.map D.str)),some (.lst (L.map sL)),some (.loc S.length),some (.loc (S.length+1)),v7,v8,v9,v10,v11,v12,v13,v14,v15]∧S2=S++[some (nO W0 (seen.map pD)),some (.lst (line.map pD))]∧Ln n (oc p+1) mv (om p 0 0) seen line (μ - 1):=⟨_,rfl⟩
  have hL1:Ln n (oc p+1) mv (om p 0 0) seen line' (μ - 1):=⟨hL0.nd,hL0.gd,fun y hy=>hL0.sub y (by simp [hy]),by have:=hL0.le;simp at this;lia,by simp at hmu;lia⟩
  refine ⟨N,?_,?_⟩
  ·rw [hN,hW]
   rintro δ' S3 h
   exact ⟨μ - 1,by simp at hmu;lia,h⟩
  ·push_cast [Ek,Gp,fc,eB,pP,ku,pQ]
   refine ⟨by simp only [aU,atL];rfl,S.length+1,rfl,_,atL _ _,pD x,by simp,?_⟩
   rw [ES,show ((line'++[x]).map pD).dropLast=line'.map pD by simp]
   refine ⟨_,rfl,rfl,_,_,rfl,_,_,rfl,rfl,?_⟩
   push_cast [cK]
   have fst1:∀ (v9 v10 v11 v12 v13 v14 v15:Option D),∃ E:bQ,E=[some (mD n 0 [1] mv),some (mD (oc p+1) 0 [oc p] (om p 0 0)),some (.lst (ls.map lD)),some (.lst (ws.map D.str)),some (.lst (L.map sL)),some (.loc S.length),some (.loc (S.length+1)),some (.tup (nL x.1)),some (.tup (nL x.2)),v9,v10,v11,v12,v13,v14,v15]:=fun _ _ _ _ _ _ _=>⟨_,rfl⟩
   refine bG (fun rest δ S3=>∃ (seen line:List Pr) (rs:List (List Str)) (v9 v10 v11 v12 v13 v14 v15:Option D),rest=rs.map sL∧(∀ l∈rs,l∈L)∧δ=[some (mD n 0 [1] mv),some (mD (oc p+1) 0 [oc p] (om p 0 0)),some (.lst (ls.map lD)),some (.lst (ws.map D.str)),some (.lst (L.map sL)),some (.loc S.length),some (.loc (S.length+1)),some (.tup (nL x.1)),some (.tup (nL x.2)),v9,v10,v11,v12,v13,v14,v15]∧S3=S++[some (nO W0 (seen.map pD)),some (.lst (line.map pD))]∧Ln n (oc p+1) mv (om p 0 0) seen line (μ - 1)) ?_ ?_ _ _ _ ⟨seen,line',L,v9,v10,v11,v12,v13,v14,v15,rfl,fun l hl=>hl,rfl,rfl,hL1⟩
   ·rintro δ S3 ⟨seen,line,rs,v9,v10,v11,v12,v13,v14,v15,hr,_,rfl,rfl,hLn⟩
    refine ⟨trivial,?_⟩
    rw [hN]
    exact ⟨seen,line,_,_,_,_,_,_,_,_,_,rfl,rfl,hLn⟩
   ·rintro d rest δ S3 N' ⟨seen,line,rs,v9,v10,v11,v12,v13,v14,v15,hr,hrs,rfl,rfl,hLn⟩ hN'
    cases rs with
    | nil=>simp at hr
    | cons r rs =>
     rw [zbC] at hr
     injection hr with e1 e2
     subst e1;subst e2
     have hr1:=hL.one r (hrs r (by simp))
     have htx:texts r:=⟨by lia,hr1.2⟩
     refine ⟨trivial,?_⟩
     push_cast [jn]
     refine ⟨n,0,[1],mv,x.1,r,rfl,by lia,hm1,by lia,hx.GU,hx.up1.imp fun h=>zbQ h,htx,fun hh1 nd1 he1 => ?_⟩
     push_cast [jn]
     refine ⟨oc p+1,0,[oc p],om p 0 0,x.2,r,rfl,by lia,hm2,FP,hx.GR,hx.G8.imp fun h=>zbQ h,htx,fun hh2 nd2 he2 => ?_⟩
     have FU:∀ y∈hh1,y<n:=fun y hy=>((he1 y).mp hy).lt hm1 hx.GU
     have FT:∀ y∈hh2,y<oc p+1:=fun y hy=>((he2 y).mp hy).lt hm2 hx.GR
     have hl1:=cD n hh1 nd1 FU
     have hl2:=cD (oc p+1) hh2 nd2 FT
     push_cast [mj,eB,cK]
     refine jm (fun rest acc δ S4=>∃ (qs rs:List Nat) (v:Option D),rest=nL rs∧qs++rs=hh1∧acc=nL (qs.filter fun y=>decide (y=1))∧S4=S++[some (nO W0 (seen.map pD)),some (.lst (line.map pD))]∧δ=[v,some (mD n 0 [1] mv)]) ?_ ?_ _ [] _ _ ⟨[],hh1,none,rfl,rfl,rfl,rfl,rfl⟩
     ·rintro acc δ S4 ⟨qs,rs',v,hr,he,rfl,rfl,rfl⟩
      have:rs'=[]:=by cases rs' with
       | nil=>rfl
       | cons _ _=>simp [nL] at hr
      subst this
      rw [zbo] at he
      subst he
      refine ⟨trivial,zcc _,?_⟩
      have hend:=yx hB hx.both he1 he2
      have HW:(!(nL (qs.filter fun y=>decide (y=1))).isEmpty)=decide (oc p∈hh2):=by
       by_cases h:1∈qs
       ·rw [yDt (hend.mp h)]
        have:1∈qs.filter fun y=>decide (y=1):=List.mem_filter.mpr ⟨h,by decide⟩
        cases hf:qs.filter fun y=>decide (y=1) with
        | nil=>rw [hf] at this;simp at this
        | cons _ _=>rfl
       ·rw [yDf fun h'=>h (hend.mpr h')]
        have:(qs.filter fun y=>decide (y=1))=[]:=List.filter_eq_nil_iff.mpr fun y hy=>by
         simp only [decide_eq_true_eq];intro e;exact h (e ▸ hy)
        rw [this];rfl
      refine ne_nil ?_
      rw [HW]
      push_cast [mD,aN,K33.at2,nL,zbC,zbM,K33.dM]
      refine j4 (k:=oc p) (ns:=hh2) (.inl rfl) (by lia) ?_
      show zm (.bl _) (.bl _) _ _
      rw [Dw,show (false != decide (oc p∈hh2))=decide (oc p∈hh2) by simp]
      refine ⟨_,rfl,?_⟩
      rw [yIn (by simp)]
      push_cast [fc,eB,cK]
      refine bG (fun rest δ S5=>∃ (seen line:List Pr) (ts:List Str) (v12 v13 v14 v15:Option D),rest=ts.map D.str∧(∀ t∈ts,t∈ws)∧δ=[some (mD n 0 [1] mv),some (mD (oc p+1) 0 [oc p] (om p 0 0)),some (.lst (ls.map lD)),some (.lst (ws.map D.str)),some (.lst (L.map sL)),some (.loc S.length),some (.loc (S.length+1)),some (.tup (nL x.1)),some (.tup (nL x.2)),some (sL r),some (.lst (nL qs)),some (.lst (nL hh2)),v12,v13,v14,v15]∧S5=S++[some (nO W0 (seen.map pD)),some (.lst (line.map pD))]∧Ln n (oc p+1) mv (om p 0 0) seen line (μ - 1)) ?_ ?_ _ _ _ ⟨seen,line,ws,v12,v13,v14,v15,rfl,fun t ht=>ht,rfl,rfl,hLn⟩
      ·rintro δ S5 ⟨seen,line,ts,v12,v13,v14,v15,_,_,rfl,rfl,hLn⟩
       exact ⟨trivial,hN' _ _ ⟨seen,line,rs,_,_,_,_,_,_,_,rfl,fun l hl=>hrs l (zar _ hl),rfl,rfl,hLn⟩⟩
      ·rintro d rest δ S5 N3 ⟨seen,line,ts,v12,v13,v14,v15,hr,hts,rfl,rfl,hLn⟩ hN3
       cases ts with
       | nil=>simp at hr
       | cons t ts =>
        rw [zbC] at hr
        injection hr with e1 e2
        subst e1;subst e2
        have FJ:=hwo t (hts t (by simp))
        refine ⟨trivial,?_⟩
        push_cast [fc,eB,cK]
        refine ⟨sz rfl,bG (fun rest δ S5=>∃ (seen line:List Pr) (ss:List Str) (v13 v14 v15:Option D),rest=ss.map D.str∧δ=[some (mD n 0 [1] mv),some (mD (oc p+1) 0 [oc p] (om p 0 0)),some (.lst (ls.map lD)),some (.lst (ws.map D.str)),some (.lst (L.map sL)),some (.loc S.length),some (.loc (S.length+1)),some (.tup (nL x.1)),some (.tup (nL x.2)),some (sL r),some (.lst (nL qs)),some (.lst (nL hh2)),some (.str t),v13,v14,v15]∧S5=S++[some (nO W0 (seen.map pD)),some (.lst (line.map pD))]∧Ln n (oc p+1) mv (om p 0 0) seen line (μ - 1)) ?_ ?_ _ _ _ ⟨seen,line,["on","back"],v13,v14,v15,rfl,rfl,rfl,hLn⟩⟩
        ·rintro δ S5 ⟨seen,line,ss,v13,v14,v15,_,rfl,rfl,hLn⟩
         exact ⟨trivial,hN3 _ _ ⟨seen,line,ts,_,_,_,_,rfl,fun t ht=>hts t (zar _ ht),rfl,rfl,hLn⟩⟩
        ·rintro d rest δ S5 N4 ⟨seen,line,ss,v13,v14,v15,hr,rfl,rfl,hLn⟩ hN4
         cases ss with
         | nil=>simp at hr
         | cons sd ss =>
          rw [zbC] at hr
          injection hr with e1 e2
          subst e1;subst e2
          refine ⟨trivial,?_⟩
          push_cast [tW,ia]
          refine ⟨n,0,[1],mv,qs,sd,t,rfl,by lia,hm1,by lia,FU,by lia,FJ,fun t1 nt1 ht1 => ?_⟩
          have hs1:∀ y∈t1,y<n:=fun y hy=>by
           obtain ⟨m,hm,_,_,rfl⟩:=(ht1 y).mp hy
           exact (hm1 m hm).2.2
          have ht1l:=cD n t1 nt1 hs1
          refine .inr ⟨t1.map fun k:Nat=>(k:Int),?_,by rw [zbr];lia,fun ns1 pe1 so1 => ?_⟩
          ·simp only [mV,je,cB,nL,zbP];rfl
          obtain ⟨u1,mu1,su1,eu1⟩:=r9 nt1 pe1 so1
          rw [eu1]
          refine ⟨oc p+1,0,[oc p],om p 0 0,hh2,sd,t,rfl,by lia,hm2,FP,FT,by lia,FJ,fun t2 nt2 ht2 => ?_⟩
          have hs2:∀ y∈t2,y<oc p+1:=fun y hy=>by
           obtain ⟨m,hm,_,_,rfl⟩:=(ht2 y).mp hy
           exact (hm2 m hm).2.2
          have ht2l:=cD (oc p+1) t2 nt2 hs2
          refine .inr ⟨t2.map fun k:Nat=>(k:Int),?_,by rw [zbr];lia,fun ns2 pe2 so2 => ?_⟩
          ·simp only [mV,je,cB,nL,zbP];rfl
          obtain ⟨u2,mu2,su2,eu2⟩:=r9 nt2 pe2 so2
          rw [eu2]
          have hg:Gd n (oc p+1) mv (om p 0 0) (u1,u2):=⟨su1,fun y hy=>hs1 y ((mu1 y).mp hy),su2,fun y hy=>hs2 y ((mu2 y).mp hy),uV hx.both he1 he2 (fun y=>(mu1 y).trans (ht1 y)) fun y=>(mu2 y).trans (ht2 y)⟩
          have hfew:=hLn.few
          have hle:=hLn.le
          have hgk:∀ k∈seen.map pD,ef k:=fun k hk=>by
           obtain ⟨y,_,rfl⟩:=zbO.mp hk
           exact fJ y
          refine ⟨sz rfl,S.length,seen.map pD,rfl,atS _ _,fJ (u1,u2),hgk,_,rfl,?_⟩
          rw [show (D.tup [D.tup (nL u1),D.tup (nL u2)])=pD (u1,u2) from rfl,x9]
          refine d7 (fun c => ?_) (fun c => ?_)
          ·have c:(u1,u2) ∉ seen:=by simpa using c
           push_cast [rG,pR]
           refine ⟨S.length,rfl,seen.map pD,atS _ _,fJ (u1,u2),hgk,by rw [zbr];lia,?_⟩
           rw [Hi,C9 seen _ c]
           refine ⟨by simp only [aU,atL];rfl,S.length+1,line.map pD,_,rfl,rfl,atL _ _,by rw [zbr,yaf];lia,?_⟩
           rw [ES,show line.map pD++[pD (u1,u2)]=(line++[(u1,u2)]).map pD by rw [zbu];rfl]
           exact hN4 _ _ ⟨seen++[(u1,u2)],line++[(u1,u2)],ss,_,_,_,rfl,rfl,rfl,hLn.add hg c⟩
          ·exact hN4 _ _ ⟨seen,line,ss,_,_,_,rfl,rfl,rfl,hLn⟩
     ·rintro d rest acc δ S4 N2 ⟨qs,rs',v,hr,he,rfl,rfl,rfl⟩ hN2
      cases rs' with
      | nil=>simp [nL] at hr
      | cons y rs' =>
       rw [nL,zbC] at hr
       injection hr with e1 e2
       subst e1;subst e2
       have he':(qs++[y])++rs'=hh1:=by rw [zaR];exact he
       have hql:qs.length≤11:=by have:=congrArg zbZ he;simp at this;lia
       refine ⟨trivial,?_⟩
       push_cast [mD,aN,K33.at2]
       refine j4 (ns:=[1]) (.inr rfl) (by simp) ⟨_,rfl,d7 (fun c => ?_) (fun c => ?_)⟩
       ·have c:y=1:=by simpa using c
        have hfl:=List.length_filter_le (fun y=>decide (y=1)) qs
        refine ⟨by rw [nL,zbr,yaf];lia,hN2 _ _ _ ⟨qs++[y],rs',_,rfl,he',?_,rfl,rfl⟩⟩
        rw [List.filter_append,nL,nL,zbu]
        simp [c]
       ·have c : ¬ y=1:=by simpa using c
        refine hN2 _ _ _ ⟨qs++[y],rs',_,rfl,he',?_,rfl,rfl⟩
        rw [List.filter_append]
        simp [c]
end
open PySem L2 M M6
noncomputable abbrev qu:Stmt:=top 24
noncomputable abbrev y9:List Str:=["_law_script","_law_k","_law_pattern_here","_law_moves","_law_last"]
noncomputable abbrev nS:List Str:=["_law_script"]
theorem oB:aP y9 nS (ak qu):=L2.eu
noncomputable def strOf:yai→Option Str
 | .str x _=>some x
 | _=>none
theorem lE:∀ {vs:List yai}{ss:List Str},vs.map strOf=ss.map some→Vals (ss.map V.str) vs
 | [],[],_=>.nil
 | v::vs,s::ss,h=>by
  rw [zbC,zbC] at h
  have h1:=zci.inj h
  refine .cons ?_ (lE h1.2)
  cases v <;> simp [strOf] at h1
  obtain ⟨rfl,_⟩:=h1
  exact ⟨_,rfl⟩
theorem vJ {K:yaE}{a:Addr}{od:Option Addr}{its:Array yai}{n:Nat}{sl:Array (Option yai)}{ss:List Str} (l:K.lookup a=some ⟨.type "tuple",od,.seq its n,sl⟩) (q:(its.toList.map strOf==ss.map some)=true) (h:ss.length≤100) (H:Hp):ck K H a (ss.map V.str):=by
 have v:=lE (eq_of_beq q)
 refine .inr ⟨_,its,n,l,rfl,rfl,?_,v⟩
 have:=v.length
 rw [zbr] at this
 rw [yaf,← zaB];lia
section
variable {P:yaj}{w:yak}{K:yaE}{mg:Str→Option yai}{base:Heap}
def vN:AN:=fun ds S Q=>∃ ns:List Int,ds=[.i6 ns]∧S=[]∧Q (.dat (.bl true)) []
theorem DY {f:Addr}{fd:yap} (T:Txt K mg) (F:Cm K "law" "law" qu f fd) (D_law_cell_at:Def P w K mg base 1 "_law_cell_at" ir (aF K vP)) (D_law_pattern:Def P w K mg base 6 "_law_pattern" ie (aF K vL)) (D_law_own:Def P w K mg base 4 "_law_own" dz (aF K (rV 2))) (D_law_leaves:Def P w K mg base 4 "_law_leaves" dB (aF K (oi 2)))
  (D_machine_of:Def P w K mg base 4 "machine_of" kG (aF K BI)) (D_law_alike:Def P w K mg base 2 "_law_alike" fq (aF K rZ)) :
  fu P w K mg base qc 7 f fd nS (aF K vN):=by
 refine okB F oB (fun ds S Q h => ?_) (fun f cdv A outer s H E hr => ?_)
 ·obtain ⟨ns,rfl,_⟩:=h;rfl
 ·refine ⟨_,(M.af (M.bT PassesOwn.never rfl (M.dH (by rfl) T.range (M.ao (M.aD M.bz M.ah (M.sG M.jP (by rfl) T.len (by decide +kernel) (M.ao (M.gG M.BV (M.pv 0) M.ja (M.i9 M.ah)) M.aa))) M.aa)) (M.aG (i:=1) oB.nd rfl (Or.inl rfl))
    (M.af (M.aq (i:=2) oB.nd rfl (Or.inl rfl) (M.ow D_law_pattern hr (M.ao (M.ow D_law_cell_at hr (M.ao (M.pv 0) (M.ao (M.pv 1) M.aa))) (M.ao M.ah M.aa))))
    (M.af (M.aq (i:=3) oB.nd rfl (Or.inl rfl) (M.Bd (M.aO M.aa)))
    (M.af (M.aq (i:=4) oB.nd rfl (Or.inl rfl) (M.ow D_law_own hr (M.ao (M.pv 2) (M.ao M.ah (M.ao (M.pv 3) (M.ao M.ah M.aa))))))
    (M.ai (M.bI (M.mZ (M.qz (M.ow D_law_alike hr (M.ao (M.ow D_machine_of hr (M.ao (M.pv 2) M.aa)) (M.ao (M.aE (M.ao (M.aD M.bz (M.pv 4) M.ah) (M.ao M.ah (M.ao (M.aE (M.ao (M.pv 4) M.aa)) (M.ao (M.xg M.dI (by rfl) T.tuple (by decide +kernel) (M.ao (M.pv 3) M.aa)) M.aa))))) (M.ao (M.ow D_law_leaves hr (M.ao (M.pv 2) M.aa)) M.aa))))))
     (M.ai (M.aL M.iH))
     M.aR))))))
   (M.ai (M.aL M.iH))),fun ds S Q h => ?_⟩
  obtain ⟨ns,rfl,rfl,q⟩:=h
  have e0:bf y9 [.i6 ns]=[some (.i6 ns),none,none,none,none]:=rfl
  rw [e0]
  push_cast [fc,xW]
  show ∃ x,_
  have h1:(cutD ns none (some 1)).length≤1:=by
   unfold cutD
   rw [zbb]
   have:HT.bL ns.length ns.length (some ((1:Nat):Int))≤1:=by rw [HT.zS];lia
   have:HT.bL ns.length ns.length (some (1:Int))≤1:=this
   lia
  refine ⟨((cutD ns none (some 1)).map D.int).length,rfl,by lia,by rw [zbr];lia,?_⟩
  refine bG (fun rest δ S'=>∃ (v1 v2 v3 v4:Option D) (T0:aJ),δ=[some (.i6 ns),v1,v2,v3,v4]∧S'=T0∧∀ x∈rest,∃ k:Nat,x = .int k) ?_ ?_ _ _ _ ⟨none,none,none,none,[],rfl,rfl,fun x hx => ?_⟩
  ·rintro δ S' ⟨v1,v2,v3,v4,T0,rfl,rfl,_⟩
   refine ⟨trivial,?_⟩
   push_cast [true_and]
   exact gA (S:=[]) (T:=S') rfl q
  ·rintro x rest δ S' N' ⟨v1,v2,v3,v4,T0,rfl,rfl,hx⟩ hN'
   obtain ⟨k,rfl⟩:=hx x (by simp)
   refine ⟨trivial,?_⟩
   push_cast [true_and]
   refine ⟨ns,k,rfl,fun z => ?_⟩
   push_cast [true_and]
   refine ⟨z,rfl,fun p p1 p2 p3 => ?_⟩
   push_cast [cY]
   refine ⟨zcc _,p,0,0,S'.length,[],rfl,p2,by simp,by simp;lia,?_⟩
   rw [zao _ _ (zca _),Nat.sub_self,List.set_cons_zero,zbs,Nat.zero_add]
   refine ⟨p,rfl,p1,by lia,fun n mv b1 b2 b3 b4 => ?_⟩
   push_cast [true_and]
   refine ⟨sz rfl,?_⟩
   have es:aU (S'++[some (.lst ((om p 0 0).map vD))]) (.loc S'.length) = .lst ((om p 0 0).map vD):=by simp [aU,MO.d]
   push_cast [ia,es]
   refine ⟨sz rfl,p,rfl,p2,by lia,fun r hr => ?_⟩
   have er:r.d = .lst ((jg p).map lD):=by rcases hr with rfl | rfl <;> rfl
   have hlv:=nu p
   refine ⟨p,n,mv,jg p,?_,p1,p3,b1,by lia,by lia,b4,qI p p1,by lia,true,rfl,?_⟩
   ·rw [er];rfl
   ·rw [yIn (by decide)]
    exact hN' _ _ ⟨_,_,_,_,_,rfl,rfl,fun x h=>hx x (zar _ h)⟩
  ·simp only [j5,zbO] at hx
   obtain ⟨k,_,rfl⟩:=hx
   exact ⟨k,by simp⟩
def rX (K:yaE):Sp:=fun vs H Q _=>∃ (a:Addr) (ns:List Int),vs=[.ref a]∧cj K H a (ns.map V.int)∧ns.length≤63∧∀ H',Q (.bl true) H'
theorem Cu {f:Addr}{fd:yap}{k:Nat} (h:fu P w K mg base qc k f fd nS (aF K vN)):fu P w K mg base qc k f fd nS (rX K):=h.imp fun vs H Q E z=>by
 obtain ⟨a,ns,rfl,hS,_,q⟩:=z
 refine ⟨⟨H,fun _=>none⟩,[.i6 ns],[],fun r S=>r = .dat (.bl true),⟨eF.refl _,fun n o e=>by simp at e,fun n m o o' e=>by simp at e,fun _ _=>rfl⟩,?_,⟨ns,rfl,rfl,rfl⟩,fun r S' v w' H' _ _ rep e => ?_⟩
 ·simp only [aj,Rep];exact ⟨_,_,rfl,⟨a,rfl,hS⟩,rfl⟩
 ·subst e
  have:v = .bl true:=qx rep rfl
  subst this
  exact q H'
end
open PySem L2
theorem all_mk {l:PySem.W.OpenLaw}{w:yak}{K:yaE}{h:Heap}{mg:Str→Option yai}{fa:Addr} (X:K.In h) (G:h.Ns yaq mg) (hfa:mg "law" = some (.ref fa))
  {t_BEGIN:Tok}{t_END:Tok}{ad_LEAVES:Addr}{od_LEAVES:Option Addr}{its_LEAVES:Array yai}{n_LEAVES:Nat}{sl_LEAVES:Array (Option yai)}{ad_STAY:Addr}{od_STAY:Option Addr}{its_STAY:Array yai}{n_STAY:Nat}{sl_STAY:Array (Option yai)}
  (e_scLaid:kL K "laid_out" wo)
  (e_scNew:kL K "new_stands" CU)
  (e_scCut:kL K "cut" CZ)
  (e_scMOf:kL K "machine_of" CV)
  (e_scCell:kL K "_law_cell_at" wu)
  (e_scDraws:kL K "_law_draws" qv)
  (e_scWords:kL K "_law_words" qp)
  (e_scMarks:kL K "_law_marks" qt)
  (e_scLeaf:kL K "_law_leaf" wm)
  (e_scPart:kL K "_law_part" oF)
  (e_scPatt:kL K "_law_pattern" wc)
  (e_scStill:kL K "_law_still" qq)
  (e_scLBy:kL K "_law_by" CW)
  (e_scOwn:kL K "_law_own" we)
  (e_scLvs:kL K "_law_leaves" wj)
  (e_scSets:kL K "_law_sets" vZ)
  (e_scAlike:kL K "_law_alike" mQ)
  (e_scLaw:kL K "law" qu)
  (z_len:zbX K yaq "len" = some none)
  (z_tuple:zbX K yaq "tuple" = some none)
  (z_list:zbX K yaq "list" = some none)
  (z_range:zbX K yaq "range" = some none)
  (z_sorted:zbX K yaq "sorted" = some none)
  (z_set:zbX K yaq "set" = some none)
  (z_zip:zbX K yaq "zip" = some none)
  (z_max:zbX K yaq "max" = some none)
  (z_min:zbX K yaq "min" = some none)
  (m_BEGIN:zbX K yaq "BEGIN" = some (some (.int 0 t_BEGIN)))
  (m_END:zbX K yaq "END" = some (some (.int 1 t_END)))
  (m_LEAVES:zbX K yaq "LEAVES" = some (some (.ref ad_LEAVES)))
  (l_LEAVES:K.lookup ad_LEAVES=some ⟨.type "tuple",od_LEAVES,.seq its_LEAVES n_LEAVES,sl_LEAVES⟩)
  (q_LEAVES:(its_LEAVES.toList.map strOf==(["stay","step","at","off"]:List Str).map some)=true)
  (m_STAY:zbX K yaq "STAY" = some (some (.ref ad_STAY)))
  (l_STAY:K.lookup ad_STAY=some ⟨.type "tuple",od_STAY,.seq its_STAY n_STAY,sl_STAY⟩)
  (q_STAY:(its_STAY.toList.map strOf==(["stay"]:List Str).map some)=true) :
  ∃ fd:yap,(∀ (s:yah) (v:yai),yaz s fd ⟨[v],[]⟩ [("_law_script",v)])∧∀ base:Heap,K.In base→base.Ns yaq mg→fu l.prog w K mg base qc 7 fa fd ["_law_script"] (rX K):=by
 have yU:=e_scLaid.src (ps:=ig) X G fun _ _ _ _ _ _=>J.Eu (fun _=>rfl)
 have Br:=e_scNew.src (ps:=iE) X G fun _ _ _ _ _ _=>J.Eu (fun _=>rfl)
 have Bv:=e_scCut.src (ps:=kI) X G fun _ _ _ _ _ _=>J.Et (fun _ _=>rfl)
 have Bs:=e_scMOf.src (ps:=kG) X G fun _ _ _ _ _ _=>J.Eu (fun _=>rfl)
 have yV:=e_scCell.src (ps:=ir) X G fun _ _ _ _ _ _=>J.Et (fun _ _=>rfl)
 have vd:=e_scDraws.src (ps:=fk) X G fun _ _ _ _ _ _=>J.Et (fun _ _=>rfl)
 have uZ:=e_scWords.src (ps:=ff) X G fun _ _ _ _ _ _=>fun us e=>by cases us with | nil=>rfl | cons _ _=>cases e
 have vc:=e_scMarks.src (ps:=fj) X G fun _ _ _ _ _ _=>fun us e=>by cases us with | nil=>rfl | cons _ _=>cases e
 have yT:=e_scLeaf.src (ps:=fP) X G fun _ _ _ _ _ _=>J.Et (fun _ _=>rfl)
 have yS:=e_scPart.src (ps:=cA) X G fun _ _ _ _ _ _=>J.G0 (fun _ _ _=>rfl)
 have yR:=e_scPatt.src (ps:=ie) X G fun _ _ _ _ _ _=>J.Et (fun _ _=>rfl)
 have u9:=e_scStill.src (ps:=fh) X G fun _ _ _ _ _ _=>J.G0 (fun _ _ _=>rfl)
 have Bu:=e_scLBy.src (ps:=kH) X G fun _ _ _ _ _ _=>J.by4 (fun _ _ _ _=>rfl)
 have Bq:=e_scOwn.src (ps:=dz) X G fun _ _ _ _ _ _=>J.by4 (fun _ _ _ _=>rfl)
 have Bt:=e_scLvs.src (ps:=dB) X G fun _ _ _ _ _ _=>J.Eu (fun _=>rfl)
 have yQ:=e_scSets.src (ps:=ic) X G fun _ _ _ _ _ _=>J.Eu (fun _=>rfl)
 have ve:=e_scAlike.src (ps:=fq) X G fun _ _ _ _ _ _=>J.G0 (fun _ _ _=>rfl)
 obtain ⟨f_scLaw,oc_scLaw,od_scLaw,kV_scLaw,dc_scLaw,pm_scLaw,an_scLaw,cd_scLaw,ct_scLaw,sl_scLaw,a_scLaw,l_scLaw,c_scLaw,k_scLaw⟩:=e_scLaw.ex
 have e:=hfa.symm.trans (zbL X G a_scLaw)
 cases e
 have F:=qR (st:=qu) l_scLaw c_scLaw k_scLaw
 have T:Txt K mg:=⟨zaM X G z_len,zaM X G z_tuple,zaM X G z_list,zaM X G z_range,zaM X G z_sorted,zaM X G z_set,zaM X G z_zip,zaM X G z_max,zaM X G z_min,⟨_,zbL X G m_BEGIN⟩,⟨_,zbL X G m_END⟩,⟨_,zbL X G m_LEAVES,fun H=>vJ l_LEAVES q_LEAVES (by decide) H⟩,⟨_,zbL X G m_STAY,fun H=>vJ l_STAY q_STAY (by decide) H⟩⟩
 refine ⟨zbW "law" "law" (cz qu) (bO qu) (ak qu) .none kV_scLaw dc_scLaw pm_scLaw an_scLaw cd_scLaw ct_scLaw,fun s v=>.of_eq rfl,fun base _ _ => ?_⟩
 have Cn:=F8 (P:=l.prog) (w:=w) (base:=base) T Br
 have By:=A5 (P:=l.prog) (w:=w) (base:=base) T vd
 have Eo:=DX (P:=l.prog) (w:=w) (base:=base) T yT (A0 T uZ) (A4 T vc)
 exact Cu (DY T F (D0 T yV) (DW T yR By (yj T yS Eo 2 (by lia))) (Cd T Bq 2 (by lia)) (Ce T Bt 2 (by lia)) (F9 T Bs (DZ T yU Cn (Gb T Bv Cn))) (A6 T ve (A3 T u9) (Ga T Bu) (DV T yQ)))
theorem walk {l:PySem.W.OpenLaw}{q:yaj}{loose:List Str}{XP:(Str→Option yai)→Heap→Prop}{YP:yak→Heap→Prop}{d:DefRec}{K:Params→yaE} (hn:l.most=some 63) (hdf:d.params.defaults=[])
  (hY:∀ (w:yak) (h:Heap),YP w h→(K w.params).In h)
  (F:∀ (w:yak) (mg:Str→Option yai) (fa:Addr) (h:Heap),(K w.params).In h→h.Ns yaq mg→mg d.name=some (.ref fa) →
   ∃ fd:yap,(∀ (s:yah) (u:yai),yaz s fd ⟨[u],[]⟩ [("_law_script",u)])∧∀ base:Heap,(K w.params).In base→base.Ns yaq mg→fu l.prog w (K w.params) mg base qc 7 fa fd ["_law_script"] (rX (K w.params))) :
  PySem.W.WalkO q loose XP YP l.row.toRowW d [] (fun f vs=>PySem.call f vs) :=
 L2.zx (n:=63) (k:=7) (x := "_law_script") (CX:=fun _=>qc) (sp:=fun w=>rX (K w.params)) hn (by decide) hdf ⟨rfl,by decide,by decide,rfl⟩ hY F (fun _ _ a ns hl _ hS=>⟨a,ns,rfl,hS,hl,fun _=>rfl⟩) fun _ _ _ _ _ z=>z
end K33
open PySem PySem.W PyProof.Rows
namespace PySem.Challenge.cw_pathask_k33_whole_every_web_holds
def tw17841516272164944465:=0
def tw10907313899406764265:=0
def tw16180768795388622993:=0
def tw5525840726273386199:=0
def tw3240552590041347702:=0
def tw8083462655533893500:=0
def tw1106145807902235150:=0
def tw8034360300411597941:=0
def tw5566960073566780153:=0
def tw16770742858300657460:=0
def tw15029617986939670932:=0
def tw16722170506253455727:=0
def tw15402798275784694478:=0
def tw6561549382527763536:=0
def tw16043796994352588665:=0
def tw1390323753116559097:=0
def tw3619122950813542459:=0
def tw15265526678661123221:=0
def tw15331373272239134333:=0
def tw5932380360786948429:=0
def tw15720486494351581202:=0
def tw14600487240011189557:=0
def tw7481155314106996514:=0
def tw9331042387793601907:=0
def tw11234763141035782521:=0
def tw11030058973458851098:=0
def tw6780679749270632725:=0
def tw17547057054633438974:=0
def tw6514904497609869668:=0
def tw10384163282873469813:=0
def tw43180341541190904:=0
def tw620724839075684497:=0
def tw16525543428483597267:=0
def tw5165804135880518006:=0
def tw9411220464451314689:=0
def tw9587512619722094715:=0
def tw6898899342368921188:=0
def tw11356745078762202229:=0
def tw13281004218559357572:=0
def tw1650954568254952586:=0
def tw14195983848680339401:=0
def tw8977471547987545182:=0
def tw16148859286781114874:=0
def tw10921533102158468003:=0
def tw1741528460647377064:=0
def tw13880982226345162289:=0
def tw3358189737398926672:=0
def tw5838850798993006250:=0
def tw355440042288656008:=0
def tw662923760277363285:=0
def tw11007000931557226512:=0
def tw6105520453168687820:=0
def tw13710800725530452819:=0
def tw4570605672242019813:=0
def tw137896478611173750:=0
def tw7122401938405539219:=0
def tw10268787524642669784:=0
def tw15469942031198160762:=0
def tw9279283306137698701:=0
def tw14666103493856735186:=0
def tw5616014895995040487:=0
def tw5011007299959616758:=0
def tw4682634508324359298:=0
def tw8160186102254655722:=0
def tw93443028776557164:=0
def tw4441005602278895175:=0
def tw9003920084578303676:=0
def tw4902041335139535291:=0
def tw16792021516978523648:=0
def tw5592623883726393903:=0
def tw10278208943571323010:=0
def tw14296662860461926858:=0
def tw16370684057227418114:=0
def tw3804355067534497067:=0
def tw6091229840395741616:=0
def tw16843565663397909492:=0
def tw14647833842890876753:=0
def tw13456807396478004365:=0
def tw8599778377923951436:=0
def tw100619071612589087:=0
end PySem.Challenge.cw_pathask_k33_whole_every_web_holds
set_option Elab.async true in
set_option maxRecDepth 100000 in
set_option maxHeartbeats 0 in
theorem PySem.Challenge.cw_pathask_k33_whole_every_web_holds : PySem.Challenge.rw_pathask_k33_whole_every_web.Holds := by
 w_on;o_law;k_head;(case hw=>w_witness2)
 k_fill
 refine K33.walk (l:=PySem.Challenge.rw_pathask_k33_whole_every_web) rfl rfl (fun w h Y=>PySem.W.kIn_of Y) ?F
 case F =>
  intro w mg fa h KX G hmg
  refine' K33.all_mk KX G hmg ?_ ?_ ?_ ?_ ?_ ?_ ?_ ?_ ?_ ?_ ?_ ?_ ?_ ?_ ?_ ?_ ?_ ?_ ?_ ?_ ?_ ?_ ?_ ?_ ?_ ?_ ?_ ?_ ?_ ?_ ?_ ?q_LEAVES ?_ ?_ ?q_STAY
  (case q_LEAVES=>kernel_rfl)
  (case q_STAY=>kernel_rfl)
  all_goals try first | (refine' L2.kL.of ?a ?l ?c ?k;(case a=>k_is);(case l=>k_is);(case c=>k_is);(case k=>k_is)) | (refine' L2.InM.of ?a ?l ?c ?k ?i;(case a=>k_is);(case l=>k_is);(case c=>k_is);(case k=>k_is);(case i=>k_is)) | k_is
