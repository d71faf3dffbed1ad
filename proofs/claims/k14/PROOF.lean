import PyProof.Rows.All
import Wide.All
import OpenK.AllK
import Wide.FinOn
import Lean
import PyProof.EqAt
import PyProof.EqKinds
import PyProof.TupleCall
import PyProof.DictCompW
import PyProof.Rows.Range3
import KE.KRevIter
import PyProof.AutoRange
import PyProof.FactsAll.range_2
import PyProof.Rows.CallKwBuiltin
import PyProof.ListRange
import PyProof.TupleOfGen
import PyProof.P3Eq
import PyProof.Rows.RowHeap
import PyProof.CollectIter
import PyProof.WalksMore
import PyProof.AutoSeq1
import KE.KListMore
import PyProof.AttrMissHeap
import KE.KDictOf
import KE.KSortTup
import PyProof.Rows.SortWalk
import PyProof.SumWalkG
import PyProof.DictWalks
import KE.KDictSum
import PyProof.SetKind
import PyProof.SetRoads
import PyProof.Rows.SetFrom
import PySem.Challenge.RW_keepwhole_k14_least_room_beside_all
open PySem renaming wpAny_bind → Γa
open PySem renaming wpAny_pure → Γb
open PySem.Heap renaming get?_push_of_some → Γc
open PySem.W renaming Frag → Γd
open PySem.Str renaming ofString → Γe
open PySem.Heap renaming get?_update_other → Γf
open PySem renaming wpAny_holding → Γg
open List renaming mem_cons_of_mem → Γh
open Nat renaming le_refl → Γi
open List renaming replicate → Γj
open Bool renaming false_ne_true → Γk
open PySem.Heap renaming lt_size → Γl
open PySem.Heap renaming get?_push_size → Γm
open List renaming mem_cons_self → Γn
open Nat renaming ne_of_lt → Γo
open Bool renaming false_eq_true → Γp
local macro_rules | `(tactic| nofun) => `(tactic| decide +kernel)
set_option Elab.async false
set_option linter.all false
set_option maxRecDepth 100000
section
namespace L2
open PySem PySem.Spec PyProof.Rows
abbrev Key:=Sum Int (Option Str)
def b3s:Key→Value→Bool
 | .inl k,v=>Value.isInt k v
 | .inr (some x),v=>Value.isStrOf x v
 | .inr none,v=>match v with
  | .none=>true
  | _=>false
def keyH (w:World):Key→Int
 | .inl k=>hashInt k
 | .inr (some x)=>hashStr w x
 | .inr none=>4238894112
theorem b7l {prog:Program} {w:World} {A:Around} {E:Value→Shared→Prop} {s:Shared} {Q:Int→Shared→Prop} (h:Q 4238894112 { s with toks:=s.toks + 1 }):wpAny (model prog w) A (pyHash .none) Q E s:=by
 have hT:s.TypeIs .none "NoneType":=rfl
 show wpAny _ _ (pyHashByItsType .none) Q E s
 unfold pyHashByItsType
 have hv:[Value.none].any Value.onHeap=false:=rfl
 refine Γa ?_
 rw [cRoomFor,if_neg (by rw [hv]; exact Γk)]; refine Γb ?_
 refine Γa (wpAny_specialOf hT PySem.F.slot_NoneType_hash.lookup ?_)
 show wpAny _ _ (if (some (Value.builtin "NoneType.__hash__") == some Value.none)=true then _ else _) Q E s
 rw [if_neg (by decide)]
 refine Γa (wpAny_specialOf hT PySem.F.slot_NoneType_hash.lookup ?_)
 show wpAny _ _ (callSpecialIfBoundUnlessNone? .none "__hash__" _ >>= _) Q E s
 refine Γa (wpAny_callSpecialIfBoundUnlessNone?_slot hT PySem.F.slot_NoneType_hash
  (wpAny_call_entry PySem.F.slot_NoneType_hash hT PySem.F.entry_NoneType_hash
   (show wpAny _ _ (do ret (← mkInt 4238894112)) _ _ s from wpAny_ret_mkInt ?_) (PySem.F.args_NoneType_hash_1 _)))
 show wpAny _ _ (if (decide (-(2:Int) ^ 63≤4238894112) && decide ((4238894112:Int) < 2 ^ 63))=true then _ else _) Q E _
 rw [if_pos (by decide)]
 exact Γb h
theorem a0u:∀ {k:Key} {v:Value},b3s k v=true→(∃ i t,k=Sum.inl i∧v=Value.int i t) ∨ (∃ x t,k=Sum.inr (some x)∧v=Value.str x t) ∨ (k=Sum.inr none∧v=Value.none)
 | .inl i,v,h=>by
  obtain ⟨t,e⟩:=Value.isInt_shape (k:=i) (v:=v) h
  exact .inl ⟨i,t,rfl,e⟩
 | .inr (some x),v,h=>by
  obtain ⟨t,e⟩:=Value.isStrOf_shape (x:=x) (v:=v) h
  exact .inr (.inl ⟨x,t,rfl,e⟩)
 | .inr none,v,h=>by
  cases v with
  | none=>exact .inr (.inr ⟨rfl,rfl⟩)
  | _=>cases h
theorem b6r (i:Int) (t:Tok):b3s (.inl i) (.int i t)=true:=by simp [b3s,Value.isInt]
theorem b6q (x:Str) (t:Tok):b3s (.inr (some x)) (.str x t)=true:=by simp [b3s,Value.isStrOf]
theorem c9c (a b:Int):decide ((Sum.inl a:Key)=Sum.inl b)=(a == b):=by
 by_cases e:a=b
 ·subst e; simp
 ·have h:¬ (Sum.inl a:Key)=Sum.inl b:=fun q=>e (Sum.inl.inj q)
  rw [decide_eq_false h]
  exact (beq_eq_false_iff_ne.mpr e).symm
theorem c9b (a b:Str):decide ((Sum.inr (some a):Key)=Sum.inr (some b))=decide (a=b):=by
 by_cases e:a=b
 ·subst e; simp
 ·have h:¬ (Sum.inr (some a):Key)=Sum.inr (some b):=fun q=>e (Option.some.inj (Sum.inr.inj q))
  rw [decide_eq_false h,decide_eq_false e]
def a0k (prog:Program) (w:World):PySem.KeyKind prog w Key where
 is:=b3s
 hash:=keyH w
 inj:=fun v a b ha hb=>by
  rcases a0u ha with ⟨i,t,rfl,rfl⟩ | ⟨x,t,rfl,rfl⟩ | ⟨rfl,rfl⟩ <;> rcases a0u hb with ⟨j,u,rfl,e⟩ | ⟨y,u,rfl,e⟩ | ⟨rfl,e⟩ <;> first | rfl | (injection e with e1 _; rw [e1]) | cases e
 byValue:=fun k v h=>by
  rcases a0u h with ⟨i,t,rfl,rfl⟩ | ⟨x,t,rfl,rfl⟩ | ⟨rfl,rfl⟩ <;> rfl
 pyHash:=fun hv h=>by
  rcases a0u hv with ⟨i,t,rfl,rfl⟩ | ⟨x,t,rfl,rfl⟩ | ⟨rfl,rfl⟩
  ·exact wpAny_pyHash_int h
  ·exact wpAny_pyHash_str h
  ·exact b7l h
 eqBool:=fun hu hv h=>by
  rcases a0u hu with ⟨i,t,rfl,rfl⟩ | ⟨x,t,rfl,rfl⟩ | ⟨rfl,rfl⟩
  ·rcases a0u hv with ⟨j,u,rfl,rfl⟩ | ⟨y,u,rfl,rfl⟩ | ⟨rfl,rfl⟩
   ·rw [c9c] at h; exact wpAny_eqBool_int h
   ·rw [decide_eq_false (show ¬ (Sum.inl i:Key)=Sum.inr (some y) from fun q=>nomatch q)] at h; exact SeqAt.EqAt.int_str i t y u _ _ _ _ h
   ·rw [decide_eq_false (show ¬ (Sum.inl i:Key)=Sum.inr none from fun q=>nomatch q)] at h; exact SeqAt.EqAt.int_none i t _ _ _ _ h
  ·rcases a0u hv with ⟨j,u,rfl,rfl⟩ | ⟨y,u,rfl,rfl⟩ | ⟨rfl,rfl⟩
   ·rw [decide_eq_false (show ¬ (Sum.inr (some x):Key)=Sum.inl j from fun q=>nomatch q)] at h; exact SeqAt.EqAt.str_int x t j u _ _ _ _ h
   ·rw [c9b] at h; exact wpAny_eqBool_str h
   ·rw [decide_eq_false (show ¬ (Sum.inr (some x):Key)=Sum.inr none from fun q=>nomatch q)] at h; exact SeqAt.EqAt.str_none x t _ _ _ _ h
  ·rcases a0u hv with ⟨j,u,rfl,rfl⟩ | ⟨y,u,rfl,rfl⟩ | ⟨rfl,rfl⟩
   ·rw [decide_eq_false (show ¬ (Sum.inr none:Key)=Sum.inl j from fun q=>nomatch q)] at h; exact SeqAt.EqAt.none_int j u _ _ _ _ h
   ·rw [decide_eq_false (show ¬ (Sum.inr none:Key)=Sum.inr (some y) from fun q=>nomatch q)] at h; exact SeqAt.EqAt.none_str y u _ _ _ _ h
   ·rw [decide_eq_true rfl] at h; exact SeqAt.EqAt.same .none _ _ _ _ h
 «strs»:=fun k x t v h=>by
  rcases a0u h with ⟨i,u,rfl,e⟩ | ⟨y,u,rfl,e⟩ | ⟨rfl,e⟩
  ·exact nomatch e
  ·injection e with e1 _
   subst e1
   cases v <;> rfl
  ·exact nomatch e
theorem b1b (prog:Program) (w:World) (i:Int) (t:Tok):(a0k prog w).is (.inl i) (.int i t)=true:=b6r i t
theorem a9e (prog:Program) (w:World):(a0k prog w).is (.inr none) .none=true:=rfl
theorem b1a (prog:Program) (w:World) (x:Str) (t:Tok):(a0k prog w).is (.inr (some x)) (.str x t)=true:=b6q x t
end L2
namespace L2
open PySem PySem.Spec PyProof.Rows
inductive V where
 | non | bl (b:Bool) | int (i:Int) | str (x:Str) | byt (b:Array UInt8) | flt (b:UInt64) | ref (a:Addr) | ty (n:String)
 deriving DecidableEq
def RelV:V→Value→Prop
 | .non,u=>u=Value.none
 | .bl b,u=>u=Value.bool b
 | .int i,u=>∃ t,u=Value.int i t
 | .str x,u=>∃ t,u=Value.str x t
 | .byt b,u=>∃ t,u=Value.bytes b t
 | .flt b,u=>∃ t,u=Value.float b t
 | .ref a,u=>u=Value.ref a
 | .ty n,u=>u=Value.type n
abbrev Vals:List V→List Value→Prop:=Paired RelV
theorem Vals.length {xs:List V} {us:List Value} (r:Vals xs us):xs.length=us.length:=Paired.length r
theorem Vals.get:∀ {xs:List V} {us:List Value} {i:Nat} {x:V},Vals xs us→xs[i]?=some x→∃ u,us[i]?=some u∧RelV x u
 | _,_,_,_,.nil,e=>by simp at e
 | _,_,0,_,.cons r _,e=>by simp at e; subst e; exact ⟨_,rfl,r⟩
 | _,_,i + 1,x,.cons _ t,e=>by
  obtain ⟨u,h1,h2⟩:=Vals.get (i:=i) (x:=x) t (by simpa using e)
  exact ⟨u,by simpa using h1,h2⟩
theorem Vals.set {x:V} {u:Value} (r:RelV x u):∀ {xs:List V} {us:List Value} (i:Nat),Vals xs us→Vals (xs.set i x) (us.set i u)
 | _,_,_,.nil=>.nil
 | _,_,0,.cons _ t=>.cons r t
 | _,_,i + 1,.cons q t=>.cons q (Vals.set r i t)
theorem Vals.append:∀ {xs ys:List V} {us ws:List Value},Vals xs us→Vals ys ws→Vals (xs++ys) (us++ws)
 | _,_,_,_,.nil,s=>s
 | _,_,_,_,.cons r t,s=>.cons r (Vals.append t s)
theorem Vals.take:∀ {xs:List V} {us:List Value} (n:Nat),Vals xs us→Vals (xs.take n) (us.take n)
 | _,_,0,_=>.nil
 | _,_,_ + 1,.nil=>.nil
 | _,_,n + 1,.cons r t=>.cons r (Vals.take n t)
theorem Vals.drop:∀ {xs:List V} {us:List Value} (n:Nat),Vals xs us→Vals (xs.drop n) (us.drop n)
 | _,_,0,r=>r
 | _,_,_ + 1,.nil=>.nil
 | _,_,n + 1,.cons _ t=>Vals.drop n t
def RelO:Option V→Option Value→Prop
 | some v,some u=>RelV v u
 | none,none=>True
 | _,_=>False
def KV {κ:Type}:List (κ×V)→List (κ×Value)→Prop:=Paired fun (p:κ×V) (q:κ×Value)=>p.1=q.1∧RelV p.2 q.2
def kV:Key→V
 | .inl i=>.int i
 | .inr (some x)=>.str x
 | .inr none=>.non
inductive HO where
 | lst (xs:List V)
 | tup (xs:List V)
 | dK (kvs:List (Key×V)) | dT (kvs:List (List Key×V))
 | set (S:Int→Bool) (n:Nat)
 | ins (C dx:Addr) (fs:List (Str×V))
 | big (C dx:Addr) (fs:List (Str×V)) (gs:List (Addr×List V))
 | own (x:Addr)
 | xd (fs:List (Str×V))
 | met (f x:Addr)
 | rng (lo hi:Int)
 | frz (o:Obj) (u:HO)
 | tbl (ps:Array Value)
 | ext (φ:Heap→Prop)
abbrev Hp:=Addr→Option HO
def upd (H:Hp) (a:Addr) (o:HO):Hp:=fun b=>if b=a then some o else H b
theorem a0e {H:Hp} {a:Addr} {o:HO}:upd H a o a=some o:=by unfold upd; rw [if_pos rfl]
theorem a0d {H:Hp} {a b:Addr} {o:HO} (h:b≠a):upd H a o b=H b:=by unfold upd; rw [if_neg h]
theorem c8w {H:Hp} {a b:Addr} {o u:HO} (h:H a=some o) (h':H b=some u) (d:o≠u):a≠b:=by
 intro e; subst e; rw [h] at h'; exact d (Option.some.inj h')
theorem a0r {H:Hp} {a b:Addr} {o:HO} (h:H a=some o) (h':H b=none):a≠b:=by
 intro e; subst e; rw [h] at h'; cases h'
section
variable (P:Program) (w:World)
def ObjOk (H:Hp) (h:Heap) (a:Addr):HO→Prop
 | .lst xs=>xs.length≤sizeLine∧∃ (its:List Value) (n:Nat),Vals xs its∧h.get? a=some { cls:=.type "list",data:=.seq its.toArray n }
 | .tup xs=>xs.length≤sizeLine∧∃ its:List Value,Vals xs its∧IsTup h a its.toArray
 | .dK kvs=>kvs.length≤sizeLine∧(a == sysModules)=false∧∃ vs,KV kvs vs∧h.DictOf (a0k P w) a vs
 | .dT kvs=>kvs.length≤sizeLine∧(a == sysModules)=false∧∃ xs:List (List Key×Addr×Value),
   Paired (fun (p:List Key×V) (q:List Key×Addr×Value)=>p.1=q.1∧H q.2.1=some (.tup (p.1.map kV))∧RelV p.2 q.2.2) kvs xs ∧
   ∃ o es ep,h.get? a=some o∧o.ExactDict∧o.data=.dict es ep∧es.toList=xs.map (entryOfKey (tupleKind (a0k P w)))∧(xs.map (·.1)).Nodup
 | .set S n=>h.SetOf (intKind P w) a S n
 | .ins C dx fs=>H dx=some (.own a)∧fs.length≤1000∧dx≠a∧h.get? a=some (PySem.W.instObj C dx) ∧
   ∃ mA,h.Ns1 dx mA∧(∀ f,RelO (fs.lookup f) (mA f))∧PySem.Within mA (fs.map (·.1))
 | .big C dx fs gs=>H dx=some (.own a)∧(∀ g∈gs,H g.1=some (.own a))∧(a :: dx :: gs.map (·.1)).Nodup∧fs.length≤1000∧h.get? a=some (PySem.W.instObj C dx) ∧
   (∃ mA,h.Ns1 dx mA∧(∀ f,RelO (fs.lookup f) (mA f))∧PySem.Within mA (fs.map (·.1))) ∧
   ∀ g∈gs,g.2.length≤sizeLine∧∃ (its:List Value) (n:Nat),Vals g.2 its∧h.get? g.1=some { cls:=.type "list",data:=.seq its.toArray n }
 | .own _=>∃ o,h.get? a=some o
 | .xd fs=>∃ mA,h.Ns1 a mA∧∀ f,RelO (fs.lookup f) (mA f)
 | .rng lo hi=>∃ t u v,h.get? a=some { cls:=.type "range",data:=.fields #[.int lo t,.int hi u,.int 1 v] }
 | .frz o u=>h.get? a=some o∧ObjOk H h a u
 | .tbl ps=>h.get? a=some { cls:=.none,data:=.fields ps }
 | .met f x=>h.get? a=some (PySem.W.methodObj (.ref f) (.ref x))
 | .ext φ=>φ h∧(∃ o,h.get? a=some o)∧∀ h1 h2:Heap,φ h1→(∀ o,h1.get? a=some o→h2.get? a=some o)→φ h2
def HOk (H:Hp) (h:Heap):Prop:=∀ a o,H a=some o→ObjOk P w H h a o
end
section
variable {P:Program} {w:World} {H H':Hp} {h h':Heap} {a:Addr} {o:HO}
theorem ObjOk.lt (x:ObjOk P w H h a o):a < h.objs.size:=by
 cases o with
 | lst xs=>obtain ⟨_,_,_,_,e⟩:=x; exact Γl e
 | tup xs=>obtain ⟨_,_,_,p⟩:=x; exact p.lt
 | dK kvs=>obtain ⟨_,_,_,_,o,_,_,e,_⟩:=x; exact Γl e
 | dT kvs=>obtain ⟨_,_,_,_,o,_,_,e,_⟩:=x; exact Γl e
 | set S n=>obtain ⟨o,_,_,_,e,_⟩:=x; exact Γl e
 | ins C dx fs=>obtain ⟨_,_,_,e,_⟩:=x; exact Γl e
 | big C dx fs gs=>obtain ⟨_,_,_,_,e,_⟩:=x; exact Γl e
 | own y=>obtain ⟨_,e⟩:=x; exact Γl e
 | xd fs=>obtain ⟨_,⟨_,_,_,e,_⟩,_⟩:=x; exact Γl e
 | rng lo hi=>obtain ⟨_,_,_,e⟩:=x; exact Γl e
 | frz ob u=>obtain ⟨e,_⟩:=x; exact Γl e
 | tbl ps=>exact Γl (show h.get? a=some _ from x)
 | met f y=>exact Γl (show h.get? a=some _ from x)
 | ext φ=>obtain ⟨_,⟨_,e⟩,_⟩:=x; exact Γl e
theorem Paired.mapP {α β:Type} {F G:α→β→Prop}:∀ {l₁:List α} {l₂:List β},Paired F l₁ l₂→(∀ a b,F a b→G a b)→Paired G l₁ l₂
 | _,_,.nil,_=>.nil
 | _,_,.cons r t,f=>.cons (f _ _ r) (Paired.mapP t f)
theorem ObjOk.stay (x:ObjOk P w H h a o) (k:∀ b u,(b=a ∨ H b=some (.own a))→h.get? b=some u→h'.get? b=some u)
  (ho:∀ b,H b=some (.own a)→H' b=some (.own a)) (ht:∀ b xs,H b=some (.tup xs)→H' b=some (.tup xs)):ObjOk P w H' h' a o:=by
 induction o with
 | lst xs=>obtain ⟨z,its,n,r,e⟩:=x; exact ⟨z,its,n,r,k _ _ (.inl rfl) e⟩
 | tup xs=>obtain ⟨z,its,r,ob,e,c⟩:=x; exact ⟨z,its,r,ob,k _ _ (.inl rfl) e,c⟩
 | dK kvs=>obtain ⟨z,y,vs,r,ob,es,ep,e,c⟩:=x; exact ⟨z,y,vs,r,ob,es,ep,k _ _ (.inl rfl) e,c⟩
 | dT kvs =>
  obtain ⟨z,y,xs,r,ob,es,ep,e,c⟩:=x
  exact ⟨z,y,xs,Paired.mapP r fun p q z=>⟨z.1,ht _ _ z.2.1,z.2.2⟩,ob,es,ep,k _ _ (.inl rfl) e,c⟩
 | set S n=>obtain ⟨ob,es,ep,t,e,c⟩:=x; exact ⟨ob,es,ep,t,k _ _ (.inl rfl) e,c⟩
 | ins C dx fs =>
  obtain ⟨d,z,ne,e,mA,⟨od,es,ep,e2,c⟩,r⟩:=x
  exact ⟨ho _ d,z,ne,k _ _ (.inl rfl) e,mA,⟨od,es,ep,k _ _ (.inr d) e2,c⟩,r⟩
 | big C dx fs gs =>
  obtain ⟨d,gg,nd,z,e,⟨mA,⟨od,es,ep,e2,c⟩,r⟩,ls⟩:=x
  exact ⟨ho _ d,fun g m=>ho _ (gg g m),nd,z,k _ _ (.inl rfl) e,⟨mA,⟨od,es,ep,k _ _ (.inr d) e2,c⟩,r⟩,fun g m=>let ⟨l1,its,n,l2,l3⟩:=ls g m; ⟨l1,its,n,l2,k _ _ (.inr (gg g m)) l3⟩⟩
 | own y=>obtain ⟨ob,e⟩:=x; exact ⟨ob,k _ _ (.inl rfl) e⟩
 | xd fs=>obtain ⟨mA,⟨od,es,ep,e,c⟩,r⟩:=x; exact ⟨mA,⟨od,es,ep,k _ _ (.inl rfl) e,c⟩,r⟩
 | rng lo hi=>obtain ⟨t,u,v,e⟩:=x; exact ⟨t,u,v,k _ _ (.inl rfl) e⟩
 | frz ob u ih=>obtain ⟨e,q⟩:=x; exact ⟨k _ _ (.inl rfl) e,ih q⟩
 | tbl ps =>
  have e:h.get? a=some { cls:=.none,data:=.fields ps }:=x
  show h'.get? a=some { cls:=.none,data:=.fields ps }
  exact k a _ (.inl rfl) e
 | met f y =>
  have e:h.get? a=some (PySem.W.methodObj (.ref f) (.ref y)):=x
  show h'.get? a=some (PySem.W.methodObj (.ref f) (.ref y))
  exact k a _ (.inl rfl) e
 | ext φ=>obtain ⟨p,⟨o,e⟩,st⟩:=x; exact ⟨st _ _ p fun o q=>k _ _ (.inl rfl) q,⟨o,k _ _ (.inl rfl) e⟩,st⟩
theorem HOk.lt (x:HOk P w H h) (e:H a=some o):a < h.objs.size:=(x a o e).lt
theorem HOk.fresh (x:HOk P w H h) (e:h.objs.size≤a):H a=none:=by
 cases q:H a with
 | none=>rfl
 | some u=>exact absurd (Nat.lt_of_lt_of_le (x.lt q) e) (Nat.lt_irrefl _)
theorem HOk.kept (x:HOk P w H h) (k:∀ b u,h.get? b=some u→h'.get? b=some u):HOk P w H h':=fun a o e =>
 (x a o e).stay (fun b u _ q=>k b u q) (fun _ q=>q) fun _ _ q=>q
theorem HOk.laid (x:HOk P w H h) (k:∀ b u,h.get? b=some u→h'.get? b=some u) (hp:h.objs.size≤a) (new:ObjOk P w (upd H a o) h' a o):HOk P w (upd H a o) h':=fun b u e=>by
 have hn:=x.fresh hp
 by_cases hb:b=a
 ·subst hb; rw [a0e] at e; cases e; exact new
 ·rw [a0d hb] at e
  exact (x b u e).stay (fun c v _ q=>k c v q) (fun c q=>by rw [a0d (a0r q hn)]; exact q) fun c xs q=>by rw [a0d (a0r q hn)]; exact q
end
def Rd (H:Hp) (a:Addr) (u:HO):Prop:=H a=some u ∨ ∃ o,H a=some (.frz o u)
theorem Rd.ok {P:Program} {w:World} {H:Hp} {h:Heap} {a:Addr} {u:HO} (r:Rd H a u) (x:HOk P w H h):ObjOk P w H h a u:=by
 rcases r with r | ⟨o,r⟩
 ·exact x a u r
 ·obtain ⟨_,q⟩:=x a _ r
  exact q
def Mut:Option HO→Prop
 | some (.lst _)=>True
 | some (.dK _)=>True
 | some (.dT _)=>True
 | some (.set _ _)=>True
 | some (.ins _ _ _)=>True
 | some (.ext _)=>True
 | _=>False
section
variable {P:Program} {w:World} {H:Hp} {h h':Heap} {x e:Addr} {o':HO}
theorem HOk.write (ok:HOk P w H h) (mu:Mut (H x)) (he:e=x ∨ H e=some (.own x)) (k:∀ b u,b≠e→h.get? b=some u→h'.get? b=some u) (heo:∃ u,h'.get? e=some u)
  (new:ObjOk P w (upd H x o') h' x o'):HOk P w (upd H x o') h':=fun b u q=>by
 have nown:∀ c y,H c=some (.own y)→c≠x:=fun c y r z=>by subst z; rw [r] at mu; exact mu
 have ntup:∀ c xs,H c=some (.tup xs)→c≠x:=fun c xs r z=>by subst z; rw [r] at mu; exact mu
 by_cases hb:b=x
 ·subst hb; rw [a0e] at q; cases q; exact new
 ·rw [a0d hb] at q
  by_cases hbe:b=e
  ·have q':H b=some (.own x):=by
    rcases he with z | z
    ·exact absurd (hbe.trans z) hb
    ·rw [hbe]; exact z
   rw [q] at q'; cases q'
   obtain ⟨v,hv⟩:=heo
   exact ⟨v,by rw [hbe]; exact hv⟩
  ·refine (ok b u q).stay (fun c v hc r=>k c v ?_ r) (fun c r=>by rw [a0d (nown c b r)]; exact r) fun c xs r=>by rw [a0d (ntup c xs r)]; exact r
   rcases hc with rfl | hc
   ·exact hbe
   ·rintro rfl
    rcases he with z | z
    ·exact nown c b hc z
    ·rw [hc] at z; cases z; exact hb rfl
end
structure Un (fs ex:List Addr) (H H':Hp) (h h':Heap):Prop where
 keep:∀ b o,h.get? b=some o→H b=none→b ∉ fs→b ∉ ex→h'.get? b=some o
 slot:∀ b o,h.get? b=some o→H b=none→b∈fs→b ∉ ex→∃ sl,h'.get? b=some { o with slots:=sl }
 free:∀ b o,h.get? b=some o→H b=none→b ∉ ex→H' b=none
 there:∀ b o,h.get? b=some o→b ∉ ex→∃ o',h'.get? b=some o'
 tups:∀ b xs,H b=some (.tup xs)→H' b=some (.tup xs)
 frzs:∀ b o u,H b=some (.frz o u)→H' b=some (.frz o u)
 tbls:∀ b ps,H b=some (.tbl ps)→∃ more,H' b=some (.tbl (ps++more))
section
variable {fs fs' ex ex':List Addr} {H H1 H2:Hp} {h h1 h2 h':Heap} {a x e:Addr} {o:HO}
theorem Un.any (u:Un fs ex H H1 h h1) {b:Addr} {ob:Obj} (q:h.get? b=some ob) (n:H b=none) (hx:b ∉ ex):∃ sl,h1.get? b=some { ob with slots:=sl }:=by
 by_cases hb:b∈fs
 ·exact u.slot b ob q n hb hx
 ·exact ⟨ob.slots,u.keep b ob q n hb hx⟩
theorem Un.trans (a:Un fs ex H H1 h h1) (b:Un fs ex H1 H2 h1 h2):Un fs ex H H2 h h2 where
 keep:=fun c ob q n hc hx=>b.keep c ob (a.keep c ob q n hc hx) (a.free c ob q n hx) hc hx
 slot:=fun c ob q n hc hx=>by
  obtain ⟨sl,e1⟩:=a.slot c ob q n hc hx
  obtain ⟨sl',e2⟩:=b.slot c _ e1 (a.free c ob q n hx) hc hx
  exact ⟨sl',e2⟩
 free:=fun c ob q n hx=>by
  obtain ⟨o',e1⟩:=a.there c ob q hx
  exact b.free c o' e1 (a.free c ob q n hx) hx
 there:=fun c ob q hx=>by
  obtain ⟨o',e1⟩:=a.there c ob q hx
  exact b.there c o' e1 hx
 tups:=fun c xs q=>b.tups c xs (a.tups c xs q)
 frzs:=fun c ob xs q=>b.frzs c ob xs (a.frzs c ob xs q)
 tbls:=fun c ps q=>by
  obtain ⟨m1,e1⟩:=a.tbls c ps q
  obtain ⟨m2,e2⟩:=b.tbls c _ e1
  exact ⟨m1++m2,by rw [e2,Array.append_assoc]⟩
theorem Un.kept (k:∀ b u,h.get? b=some u→h'.get? b=some u):Un fs ex H H h h' :=
 ⟨fun b ob q _ _ _=>k b ob q,fun b ob q _ _ _=>⟨ob.slots,k b ob q⟩,fun _ _ _ n _=>n,fun b ob q _=>⟨ob,k b ob q⟩,fun _ _ q=>q,fun _ _ _ q=>q,fun _ ps q=>⟨#[],by rw [q]; simp⟩⟩
theorem Un.refl:Un fs ex H H h h:=Un.kept fun _ _ q=>q
theorem Un.laid (k:∀ b u,h.get? b=some u→h'.get? b=some u) (hp:h.objs.size≤a) (hn:H a=none):Un fs ex H (upd H a o) h h' where
 keep:=fun b u q _ _ _=>k b u q
 slot:=fun b u q _ _ _=>⟨u.slots,k b u q⟩
 free:=fun b u q n _=>by rw [a0d (Γo (Nat.lt_of_lt_of_le (Γl q) hp))]; exact n
 there:=fun b u q _=>⟨u,k b u q⟩
 tups:=fun b xs q=>by rw [a0d (a0r q hn)]; exact q
 frzs:=fun b u xs q=>by rw [a0d (a0r q hn)]; exact q
 tbls:=fun b ps q=>⟨#[],by rw [a0d (a0r q hn),q]; simp⟩
theorem Un.write (mu:Mut (H x)) (he:e=x ∨ H e=some (.own x)) (k:∀ b u,b≠e→h.get? b=some u→h'.get? b=some u) (heo:∃ u,h'.get? e=some u):Un fs ex H (upd H x o) h h':=by
 have hx:∀ b,H b=none→b≠x:=fun b n z=>by subst z; rw [n] at mu; exact mu
 have hb:∀ b,H b=none→b≠e:=fun b n z=>by
  subst z
  rcases he with r | r
  ·exact hx b n r
  ·rw [n] at r; cases r
 have hm:∀ b u,H b=some u→¬ Mut (some u)→b≠x:=fun b u q nm z=>by subst z; rw [q] at mu; exact nm mu
 refine ⟨fun b u q n _ _=>k b u (hb b n) q,fun b u q n _ _=>⟨u.slots,k b u (hb b n) q⟩,fun b u q n _=>by rw [a0d (hx b n)]; exact n,fun b u q _=>?_,
  fun b xs q=>by rw [a0d (hm b _ q fun z=>z)]; exact q,fun b u xs q=>by rw [a0d (hm b _ q fun z=>z)]; exact q,fun b ps q=>⟨#[],by rw [a0d (hm b _ q fun z=>z),q]; simp⟩⟩
 by_cases hbe:b=e
 ·subst hbe; exact heo
 ·exact ⟨u,k b u hbe q⟩
theorem Un.mono (u:Un fs ex H H1 h h1) (hs:∀ b∈fs,b∈fs') (hx:∀ b∈ex,b∈ex'):Un fs' ex' H H1 h h1 :=
 ⟨fun b ob q n hb he=>u.keep b ob q n (fun z=>hb (hs b z)) fun z=>he (hx b z),fun _ _ q n _ he=>u.any q n fun z=>he (hx _ z),fun b ob q n he=>u.free b ob q n fun z=>he (hx b z),fun b ob q he=>u.there b ob q fun z=>he (hx b z),u.tups,u.frzs,u.tbls⟩
end
def trk (h:Heap) (H:Hp):List Addr:=(List.range h.objs.size).filter fun a=>(H a).isSome
def c1a (h:Heap) (H:Hp):Heap:=PySem.W.hideAll h (trk h H)
theorem b7k (h:Heap) (H:Hp):(c1a h H).objs.size=h.objs.size:=PySem.W.hideAll_size _ _
theorem c0z {h:Heap} {H:Hp} {b:Addr} {o:Obj} (e:h.get? b=some o) (n:H b=none):(c1a h H).get? b=some o :=
 PySem.W.hideAll_get _ e fun hm=>by
  have q:(H b).isSome=true:=(List.mem_filter.mp hm).2
  rw [n] at q; simp at q
theorem c4h {h:Heap} {H:Hp} {b:Addr} {o:Obj} (e:(c1a h H).get? b=some o):h.get? b=some o∧H b=none:=by
 have e':h.get? b=some o:=PySem.W.of_hideAll (trk h H) e
 refine ⟨e',?_⟩
 cases q:H b with
 | none=>rfl
 | some x =>
  have hm:b∈trk h H:=List.mem_filter.mpr ⟨List.mem_range.mpr (Γl e'),by simp [q]⟩
  have z:(c1a h H).get? b=none:=PySem.W.hideAll_none (trk h H) hm
  rw [z] at e; cases e
def c6d (g h:Heap) (L:Addr):List (Addr×Obj):=(List.range h.objs.size).filterMap fun a=>if a=L ∨ (g.get? a).isSome=true then none else (h.get? a).map fun o=>(a,o)
def rest (g h:Heap) (L d:Addr):List (Addr×Obj):=(c6d g h L).filter fun p=>decide (p.1≠d)
end L2
namespace L2
open PySem PySem.Spec PyProof.Rows
structure Mod (K:Γd) (mg:Str→Option Value) (base:Heap):Prop where
 kin:K.In base
 glob:base.Ns mainGlobals mg
 blt:∃ mb,base.Ns builtinsNs mb∧∀ x:Str,x≠"__name__"→mb x=bootBuiltins x
 nolimit:base.NoLimit
structure Cx where
 prog:Program
 w:World
 K:Γd
 mg:Str→Option Value
 base:Heap
 A:Around
 N:List Str
 s₀:Shared
 H₀:Hp
 env:Env
 outer:List Env
 stack:List Env
 ex:List Addr
 fn:Str→Bool
 calm:Bool
 pn:List (Addr×Obj)
 xe:Value→Shared→Prop
def frs (l:List Env):List Addr:=l.filterMap (·.frame)
abbrev Cx.fs (X:Cx):List Addr:=frs X.outer
def Vis (sc:Scope) (x:Str):Prop:=sc.names.lookup x=some .local ∨ sc.names.lookup x=some .cell ∨ sc.names.lookup x=some .free
def Loc (sc:Scope) (x:Str):Prop:=sc.names.lookup x=some .local ∨ sc.names.lookup x=some .cell
def Look (env:Env) (h:Heap) (m:Str→Option Value) (x:Str) (u:Value):Prop :=
 (env.kindOf x=some .local∧m x=some u) ∨ ((env.kindOf x=some .cell ∨ env.kindOf x=some .free)∧∃ c,env.cells.lookup x=some c∧h.IsCell c (some u))
structure Cx.Ok (X:Cx):Prop where
 mod:Mod X.K X.mg X.base
 kind:X.env.scope.kind=.function
 glob:X.env.globals=mainGlobals
 blt:X.env.builtins=builtinsNs
 above:X.s₀.heap.objs.size≤X.env.locals
 inj:∀ x y c,X.env.cells.lookup x=some c→X.env.cells.lookup y=some c→x=y
 has:∀ x,(X.env.kindOf x=some .cell ∨ X.env.kindOf x=some .free)→∃ c,X.env.cells.lookup x=some c
 cab:∀ x c,X.fn x=true→X.env.cells.lookup x=some c→X.s₀.heap.objs.size≤c
 hd:X.calm=true→X.A.handled=none
 frames:X.A.frames=some X.stack
 stk:X.stack=X.outer ∨ (X.stack=X.env :: X.outer∧X.env.frame=some X.env.locals)
 exf:∀ b∈X.ex,b≠X.env.locals∧∀ x c,X.env.cells.lookup x=some c→c≠b
 bs:∀ b o,X.base.get? b=some o→X.s₀.heap.get? b=some o∧X.H₀ b=none
 bsz:X.base.objs.size≤X.s₀.heap.objs.size
 noex:∀ b o,X.base.get? b=some o→b ∉ X.ex
 exfs:∀ b∈X.ex,b ∉ X.fs
 funs:X.s₀.heap.FunFrames X.base X.outer
 frf:∀ b∈X.fs,X.H₀ b=none
structure Inv (X:Cx) (pins:List (Addr×Obj)) (σ:List (Option V)) (H:Hp) (s:Shared):Prop where
 ok:X.Ok
 os:s.os=X.s₀.os
 bare:AllBare s.gens
 base:Un X.fs X.ex X.H₀ H X.s₀.heap s.heap
 loc:∃ m,s.heap.Ns X.env.locals m∧∀ (i:Nat) (x:Str) (v:V),X.N[i]?=some x→σ[i]?=some (some v)→Vis X.env.scope x→∃ u,RelV v u∧Look X.env s.heap m x u
 cell:∀ x c,X.env.cells.lookup x=some c→∃ v,s.heap.IsCell c v
 free:H X.env.locals=none
 freeC:∀ x c,X.env.cells.lookup x=some c→H c=none
 pin:∀ p∈X.pn++pins,s.heap.get? p.1=some p.2∧H p.1=none∧p.1≠X.env.locals∧p.1 ∉ X.fs∧∀ v,p.2.data≠.cell v
 hok:HOk X.prog X.w H s.heap
 len:σ.length=X.N.length
section
variable {X:Cx} {pins:List (Addr×Obj)} {σ:List (Option V)} {H H':Hp} {s:Shared} {h':Heap}
theorem Cx.Ok.nofr (ok:X.Ok) {b:Addr} {o:Obj} (e:X.base.get? b=some o):b ∉ X.fs:=fun hb=>by
 have:=(ok.funs.mem hb).1
 rw [e] at this; cases this
theorem Inv.bs (I:Inv X pins σ H s):∀ b o,X.base.get? b=some o→s.heap.get? b=some o∧H b=none:=fun b o e =>
 ⟨I.base.keep b o (I.ok.bs b o e).1 (I.ok.bs b o e).2 (I.ok.nofr e) (I.ok.noex b o e),I.base.free b o (I.ok.bs b o e).1 (I.ok.bs b o e).2 (I.ok.noex b o e)⟩
theorem Inv.bk (I:Inv X pins σ H s):∀ b o,X.base.get? b=some o→s.heap.get? b=some o:=fun b o e=>(I.bs b o e).1
theorem Inv.mod (I:Inv X pins σ H s):Mod X.K X.mg X.base:=I.ok.mod
theorem Inv.kIn (I:Inv X pins σ H s):X.K.In s.heap:=I.ok.mod.kin.keeps I.bk
theorem Inv.nolimit (I:Inv X pins σ H s):s.heap.NoLimit:=I.ok.mod.nolimit.keeps I.bk
theorem Inv.lt (I:Inv X pins σ H s):X.env.locals < s.heap.objs.size:=let ⟨_,hn,_⟩:=I.loc; hn.lt
theorem Inv.sz (I:Inv X pins σ H s):X.s₀.heap.objs.size≤s.heap.objs.size:=Nat.le_trans I.ok.above (Nat.le_of_lt I.lt)
theorem Inv.nofs (I:Inv X pins σ H s) {a:Addr} (h:s.heap.objs.size≤a):a ∉ X.fs:=fun hb=>by
 obtain ⟨_,o,ho,_⟩:=I.ok.funs.mem hb
 exact absurd (Nat.lt_of_lt_of_le (Γl ho) (Nat.le_trans I.sz h)) (Nat.lt_irrefl _)
theorem Inv.cne (I:Inv X pins σ H s):∀ x c,X.env.cells.lookup x=some c→c≠X.env.locals:=fun x c e z=>by
 obtain ⟨v,o,ho,hd⟩:=I.cell x c e
 obtain ⟨m,⟨o',es,ep,ho',hd',_⟩,_⟩:=I.loc
 rw [z,ho'] at ho; cases ho; rw [hd'] at hd; cases hd
theorem Inv.funs (I:Inv X pins σ H s):s.heap.FunFrames X.base X.outer:=by
 have all:∀ (l:List Env),(∀ b∈frs l,b∈X.fs)→X.s₀.heap.FunFrames X.base l→s.heap.FunFrames X.base l:=by
  intro l
  induction l with
  | nil=>intro _ _; trivial
  | cons env r ih =>
   intro hs hl
   obtain ⟨hk,⟨L,o,hf,hn,ho,hd⟩,hr⟩:=hl
   have hL:L∈X.fs:=hs L (by unfold frs; rw [List.filterMap_cons,hf]; exact Γn)
   obtain ⟨sl,e⟩:=I.base.slot L o ho (I.ok.frf L hL) hL fun z=>I.ok.exfs L z hL
   exact ⟨hk,⟨L,_,hf,hn,e,hd⟩,ih (fun b hb=>hs b (by unfold frs; rw [List.filterMap_cons,hf]; exact Γh _ hb)) hr⟩
 exact all X.outer (fun _ hb=>hb) I.ok.funs
theorem Inv.stack (I:Inv X pins σ H s):s.heap.FunFrames X.base X.stack:=by
 rcases I.ok.stk with e | ⟨e,hf⟩
 ·rw [e]; exact I.funs
 ·rw [e]
  obtain ⟨m,hn,_⟩:=I.loc
  refine .cons (by rw [I.ok.kind]; decide) hf hn ?_ I.funs
  exact Heap.get?_none_of_le (Nat.le_trans I.ok.bsz I.ok.above)
theorem Inv.stkSub (I:Inv X pins σ H s):∀ b∈frs X.stack,b∈X.env.locals :: X.fs:=fun b hb=>by
 rcases I.ok.stk with e | ⟨e,hf⟩
 ·rw [e] at hb; exact Γh _ hb
 ·rw [e] at hb
  unfold frs at hb
  rw [List.filterMap_cons,hf] at hb
  exact hb
theorem Inv.stkFree (I:Inv X pins σ H s):∀ b∈frs X.stack,H b=none:=fun b hb=>by
 rcases List.mem_cons.mp (I.stkSub b hb) with e | hb
 ·rw [e]; exact I.free
 ·obtain ⟨_,o,ho,_⟩:=I.ok.funs.mem hb
  exact I.base.free b o ho (I.ok.frf b hb) fun z=>I.ok.exfs b z hb
theorem Inv.step {g':Array GenState} {t':Nat} {d':Drawn} {ch:List Addr} (I:Inv X pins σ H s)
  (hch:∀ b∈ch,(b∈X.ex ∨ X.s₀.heap.objs.size≤b)∧b≠X.env.locals∧(∀ x c,X.env.cells.lookup x=some c→c≠b)∧∀ p∈X.pn++pins,p.1≠b)
  (keep:∀ b o,b≠X.env.locals→b ∉ X.fs→b ∉ ch→s.heap.get? b=some o→H b=none→h'.get? b=some o)
  (slot:∀ b o,b≠X.env.locals→b∈X.fs→b ∉ ch→s.heap.get? b=some o→H b=none→∃ sl,h'.get? b=some { o with slots:=sl }) (free:∀ b o,b ∉ ch→s.heap.get? b=some o→H b=none→H' b=none)
  (there:∀ b o,b ∉ ch→s.heap.get? b=some o→∃ o',h'.get? b=some o')
  (tups:∀ b xs,H b=some (.tup xs)→H' b=some (.tup xs)) (frzs:∀ b o u,H b=some (.frz o u)→H' b=some (.frz o u)) (tbls:∀ b ps,H b=some (.tbl ps)→∃ more,H' b=some (.tbl (ps++more)))
  (ns:∀ m,s.heap.Ns X.env.locals m→h'.Ns X.env.locals m) (hok:HOk X.prog X.w H' h') (hg:AllBare g') :
  Inv X pins σ H' { s with heap:=h',gens:=g',drawn:=d',toks:=t' }:=by
 have neL:∀ b o,X.s₀.heap.get? b=some o→b≠X.env.locals:=fun b o e=>Γo (Nat.lt_of_lt_of_le (Γl e) I.ok.above)
 have neC:∀ b o,X.s₀.heap.get? b=some o→b ∉ X.ex→b ∉ ch:=fun b o e hx hb=>by
  rcases (hch b hb).1 with z | z
  ·exact hx z
  ·exact absurd (Nat.lt_of_lt_of_le (Γl e) z) (Nat.lt_irrefl _)
 have cellK:∀ x c,X.env.cells.lookup x=some c→∀ v,s.heap.IsCell c v→h'.IsCell c v:=fun x c e v ⟨o,ho,hd⟩=>by
  have nch:c ∉ ch:=fun z=>(hch c z).2.2.1 x c e rfl
  by_cases hc:c∈X.fs
  ·obtain ⟨sl,q⟩:=slot c o (I.cne x c e) hc nch ho (I.freeC x c e)
   exact ⟨_,q,hd⟩
  ·exact ⟨o,keep c o (I.cne x c e) hc nch ho (I.freeC x c e),hd⟩
 refine ⟨I.ok,I.os,hg,⟨fun b o e n hb hx=>?_,fun b o e n hb hx=>?_,fun b o e n hx=>?_,fun b o e hx=>?_,fun b xs e=>tups b xs (I.base.tups b xs e),fun b o xs e=>frzs b o xs (I.base.frzs b o xs e),fun b ps e=>?_⟩,?_,fun x c e=>?_,?_,fun x c e=>?_,fun p hp=>?_,hok,I.len⟩
 ·exact keep b o (neL b o e) hb (neC b o e hx) (I.base.keep b o e n hb hx) (I.base.free b o e n hx)
 ·obtain ⟨sl,e1⟩:=I.base.slot b o e n hb hx
  obtain ⟨sl',e2⟩:=slot b _ (neL b o e) hb (neC b o e hx) e1 (I.base.free b o e n hx)
  exact ⟨sl',e2⟩
 ·obtain ⟨o',e1⟩:=I.base.there b o e hx
  exact free b o' (neC b o e hx) e1 (I.base.free b o e n hx)
 ·obtain ⟨o',e1⟩:=I.base.there b o e hx
  exact there b o' (neC b o e hx) e1
 ·obtain ⟨m1,e1⟩:=I.base.tbls b ps e
  obtain ⟨m2,e2⟩:=tbls b _ e1
  exact ⟨m1++m2,by rw [e2,Array.append_assoc]⟩
 ·obtain ⟨m,hn,hl⟩:=I.loc
  refine ⟨m,ns m hn,fun i x v e1 e2 e3=>?_⟩
  obtain ⟨u,r,l⟩:=hl i x v e1 e2 e3
  refine ⟨u,r,?_⟩
  rcases l with l | ⟨k,c,e,z⟩
  ·exact .inl l
  ·exact .inr ⟨k,c,e,cellK x c e _ z⟩
 ·obtain ⟨v,z⟩:=I.cell x c e
  exact ⟨v,cellK x c e v z⟩
 ·obtain ⟨m,⟨o,_,_,ho,_⟩,_⟩:=I.loc
  exact free _ o (fun z=>(hch _ z).2.1 rfl) ho I.free
 ·obtain ⟨v,o,ho,hd⟩:=I.cell x c e
  exact free c o (fun z=>(hch c z).2.2.1 x c e rfl) ho (I.freeC x c e)
 ·obtain ⟨e,n,ne,nf,d⟩:=I.pin p hp
  have nch:p.1 ∉ ch:=fun z=>(hch p.1 z).2.2.2 p hp rfl
  exact ⟨keep p.1 p.2 ne nf nch e n,free p.1 p.2 nch e n,ne,nf,d⟩
theorem Inv.un {t':Nat} (I:Inv X pins σ H s) (u:Un X.fs [] H H' s.heap h') (hok:HOk X.prog X.w H' h'):Inv X pins σ H' { s with heap:=h',toks:=t' }:=by
 obtain ⟨m,⟨o,es,ep,ho,r⟩,_⟩:=id I.loc
 obtain ⟨sl,hL⟩:=u.any ho I.free (by simp)
 exact I.step (g':=s.gens) (d':=s.drawn) (ch:=[]) (fun _ z=>nomatch z) (fun b o _ hb _ e n=>u.keep b o e n hb (by simp)) (fun b o _ hb _ e n=>u.slot b o e n hb (by simp)) (fun b o _ e n=>u.free b o e n (by simp)) (fun b o _ e=>u.there b o e (by simp)) u.tups u.frzs u.tbls (fun m' hm=>by
  obtain ⟨o',es',ep',ho',r'⟩:=hm
  rw [ho] at ho'; cases ho'
  exact ⟨_,es',ep',hL,r'⟩) hok I.bare
theorem Inv.call {g':Array GenState} {t':Nat} {d':Drawn} {ch:List Addr} (I:Inv X pins σ H s) (u:Un (frs X.stack) ch H H' s.heap h') (hok:HOk X.prog X.w H' h') (hg:AllBare g')
  (hch:∀ b∈ch,(b∈X.ex ∨ X.s₀.heap.objs.size≤b)∧b≠X.env.locals∧(∀ x c,X.env.cells.lookup x=some c→c≠b)∧∀ p∈X.pn++pins,p.1≠b) :
  Inv X pins σ H' { s with heap:=h',gens:=g',drawn:=d',toks:=t' }:=by
 obtain ⟨m,⟨o,es,ep,ho,r⟩,_⟩:=id I.loc
 obtain ⟨sl,hL⟩:=u.any ho I.free fun z=>(hch _ z).2.1 rfl
 exact I.step (ch:=ch) hch (fun b o hL hb hc e n=>u.keep b o e n (fun z=>(List.mem_cons.mp (I.stkSub b z)).elim hL hb) hc) (fun b o _ _ hc e n=>u.any e n hc) (fun b o hc e n=>u.free b o e n hc) (fun b o hc e=>u.there b o e hc) u.tups u.frzs u.tbls (fun m' hm=>by
  obtain ⟨o',es',ep',ho',r'⟩:=hm
  rw [ho] at ho'; cases ho'
  exact ⟨_,es',ep',hL,r'⟩) hok hg
theorem Inv.turned {t':Nat} {it:Addr} (I:Inv X pins σ H s) (k:∀ b o,b≠it→s.heap.get? b=some o→h'.get? b=some o) (hn:H it=none) (hL:it≠X.env.locals)
  (h1:it∈X.ex ∨ X.s₀.heap.objs.size≤it) (h2:∀ x c,X.env.cells.lookup x=some c→c≠it) (h3:∀ p∈X.pn++pins,p.1≠it):Inv X pins σ H { s with heap:=h',toks:=t' }:=by
 have nit:∀ b u,H b=some u→b≠it:=fun b u e z=>by rw [z,hn] at e; cases e
 refine I.step (g':=s.gens) (d':=s.drawn) (ch:=[it]) (fun b hb=>?_) (fun b o _ _ hc e _=>k b o (fun z=>hc (by simp [z])) e) (fun b o _ _ hc e _=>⟨o.slots,k b o (fun z=>hc (by simp [z])) e⟩) (fun _ _ _ _ n=>n)
  (fun b o hc e=>⟨o,k b o (fun z=>hc (by simp [z])) e⟩) (fun _ _ e=>e) (fun _ _ _ e=>e) (fun b ps e=>⟨#[],by rw [e]; simp⟩) (fun m hm=>?_) (fun b u e=>?_) I.bare
 ·have e:b=it:=by simpa using hb
  subst e
  exact ⟨h1,hL,h2,h3⟩
 ·obtain ⟨o,es,ep,ho,r⟩:=hm
  exact ⟨o,es,ep,k _ o (Ne.symm hL) ho,r⟩
 ·refine (I.hok b u e).stay (fun c v hc q=>k c v ?_ q) (fun _ q=>q) fun _ _ q=>q
  rcases hc with z | z
  ·rw [z]; exact nit b u e
  ·exact nit c _ z
theorem Inv.tok (I:Inv X pins σ H s) (t:Nat):Inv X pins σ H { s with toks:=t }:=I.un (h':=s.heap) (t':=t) Un.refl I.hok
theorem Inv.kept {t':Nat} (I:Inv X pins σ H s) (k:∀ b u,s.heap.get? b=some u→h'.get? b=some u):Inv X pins σ H { s with heap:=h',toks:=t' }:=I.un (Un.kept k) (I.hok.kept k)
theorem Inv.laid {a:Addr} {o:HO} {t':Nat} (I:Inv X pins σ H s) (k:∀ b u,s.heap.get? b=some u→h'.get? b=some u) (hp:s.heap.objs.size≤a) (new:ObjOk X.prog X.w (upd H a o) h' a o) :
  Inv X pins σ (upd H a o) { s with heap:=h',toks:=t' }:=I.un (Un.laid k hp (I.hok.fresh hp)) (I.hok.laid k hp new)
theorem Inv.write {x e:Addr} {o:HO} {t':Nat} (I:Inv X pins σ H s) (mu:Mut (H x)) (he:e=x ∨ H e=some (.own x)) (k:∀ b u,b≠e→s.heap.get? b=some u→h'.get? b=some u) (heo:∃ u,h'.get? e=some u)
  (new:ObjOk X.prog X.w (upd H x o) h' x o):Inv X pins σ (upd H x o) { s with heap:=h',toks:=t' }:=I.un (Un.write mu he k heo) (I.hok.write mu he k heo new)
theorem Inv.weak {σ':List (Option V)} (I:Inv X pins σ H s) (hl:σ'.length=σ.length) (w:∀ (i:Nat) v,σ'[i]?=some (some v)→σ[i]?=some (some v)):Inv X pins σ' H s :=
 ⟨I.ok,I.os,I.bare,I.base,let ⟨m,hn,hl'⟩:=I.loc; ⟨m,hn,fun i x v e1 e2 e3=>hl' i x v e1 (w i v e2) e3⟩,I.cell,I.free,I.freeC,I.pin,I.hok,hl.trans I.len⟩
theorem Inv.pins_of {pins':List (Addr×Obj)} (I:Inv X pins σ H s) (h:∀ p∈pins',s.heap.get? p.1=some p.2∧H p.1=none∧p.1≠X.env.locals∧p.1 ∉ X.fs∧∀ v,p.2.data≠.cell v):Inv X pins' σ H s :=
 ⟨I.ok,I.os,I.bare,I.base,I.loc,I.cell,I.free,I.freeC,fun p hp=>(List.mem_append.mp hp).elim (fun z=>I.pin p (List.mem_append_left _ z)) (h p),I.hok,I.len⟩
theorem b2l {N:List Str} (hN:N.Nodup) {i j:Nat} {x:Str} (a:N[i]?=some x) (b:N[j]?=some x):i=j:=by
 obtain ⟨h1,e1⟩:=List.getElem?_eq_some_iff.mp a
 obtain ⟨h2,e2⟩:=List.getElem?_eq_some_iff.mp b
 exact (List.getElem_inj hN).mp (e1.trans e2.symm)
theorem a5k {M:Model} {A:Around} {E:Value→Shared→Prop} {i:Nat} {x:Str} {v:V} {u:Value} {Q:Unit→Shared→Prop} (I:Inv X pins σ H s) (hN:X.N.Nodup) (hi:X.N[i]?=some x) (hx:Loc X.env.scope x) (r:RelV v u)
  (h:∀ s',Inv X pins (σ.set i (some v)) H s'→(∃ a,Heap.SameBut a s.heap s'.heap∧(a=X.env.locals ∨ X.env.cells.lookup x=some a))→Q () s') (hf:X.fn x=true ∨ X.env.scope.names.lookup x=some .local:=by first | exact .inl rfl | exact .inr rfl | assumption):wpAny M A (storeName X.env x u) Q E s:=by
 obtain ⟨m,hn,hl⟩:=id I.loc
 have hcls:(X.env.scope.kind == .class || (X.env.scope.kind == .module && X.env.locals != X.env.globals))=false:=by rw [I.ok.kind]; rfl
 have hiσ:i < σ.length:=by rw [I.len]; exact (List.getElem?_eq_some_iff.mp hi).1
 have cne:=I.cne
 have tracked:∀ {a:Addr} {h':Heap},(∃ o,s.heap.get? a=some o∧H a=none)→Heap.SameBut a s.heap h'→HOk X.prog X.w H h':=fun {a h'} ha hs b ob e=>by
  obtain ⟨_,_,hfree⟩:=ha
  refine (I.hok b ob e).stay (fun c w' hc q=>(hs.2 c ?_).trans q) (fun _ q=>q) fun _ _ q=>q
  rintro rfl
  rcases hc with rfl | hc
  ·rw [hfree] at e; cases e
  ·rw [hfree] at hc; cases hc
 rcases hx with hk | hk
 ·refine wpAny_storeName_local hk hn (fun h' hn' hs=>?_) hcls
  obtain ⟨oL,_,_,hoL,_⟩:=id hn
  refine h _ ⟨I.ok,I.os,I.bare,⟨fun b o e n hb hx=>?_,fun b o e n hb hx=>?_,I.base.free,fun b o e hx=>?_,I.base.tups,I.base.frzs,I.base.tbls⟩,⟨_,hn',fun j y v' e1 e2 e3=>?_⟩,fun y c e=>?_,I.free,I.freeC,fun p hp=>?_,tracked ⟨oL,hoL,I.free⟩ hs,by simpa using I.len⟩ ⟨_,hs,.inl rfl⟩
  ·exact (hs.2 b (Γo (Nat.lt_of_lt_of_le (Γl e) I.ok.above))).trans (I.base.keep b o e n hb hx)
  ·obtain ⟨sl,e1⟩:=I.base.slot b o e n hb hx
   exact ⟨sl,(hs.2 b (Γo (Nat.lt_of_lt_of_le (Γl e) I.ok.above))).trans e1⟩
  ·obtain ⟨o',e1⟩:=I.base.there b o e hx
   exact ⟨o',(hs.2 b (Γo (Nat.lt_of_lt_of_le (Γl e) I.ok.above))).trans e1⟩
  ·by_cases hj:j=i
   ·subst hj
    rw [hi] at e1; cases e1
    rw [List.getElem?_set_self hiσ] at e2
    cases e2
    exact ⟨u,r,.inl ⟨hk,by simp⟩⟩
   ·rw [List.getElem?_set_ne (Ne.symm hj)] at e2
    obtain ⟨u',r',q⟩:=hl j y v' e1 e2 e3
    refine ⟨u',r',?_⟩
    rcases q with ⟨k,e⟩ | ⟨k,c,e,z⟩
    ·refine .inl ⟨k,?_⟩
     have:y≠x:=fun e=>hj (b2l hN e1 (e ▸ hi))
     simp [this,e]
    ·exact .inr ⟨k,c,e,z.sameBut hs (cne y c e)⟩
  ·obtain ⟨w',z⟩:=I.cell y c e
   exact ⟨w',z.sameBut hs (cne y c e)⟩
  ·obtain ⟨e,n,ne,nf,d⟩:=I.pin p hp
   exact ⟨(hs.2 p.1 ne).trans e,n,ne,nf,d⟩
 ·have hfn:X.fn x=true:=by
   rcases hf with z | z
   ·exact z
   ·rw [z] at hk; cases hk
  obtain ⟨c,hc⟩:=I.ok.has x (.inl hk)
  obtain ⟨w',z⟩:=I.cell x c hc
  refine wpAny_storeName_cell I.ok.kind hk hc z (fun h' hc' hs=>?_)
  obtain ⟨oc,hoc,hocd⟩:=id z
  refine h { s with heap:=h' } ⟨I.ok,I.os,I.bare,⟨fun b o e n hb hx=>?_,fun b o e n hb hx=>?_,I.base.free,fun b o e hx=>?_,I.base.tups,I.base.frzs,I.base.tbls⟩,⟨m,hn.sameBut hs (Ne.symm (cne x c hc)),fun j y v' e1 e2 e3=>?_⟩,fun y c' e=>?_,I.free,I.freeC,fun p hp=>?_,tracked ⟨oc,hoc,I.freeC x c hc⟩ hs,by simpa using I.len⟩ ⟨c,hs,.inr hc⟩
  ·exact (hs.2 b (Γo (Nat.lt_of_lt_of_le (Γl e) (I.ok.cab x c hfn hc)))).trans (I.base.keep b o e n hb hx)
  ·obtain ⟨sl,e1⟩:=I.base.slot b o e n hb hx
   exact ⟨sl,(hs.2 b (Γo (Nat.lt_of_lt_of_le (Γl e) (I.ok.cab x c hfn hc)))).trans e1⟩
  ·obtain ⟨o',e1⟩:=I.base.there b o e hx
   exact ⟨o',(hs.2 b (Γo (Nat.lt_of_lt_of_le (Γl e) (I.ok.cab x c hfn hc)))).trans e1⟩
  ·by_cases hj:j=i
   ·subst hj
    rw [hi] at e1; cases e1
    rw [List.getElem?_set_self hiσ] at e2
    cases e2
    exact ⟨u,r,.inr ⟨.inl hk,c,hc,hc'⟩⟩
   ·rw [List.getElem?_set_ne (Ne.symm hj)] at e2
    obtain ⟨u',r',q⟩:=hl j y v' e1 e2 e3
    refine ⟨u',r',?_⟩
    rcases q with q | ⟨k,c',e,z'⟩
    ·exact .inl q
    ·refine .inr ⟨k,c',e,z'.sameBut hs ?_⟩
     rintro rfl
     exact hj (b2l hN e1 (I.ok.inj _ _ _ e hc ▸ hi))
  ·by_cases hcc:c'=c
   ·subst hcc; exact ⟨_,hc'⟩
   ·obtain ⟨w2,z2⟩:=I.cell y c' e
    exact ⟨w2,z2.sameBut hs hcc⟩
  ·obtain ⟨e,n,ne,nf,d⟩:=I.pin p hp
   refine ⟨(hs.2 p.1 ?_).trans e,n,ne,nf,d⟩
   intro q
   rw [q,hoc] at e
   have q':oc=p.2:=Option.some.inj e
   exact d w' (by rw [← q']; exact hocd)
theorem a7h {M:Model} {A:Around} {E:Value→Shared→Prop} {i:Nat} {x:Str} {v:V} {u:Value} {Q:Unit→Shared→Prop} (I:Inv X pins σ H s) (hN:X.N.Nodup) (hi:X.N[i]?=some x) (hx:Loc X.env.scope x) (r:RelV v u)
  (h:∀ s',Inv X pins (σ.set i (some v)) H s'→Q () s') (hf:X.fn x=true ∨ X.env.scope.names.lookup x=some .local:=by first | exact .inl rfl | exact .inr rfl | assumption):wpAny M A (storeName X.env x u) Q E s :=
 a5k I hN hi hx r (fun s' I' _=>h s' I') hf
theorem Inv.call' {s':Shared} {ch:List Addr} (I:Inv X pins σ H s) (ho:s'.os=s.os) (u:Un (frs X.stack) ch H H' s.heap s'.heap) (hok:HOk X.prog X.w H' s'.heap) (hg:AllBare s'.gens)
  (hch:∀ b∈ch,(b∈X.ex ∨ X.s₀.heap.objs.size≤b)∧b≠X.env.locals∧(∀ x c,X.env.cells.lookup x=some c→c≠b)∧∀ p∈X.pn++pins,p.1≠b):Inv X pins σ H' s':=by
 obtain ⟨h',g',d',t',o'⟩:=s'
 have e:o'=s.os:=ho
 subst e
 exact I.call (g':=g') (t':=t') (d':=d') u hok hg hch
end
abbrev XK:=Value→Option Addr→Hp→Prop
abbrev St:=List (Option V)
abbrev VK:=V→Hp→Prop
abbrev TE:=St→Hp→VK→Prop
abbrev TT:=St→Hp→(Bool→Hp→Prop)→Prop
abbrev TA:=St→Hp→(List V→Hp→Prop)→Prop
structure Ends where
 nx:St→Hp→Prop
 rt:VK
 bk:St→Hp→Prop:=fun _ _=>False
 ct:St→Hp→Prop:=fun _ _=>False
abbrev TS:=Ends→St→Hp→Prop
def EP (X:Cx) (pins:List (Addr×Obj)) (σ:St) (Q:VK) (u:Value) (s':Shared):Prop:=∃ v H',Inv X pins σ H' s'∧RelV v u∧Q v H'
def TP (X:Cx) (pins:List (Addr×Obj)) (σ:St) (Q:Bool→Hp→Prop) (b:Bool) (s':Shared):Prop:=∃ H',Inv X pins σ H' s'∧Q b H'
def AP (X:Cx) (pins:List (Addr×Obj)) (σ:St) (Q:List V→Hp→Prop) (us:List Value) (s':Shared):Prop:=∃ vs H',Inv X pins σ H' s'∧Vals vs us∧Q vs H'
def SP (X:Cx) (pins:List (Addr×Obj)) (D:Ends) (f:Flow) (s':Shared):Prop :=
 match f with
 | .next=>∃ σ' H',Inv X pins σ' H' s'∧D.nx σ' H'
 | .brk=>∃ σ' H',Inv X pins σ' H' s'∧D.bk σ' H'
 | .cont=>∃ σ' H',Inv X pins σ' H' s'∧D.ct σ' H'
 | .ret u=>∃ v σ' H',Inv X pins σ' H' s'∧RelV v u∧D.rt v H'
def PE (X:Cx) (e:Expr) (t:TE):Prop :=
 ∀ (pins:List (Addr×Obj)) (s:Shared) (σ:St) (H:Hp) (Q:VK),Inv X pins σ H s→t σ H Q→wpAny (model X.prog X.w) X.A (eval e X.env) (EP X pins σ Q) X.xe s
def PT (X:Cx) (e:Expr) (t:TT):Prop :=
 ∀ (pins:List (Addr×Obj)) (s:Shared) (σ:St) (H:Hp) (Q:Bool→Hp→Prop),Inv X pins σ H s→t σ H Q→wpAny (model X.prog X.w) X.A (isTrue e X.env (eval e X.env)) (TP X pins σ Q) X.xe s
def PW (X:Cx) (e:Expr) (t:TT):Prop :=
 ∀ (a7d:Sem Value) (pins:List (Addr×Obj)) (s:Shared) (σ:St) (H:Hp) (Q:Bool→Hp→Prop),Inv X pins σ H s→t σ H Q→wpAny (model X.prog X.w) X.A (isTrue e X.env a7d) (TP X pins σ Q) X.xe s
theorem PW.pt {X:Cx} {e:Expr} {t:TT} (h:PW X e t):PT X e t:=h _
def PA (X:Cx) (es:List Expr) (t:TA):Prop :=
 ∀ (pos:Pos) (pins:List (Addr×Obj)) (s:Shared) (σ:St) (H:Hp) (Q:List V→Hp→Prop),Inv X pins σ H s→t σ H Q→wpAny (model X.prog X.w) X.A (spliced (backTo pos (starEach es X.env))) (AP X pins σ Q) X.xe s
def PS (X:Cx) (st:Stmt) (t:TS):Prop :=
 ∀ (pins:List (Addr×Obj)) (s:Shared) (σ:St) (H:Hp) (D:Ends),Inv X pins σ H s→t D σ H→wpAny (model X.prog X.w) X.A (exec st X.env) (SP X pins D) X.xe s
def PSs (X:Cx) (st:List Stmt) (t:TS):Prop :=
 ∀ (pins:List (Addr×Obj)) (s:Shared) (σ:St) (H:Hp) (D:Ends),Inv X pins σ H s→t D σ H→wpAny (model X.prog X.w) X.A (execs st X.env) (SP X pins D) X.xe s
theorem thn {α:Type} {t:Sem α} {Q Q':α→Shared→Prop} {M:Model} {A:Around} {E:Value→Shared→Prop} {s:Shared} (h:wpAny M A t Q E s) (hQ:∀ a s,Q a s→Q' a s):wpAny M A t Q' E s:=wpAny_mono h hQ fun _ _ x=>x
end L2
namespace L2
open PySem PySem.Spec PyProof.Rows
section
variable {X:Cx}
def c6w (i:Nat):TE:=fun σ H Q=>∃ v,σ[i]?=some (some v)∧Q v H
def tC (v:V):TE:=fun _ H Q=>Q v H
theorem b5q {i:Nat} {x:Str} {pos:Pos} (hN:X.N[i]?=some x) (hv:Vis X.env.scope x) (hd:(x == ("__debug__":Str))=false:=by decide) (hcd:(x == ("__classdict__":Str))=false:=by decide):PE X (.Name x pos) (c6w i):=by
 intro pins s σ H Q I h
 obtain ⟨v,e,h⟩:=h
 obtain ⟨m,hn,hl⟩:=I.loc
 obtain ⟨u,r,l⟩:=hl i x v hN e hv
 have fin:EP X pins σ Q u s:=⟨v,H,I,r,h⟩
 rcases l with ⟨hk,hm⟩ | ⟨hk,c,hc,hcell⟩
 ·exact wpAny_Name (wpAny_loadName_local I.ok.kind hk hn hm fin) hd
 ·rcases hk with hk | hk
  ·exact wpAny_Name (wpAny_loadName_cell I.ok.kind hk hc hcell fin) hd
  ·exact wpAny_Name (wpAny_loadName_free I.ok.kind hk hc hcell fin hcd) hd
theorem c8g {i j pos}:PE X (.Constant (.int i) j pos) (tC (.int i)):=fun _ _ _ H _ I h=>wpAny_Constant_int ⟨.int i,H,I.tok _,⟨_,rfl⟩,h⟩
theorem d4s {b j pos}:PE X (.Constant (.bool b) j pos) (tC (.bl b)):=fun _ _ _ H _ I h=>Constant_bool ⟨.bl b,H,I,rfl,h⟩
theorem c2i {j pos}:PE X (.Constant .none j pos) (tC .non):=fun _ _ _ H _ I h=>Constant_none ⟨.non,H,I,rfl,h⟩
def Gl (X:Cx) (x:Str):Prop:=X.env.kindOf x=some .globalImplicit
theorem c4s {E:Value→Shared→Prop} {pins:List (Addr×Obj)} {s:Shared} {σ:St} {H:Hp} {x:Str} {u:Value} {pos:Pos} {Q:Value→Shared→Prop} (I:Inv X pins σ H s) (hg:Gl X x) (hm:X.mg x=some u) (h:Q u s)
  (hd:(x == ("__debug__":Str))=false:=by decide):wpAny (model X.prog X.w) X.A (eval (.Name x pos) X.env) Q E s :=
 Calls.Name_function_global I.ok.kind hg (Calls.loadGlobal_global (by rw [I.ok.glob]; exact I.mod.glob.keeps I.bk) hm h) hd
theorem a9j {E:Value→Shared→Prop} {pins:List (Addr×Obj)} {s:Shared} {σ:St} {H:Hp} {x:Str} {u:Value} {pos:Pos} {Q:Value→Shared→Prop} (I:Inv X pins σ H s) (hg:Gl X x) (hm:X.mg x=none) (hv:bootBuiltins x=some u) (h:Q u s)
  (hn:x≠"__name__":=by decide) (hd:(x == ("__debug__":Str))=false:=by decide):wpAny (model X.prog X.w) X.A (eval (.Name x pos) X.env) Q E s:=by
 obtain ⟨mb,h1,h2⟩:=I.mod.blt
 exact Calls.Name_function_global I.ok.kind hg (Calls.loadGlobal_builtin (by rw [I.ok.glob]; exact I.mod.glob.keeps I.bk) hm (by rw [I.ok.blt]; exact h1.keeps I.bk) ((h2 x hn).trans hv) h) hd
theorem c4b {x:Str} {v:V} {u:Value} {pos:Pos} (hg:Gl X x) (hm:X.mg x=none) (hv:bootBuiltins x=some u) (r:RelV v u) (hn:x≠"__name__":=by decide) (hd:(x == ("__debug__":Str))=false:=by decide):PE X (.Name x pos) (tC v) :=
 fun _ _ _ H _ I h=>a9j I hg hm hv ⟨v,H,I,r,h⟩ hn hd
variable {a b:Expr} {ta tb:TE} {pos:Pos}
def PC (X:Cx) (op:CmpOp) (a b:Expr) (t:TE):Prop :=
 ∀ (pins:List (Addr×Obj)) (s:Shared) (σ:St) (H:Hp) (Q:VK),Inv X pins σ H s→t σ H Q →
  wpAny (model X.prog X.w) X.A (eval a X.env) (fun v s₁=>wpAny (model X.prog X.w) X.A (eval b X.env) (fun u s₂=>wpAny (model X.prog X.w) X.A (compareOp op v u) (EP X pins σ Q) X.xe s₂) X.xe s₁) X.xe s
theorem a2c (b:Expr) {op:CmpOp} (h:op≠.In) (h2:op≠.NotIn):behindInMarks op b=false:=by
 have e1:(op == CmpOp.In)=false:=by cases op <;> first | rfl | exact absurd rfl h
 have e2:(op == CmpOp.NotIn)=false:=by cases op <;> first | rfl | exact absurd rfl h2
 cases b <;> simp [behindInMarks,e1,e2]
def tIsN (ta:TE):TE:=fun σ H Q=>ta σ H fun x H1=>Q (.bl (decide (x=.non))) H1
def d2v (ta:TE):TE:=fun σ H Q=>ta σ H fun x H1=>Q (.bl (!decide (x=.non))) H1
theorem RelV.none_iff {x:V} {v:Value} (r:RelV x v):(v == Value.none)=decide (x=.non):=by
 cases x with
 | non=>cases r; rfl
 | bl _=>cases r; rfl
 | int _=>obtain ⟨t,rfl⟩:=r; rfl
 | str _=>obtain ⟨t,rfl⟩:=r; rfl
 | byt _=>obtain ⟨t,rfl⟩:=r; rfl
 | flt _=>obtain ⟨t,rfl⟩:=r; rfl
 | ref _=>cases r; rfl
 | ty _=>cases r; rfl
theorem c2l {j pos'} (ha:PE X a ta):PC X .Is a (.Constant .none j pos') (tIsN ta):=by
 intro pins s σ H Q I h
 refine thn (ha pins s σ H _ I h) fun v s1 ⟨x,H1,I1,r1,q1⟩=>?_
 exact Constant_none (is_none_gen ⟨.bl _,H1,I1,by rw [r1.none_iff]; rfl,q1⟩)
theorem b5r {j pos'} (ha:PE X a ta):PC X .IsNot a (.Constant .none j pos') (d2v ta):=by
 intro pins s σ H Q I h
 refine thn (ha pins s σ H _ I h) fun v s1 ⟨x,H1,I1,r1,q1⟩=>?_
 exact Constant_none (isnot_none_gen ⟨.bl _,H1,I1,by rw [r1.none_iff]; rfl,q1⟩)
def tB (t:TE):TT:=fun σ H Q=>t σ H fun x H1=>∃ c,x=.bl c∧Q c H1
theorem c2k {op:CmpOp} {t:TE} (h:PC X op a b t) (h1:behindInMarks op b=false:=by first | exact a2c _ (by decide) (by decide) | rfl):PE X (.Compare a [op] [b] pos) t:=fun pins s σ H Q I hw=>wpAny_Compare1 (h pins s σ H Q I hw) h1
theorem c2d {op:CmpOp} {t:TE} (h:PC X op a b t) (h1:behindInMarks op b=false:=by first | exact a2c _ (by decide) (by decide) | rfl):PT X (.Compare a [op] [b] pos) (tB t):=by
 intro pins s σ H Q I hw
 refine wpAny_isTrue_Compare1 (thn (h pins s σ H _ I hw) fun v s1 h1=>thn h1 fun u s2 h2=>thn h2 fun c s3 ⟨x,H1,I1,r1,q1⟩=>?_) h1
 obtain ⟨d,rfl,q⟩:=q1
 cases r1
 exact wpAny_truthy_bool ⟨H1,I1,q⟩
variable {tA tB':TT} {rest:List Expr}
def tAnd (t u:TT):TT:=fun σ H Q=>t σ H fun c H1=>if c=true then u σ H1 Q else Q false H1
def tOr (t u:TT):TT:=fun σ H Q=>t σ H fun c H1=>if c=true then Q true H1 else u σ H1 Q
def tNot (t:TT):TT:=fun σ H Q=>t σ H fun c H1=>Q (!c) H1
theorem c3m (ha:PT X a tA):PW X (.BoolOp .And [a] pos) tA:=by
 intro wh pins s σ H Q I h
 refine isTrue_and (thn (ha pins s σ H Q I h) fun c s1 e=>?_)
 cases c with
 | true=>exact isTrue_and_nil e
 | false=>exact e
theorem c7u (ha:PT X a tA):PW X (.BoolOp .Or [a] pos) tA:=by
 intro wh pins s σ H Q I h
 refine isTrue_or (thn (ha pins s σ H Q I h) fun c s1 e=>?_)
 cases c with
 | false=>exact isTrue_or_nil e
 | true=>exact e
theorem c7v (ha:PT X a tA) (hb:PW X (.BoolOp .And (b :: rest) pos) tB'):PW X (.BoolOp .And (a :: b :: rest) pos) (tAnd tA tB'):=by
 intro wh pins s σ H Q I h
 refine isTrue_and (thn (ha pins s σ H _ I h) fun c s1 ⟨H1,I1,q1⟩=>?_)
 cases c with
 | true=>exact hb wh pins s1 σ H1 Q I1 q1
 | false=>exact ⟨H1,I1,q1⟩
theorem d4m (ha:PT X a tA) (hb:PW X (.BoolOp .Or (b :: rest) pos) tB'):PW X (.BoolOp .Or (a :: b :: rest) pos) (tOr tA tB'):=by
 intro wh pins s σ H Q I h
 refine isTrue_or (thn (ha pins s σ H _ I h) fun c s1 ⟨H1,I1,q1⟩=>?_)
 cases c with
 | true=>exact ⟨H1,I1,q1⟩
 | false=>exact hb wh pins s1 σ H1 Q I1 q1
theorem c7x (ha:PT X a tA):PT X (.UnaryOp .Not a pos) (tNot tA):=by
 intro pins s σ H Q I h
 exact isTrue_not (ha pins s σ H (fun c H1=>Q (!c) H1) I h)
def d2u (ta:TE):TE:=fun σ H Q=>ta σ H fun x H1=>∃ c,x=.bl c∧Q (.bl (!c)) H1
theorem c8e {op} {t:TE} (h:PE X a t):PE X (.BoolOp op [a] pos) t:=fun pins s σ H Q I hw=>BoolOp_one (h pins s σ H Q I hw)
theorem c8f (ha:PE X a ta):PE X (.UnaryOp .Not a pos) (d2u ta):=by
 intro pins s σ H Q I h
 refine UnaryOp_ (thn (ha pins s σ H _ I h) fun v s1 ⟨x,H1,I1,r1,q1⟩=>?_)
 obtain ⟨c,rfl,q1⟩:=q1
 cases r1
 exact not_of (wpAny_truthy_bool ⟨.bl (!c),H1,I1,rfl,q1⟩)
def tIf (t:TT) (ta tb:TE):TE:=fun σ H Q=>t σ H fun c H1=>if c=true then ta σ H1 Q else tb σ H1 Q
theorem c0d {c:Expr} (hc:PT X c tA) (ha:PE X a ta) (hb:PE X b tb):PE X (.IfExp c a b pos) (tIf tA ta tb):=by
 intro pins s σ H Q I h
 refine wpAny_IfExp (thn (hc pins s σ H _ I h) fun d s1 ⟨H1,I1,q1⟩=>?_)
 cases d with
 | true=>exact ha pins s1 σ H1 Q I1 q1
 | false=>exact hb pins s1 σ H1 Q I1 q1
end
end L2
namespace L2
open PySem PySem.Spec PyProof.Rows
def SqL (K:Γd) (H:Hp) (a:Addr) (xs:List V):Prop :=
 Rd H a (.lst xs) ∨
  ∃ (o:Obj) (its:Array Value) (n:Nat),K.lookup a=some o∧o.cls=.type "list"∧o.dict=none∧o.data=.seq its n∧its.size≤sizeLine∧Vals xs its.toList
def SqT (K:Γd) (H:Hp) (a:Addr) (xs:List V):Prop :=
 Rd H a (.tup xs) ∨
  ∃ (o:Obj) (its:Array Value) (n:Nat),K.lookup a=some o∧o.cls=.type "tuple"∧o.data=.seq its n∧its.size≤sizeLine∧Vals xs its.toList
def absV:Value→Option V
 | .none=>some .non
 | .bool b=>some (.bl b)
 | .int i _=>some (.int i)
 | .str x _=>some (.str x)
 | .bytes b _=>some (.byt b)
 | .float b _=>some (.flt b)
 | .ref a=>some (.ref a)
 | .type n=>some (.ty n)
 | _=>none
theorem RelV.abs {x:V} {u:Value} (r:RelV x u):absV u=some x:=by
 cases x with
 | non=>cases r; rfl
 | bl _=>cases r; rfl
 | int _=>obtain ⟨t,rfl⟩:=r; rfl
 | str _=>obtain ⟨t,rfl⟩:=r; rfl
 | byt _=>obtain ⟨t,rfl⟩:=r; rfl
 | flt _=>obtain ⟨t,rfl⟩:=r; rfl
 | ref _=>cases r; rfl
 | ty _=>cases r; rfl
theorem RelV.inj {x y:V} {u:Value} (r:RelV x u) (q:RelV y u):x=y:=Option.some.inj (r.abs.symm.trans q.abs)
theorem Vals.inj:∀ {xs ys:List V} {us:List Value},Vals xs us→Vals ys us→xs=ys
 | _,_,_,.nil,.nil=>rfl
 | _,_,_,.cons r t,.cons r' t'=>by rw [r.inj r',Vals.inj t t']
section
variable {X:Cx} {pins:List (Addr×Obj)} {σ:St} {H:Hp} {s:Shared} {a:Addr} {xs ys:List V}
theorem SqL.of {K:Γd} (h:H a=some (.lst xs)):SqL K H a xs:=.inl (.inl h)
theorem SqT.of {K:Γd} (h:H a=some (.tup xs)):SqT K H a xs:=.inl (.inl h)
theorem Inv.list (I:Inv X pins σ H s) (h:SqL X.K H a xs):∃ its:List Value,Vals xs its∧PlainL s.heap a its.toArray∧xs.length≤sizeLine:=by
 rcases h with h | ⟨o,its,n,hk,hc,hd,hs,hz,r⟩
 ·obtain ⟨z,its,n,r,e⟩:=h.ok I.hok
  exact ⟨its,r,⟨_,n,e,rfl,rfl,rfl⟩,z⟩
 ·refine ⟨its.toList,r,⟨o,n,I.kIn a o hk,hc,hd,by simpa using hs⟩,?_⟩
  have e:=r.length
  simp only [Array.length_toList] at e
  lia
theorem Inv.tuple (I:Inv X pins σ H s) (h:SqT X.K H a xs):∃ its:List Value,Vals xs its∧IsTup s.heap a its.toArray∧xs.length≤sizeLine:=by
 rcases h with h | ⟨o,its,n,hk,hc,hs,hz,r⟩
 ·obtain ⟨z,its,r,p⟩:=h.ok I.hok
  exact ⟨its,r,p,z⟩
 ·refine ⟨its.toList,r,⟨o,I.kIn a o hk,hc,n,by simpa using hs⟩,?_⟩
  have e:=r.length
  simp only [Array.length_toList] at e
  lia
theorem Inv.list_inj (I:Inv X pins σ H s) (h:SqL X.K H a xs) (h':SqL X.K H a ys):xs=ys:=by
 obtain ⟨its,r,⟨o,n,e,_,_,d⟩,_⟩:=I.list h
 obtain ⟨its',r',⟨o',n',e',_,_,d'⟩,_⟩:=I.list h'
 rw [e] at e'; cases e'
 rw [d] at d'
 injection d' with d1 _
 have:its=its':=by simpa using congrArg Array.toList d1
 subst this
 exact r.inj r'
theorem Inv.tuple_inj (I:Inv X pins σ H s) (h:SqT X.K H a xs) (h':SqT X.K H a ys):xs=ys:=by
 obtain ⟨its,r,⟨o,e,_,n,d⟩,_⟩:=I.tuple h
 obtain ⟨its',r',⟨o',e',_,n',d'⟩,_⟩:=I.tuple h'
 rw [e] at e'; cases e'
 rw [d] at d'
 injection d' with d1 _
 have:its=its':=by simpa using congrArg Array.toList d1
 subst this
 exact r.inj r'
end
abbrev Cx.wish (X:Cx) (E:Value→Shared→Prop):Cx:={ X with xe:=E }
abbrev Cx.nox (X:Cx):Cx:=X.wish fun _ _=>False
theorem Cx.Ok.wish {X:Cx} (ok:X.Ok) (E:Value→Shared→Prop):(X.wish E).Ok :=
 ⟨ok.mod,ok.kind,ok.glob,ok.blt,ok.above,ok.inj,ok.has,ok.cab,ok.hd,ok.frames,ok.stk,ok.exf,ok.bs,ok.bsz,ok.noex,ok.exfs,ok.funs,ok.frf⟩
theorem Cx.Ok.unwish {X:Cx} {E:Value→Shared→Prop} (ok:(X.wish E).Ok):X.Ok :=
 ⟨ok.mod,ok.kind,ok.glob,ok.blt,ok.above,ok.inj,ok.has,ok.cab,ok.hd,ok.frames,ok.stk,ok.exf,ok.bs,ok.bsz,ok.noex,ok.exfs,ok.funs,ok.frf⟩
section
variable {X:Cx} {pins:List (Addr×Obj)} {σ:St} {H:Hp} {s:Shared} {E:Value→Shared→Prop}
theorem Inv.wish (I:Inv X pins σ H s) (E:Value→Shared→Prop):Inv (X.wish E) pins σ H s:=⟨I.ok.wish E,I.os,I.bare,I.base,I.loc,I.cell,I.free,I.freeC,I.pin,I.hok,I.len⟩
theorem Inv.unwish (I:Inv (X.wish E) pins σ H s):Inv X pins σ H s:=⟨I.ok.unwish,I.os,I.bare,I.base,I.loc,I.cell,I.free,I.freeC,I.pin,I.hok,I.len⟩
theorem SP.unwish {D:Ends} {f:Flow} {s':Shared} (h:SP (X.wish E) pins D f s'):SP X pins D f s':=by
 cases f with
 | next=>obtain ⟨σ',H',I,q⟩:=h; exact ⟨σ',H',I.unwish,q⟩
 | brk=>obtain ⟨σ',H',I,q⟩:=h; exact ⟨σ',H',I.unwish,q⟩
 | cont=>obtain ⟨σ',H',I,q⟩:=h; exact ⟨σ',H',I.unwish,q⟩
 | ret u=>obtain ⟨v,σ',H',I,r,q⟩:=h; exact ⟨v,σ',H',I.unwish,r,q⟩
theorem PSs.nox {st:List Stmt} {t:TS} (h:PSs X.nox st t):PSs X st t:=fun pins s σ H D I hw =>
 wpAny_mono (h pins s σ H D (I.wish _) hw) (fun _ _ q=>q.unwish) fun _ _ z=>False.elim z
end
section
variable {X:Cx} {st:Stmt} {rest:List Stmt} {t u:TS} {e:Expr} {te:TE} {pos:Pos}
def d2w:TS:=fun D σ H=>D.nx σ H
def tSeq (t u:TS):TS:=fun D σ H=>t { D with nx:=u D } σ H
theorem c3p:PSs X [] d2w:=fun _ _ σ H _ I h=>wpAny_execs_nil ⟨σ,H,I,h⟩
theorem a5a (h1:PS X st t) (h2:PSs X rest u):PSs X (st :: rest) (tSeq t u):=by
 intro pins s σ H D I h
 refine wpAny_execs_cons (thn (h1 pins s σ H { D with nx:=u D } I h) fun f s1 q=>?_)
 cases f with
 | next =>
  obtain ⟨σ',H',I',q⟩:=q
  exact h2 pins s1 σ' H' D I' q
 | ret v=>exact q
 | brk=>exact q
 | cont=>exact q
theorem b0r (h1:PS X st t):PSs X [st] t:=by
 intro pins s σ H D I h
 refine wpAny_execs_cons (thn (h1 pins s σ H D I h) fun f s1 q=>?_)
 cases f with
 | next=>exact wpAny_execs_nil q
 | ret v=>exact q
 | brk=>exact q
 | cont=>exact q
theorem Inv.quiet {pins:List (Addr×Obj)} {σ:St} {H:Hp} {s:Shared} (I:Inv X pins σ H s):interactive X.env=false:=by simp [interactive,I.ok.kind]
def d2x (te:TE):TS:=fun D σ H=>te σ H fun _ H1=>D.nx σ H1
theorem b0t (he:PE X e te) (hs:swapsWith e none pos.line X.env=pure false:=by rfl):PS X (.Expr e pos) (d2x te):=by
 intro pins s σ H D I h
 exact wpAny_Expr_any (thn (he pins s σ H _ I h) fun v s1 ⟨x,H1,I1,r1,q1⟩=>⟨σ,H1,I1,q1⟩) I.quiet hs
def tRet (te:TE):TS:=fun D σ H=>te σ H D.rt
theorem b5g (he:PE X e te):PS X (.Return (some e) pos) (tRet te):=by
 intro pins s σ H D I h
 exact wpAny_Return_some (thn (he pins s σ H _ I h) fun v s1 ⟨x,H1,I1,r1,q1⟩=>⟨x,σ,H1,I1,r1,q1⟩)
def tIfS (c:TT) (t u:TS):TS:=fun D σ H=>c σ H fun b H1=>if b=true then t D σ H1 else u D σ H1
theorem d4o {c:Expr} {a b:List Stmt} {tc:TT} (hc:PT X c tc) (ha:PSs X a t) (hb:PSs X b u):PS X (.If c a b pos) (tIfS tc t u):=by
 intro pins s σ H D I h
 refine wpAny_If (thn (hc pins s σ H _ I h) fun d s1 ⟨H1,I1,q1⟩=>?_)
 cases d with
 | true=>exact ha pins s1 σ H1 D I1 q1
 | false=>exact hb pins s1 σ H1 D I1 q1
end
abbrev TG:=V→St→Hp→(St→Hp→Prop)→Prop
abbrev TGs:=List V→St→Hp→(St→Hp→Prop)→Prop
def PG (X:Cx) (target:Expr) (t:TG):Prop :=
 ∀ (pins:List (Addr×Obj)) (s:Shared) (σ:St) (H:Hp) (v:V) (u:Value) (Q:St→Hp→Prop),Inv X pins σ H s→RelV v u→t v σ H Q →
  wpAny (model X.prog X.w) X.A (assign target X.env u) (fun _ s'=>∃ σ' H',Inv X pins σ' H' s'∧Q σ' H') X.xe s
def PGs (X:Cx) (ts:List Expr) (t:TGs):Prop :=
 ∀ (pins:List (Addr×Obj)) (s:Shared) (σ:St) (H:Hp) (vs:List V) (us:List Value) (Q:St→Hp→Prop),Inv X pins σ H s→Vals vs us→t vs σ H Q →
  wpAny (model X.prog X.w) X.A (assignInOrder ((assignEach ts X.env).map (·.2)) us) (fun _ s'=>∃ σ' H',Inv X pins σ' H' s'∧Q σ' H') X.xe s
abbrev d9b:=V→V→V→Hp→(Hp→Prop)→Prop
def PSet (X:Cx) (t:d9b):Prop :=
 ∀ (pins:List (Addr×Obj)) (s:Shared) (σ:St) (H:Hp) (o i v:V) (ov iv u:Value) (Q:Hp→Prop),Inv X pins σ H s→RelV o ov→RelV i iv→RelV v u→t o i v H Q →
  wpAny (model X.prog X.w) X.A (setItem ov iv u) (fun _ s'=>∃ H',Inv X pins σ H' s'∧Q H') X.xe s
abbrev TIp:=V→V→Hp→VK→Prop
def PIp (X:Cx) (op:Operator) (t:TIp):Prop :=
 ∀ (pins:List (Addr×Obj)) (s:Shared) (σ:St) (H:Hp) (x y:V) (v u:Value) (Q:VK),Inv X pins σ H s→RelV x v→RelV y u→t x y H Q →
  wpAny (model X.prog X.w) X.A (inplaceOp op v u) (EP X pins σ Q) X.xe s
section
variable {X:Cx} {pos:Pos}
def a4i (i:Nat):TG:=fun v σ H Q=>Q (σ.set i (some v)) H
theorem c3x {i:Nat} {x:Str} (hN:X.N.Nodup) (hi:X.N[i]?=some x) (hx:Loc X.env.scope x) (hf:X.fn x=true ∨ X.env.scope.names.lookup x=some .local:=by first | exact .inl rfl | exact .inr rfl | assumption):PG X (.Name x pos) (a4i i):=by
 intro pins s σ H v u Q I r h
 exact wpAny_assign_Name (a7h I hN hi hx r (fun s' I'=>⟨_,H,I',h⟩) hf)
def d5s:TGs:=fun vs σ H Q=>vs=[]∧Q σ H
def c1c (t:TG) (u:TGs):TGs:=fun vs σ H Q=>∃ v r,vs=v :: r∧t v σ H fun σ' H'=>u r σ' H' Q
theorem c3w:PGs X [] d5s:=by
 intro pins s σ H vs us Q I r h
 obtain ⟨e,h⟩:=h
 subst e
 cases r
 exact assignInOrder_nil ⟨σ,H,I,h⟩
theorem c0c {e:Expr} {es:List Expr} {t:TG} {u:TGs} (h1:PG X e t) (h2:PGs X es u)
  (hs:(assignEach (e :: es) X.env).map (·.2)=assign e X.env :: (assignEach es X.env).map (·.2):=by rfl):PGs X (e :: es) (c1c t u):=by
 intro pins s σ H vs us Q I r h
 obtain ⟨v,vr,e1,h⟩:=h
 subst e1
 cases r with
 | cons r rr =>
  rw [hs]
  refine assignInOrder_cons (thn (h1 pins s σ H _ _ _ I r h) fun _ s1 ⟨σ1,H1,I1,q1⟩=>?_)
  exact h2 pins s1 σ1 H1 _ _ Q I1 rr q1
def d1q (K:Γd) (n:Nat) (t:TGs):TG:=fun v σ H Q=>∃ a xs,v=.ref a∧SqT K H a xs∧xs.length=n∧t xs σ H Q
theorem c8a {es:List Expr} {k:Nat} {t:TGs} {n:Nat} (hc:X.calm=true) (h:PGs X es t)
  (hn:(assignEach es X.env).length=n:=by rfl) (hst:(assignEach es X.env).findIdx? (·.1)=none:=by rfl):PG X (.Tuple es k pos) (d1q X.K n t):=by
 intro pins s σ H v u Q I r hw
 obtain ⟨a,xs,e1,hq,hl,hw⟩:=hw
 subst e1
 cases r
 obtain ⟨its,rv,ht,hz⟩:=I.tuple hq
 refine assign_Tuple_tuple (I.ok.hd hc) ht (by simp [hn,← hl,rv.length]) hst fun h' hx=>?_
 have I1:Inv X pins σ H { s with heap:=h' }:=I.kept (t':=s.toks) fun b o e=>hx b o (Γo (Γl e)) e
 exact h pins _ σ H xs _ Q I1 (by simpa using rv) hw
def gSub (to ti:TE) (t:d9b):TG:=fun v σ H Q=>to σ H fun o H1=>ti σ H1 fun i H2=>t o i v H2 fun H3=>Q σ H3
theorem c8b {o i:Expr} {to ti:TE} {t:d9b} (ho:PE X o to) (hi:PE X i ti) (hs:PSet X t)
  (ha:∀ v,assign (.Subscript o i pos) X.env v=(do
   let ov ← holding [v] (eval o X.env)
   let iv ← holding [v,ov] (eval i X.env)
   standAt pos
   holding [v,ov,iv] (setItem ov iv v)
   release [v,ov,iv] []):=by intro _; rfl):PG X (.Subscript o i pos) (gSub to ti t):=by
 intro pins s σ H v u Q I r h
 rw [ha]
 refine Γa (Γg (thn (ho pins s σ H _ I h) fun ov s1 ⟨x,H1,I1,r1,q1⟩=>?_))
 refine Γa (Γg (thn (hi pins s1 σ H1 _ I1 q1) fun iv s2 ⟨y,H2,I2,r2,q2⟩=>?_))
 refine Γa (wpAny_standAt (Γa (Γg (thn (hs pins s2 σ H2 x y v ov iv u _ I2 r1 r2 r q2) fun _ s3 ⟨H3,I3,q3⟩=>?_))))
 exact wpAny_release ⟨σ,H3,I3,q3⟩
def b8x (te:TE) (g:TG):TS:=fun D σ H=>te σ H fun x H1=>g x σ H1 D.nx
theorem b5j {tg e:Expr} {te:TE} {g:TG} (he:PE X e te) (hg:PG X tg g) (hs:swapsWithSole [tg] e pos.line X.env=pure false:=by rfl) (hw:swappedStores [tg] e X.env=pure none:=by rfl)
  (h1:(assignEach [tg] X.env).map (·.2)=[assign tg X.env]:=by rfl):PS X (.Assign [tg] e pos) (b8x te g):=by
 intro pins s σ H D I h
 refine wpAny_Assign_stores (thn (he pins s σ H _ I h) fun v s1 ⟨x,H1,I1,r1,q1⟩=>?_) hs hw
 rw [h1]
 exact thn (hg pins s1 σ H1 x v _ I1 r1 q1) fun _ s2 q=>q
theorem c7y {i:Nat} {x:Str} {e:Expr} {te:TE} {pos':Pos} (hN:X.N.Nodup) (hi:X.N[i]?=some x) (hx:Loc X.env.scope x) (he:PE X e te) (hs:swapsWith e (some (.Name x pos')) pos.line X.env=pure false:=by rfl) (hf:X.fn x=true ∨ X.env.scope.names.lookup x=some .local:=by first | exact .inl rfl | exact .inr rfl | assumption) :
  PS X (.Assign [.Name x pos'] e pos) (b8x te (a4i i)):=by
 intro pins s σ H D I h
 refine wpAny_Assign_Name (thn (he pins s σ H _ I h) fun v s1 ⟨y,H1,I1,r1,q1⟩=>?_) hs
 exact a7h I1 hN hi hx r1 (fun s2 I2=>⟨_,H1,I2,q1⟩) hf
def tAug (i:Nat) (te:TE) (ti:TIp):TS:=fun D σ H=>∃ x,σ[i]?=some (some x)∧te σ H fun y H1=>ti x y H1 fun z H2=>D.nx (σ.set i (some z)) H2
theorem c2f {i:Nat} {x:Str} {e:Expr} {te:TE} {op:Operator} {ti:TIp} {pos':Pos} (hN:X.N.Nodup) (hi:X.N[i]?=some x) (hx:Loc X.env.scope x) (he:PE X e te) (ho:PIp X op ti) (hf:X.fn x=true ∨ X.env.scope.names.lookup x=some .local:=by first | exact .inl rfl | exact .inr rfl | assumption) :
  PS X (.AugAssign (.Name x pos') op e pos) (tAug i te ti):=by
 intro pins s σ H D I h
 obtain ⟨v,e1,h⟩:=h
 obtain ⟨m,hn,hl⟩:=I.loc
 have vis:Vis X.env.scope x:=by rcases hx with k | k; exact .inl k; exact .inr (.inl k)
 obtain ⟨u,r,l⟩:=hl i x v hi e1 vis
 refine wpAny_AugAssign_Name ?_
 have go:wpAny (model X.prog X.w) X.A (eval e X.env) (fun w s₂=>wpAny (model X.prog X.w) X.A (inplaceOp op u w) (fun r s₃=>wpAny (model X.prog X.w) X.A (storeName X.env x r) (fun _=>SP X pins D .next) X.xe s₃) X.xe s₂) X.xe s:=by
  refine thn (he pins s σ H _ I h) fun w s1 ⟨y,H1,I1,r1,q1⟩=>?_
  refine thn (ho pins s1 σ H1 v y u w _ I1 r r1 q1) fun z s2 ⟨zv,H2,I2,r2,q2⟩=>?_
  exact a7h I2 hN hi hx r2 (fun s3 I3=>⟨_,H2,I3,q2⟩) hf
 rcases l with ⟨hk,hm⟩ | ⟨hk,c,hc,hcell⟩
 ·exact wpAny_loadName_local I.ok.kind hk hn hm go
 ·rcases hk with hk | hk
  ·exact wpAny_loadName_cell I.ok.kind hk hc hcell go
  ·rcases hx with k | k
   ·have:X.env.scope.names.lookup x=some .free:=hk
    rw [k] at this; cases this
   ·have:X.env.scope.names.lookup x=some .free:=hk
    rw [k] at this; cases this
def ipI (f:Int→Int→Int):TIp:=fun x y H Q=>∃ i j,x=.int i∧y=.int j∧Q (.int (f i j)) H
theorem c9i:PIp X .Add (ipI fun i j=>i + j):=by
 intro pins s σ H x y v u Q I r1 r2 h
 obtain ⟨i,j,e1,e2,q⟩:=h
 subst e1; subst e2
 obtain ⟨t,rfl⟩:=r1
 obtain ⟨t',rfl⟩:=r2
 exact iadd_int ⟨.int _,H,I.tok _,⟨_,rfl⟩,q⟩
theorem c9h:PIp X .Sub (ipI fun i j=>i - j):=by
 intro pins s σ H x y v u Q I r1 r2 h
 obtain ⟨i,j,e1,e2,q⟩:=h
 subst e1; subst e2
 obtain ⟨t,rfl⟩:=r1
 obtain ⟨t',rfl⟩:=r2
 exact isub_int ⟨.int _,H,I.tok _,⟨_,rfl⟩,q⟩
end
section
variable {X:Cx} {pos:Pos}
def c1z (c:TT) (tb:TS):TS:=fun D σ H=>∃ W:Nat→St→Hp→Prop,(∃ m,W m σ H)∧∀ m σ H,W m σ H →
 c σ H fun b H1=>if b=true then ∃ N:St→Hp→Prop,(∀ σ' H',N σ' H'→∃ m',m' < m∧W m' σ' H')∧tb { D with nx:=N,ct:=N,bk:=D.nx } σ H1 else D.nx σ H1
theorem b9z {c:Expr} {body:List Stmt} {tc:TT} {tb:TS} (hp:PassesOwn (model X.prog X.w) X.A X.env X.xe) (hc:PT X c tc) (hb:PSs X body tb):PS X (.While c body [] pos) (c1z tc tb):=by
 intro pins s σ H D I h
 obtain ⟨W,⟨m0,w0⟩,turn⟩:=h
 refine wpAny_While (codeAny_whileLoop (fun n s'=>∃ σ' H',Inv X pins σ' H' s'∧W n σ' H') ?_ m0 ⟨σ,H,I,w0⟩)
 rintro n s1 ⟨σ1,H1,I1,w1⟩
 refine wpAny_passesOwn hp (thn (hc pins s1 σ1 H1 _ I1 (turn n σ1 H1 w1)) fun b s2 ⟨H2,I2,q2⟩=>?_)
 cases b with
 | true =>
  obtain ⟨N,hN,q2⟩:=q2
  rw [if_pos rfl]
  refine wpAny_passesOwn hp (thn (hb pins s2 σ1 H2 _ I2 q2) fun f s3 q3=>?_)
  cases f with
  | next =>
   obtain ⟨σ3,H3,I3,n3⟩:=q3
   obtain ⟨m',hm,w3⟩:=hN σ3 H3 n3
   exact ⟨m',hm,σ3,H3,I3,w3⟩
  | cont =>
   obtain ⟨σ3,H3,I3,n3⟩:=q3
   obtain ⟨m',hm,w3⟩:=hN σ3 H3 n3
   exact ⟨m',hm,σ3,H3,I3,w3⟩
  | brk=>exact q3
  | ret v=>exact q3
 | false =>
  rw [if_neg Γk]
  exact wpAny_execs_nil ⟨σ1,H2,I2,q2⟩
end
structure It where
 go:Nat→Hp→Prop
 yld:Nat→Hp→V→Hp→Prop
 stop:Nat→Hp→Prop
def b1w (X:Cx) (pins:List (Addr×Obj)) (H:Hp) (b:Addr):Prop :=
 H b=none∧b≠X.env.locals∧b ∉ X.fs∧(b∈X.ex ∨ X.s₀.heap.objs.size≤b)∧(∀ x c,X.env.cells.lookup x=some c→c≠b)∧∀ p∈X.pn++pins,p.1≠b
theorem Inv.fpOk {X:Cx} {pins:List (Addr×Obj)} {σ:St} {H H':Hp} {s:Shared} {b:Addr} (I:Inv X pins σ H s) (hb:s.heap.objs.size≤b) (hn:H' b=none):b1w X pins H' b:=by
 refine ⟨hn,Nat.ne_of_gt (Nat.lt_of_lt_of_le I.lt hb),I.nofs hb,.inr (Nat.le_trans I.sz hb),fun x c e z=>?_,fun p hp z=>?_⟩
 ·obtain ⟨v,q⟩:=I.cell x c e
  exact absurd (Nat.lt_of_lt_of_le q.lt (by rw [z]; exact hb)) (Nat.lt_irrefl _)
 ·exact absurd (Nat.lt_of_lt_of_le (Γl (I.pin p hp).1) (by rw [z]; exact hb)) (Nat.lt_irrefl _)
structure Turn (P:Program) (w:World) (K:Γd) (tg:Expr) (J:It) (fp:List Addr) (it:Addr) (tn:Nat→Heap→Prop):Prop where
 mem:it∈fp
 obj:∀ i h,tn i h→∀ b∈fp,∃ o,h.get? b=some o∧∀ v,o.data≠.cell v
 keep:∀ i h h',tn i h→(∀ b∈fp,∀ o,h.get? b=some o→h'.get? b=some o)→tn i h'
 item:∀ (X:Cx),X.prog=P→X.w=w→X.K=K→X.calm=true→∀ (i:Nat) (pins:List (Addr×Obj)) (s:Shared) (σ:St) (H:Hp) (E:Value→Shared→Prop),Inv X pins σ H s→(∀ b∈fp,b1w X pins H b)→tn i s.heap→J.go i H →
  wpAny (model P w) X.A (pyNext (.ref it)) (fun r s1=>∃ u,r=some u ∧
   wpAny (model P w) X.A (letOwnedTupleGo tg (.ref it) u) (fun _ s2=>∃ x H',Inv X pins σ H' s2∧RelV x u∧J.yld i H x H'∧tn (i + 1) s2.heap∧∀ b∈fp,H' b=none) E s1) E s
 done:∀ (X:Cx),X.prog=P→X.w=w→X.K=K→X.calm=true→∀ (i:Nat) (pins:List (Addr×Obj)) (s:Shared) (σ:St) (H:Hp) (E:Value→Shared→Prop),Inv X pins σ H s→(∀ b∈fp,b1w X pins H b)→tn i s.heap→J.stop i H →
  wpAny (model P w) X.A (pyNext (.ref it)) (fun r s1=>r=none∧Inv X pins σ H s1) E s
 self:∀ (A:Around) (i:Nat) (s:Shared) (Q:Value→Shared→Prop) (E:Value→Shared→Prop),tn i s.heap→Q (.ref it) s→wpAny (model P w) A (pyIter (.ref it)) Q E s
abbrev TI:=St→Hp→(It→Hp→Prop)→Prop
def PIE (X:Cx) (pins:List (Addr×Obj)) (σ:St) (tg:Expr) (R:It→Hp→Prop) (itv:Value) (s2:Shared):Prop :=
 ∃ (it:Addr) (fp:List Addr) (tn:Nat→Heap→Prop) (J:It) (H':Hp),itv=.ref it∧Inv X pins σ H' s2∧Turn X.prog X.w X.K tg J fp it tn∧tn 0 s2.heap∧(∀ b∈fp,b1w X pins H' b)∧R J H'
def PI (X:Cx) (tg iter:Expr) (wi:TI):Prop :=
 ∀ (pins:List (Addr×Obj)) (s:Shared) (σ:St) (H:Hp) (R:It→Hp→Prop),Inv X pins σ H s→wi σ H R →
  wpAny (model X.prog X.w) X.A (eval iter X.env) (fun v s1=>wpAny (model X.prog X.w) X.A (pyIter v) (PIE X pins σ tg R) X.xe s1) X.xe s
theorem c1b {M : Model} {A : Around} {E : Value → Shared → Prop} {s : Shared} {tg : Expr} {it : Addr} {u : Value} {o : Obj} {n : String} {vs : Array Value} {Q : Unit → Shared → Prop} (ho : s.heap.get? it = some o) (hc : o.cls = .type n) (hd : o.data = .fields vs)
    (hn : ["enumerate", "zip", "dict_itemiterator", "dict_reverseitemiterator", "odict_iterator", "itertools.zip_longest", "itertools.pairwise"].contains n = false) (hQ : Q () s) : wpAny M A (letOwnedTupleGo tg (.ref it) u) Q E s := by
  unfold letOwnedTupleGo
  cases tg <;> first
    | exact Γb hQ
    | (cases u <;> first
        | exact Γb hQ
        | (refine Γa (wpAny_load ho ?_)
           rw [hc, hd]
           show wpAny M A (if (["enumerate", "zip", "dict_itemiterator", "dict_reverseitemiterator", "odict_iterator", "itertools.zip_longest", "itertools.pairwise"].contains n && vs[0]? == some (rawInt _)) = true then _ else _) Q E s
           rw [if_neg (by intro h; rw [hn, Bool.false_and] at h; cases h)]
           exact Γb hQ))
def Itl (K:Γd) (a:Addr):It :=
 ⟨fun i H=>∃ xs x,SqL K H a xs∧xs[i]?=some x,fun i H x H'=>H'=H∧∀ xs,SqL K H a xs→xs[i]?=some x,fun i H=>∃ xs,SqL K H a xs∧xs.length≤i⟩
def Itt (K:Γd) (a:Addr):It :=
 ⟨fun i H=>∃ xs x,SqT K H a xs∧xs[i]?=some x,fun i H x H'=>H'=H∧∀ xs,SqT K H a xs→xs[i]?=some x,fun i H=>∃ xs,SqT K H a xs∧xs.length≤i⟩
def Itr (lo:Int) (n:Nat):It:=⟨fun i _=>i < n,fun i H x H'=>H'=H∧x=.int (lo + i),fun i _=>n≤i⟩
theorem b4n {P:Program} {w:World} {K:Γd} {tg:Expr} (a it:Addr):Turn P w K tg (Itl K a) [it] it (fun i h=>h.IsListIter it a i) where
 mem:=by simp
 obj:=fun i h st b hb=>by
  have e:b=it:=by simpa using hb
  subst e
  obtain ⟨o,e,c,d⟩:=st
  exact ⟨o,e,fun v z=>by rw [d] at z; cases z⟩
 keep:=fun i h h' st k=>st.at fun o e=>k it (by simp) o e
 item:=by
  intro X hP hw hK hc i pins s σ H E I hf st hg
  subst hP hw hK
  obtain ⟨xs,x,hq,hx⟩:=hg
  obtain ⟨its,rv,p,hz⟩:=I.list hq
  obtain ⟨u,hu,ru⟩:=rv.get hx
  obtain ⟨f0,f1,f2,f3,f4,f5⟩:=hf it (by simp)
  refine wpAny_pyNext_list_item st p.isList (x:=u) (by simpa using hu) fun h' st' sb=>?_
  have I1:Inv X pins σ H { s with heap:=h' }:=I.turned (t':=s.toks) (fun b o hb e=>(sb.2 b hb).trans e) f0 f1 f3 f4 f5
  obtain ⟨o,e,c,d⟩:=id st'
  exact ⟨u,rfl,c1b (s:={ s with heap:=h' }) e c d (by decide) ⟨x,H,I1,ru,⟨rfl,fun ys hy=>by rw [I.list_inj hy hq]; exact hx⟩,st',fun b hb=>(hf b hb).1⟩⟩
 done:=by
  intro X hP hw hK hc i pins s σ H E I hf st hg
  subst hP hw hK
  obtain ⟨xs,hq,hx⟩:=hg
  obtain ⟨its,rv,p,hz⟩:=I.list hq
  obtain ⟨f0,f1,f2,f3,f4,f5⟩:=hf it (by simp)
  have hl:=rv.length
  exact wpAny_pyNext_list_end (I.ok.hd hc) st p.isList (by simp; lia) fun h' eb=>⟨rfl,I.turned (t':=s.toks) (fun b o hb e=>eb b o hb e) f0 f1 f3 f4 f5⟩
 self:=fun _ _ _ _ _ st h=>wpAny_pyIter_listiter st h
theorem b3k {P:Program} {w:World} {K:Γd} {tg:Expr} (a it:Addr):Turn P w K tg (Itt K a) [it] it (fun i h=>h.IsTupleIter it a i) where
 mem:=by simp
 obj:=fun i h st b hb=>by
  have e:b=it:=by simpa using hb
  subst e
  obtain ⟨o,e,c,d⟩:=st
  exact ⟨o,e,fun v z=>by rw [d] at z; cases z⟩
 keep:=fun i h h' st k=>st.at fun o e=>k it (by simp) o e
 item:=by
  intro X hP hw hK hc i pins s σ H E I hf st hg
  subst hP hw hK
  obtain ⟨xs,x,hq,hx⟩:=hg
  obtain ⟨its,rv,p,hz⟩:=I.tuple hq
  obtain ⟨u,hu,ru⟩:=rv.get hx
  obtain ⟨f0,f1,f2,f3,f4,f5⟩:=hf it (by simp)
  refine wpAny_pyNext_tuple_item st (show s.heap.IsTuple a its.toArray from p) (x:=u) (by simpa using hu) fun h' st' sb=>?_
  have I1:Inv X pins σ H { s with heap:=h' }:=I.turned (t':=s.toks) (fun b o hb e=>(sb.2 b hb).trans e) f0 f1 f3 f4 f5
  obtain ⟨o,e,c,d⟩:=id st'
  exact ⟨u,rfl,c1b (s:={ s with heap:=h' }) e c d (by decide) ⟨x,H,I1,ru,⟨rfl,fun ys hy=>by rw [I.tuple_inj hy hq]; exact hx⟩,st',fun b hb=>(hf b hb).1⟩⟩
 done:=by
  intro X hP hw hK hc i pins s σ H E I hf st hg
  subst hP hw hK
  obtain ⟨xs,hq,hx⟩:=hg
  obtain ⟨its,rv,p,hz⟩:=I.tuple hq
  obtain ⟨f0,f1,f2,f3,f4,f5⟩:=hf it (by simp)
  have hl:=rv.length
  exact wpAny_pyNext_tuple_end (I.ok.hd hc) st (show s.heap.IsTuple a its.toArray from p) (by simp; lia) fun h' eb=>⟨rfl,I.turned (t':=s.toks) (fun b o hb e=>eb b o hb e) f0 f1 f3 f4 f5⟩
 self:=fun _ _ _ _ _ st h=>wpAny_pyIter_tupleiter st h
theorem b3l {P:Program} {w:World} {K:Γd} {tg:Expr} (it:Addr) (lo:Int) (n:Nat):Turn P w K tg (Itr lo n) [it] it (fun i h=>IsRangeIter h it (lo + (i:Nat) * 1) ((n:Int) - (i:Nat)) 1) where
 mem:=by simp
 obj:=fun i h st b hb=>by
  have e:b=it:=by simpa using hb
  subst e
  exact ⟨_,st,fun v z=>by
   have z':Data.fields _=Data.cell v:=z
   cases z'⟩
 keep:=fun i h h' st k=>k it (by simp) _ st
 item:=by
  intro X hP hw hK hc i pins s σ H E I hf st hg
  subst hP hw hK
  obtain ⟨f0,f1,f2,f3,f4,f5⟩:=hf it (by simp)
  have W:=Walks.range (prog:=X.prog) (w:=X.w) (I.ok.hd hc) it lo 1 n
  refine W.item i s _ _ hg st fun v h' tk hv st' kk=>?_
  obtain ⟨t,rfl⟩:=hv
  have I1:Inv X pins σ H { s with heap:=h',toks:=tk }:=I.turned (fun b o hb e=>kk b o (by simpa using hb) e) f0 f1 f3 f4 f5
  refine ⟨_,rfl,c1b (s:={ s with heap:=h',toks:=tk }) (n:="range_iterator") st' rfl rfl (by decide) ⟨.int (lo + i),H,I1,⟨t,?_⟩,⟨rfl,rfl⟩,st',fun b hb=>(hf b hb).1⟩⟩
  rw [Int.mul_one]
 done:=by
  intro X hP hw hK hc i pins s σ H E I hf st hg
  subst hP hw hK
  obtain ⟨f0,f1,f2,f3,f4,f5⟩:=hf it (by simp)
  exact wpAny_pyNext_range_end (I.ok.hd hc) st (by have:n≤i:=hg; lia) fun h' eb=>⟨rfl,I.turned (t':=s.toks) (fun b o hb e=>eb b o hb e) f0 f1 f3 f4 f5⟩
 self:=fun _ _ _ _ _ st h=>wpAny_pyIter_rangeiter st h
end L2
namespace L2
open PySem PySem.Spec PyProof.Rows
section
variable {X:Cx} {tg:Expr}
theorem b9v {pins:List (Addr×Obj)} {σ:St} {H:Hp} {s:Shared} {R:It→Hp→Prop} {E:Value→Shared→Prop} {lo hi:Int} {t u v:Tok} {tk:Nat} (I:Inv X pins σ H s) (h1:-(2 ^ 62)≤lo) (h2:lo < 2 ^ 62) (h3:-(2 ^ 62)≤hi) (h4:hi < 2 ^ 62)
  (q:R (Itr lo (hi - lo).toNat) H):wpAny (model X.prog X.w) X.A (pyIter (.ref s.heap.objs.size)) (PIE X pins σ tg R) E { s with heap:=s.heap.push { cls:=.type "range",data:=.fields #[.int lo t,.int hi u,.int 1 v] },toks:=tk }:=by
 refine wpAny_pyIter_range (IsRange.new ..) (small_one h1 h2 h3 h4) ?_
 have I1:Inv X pins σ H { s with heap:=s.heap.push { cls:=.type "range",data:=.fields #[.int lo t,.int hi u,.int 1 v] },toks:=tk }:=I.kept fun b o e=>Γc _ e
 refine ⟨(s.heap.push { cls:=.type "range",data:=.fields #[.int lo t,.int hi u,.int 1 v] }).objs.size,[(s.heap.push { cls:=.type "range",data:=.fields #[.int lo t,.int hi u,.int 1 v] }).objs.size],_,_,H,rfl,
  I1.kept (t':=tk) fun b o e=>Γc _ e,b3l _ lo (hi - lo).toNat,?_,fun b hb=>?_,q⟩
 ·have e1:lo + ((0:Nat):Int) * 1=lo:=by simp
  have e2:(((hi - lo).toNat:Nat):Int) - ((0:Nat):Int)=Builtin.Range.rangeSize lo hi 1:=by rw [rangeSize_one]; split <;> lia
  show IsRangeIter _ _ (lo + ((0:Nat):Int) * 1) ((((hi - lo).toNat:Nat):Int) - ((0:Nat):Int)) 1
  rw [e1,e2]
  exact Γm _ rfl
 ·have e:b=(s.heap.push { cls:=.type "range",data:=.fields #[.int lo t,.int hi u,.int 1 v] }).objs.size:=by simpa using hb
  subst e
  exact I1.fpOk (Γi _) (I1.hok.fresh (Γi _))
def d5r (ta:TA):TI:=fun σ H R=>ta σ H fun vs H1=>∃ j:Int,vs=[.int j]∧-(2 ^ 62)≤j∧j < 2 ^ 62∧R (Itr 0 j.toNat) H1
def iRng2 (ta:TA):TI:=fun σ H R=>ta σ H fun vs H1=>∃ i j:Int,vs=[.int i,.int j]∧(-(2 ^ 62)≤i∧i < 2 ^ 62∧-(2 ^ 62)≤j∧j < 2 ^ 62)∧R (Itr i (j - i).toNat) H1
theorem b5p {a:Expr} {ta:TA} {p pos:Pos} (hg:Gl X "range") (hm:X.mg "range" = none) (ha:PA X [a] ta) (hs:starEach [a] X.env=[(false,eval a X.env)]:=by rfl):PI X tg (.Call (.Name "range" p) [a] [] pos) (d5r ta):=by
 intro pins s σ H R I h
 refine Call_ (a9j I hg hm boot_range (PyProof.Rows.callWith_type1 (thn (ha pos pins s σ H _ I h) fun us s1 ⟨vs,H1,I1,r1,q1⟩=>?_) hs rfl))
 obtain ⟨j,e,q1,q2,q⟩:=q1
 subst e
 cases r1 with
 | cons r rr =>
  cases rr
  obtain ⟨t,rfl⟩:=r
  exact call_range_1 (b9v I1 (by lia) (by lia) q1 q2 (by simpa using q))
def tFor (wi:TI) (g:TG) (tb:TS):TS:=fun D σ H=>wi σ H fun J H1=>∃ W:Nat→Nat→St→Hp→Prop,(∃ m,W 0 m σ H1)∧∀ i m σ H,W i m σ H →
 (J.stop i H∧D.nx σ H) ∨ (J.go i H∧∃ N:St→Hp→Prop,(∀ σ' H',N σ' H'→∃ m',m' < m∧W (i + 1) m' σ' H')∧∀ x H',J.yld i H x H'→g x σ H' fun σ2 H2=>tb { D with nx:=N,ct:=N,bk:=D.nx } σ2 H2)
def a5m (fp:List Addr) (h:Heap):List (Addr×Obj):=fp.filterMap fun b=>(h.get? b).map fun o=>(b,o)
theorem a2f {fp:List Addr} {h:Heap} {b:Addr} {o:Obj} (hb:b∈fp) (e:h.get? b=some o):(b,o)∈a5m fp h:=List.mem_filterMap.mpr ⟨b,hb,by rw [e]; rfl⟩
theorem b6d {fp:List Addr} {h:Heap} {p:Addr×Obj} (hp:p∈a5m fp h):p.1∈fp∧h.get? p.1=some p.2:=by
 obtain ⟨b,hb,e⟩:=List.mem_filterMap.mp hp
 cases q:h.get? b with
 | none=>rw [q] at e; cases e
 | some o =>
  rw [q] at e
  have e':(b,o)=p:=Option.some.inj e
  subst e'
  exact ⟨hb,q⟩
theorem Inv.pinned {pins:List (Addr×Obj)} {σ:St} {H:Hp} {s:Shared} {fp:List Addr} (I:Inv X pins σ H s) (hf:∀ b∈fp,b1w X pins H b) (ho:∀ b∈fp,∃ o,s.heap.get? b=some o∧∀ v,o.data≠.cell v):Inv X (pins++a5m fp s.heap) σ H s :=
 I.pins_of fun p hp=>(List.mem_append.mp hp).elim (fun z=>I.pin p (List.mem_append_right _ z)) fun z=>by
  obtain ⟨hb,e⟩:=b6d z
  obtain ⟨f0,f1,f2,_⟩:=hf p.1 hb
  obtain ⟨o,e',d⟩:=ho p.1 hb
  rw [e] at e'; cases e'
  exact ⟨e,f0,f1,f2,d⟩
theorem Inv.unpinned {pins pl:List (Addr×Obj)} {σ:St} {H:Hp} {s:Shared} (I:Inv X (pins++pl) σ H s):Inv X pins σ H s:=I.pins_of fun p hp=>I.pin p (List.mem_append_right _ (List.mem_append_left _ hp))
theorem c2e {iter:Expr} {body:List Stmt} {wi:TI} {g:TG} {tb:TS} {pos:Pos} (hp:PassesOwn (model X.prog X.w) X.A X.env X.xe) (hc:X.calm=true) (hi:PI X tg iter wi) (hg:PG X tg g) (hb:PSs X body tb)
  (hs:∀ x,foldedSetIterable iter X.env x=pure x:=by intro _; rfl):PS X (.For tg iter body [] pos) (tFor wi g tb):=by
 intro pins s σ H D I h
 refine wpAny_For (thn (hi pins s σ H _ I h) fun v s1 h1=>thn h1 fun itv s2 h2=>?_) hs
 obtain ⟨it,fp,tn,J,H2,e,I2,T,st2,f2,W,⟨m0,w0⟩,turn⟩:=h2
 subst e
 -- what stays true of the iterator's objects through the loop
 have stat:∀ {H':Hp},(∀ b∈fp,H' b=none)→∀ b∈fp,b1w X pins H' b:=fun hn b hb=>⟨hn b hb,(f2 b hb).2⟩
 refine codeAny_forLoop_any (fun n s'=>∃ i σ' H',Inv X pins σ' H' s'∧tn i s'.heap∧(∀ b∈fp,H' b=none)∧W i n σ' H') ?_ m0 ⟨0,σ,H2,I2,st2,fun b hb=>(f2 b hb).1,w0⟩
 rintro n s3 ⟨i,σ3,H3,I3,st3,fr3,w3⟩
 rcases turn i n σ3 H3 w3 with ⟨stop,qn⟩ | ⟨go,N,hN,step⟩
 ·refine wpAny_passesOwn hp (thn (T.done X rfl rfl rfl hc i pins s3 σ3 H3 X.xe I3 (stat fr3) st3 stop) fun r s4 ⟨hr,I4⟩=>?_)
  subst hr
  exact wpAny_execs_nil ⟨σ3,H3,I4,qn⟩
 ·refine wpAny_passesOwn hp (thn (T.item X rfl rfl rfl hc i pins s3 σ3 H3 X.xe I3 (stat fr3) st3 go) fun r s4 ⟨u,hr,h4⟩=>?_)
  subst hr
  refine wpAny_passesOwn hp (thn h4 fun _ s5 ⟨x,H5,I5,r5,y5,st5,fr5⟩=>?_)
  have I5':=I5.pinned (stat fr5) (T.obj _ _ st5)
  refine wpAny_passesOwn hp (thn (hg _ s5 σ3 H5 x u _ I5' r5 (step x H5 y5)) fun _ s6 ⟨σ6,H6,I6,q6⟩=>?_)
  refine wpAny_passesOwn hp (thn (hb _ s6 σ6 H6 _ I6 q6) fun f s7 q7=>?_)
  have again:∀ {σ7:St} {H7:Hp},Inv X (pins++a5m fp s5.heap) σ7 H7 s7→N σ7 H7→∃ m,m < n∧∃ i σ' H',Inv X pins σ' H' s7∧tn i s7.heap∧(∀ b∈fp,H' b=none)∧W i m σ' H':=fun {σ7 H7} I7 n7=>by
   obtain ⟨m',hm,w7⟩:=hN σ7 H7 n7
   refine ⟨m',hm,i + 1,σ7,H7,I7.unpinned,T.keep _ _ _ st5 fun b hb o e=>(I7.pin (b,o) (List.mem_append_right _ (List.mem_append_right _ (a2f hb e)))).1,fun b hb=>?_,w7⟩
   obtain ⟨o,e,d⟩:=T.obj _ _ st5 b hb
   exact (I7.pin (b,o) (List.mem_append_right _ (List.mem_append_right _ (a2f hb e)))).2.1
  cases f with
  | next=>obtain ⟨σ7,H7,I7,n7⟩:=q7; exact again I7 n7
  | cont=>obtain ⟨σ7,H7,I7,n7⟩:=q7; exact again I7 n7
  | brk=>obtain ⟨σ7,H7,I7,q7⟩:=q7; exact ⟨σ7,H7,I7.unpinned,q7⟩
  | ret v=>obtain ⟨x7,σ7,H7,I7,r7,q7⟩:=q7; exact ⟨x7,σ7,H7,I7.unpinned,r7,q7⟩
end
theorem while_by {c:TT} {tb:TS} {D:Ends} {σ:St} {H:Hp} (Pv:St→Hp→Prop) (μ:St→Hp→Nat) (h0:Pv σ H)
  (hs:∀ σ H,Pv σ H→c σ H fun b H1=>if b=true then tb { D with nx:=fun σ' H'=>Pv σ' H'∧μ σ' H' < μ σ H,ct:=fun σ' H'=>Pv σ' H'∧μ σ' H' < μ σ H,bk:=D.nx } σ H1 else D.nx σ H1)
  (mono:∀ σ H Q Q',(∀ b H1,Q b H1→Q' b H1)→c σ H Q→c σ H Q'):c1z c tb D σ H:=by
 refine ⟨fun m σ H=>m=μ σ H∧Pv σ H,⟨_,rfl,h0⟩,?_⟩
 rintro m σ H ⟨rfl,p⟩
 refine mono σ H _ _ (fun b H1 q=>?_) (hs σ H p)
 cases b with
 | true=>exact ⟨_,fun σ' H' ⟨p',l⟩=>⟨_,l,rfl,p'⟩,q⟩
 | false=>exact q
end L2
namespace L2
open PySem PySem.Spec PyProof.Rows
abbrev R2:=V→V→Hp→VK→Prop
def OpR (X:Cx) (f:Value→Value→Sem Value) (r:R2):Prop :=
 ∀ (pins:List (Addr×Obj)) (s:Shared) (σ:St) (H:Hp) (x y:V) (v u:Value) (Q:VK),Inv X pins σ H s→RelV x v→RelV y u→r x y H Q →
  wpAny (model X.prog X.w) X.A (f v u) (EP X pins σ Q) X.xe s
def UnR (X:Cx) (f:Value→Sem Value) (r:V→Hp→VK→Prop):Prop :=
 ∀ (pins:List (Addr×Obj)) (s:Shared) (σ:St) (H:Hp) (x:V) (v:Value) (Q:VK),Inv X pins σ H s→RelV x v→r x H Q →
  wpAny (model X.prog X.w) X.A (f v) (EP X pins σ Q) X.xe s
def a1l (X:Cx) (f:Value) (r:List V→Hp→VK→Prop):Prop :=
 ∀ (pins:List (Addr×Obj)) (s:Shared) (σ:St) (H:Hp) (xs:List V) (us:List Value) (Q:VK),Inv X pins σ H s→Vals xs us→r xs H Q →
  wpAny (model X.prog X.w) X.A (call f us) (EP X pins σ Q) X.xe s
def TruR (X:Cx) (r:V→Hp→(Bool→Hp→Prop)→Prop):Prop :=
 ∀ (pins:List (Addr×Obj)) (s:Shared) (σ:St) (H:Hp) (x:V) (v:Value) (Q:Bool→Hp→Prop),Inv X pins σ H s→RelV x v→r x H Q →
  wpAny (model X.prog X.w) X.A (truthy v) (TP X pins σ Q) X.xe s
def tOp (r:R2) (ta tb:TE):TE:=fun σ H Q=>ta σ H fun x H1=>tb σ H1 fun y H2=>r x y H2 Q
def tUn (r:V→Hp→VK→Prop) (ta:TE):TE:=fun σ H Q=>ta σ H fun x H1=>r x H1 Q
def rI (C:Int→Int→Prop) (g:Int→Int→V):R2:=fun x y H Q=>∃ i j,x=.int i∧y=.int j∧C i j∧Q (g i j) H
def rI0 (g:Int→Int→V):R2:=fun x y H Q=>∃ i j,x=.int i∧y=.int j∧Q (g i j) H
def rU (g:Int→V):V→Hp→VK→Prop:=fun x H Q=>∃ i,x=.int i∧Q (g i) H
section
variable {X:Cx} {a b c:Expr} {ta tb tc:TE} {pos:Pos}
theorem d8o (ha:PE X a ta) (hb:PE X b tb) {pins:List (Addr×Obj)} {s:Shared} {σ:St} {H:Hp} {R:V→V→Hp→Prop} (I:Inv X pins σ H s)
  (h:ta σ H fun x H1=>tb σ H1 fun y H2=>R x y H2) {Q:Value→Shared→Prop} {f:Value→Value→Sem Value}
  (hf:∀ v u s2 x y H2,Inv X pins σ H2 s2→RelV x v→RelV y u→R x y H2→wpAny (model X.prog X.w) X.A (f v u) Q X.xe s2) :
  wpAny (model X.prog X.w) X.A (eval a X.env) (fun v s₁=>wpAny (model X.prog X.w) X.A (eval b X.env) (fun u s₂=>wpAny (model X.prog X.w) X.A (f v u) Q X.xe s₂) X.xe s₁) X.xe s:=by
 refine thn (ha pins s σ H _ I h) fun v s1 ⟨x,H1,I1,r1,q1⟩=>?_
 refine thn (hb pins s1 σ H1 _ I1 q1) fun u s2 ⟨y,H2,I2,r2,q2⟩=>?_
 exact hf v u s2 x y H2 I2 r1 r2 q2
theorem d4r {op:Operator} {r:R2} (ho:OpR X (binaryOp op) r) (ha:PE X a ta) (hb:PE X b tb):PE X (.BinOp a op b pos) (tOp r ta tb):=by
 intro pins s σ H Q I h
 exact wpAny_BinOp (d8o ha hb I h fun v u s2 x y H2 I2 rx ry q=>ho pins s2 σ H2 x y v u Q I2 rx ry q)
theorem d4q {op:UnaryOp} {r:V→Hp→VK→Prop} (ho:UnR X (unaryOp op) r) (ha:PE X a ta):PE X (.UnaryOp op a pos) (tUn r ta):=by
 intro pins s σ H Q I h
 exact UnaryOp_ (thn (ha pins s σ H _ I h) fun v s1 ⟨x,H1,I1,r1,q1⟩=>ho pins s1 σ H1 x v Q I1 r1 q1)
theorem opI {f:Value→Value→Sem Value} {C:Int→Int→Prop} {g:Int→Int→Int}
  (rule:∀ (i j:Int) (t u:Tok) (s:Shared) (Q:Value→Shared→Prop) (E:Value→Shared→Prop),C i j→Q (.int (g i j) s.toks) { s with toks:=s.toks + 1 }→wpAny (model X.prog X.w) X.A (f (.int i t) (.int j u)) Q E s) :
  OpR X f (rI C fun i j=>.int (g i j)):=by
 intro pins s σ H x y v u Q I rx ry h
 obtain ⟨i,j,rfl,rfl,hc,q⟩:=h
 obtain ⟨t,rfl⟩:=rx
 obtain ⟨t',rfl⟩:=ry
 exact rule i j t t' s _ _ hc ⟨.int (g i j),H,I.tok _,⟨_,rfl⟩,q⟩
theorem opI0 {f:Value→Value→Sem Value} {g:Int→Int→Int}
  (rule:∀ (i j:Int) (t u:Tok) (s:Shared) (Q:Value→Shared→Prop) (E:Value→Shared→Prop),Q (.int (g i j) s.toks) { s with toks:=s.toks + 1 }→wpAny (model X.prog X.w) X.A (f (.int i t) (.int j u)) Q E s) :
  OpR X f (rI0 fun i j=>.int (g i j)):=by
 intro pins s σ H x y v u Q I rx ry h
 obtain ⟨i,j,rfl,rfl,q⟩:=h
 obtain ⟨t,rfl⟩:=rx
 obtain ⟨t',rfl⟩:=ry
 exact rule i j t t' s _ _ ⟨.int (g i j),H,I.tok _,⟨_,rfl⟩,q⟩
theorem d5b {f:Value→Value→Sem Value} {g:Int→Int→Bool}
  (rule:∀ (i j:Int) (t u:Tok) (s:Shared) (Q:Value→Shared→Prop) (E:Value→Shared→Prop),Q (.bool (g i j)) s→wpAny (model X.prog X.w) X.A (f (.int i t) (.int j u)) Q E s) :
  OpR X f (rI0 fun i j=>.bl (g i j)):=by
 intro pins s σ H x y v u Q I rx ry h
 obtain ⟨i,j,rfl,rfl,q⟩:=h
 obtain ⟨t,rfl⟩:=rx
 obtain ⟨t',rfl⟩:=ry
 exact rule i j t t' s _ _ ⟨.bl (g i j),H,I,rfl,q⟩
def CDiv (i j:Int):Prop:=0 < j∧j < 1073741824
def CPow (i j:Int):Prop:=0≤j∧j≤1000000∧i.natAbs < 2 ^ 64
def CMul (i j:Int):Prop:=(-(2 ^ 64) < i∧i < 2 ^ 64) ∨ (-(2 ^ 64) < j∧j < 2 ^ 64)
theorem CMul.ok {i j:Int} (h:CMul i j):IntMulOk i j:=by
 rcases h with ⟨h1,h2⟩ | ⟨h1,h2⟩
 ·exact .of_left (intBits_le_64 h1 h2)
 ·exact .of_right (intBits_le_64 h1 h2)
theorem c8o:OpR X (binaryOp .Add) (rI0 fun i j=>.int (i + j)):=opI0 fun _ _ _ _ _ _ _ q=>add_int q
theorem c8h:OpR X (binaryOp .Sub) (rI0 fun i j=>.int (i - j)):=opI0 fun _ _ _ _ _ _ _ q=>sub_int q
theorem c8k:OpR X (binaryOp .Mult) (rI CMul fun i j=>.int (i * j)):=opI fun _ _ _ _ _ _ _ hc q=>mul_int q hc.ok
theorem c4f:OpR X (binaryOp .FloorDiv) (rI CDiv fun i j=>.int (i / j)):=opI fun i j _ _ _ _ _ hc q=>by
 have h1:(0:Int) < j:=hc.1
 have h2:j < 1073741824:=hc.2
 exact floordiv_int (by lia) (by rw [Int.fdiv_eq_ediv_of_nonneg i (by lia)]; exact q) (.inl (PyProof.noPylong_small (by lia)))
theorem c8l:OpR X (binaryOp .Mod) (rI (fun _ j=>0 < j) fun i j=>.int (i % j)):=opI fun i j _ _ _ _ _ hc q=>by
 have h1:(0:Int) < j:=hc
 exact mod_int' (by lia) (by rw [Int.fmod_eq_emod_of_nonneg i (by lia)]; exact q)
theorem c8j:OpR X (binaryOp .Pow) (rI CPow fun i j=>.int (i ^ j.toNat)):=opI fun _ _ _ _ _ _ _ hc q=>pow_int_small hc.1 hc.2.1 hc.2.2 q
theorem unI {f:Value→Sem Value} {g:Int→Int}
  (rule:∀ (i:Int) (t:Tok) (s:Shared) (Q:Value→Shared→Prop) (E:Value→Shared→Prop),Q (.int (g i) s.toks) { s with toks:=s.toks + 1 }→wpAny (model X.prog X.w) X.A (f (.int i t)) Q E s) :
  UnR X f (rU fun i=>.int (g i)):=by
 intro pins s σ H x v Q I rx h
 obtain ⟨i,rfl,q⟩:=h
 obtain ⟨t,rfl⟩:=rx
 exact rule i t s _ _ ⟨.int (g i),H,I.tok _,⟨_,rfl⟩,q⟩
theorem c6q:UnR X (unaryOp .USub) (rU fun i=>.int (-i)):=unI fun _ _ _ _ _ q=>neg_int q
end
def scal:V→V→Bool
 | .non,.non=>true | .non,.int _=>true | .int _,.non=>true | .non,.bl _=>true | .bl _,.non=>true | .non,.str _=>true | .str _,.non=>true
 | .int _,.int _=>true | .bl _,.bl _=>true | .str _,.str _=>true | .byt _,.byt _=>true
 | .int _,.str _=>true | .str _,.int _=>true | .bl _,.str _=>true | .str _,.bl _=>true
 | _,_=>false
def rEq:R2:=fun x y H Q=>scal x y=true∧Q (.bl (decide (x=y))) H
def rNe:R2:=fun x y H Q=>scal x y=true∧Q (.bl (!decide (x=y))) H
theorem b8a {i j:Int}:decide (V.int i=V.int j)=(i == j):=by
 rw [Bool.eq_iff_iff]
 simp
theorem c2y {i j:Bool}:decide (V.bl i=V.bl j)=(i == j):=by
 rw [Bool.eq_iff_iff]
 simp
theorem b7z {i j:Str}:decide (V.str i=V.str j)=(i == j):=by
 rw [Bool.eq_iff_iff]
 simp
theorem b8b {i j:Array UInt8}:decide (V.byt i=V.byt j)=(i.toList == j.toList):=by
 rw [Bool.eq_iff_iff]
 cases i
 cases j
 simp
section
variable {X:Cx} {a b c:Expr} {ta tb tc:TE} {pos:Pos}
theorem a0l {pins:List (Addr×Obj)} {σ:St} {H:Hp} {s:Shared} {Q:VK} {k k':Bool} (I:Inv X pins σ H s) (q:Q (.bl k) H) (e:k=k'):EP X pins σ Q (.bool k') s:=by
 subst e
 exact ⟨.bl k,H,I,rfl,q⟩
theorem d5a:OpR X (compareOp .Eq) rEq:=by
 intro pins s σ H x y v u Q I rx ry h
 obtain ⟨hs,q⟩:=h
 cases x with
 | non =>
  cases rx
  cases y with
  | non=>cases ry; exact PySem.EqNone.eq_none_none (a0l I q (by simp))
  | bl j=>cases ry; exact PySem.EqNone.eq_none_bool (a0l I q (by simp))
  | int j=>obtain ⟨t',rfl⟩:=ry; exact PySem.EqNone.eq_none_int (a0l I q (by simp))
  | str j=>obtain ⟨t',rfl⟩:=ry; exact PySem.EqNone.eq_none_str (a0l I q (by simp))
  | _=>exact absurd (show false=true from hs) Γk
 | bl i =>
  cases rx
  cases y with
  | non=>cases ry; exact PySem.EqNone.eq_bool_none (a0l I q (by simp))
  | bl j=>cases ry; exact eq_bool (a0l I q c2y)
  | str j=>obtain ⟨t',rfl⟩:=ry; exact PySem.EqMixed.eq_bool_str (a0l I q (by simp))
  | _=>exact absurd (show false=true from hs) Γk
 | int i =>
  obtain ⟨t,rfl⟩:=rx
  cases y with
  | non=>cases ry; exact PySem.EqNone.eq_int_none (a0l I q (by simp))
  | int j=>obtain ⟨t',rfl⟩:=ry; exact eq_int (a0l I q b8a)
  | str j=>obtain ⟨t',rfl⟩:=ry; exact PySem.EqMixed.eq_int_str (a0l I q (by simp))
  | _=>exact absurd (show false=true from hs) Γk
 | str i =>
  obtain ⟨t,rfl⟩:=rx
  cases y with
  | non=>cases ry; exact PySem.EqNone.eq_str_none (a0l I q (by simp))
  | bl j=>cases ry; exact PySem.EqMixed.eq_str_bool (a0l I q (by simp))
  | int j=>obtain ⟨t',rfl⟩:=ry; exact PySem.EqMixed.eq_str_int (a0l I q (by simp))
  | str j=>obtain ⟨t',rfl⟩:=ry; exact eq_str (a0l I q b7z)
  | _=>exact absurd (show false=true from hs) Γk
 | byt i =>
  obtain ⟨t,rfl⟩:=rx
  cases y with
  | byt j=>obtain ⟨t',rfl⟩:=ry; exact PySem.W.eq_bytes (a0l I q b8b)
  | _=>exact absurd (show false=true from hs) Γk
 | _=>cases y <;> exact absurd (show false=true from hs) Γk
theorem d4w:OpR X (compareOp .NotEq) rNe:=by
 intro pins s σ H x y v u Q I rx ry h
 obtain ⟨hs,q⟩:=h
 cases x with
 | non =>
  cases rx
  cases y with
  | non=>cases ry; exact PySem.EqNone.ne_none_none (a0l I q (by simp))
  | bl j=>cases ry; exact PySem.EqNone.ne_none_bool (a0l I q (by simp))
  | int j=>obtain ⟨t',rfl⟩:=ry; exact PySem.EqNone.ne_none_int (a0l I q (by simp))
  | str j=>obtain ⟨t',rfl⟩:=ry; exact PySem.EqNone.ne_none_str (a0l I q (by simp))
  | _=>exact absurd (show false=true from hs) Γk
 | bl i =>
  cases rx
  cases y with
  | non=>cases ry; exact PySem.EqNone.ne_bool_none (a0l I q (by simp))
  | bl j=>cases ry; exact ne_bool (a0l I q (congrArg not c2y))
  | str j=>obtain ⟨t',rfl⟩:=ry; exact PySem.EqMixed.ne_bool_str (a0l I q (by simp))
  | _=>exact absurd (show false=true from hs) Γk
 | int i =>
  obtain ⟨t,rfl⟩:=rx
  cases y with
  | non=>cases ry; exact PySem.EqNone.ne_int_none (a0l I q (by simp))
  | int j=>obtain ⟨t',rfl⟩:=ry; exact ne_int (a0l I q (congrArg not b8a))
  | str j=>obtain ⟨t',rfl⟩:=ry; exact PySem.EqMixed.ne_int_str (a0l I q (by simp))
  | _=>exact absurd (show false=true from hs) Γk
 | str i =>
  obtain ⟨t,rfl⟩:=rx
  cases y with
  | non=>cases ry; exact PySem.EqNone.ne_str_none (a0l I q (by simp))
  | bl j=>cases ry; exact PySem.EqMixed.ne_str_bool (a0l I q (by simp))
  | int j=>obtain ⟨t',rfl⟩:=ry; exact PySem.EqMixed.ne_str_int (a0l I q (by simp))
  | str j=>obtain ⟨t',rfl⟩:=ry; exact ne_str (a0l I q (congrArg not b7z))
  | _=>exact absurd (show false=true from hs) Γk
 | byt i =>
  obtain ⟨t,rfl⟩:=rx
  cases y with
  | byt j=>obtain ⟨t',rfl⟩:=ry; exact PySem.W.ne_bytes (a0l I q (congrArg not b8b))
  | _=>exact absurd (show false=true from hs) Γk
 | _=>cases y <;> exact absurd (show false=true from hs) Γk
theorem d4x:OpR X (compareOp .Lt) (rI0 fun i j=>.bl (decide (i < j))):=d5b fun _ _ _ _ _ _ _ q=>lt_int q
theorem d4y:OpR X (compareOp .Gt) (rI0 fun i j=>.bl (decide (j < i))):=d5b fun _ _ _ _ _ _ _ q=>gt_int q
theorem d4z:OpR X (compareOp .GtE) (rI0 fun i j=>.bl (decide (j≤i))):=d5b fun _ _ _ _ _ _ _ q=>ge_int q
theorem nomark (b:Expr) {op:CmpOp} (h:op≠.In:=by decide) (h2:op≠.NotIn:=by decide):behindInMarks op b=false:=by
 have e1:(op == CmpOp.In)=false:=by cases op <;> first | rfl | exact absurd rfl h
 have e2:(op == CmpOp.NotIn)=false:=by cases op <;> first | rfl | exact absurd rfl h2
 cases b <;> simp [behindInMarks,e1,e2]
theorem c3z {op:CmpOp} {r:R2} (ho:OpR X (compareOp op) r) (ha:PE X a ta) (hb:PE X b tb) (hm:behindInMarks op b=false):PE X (.Compare a [op] [b] pos) (tOp r ta tb):=by
 intro pins s σ H Q I h
 exact wpAny_Compare1 (d8o ha hb I h fun v u s2 x y H2 I2 rx ry q=>ho pins s2 σ H2 x y v u Q I2 rx ry q) hm
def d2s (t:TE):TT:=fun σ H Q=>t σ H fun x H'=>∃ k,x=.bl k∧Q k H'
theorem c3o {op:CmpOp} {r:R2} (ho:OpR X (compareOp op) r) (ha:PE X a ta) (hb:PE X b tb) (hm:behindInMarks op b=false):PT X (.Compare a [op] [b] pos) (d2s (tOp r ta tb)):=by
 intro pins s σ H Q I h
 refine wpAny_isTrue_Compare1 (thn (ha pins s σ H _ I h) fun v s1 ⟨x,H1,I1,r1,q1⟩=>thn (hb pins s1 σ H1 _ I1 q1) fun u s2 ⟨y,H2,I2,r2,q2⟩ =>
  thn (ho pins s2 σ H2 x y v u _ I2 r1 r2 q2) fun c s3 ⟨z,H3,I3,r3,k,e,q3⟩=>?_) hm
 subst e
 cases r3
 exact wpAny_truthy_bool ⟨H3,I3,q3⟩
def d0y (K:Γd) (x:V) (H:Hp) (k:Bool):Prop :=
 match x with
 | .non=>k=false
 | .bl b=>k=b
 | .int i=>k=(i != 0)
 | .str y=>y.length≤sizeLine∧k=((y.length:Int) != 0)
 | .byt y=>y.size≤sizeLine∧k=((y.size:Int) != 0)
 | .ref p=>(∃ xs,SqL K H p xs∧k = !xs.isEmpty) ∨ (∃ xs,SqT K H p xs∧k = !xs.isEmpty) ∨ ∃ kvs,H p=some (.dK kvs)∧k = !kvs.isEmpty
 | _=>False
theorem b3t {κ:Type} {kvs:List (κ×V)} {vs:List (κ×Value)} (r:KV kvs vs):(!vs.isEmpty) = !kvs.isEmpty:=by
 cases r <;> rfl
theorem a6x {xs:List V} {its:List Value} (r:Vals xs its):(!its.toArray.isEmpty) = !xs.isEmpty:=by
 cases r <;> simp
theorem a9h:(sizeLine:Nat) < 2 ^ 63:=by rw [sizeLine_eq]; decide
theorem b4q:TruR X (fun x H Q=>∃ k,d0y X.K x H k∧Q k H):=by
 intro pins s σ H x v Q I rx h
 obtain ⟨k,e,q⟩:=h
 have hl:=a9h
 have hs:sizeLine=16777216:=sizeLine_eq
 cases x with
 | non =>
  cases rx
  have e':k=false:=e
  subst e'
  exact truthy_none ⟨H,I,q⟩
 | bl b =>
  cases rx
  have e':k=b:=e
  subst e'
  exact wpAny_truthy_bool ⟨H,I,q⟩
 | int i =>
  obtain ⟨t,rfl⟩:=rx
  have e':k=(i != 0):=e
  subst e'
  exact PySem.P.truthy_int ⟨H,I,q⟩
 | str y =>
  obtain ⟨t,rfl⟩:=rx
  obtain ⟨hy,e'⟩:y.length≤sizeLine∧k=((y.length:Int) != 0):=e
  subst e'
  exact PySem.P.truthy_str (by lia) ⟨H,I.tok _,q⟩
 | byt y =>
  obtain ⟨t,rfl⟩:=rx
  obtain ⟨hy,e'⟩:y.size≤sizeLine∧k=((y.size:Int) != 0):=e
  subst e'
  exact PySem.W.truthy_bytes (by lia) ⟨H,I.tok _,q⟩
 | ref p =>
  cases rx
  have e':(∃ xs,SqL X.K H p xs∧k = !xs.isEmpty) ∨ (∃ xs,SqT X.K H p xs∧k = !xs.isEmpty) ∨ ∃ kvs,H p=some (.dK kvs)∧k = !kvs.isEmpty:=e
  rcases e' with ⟨xs,hx,e'⟩ | ⟨xs,hx,e'⟩ | ⟨kvs,hx,e'⟩
  ·subst e'
   obtain ⟨its,r,pl,hz⟩:=I.list hx
   have hlen:=r.length
   exact wpAny_truthy_list pl.isList (by simp only [List.size_toArray]; lia) ⟨H,I.tok _,by rw [a6x r]; exact q⟩
  ·subst e'
   obtain ⟨its,r,pl,hz⟩:=I.tuple hx
   have hlen:=r.length
   exact truthy_tuple pl (by simp only [List.size_toArray]; lia) ⟨H,I.tok _,by rw [a6x r]; exact q⟩
  ·subst e'
   obtain ⟨hz,hS,vs,r,m⟩:kvs.length≤sizeLine∧(p == sysModules)=false∧∃ vs,KV kvs vs∧s.heap.DictOf (a0k X.prog X.w) p vs:=I.hok p _ hx
   have hlen:kvs.length=vs.length:=Paired.length r
   exact wpAny_truthy_dict hS m (by lia) ⟨H,I.tok _,by rw [b3t r]; exact q⟩
 | _=>exact (show False from e).elim
theorem b9y (ha:PE X a ta) (he:∀ a7d,isTrue a X.env a7d=(do let v ← a7d; standAt a.pos; holding [v] (truthy v))) :
  PT X a (fun σ H Q=>ta σ H fun x H'=>∃ k,d0y X.K x H' k∧Q k H'):=by
 intro pins s σ H Q I h
 exact isTrue_plain (thn (ha pins s σ H _ I h) fun v s1 ⟨x,H1,I1,r1,q1⟩=>b4q pins s1 σ H1 x v Q I1 r1 q1) (he _)
theorem a3o {x:V} {us:List Value} (r:Vals [x] us):∃ u,us=[u]∧RelV x u:=by
 cases r with
 | cons r1 r2=>cases r2; exact ⟨_,rfl,r1⟩
theorem c6p {x y:V} {us:List Value} (r:Vals [x,y] us):∃ u w',us=[u,w']∧RelV x u∧RelV y w':=by
 cases r with
 | cons r1 r2 =>
  cases r2 with
  | cons r3 r4=>cases r4; exact ⟨_,_,rfl,r1,r3⟩
theorem c1s:a1l X (.builtin "abs") (fun xs H Q=>∃ i,xs=[.int i]∧Q (.int (if i < 0 then -i else i)) H):=by
 intro pins s σ H xs us Q I r h
 obtain ⟨i,rfl,q⟩:=h
 obtain ⟨u,rfl,t,rfl⟩:=a3o r
 exact call_abs_int fun u tk=>⟨.int (if i < 0 then -i else i),H,I.tok _,⟨_,rfl⟩,q⟩
theorem b8q (hc:X.calm=true):a1l X (.builtin "max") (fun xs H Q=>∃ i j,xs=[.int i,.int j]∧Q (.int (if j > i then j else i)) H):=by
 intro pins s σ H xs us Q I r h
 obtain ⟨i,j,rfl,q⟩:=h
 obtain ⟨u,w',rfl,⟨t,rfl⟩,⟨t',rfl⟩⟩:=c6p r
 refine max_two_ints (I.ok.hd hc) fun h' tk k=>⟨_,H,I.kept k,?_,q⟩
 by_cases hj:j > i
 ·rw [if_pos hj,if_pos hj]; exact ⟨_,rfl⟩
 ·rw [if_neg hj,if_neg hj]; exact ⟨_,rfl⟩
theorem b0c:a1l X (.type "int") (fun xs H Q=>(∃ i,xs=[.int i]∧Q (.int i) H) ∨ ∃ k,xs=[.bl k]∧Q (.int (if k then 1 else 0)) H):=by
 intro pins s σ H xs us Q I r h
 rcases h with ⟨i,rfl,q⟩ | ⟨k,rfl,q⟩
 ·obtain ⟨u,rfl,t,rfl⟩:=a3o r
  exact call_int_int ⟨.int i,H,I,⟨_,rfl⟩,q⟩
 ·obtain ⟨u,rfl,r1⟩:=a3o r
  cases r1
  exact call_int_bool ⟨.int (if k then 1 else 0),H,I.tok _,⟨_,rfl⟩,q⟩
theorem a9z:a1l X (.type "str") (fun xs H Q=>∃ i,xs=[.int i]∧i.natAbs.log2 < 1920∧Q (.str (toString i)) H):=by
 intro pins s σ H xs us Q I r h
 obtain ⟨i,rfl,hz,q⟩:=h
 obtain ⟨u,rfl,t,rfl⟩:=a3o r
 exact PySem.P.str_of_int hz ⟨.str _,H,I.tok _,⟨_,rfl⟩,q⟩
end
end L2
namespace L2
open PySem PySem.Spec PyProof.Rows
structure ObjM (h:Heap) (x dx C:Addr) (mA:Str→Option Value):Prop where
 obj:h.get? x=some (PySem.W.instObj C dx)
 ns:h.Ns1 dx mA
 ne:dx≠x
theorem b6n {h:Heap} {dx:Addr} {mA:Str→Option Value} (n:h.Ns1 dx mA):∃ od,h.get? dx=some od∧∀ name,PySem.W.lookIn name od=some (mA name):=by
 obtain ⟨o,es,ep,ho,hd,hk,_,hm⟩:=n
 refine ⟨o,ho,fun name=>?_⟩
 have e:=hm name
 unfold nsFind findBy at e
 rw [← Array.find?_toList] at e
 unfold PySem.W.lookIn
 rw [hd]
 dsimp only
 split
 ·rename_i y q
  rw [q] at e
  exact congrArg some e
 ·rename_i q
  rw [q] at e
  have a:es.toList.any (·.refKey)=false:=by
   rw [List.any_eq_false]
   intro y hy
   obtain ⟨z,t,hkey⟩:=hk y (Array.mem_toList_iff.mp hy)
   simp [DictEntry.refKey,hkey]
  have a':¬ es.toList.any (·.refKey)=true:=by rw [a]; exact Γk
  rw [if_neg a']
  exact congrArg some e
theorem ObjM.look {h:Heap} {x dx C:Addr} {mA:Str→Option Value} (I:ObjM h x dx C mA):∃ od,PySem.W.InstAt h x (PySem.W.instObj C dx) C (some od)∧∀ name,PySem.W.lookIn name od=some (mA name) :=
 let ⟨od,ho,hl⟩:=b6n I.ns
 ⟨od,⟨I.obj,rfl,rfl,ho⟩,hl⟩
section
variable {prog:Program} {w:World} {A:Around} {E:Value→Shared→Prop} {s:Shared} {K:Γd} {x dx C f:Addr} {mA:Str→Option Value} {name:Str} {v:Value}
end
def d4n (f:Str) (v:V):List (Str×V)→List (Str×V)
 | []=>[(f,v)]
 | (g,x) :: r=>if g=f then (g,v) :: r else (g,x) :: d4n f v r
theorem RelO.some_of {v:V} {o:Option Value} (r:RelO (some v) o):∃ u,o=some u∧RelV v u:=by
 cases o with
 | none=>exact (show False from r).elim
 | some u=>exact ⟨u,rfl,r⟩
section
variable {P:Program} {w:World} {H H':Hp} {h h':Heap} {a C dx:Addr} {fs fs':List (Str×V)}
theorem c4z (hok:HOk P w H h) (e:H a=some (.ins C dx fs)):∃ mA,ObjM h a dx C mA∧(∀ f,RelO (fs.lookup f) (mA f))∧PySem.Within mA (fs.map (·.1))∧fs.length≤1000∧H dx=some (.own a):=by
 obtain ⟨d,z,ne,ob,mA,n,r,q⟩:=(show ObjOk P w H h a (.ins C dx fs) from hok a _ e)
 exact ⟨mA,⟨ob,n,ne⟩,r,q,z,d⟩
end
structure Cls (K:Γd) (C:Addr):Prop where
 pg:PySem.W.plainGet K C Str.empty=true
 hd:PySem.W.hasDictIn K C=true
 po:PySem.W.plainOver K C=true
 sa:PySem.W.findIn K (.ref C) "__setattr__" = some (some (.builtin "object.__setattr__"))
theorem Cls.get {K:Γd} {C:Addr} (c:Cls K C) (f:Str):PySem.W.plainGet K C f=true:=c.pg
def b0i (K:Γd) (C:Addr) (f:Str):Prop:=PySem.W.findIn K (.ref C) f=some none
structure Con (K:Γd) (C:Addr) (f:Str) (v:V) (u:Value):Prop where
 at_:PySem.W.findIn K (.ref C) f=some (some u)
 rel:RelV v u
 get:PySem.W.specialIn K u "__get__" = some none
 cp:PySem.W.copiedNames.contains f=false
structure Meth (K:Γd) (C:Addr) (m:Str) (f:Addr):Prop where
 at_:PySem.W.findIn K (.ref C) m=some (some (.ref f))
 fn:PySem.W.isFn K (.ref f)=true
 kp:PySem.W.keepIn K (.ref f)=true
section
variable {X:Cx} {pins:List (Addr×Obj)} {σ:St} {H:Hp} {s:Shared} {a C dx:Addr} {fs:List (Str×V)} {f:Str} {v:V} {A:Around} {E:Value→Shared→Prop}
end
def InOp (X:Cx) (op:Operator) (rd:V→V→Hp→VK→Prop):Prop :=
 ∀ (pins:List (Addr×Obj)) (s:Shared) (σ:St) (H:Hp) (x y:V) (u v:Value) (Q:VK),Inv X pins σ H s→RelV x u→RelV y v→rd x y H Q→wpAny (model X.prog X.w) X.A (inplaceOp op u v) (EP X pins σ Q) X.xe s
section
variable {X:Cx} {o e value:Expr} {f:Str} {pos pos' tpos:Pos} {ta tv:TE}
end
section
variable {X:Cx} {pins:List (Addr×Obj)} {σ:St} {H:Hp} {s:Shared} {A:Around} {E:Value→Shared→Prop} {Q:Value→Shared→Prop} {c:Value} {b:Bool}
inductive TyOf (K:Γd) (H:Hp):V→Value→Prop where
 | non:TyOf K H .non (.type "NoneType")
 | bl (x:Bool):TyOf K H (.bl x) (.type "bool")
 | int (i:Int):TyOf K H (.int i) (.type "int")
 | str (x:Str):TyOf K H (.str x) (.type "str")
 | flt (x:UInt64):TyOf K H (.flt x) (.type "float")
 | lst {a:Addr} {xs:List V} (e:H a=some (.lst xs)):TyOf K H (.ref a) (.type "list")
 | frz {a:Addr} {o:Obj} {xs:List V} (e:H a=some (.frz o (.lst xs))):TyOf K H (.ref a) (.type "list")
 | tup {a:Addr} {xs:List V} (e:H a=some (.tup xs)):TyOf K H (.ref a) (.type "tuple")
 | dK {a:Addr} {kvs:List (Key×V)} (e:H a=some (.dK kvs)):TyOf K H (.ref a) (.type "dict")
 | dT {a:Addr} {kvs:List (List Key×V)} (e:H a=some (.dT kvs)):TyOf K H (.ref a) (.type "dict")
 | ins {a C dx:Addr} {fs:List (Str×V)} (e:H a=some (.ins C dx fs)) (cl:Cls K C) (ha:PySem.W.findIn K (.ref C) "__class__" = some (some (.builtin "object.__class__")))
   (hn:PySem.W.specialIn K (.builtin "object.__class__") "__get__" = some (some (.builtin "getset_descriptor.__get__"))) (htk:PySem.W.takesIn K (.builtin "object.__class__")=some true)
   (hm:PySem.W.mroIn K C (.type "object")=some true):TyOf K H (.ref a) (.ref C)
theorem b7b {x:V} {u t:Value} (I:Inv X pins σ H s) (rx:RelV x u) (ty:TyOf X.K H x t) (e:PySem.W.kitOne X.K t c=some b) (h:∀ tk,Q (.bool b) { s with toks:=tk }) :
  wpAny (model X.prog X.w) A (call (.builtin "isinstance") [u,c]) Q E s:=by
 cases ty with
 | non=>cases (show u=Value.none from rx); exact PySem.W.kia_one PySem.W.kitx_none I.kIn True.intro e (fun z=>nomatch z) h
 | bl y=>cases (show u=Value.bool y from rx); exact PySem.W.kia_one PySem.W.kitx_bool I.kIn True.intro e (fun z=>nomatch z) h
 | int i=>obtain ⟨t,q⟩:=(show ∃ t,u=Value.int i t from rx); cases q; exact PySem.W.kia_one PySem.W.kitx_int I.kIn True.intro e (fun z=>nomatch z) h
 | str y=>obtain ⟨t,q⟩:=(show ∃ t,u=Value.str y t from rx); cases q; exact PySem.W.kia_one PySem.W.kitx_str I.kIn True.intro e (fun z=>nomatch z) h
 | flt y=>obtain ⟨t,q⟩:=(show ∃ t,u=Value.float y t from rx); cases q; exact PySem.W.kia_one PySem.W.kitx_float I.kIn True.intro e (fun z=>nomatch z) h
 | @lst a xs ea =>
  cases (show u=Value.ref a from rx)
  obtain ⟨_,_,n,_,h1⟩:=(show ObjOk X.prog X.w H s.heap a (.lst xs) from I.hok a _ ea)
  exact PySem.W.kia_one PySem.W.kitx_list I.kIn ⟨_,h1,rfl⟩ e (fun z=>nomatch z) h
 | @frz a ob xs ea =>
  cases (show u=Value.ref a from rx)
  obtain ⟨_,_,_,n,_,h1⟩:=(show ObjOk X.prog X.w H s.heap a (.frz ob (.lst xs)) from I.hok a _ ea)
  exact PySem.W.kia_one PySem.W.kitx_list I.kIn ⟨_,h1,rfl⟩ e (fun z=>nomatch z) h
 | @tup a xs ea =>
  cases (show u=Value.ref a from rx)
  obtain ⟨_,_,_,p⟩:=(show ObjOk X.prog X.w H s.heap a (.tup xs) from I.hok a _ ea)
  obtain ⟨o,h1,h2,_⟩:=p
  exact PySem.W.kia_one PySem.W.kitx_tuple I.kIn ⟨o,h1,h2⟩ e (fun z=>nomatch z) h
 | @dK a kvs ea =>
  cases (show u=Value.ref a from rx)
  obtain ⟨_,_,vs,_,p⟩:=(show ObjOk X.prog X.w H s.heap a (.dK kvs) from I.hok a _ ea)
  obtain ⟨o,es,ep,h1,h2,_⟩:=p
  exact PySem.W.kia_one PySem.W.kitx_dict I.kIn ⟨o,h1,h2.1⟩ e (fun z=>nomatch z) h
 | @dT a kvs ea =>
  cases (show u=Value.ref a from rx)
  obtain ⟨_,_,xs,_,o,es,ep,h1,h2,_⟩:=(show ObjOk X.prog X.w H s.heap a (.dT kvs) from I.hok a _ ea)
  exact PySem.W.kia_one PySem.W.kitx_dict I.kIn ⟨o,h1,h2.1⟩ e (fun z=>nomatch z) h
 | @ins a C dx fs ea cl ha hn htk hm =>
  cases (show u=Value.ref a from rx)
  obtain ⟨mA,O,_⟩:=c4z I.hok ea
  obtain ⟨od,J,_⟩:=O.look
  exact PySem.W.kia_one (PySem.W.kitx_own (cl.get _) cl.hd ha hn htk hm) I.kIn J e (fun z=>nomatch z) h
end
end L2
namespace L2
open PySem PySem.Spec PyProof.Rows
structure Room (k:Nat) (A:Around):Prop where
 hd:A.handled=none
 dp:A.depth + 3 * k + 5 < recursionLimit
 un:A.units + 16 * k + 200 < cLine
 gd:A.guards=some []
theorem Room.mono {j k:Nat} {A:Around} (r:Room k A) (h:j≤k):Room j A:=⟨r.hd,by have:=r.dp; lia,by have:=r.un; lia,r.gd⟩
theorem Room.deeper {k:Nat} {A:Around} (r:Room (k + 1) A) (env:Env):Room k (A.deeper env) :=
 ⟨r.hd,by have:=r.dp; show A.depth + 1 + 3 * k + 5 < _; lia,by have:=r.un; show A.units + 3 + 16 * k + 200 < _; lia,r.gd⟩
theorem Room.in1 {k:Nat} {A:Around} (r:Room (k + 1) A):Room k A.in1 :=
 ⟨r.hd,by have:=r.dp; show A.depth + 3 * k + 5 < _; lia,by have:=r.un; show A.units + 1 + 16 * k + 200 < _; lia,r.gd⟩
structure RoomS (k:Nat) (A:Around):Prop extends Room k A where
 dp2:A.depth + 3 * k + 7 < recursionLimit
 un2:A.units + 16 * k + 210 < cLine
theorem Room.deeperS {k:Nat} {A:Around} (r:Room (k + 1) A) (env:Env):RoomS k (A.deeper env) :=
 ⟨r.deeper env,by have:=r.dp; show A.depth + 1 + 3 * k + 7 < _; lia,by have:=r.un; show A.units + 3 + 16 * k + 210 < _; lia⟩
theorem Room.depth {k:Nat} {A:Around} (r:Room k A):A.depth < recursionLimit:=by have:=r.dp; lia
theorem Room.units {k:Nat} {A:Around} (r:Room k A):A.units + 64 < cLine:=by have:=r.un; lia
def tNil:TA:=fun _ H Q=>Q [] H
def b9h (ta:TE) (tr:TA):TA:=fun σ H Q=>ta σ H fun x H1=>tr σ H1 fun xs H2=>Q (x :: xs) H2
section
variable {X:Cx} {e:Expr} {es:List Expr} {te:TE} {t:TA} {pos:Pos}
theorem a2n:PA X [] tNil:=fun _ _ _ _ H Q I h=>Calls.spliced_nil ⟨[],H,I,.nil,h⟩
theorem a0t (ha:PE X e te) (hr:PA X es t) (hs:starEach (e :: es) X.env=(false,eval e X.env) :: starEach es X.env:=by rfl):PA X (e :: es) (b9h te t):=by
 intro pos pins s σ H Q I h
 rw [hs]
 show wpAny _ _ (spliced ((false,eval e X.env) :: backTo pos (starEach es X.env))) _ _ s
 refine Calls.spliced_cons (thn (ha pins s σ H _ I h) fun u s1 ⟨x,H1,I1,r1,q1⟩=>?_)
 exact thn (hr pos pins s1 σ H1 _ I1 q1) fun us s2 ⟨xs,H2,I2,r2,q2⟩=>⟨x :: xs,H2,I2,.cons r1 r2,q2⟩
def tTup (t:TA):TE:=fun σ H Q=>t σ H fun xs H1=>xs.length≤sizeLine∧∀ p,H1 p=none→Q (.ref p) (upd H1 p (.tup xs))
def tLst (t:TA):TE:=fun σ H Q=>t σ H fun xs H1=>xs.length≤sizeLine∧∀ p,H1 p=none→Q (.ref p) (upd H1 p (.lst xs))
theorem c8c {x1} (h:PA X es t):PE X (.Tuple es x1 pos) (tTup t):=by
 intro pins s σ H Q I hq
 refine wpAny_Tuple_spliced (thn (h pos pins s σ H _ I hq) fun us s1 ⟨xs,H1,I1,r,z,q⟩=>⟨by rw [← r.length]; exact z,?_⟩)
 have hf:H1 s1.heap.objs.size=none:=I1.hok.fresh (Γi _)
 refine ⟨.ref s1.heap.objs.size,upd H1 s1.heap.objs.size (.tup xs),I1.laid (t':=s1.toks) (fun b u e=>Γc _ e) (Γi _) ?_,rfl,q _ hf⟩
 exact ⟨z,us,r,⟨_,Γm _ rfl,rfl,_,rfl⟩⟩
theorem c2j (h:PA X es t):PE X (.List es pos) (tLst t):=by
 intro pins s σ H Q I hq
 refine wpAny_List_spliced (thn (h pos pins s σ H _ I hq) fun us s1 ⟨xs,H1,I1,r,z,q⟩=>⟨by rw [← r.length]; exact z,?_⟩)
 have hf:H1 s1.heap.objs.size=none:=I1.hok.fresh (Γi _)
 refine ⟨.ref s1.heap.objs.size,upd H1 s1.heap.objs.size (.lst xs),I1.laid (t':=s1.toks) (fun b u e=>Γc _ e) (Γi _) ?_,rfl,q _ hf⟩
 exact ⟨z,us,0,r,Γm _ rfl⟩
end
abbrev Sp:=List V→Hp→VK→XK→Prop
abbrev CXT:=List Env→Hp→Shared→XK→Value→Shared→Prop
structure Env0 (P:Program) (w:World) (K:Γd) (mg:Str→Option Value) (base:Heap) (A:Around) (outer:List Env) (s:Shared) (H:Hp):Prop where
 frames:A.frames=some outer
 mod:Mod K mg base
 bs:∀ b o,base.get? b=some o→s.heap.get? b=some o∧H b=none
 bsz:base.objs.size≤s.heap.objs.size
 funs:s.heap.FunFrames base outer
 frf:∀ b∈frs outer,H b=none
 hok:HOk P w H s.heap
 bare:AllBare s.gens
def CE (outer:List Env) (P:Program) (w:World) (H:Hp) (s:Shared) (Q:VK) (u:Value) (s':Shared):Prop :=
 ∃ v H',s'.os=s.os∧AllBare s'.gens∧Un (frs outer) [] H H' s.heap s'.heap∧HOk P w H' s'.heap∧RelV v u∧Q v H'
def CR (CX:CXT) (outer:List Env) (P:Program) (w:World) (H:Hp) (s:Shared) (Q:VK) (E:XK) (r:Result) (s':Shared):Prop :=
 match r with
 | .ok (.ret u)=>CE outer P w H s Q u s'
 | .ok _=>False
 | .error e=>CX outer H s E e s'
structure FnOk (P:Program) (w:World) (K:Γd) (mg:Str→Option Value) (base:Heap) (CX:CXT) (k:Nat) (f:Addr) (fd:FuncData) (ps:List Str) (sp:Sp):Prop where
 len:∀ vs H Q E,sp vs H Q E→vs.length=ps.length
 run:∀ (A:Around) (outer:List Env) (s:Shared) (H:Hp) (args:Args) (us:List Value) (vs:List V) (Q:VK) (E:XK),Room k A→Env0 P w K mg base A outer s H→BindsTo s fd args (ps.zip us)→Vals vs us→sp vs H Q E →
  codeAny (model P w) A (.call (.ref f) args) (CR CX outer P w H s Q E) s
theorem FnOk.mono {P:Program} {w:World} {K:Γd} {mg:Str→Option Value} {base:Heap} {CX:CXT} {j k:Nat} {f:Addr} {fd:FuncData} {ps:List Str} {sp:Sp} (F:FnOk P w K mg base CX j f fd ps sp) (h:j≤k) :
  FnOk P w K mg base CX k f fd ps sp:=⟨F.len,fun A outer s H args us vs Q E hr=>F.run A outer s H args us vs Q E (hr.mono h)⟩
theorem Env0.in1 {P:Program} {w:World} {K:Γd} {mg:Str→Option Value} {base:Heap} {A:Around} {outer:List Env} {s:Shared} {H:Hp} (e:Env0 P w K mg base A outer s H) :
  Env0 P w K mg base A.in1 outer s H:=⟨e.frames,e.mod,e.bs,e.bsz,e.funs,e.frf,e.hok,e.bare⟩
section
variable {X:Cx} {pins:List (Addr×Obj)} {σ:St} {H:Hp} {s s':Shared}
theorem Inv.env0 (I:Inv X pins σ H s):Env0 X.prog X.w X.K X.mg X.base X.A X.stack s H :=
 ⟨I.ok.frames,I.ok.mod,I.bs,Nat.le_trans I.ok.bsz I.sz,I.stack,I.stkFree,I.hok,I.bare⟩
theorem Inv.after {Q:VK} {u:Value} (I:Inv X pins σ H s) (h:CE X.stack X.prog X.w H s Q u s'):EP X pins σ Q u s':=by
 obtain ⟨v,H',os,bare,un,hok,r,q⟩:=h
 obtain ⟨hh,g,d,t,os'⟩:=s'
 obtain rfl:os'=s.os:=os
 exact ⟨v,H',I.call (h':=hh) (g':=g) (d':=d) (t':=t) (ch:=[]) un hok bare (fun b z=>absurd z (by simp)),r,q⟩
end
def d2z (sp:Sp) (dvs:List V) (E:XK) (t:TA):TE:=fun σ H Q=>t σ H fun vs H1=>sp (vs++dvs) H1 Q E
def Binds (K:Γd) (fd:FuncData) (ps:List Str) (ds:List Value):Prop :=
 ∀ (s:Shared) (us:List Value),K.In s.heap→(us++ds).length=ps.length→BindsTo s fd ⟨us,[]⟩ (ps.zip (us++ds))
theorem Binds.all {K:Γd} {fd:FuncData} {ps:List Str} (h:∀ us:List Value,us.length=ps.length→bindArgs fd ⟨us,[]⟩=pure (ps.zip us)):Binds K fd ps []:=fun s us _ hl=>by
 rw [List.append_nil] at hl ⊢
 exact .of_eq (h us hl)
def b8w (CX:CXT) (X:Cx) (E:XK):Prop:=∀ (pins:List (Addr×Obj)) (σ:St) (H:Hp) (s:Shared) (e:Value) (s':Shared),Inv X pins σ H s→CX X.stack H s E e s'→X.xe e s'
section
variable {X:Cx} {CX:CXT} {k:Nat} {f C:Addr} {fd:FuncData} {ps:List Str} {sp:Sp} {dvs:List V} {ds:List Value} {E:XK} {x m:Str} {p pos apos:Pos} {e o:Expr} {es:List Expr} {ta:TE} {t:TA}
theorem c7j {pins:List (Addr×Obj)} {σ:St} {H:Hp} {s:Shared} {Q:VK} {us:List Value} {vs:List V} (F:FnOk X.prog X.w X.K X.mg X.base CX k f fd ps sp) (hr:Room k X.A) (hb:Binds X.K fd ps ds) (hd:Vals dvs ds) (hx:b8w CX X E)
  (I:Inv X pins σ H s) (r:Vals vs us) (h:sp (vs++dvs) H Q E):wpAny (model X.prog X.w) X.A (call (.ref f) us) (EP X pins σ Q) X.xe s:=by
 have r2:Vals (vs++dvs) (us++ds):=r.append hd
 have hl:(us++ds).length=ps.length:=by rw [← r2.length]; exact F.len _ _ _ _ h
 refine wpAny_call (codeAny_mono (F.run X.A X.stack s H ⟨us,[]⟩ (us++ds) (vs++dvs) Q E hr I.env0 (hb s us I.kIn hl) r2 h) fun r s' hq=>?_)
 cases r with
 | error e=>exact hx pins σ H s e s' I hq
 | ok fl =>
  cases fl with
  | ret u=>exact I.after hq
  | next=>exact False.elim hq
  | brk=>exact False.elim hq
  | cont=>exact False.elim hq
theorem c4a (F:FnOk X.prog X.w X.K X.mg X.base CX k f fd ps sp) (hr:Room k X.A) (hg:Gl X x) (hm:X.mg x=some (.ref f)) (hk:PySem.W.keepIn X.K (.ref f)=true) (hb:Binds X.K fd ps ds) (hd:Vals dvs ds) (hx:b8w CX X E)
  (ha:PA X (e :: es) t) (hdb:(x == ("__debug__":Str))=false:=by decide) (he:starEach (e :: es) X.env=(false,eval e X.env) :: starEach es X.env:=by rfl) (hpl:(backTo pos (starEach es X.env)).any (·.1)=false:=by rfl) :
  PE X (.Call (.Name x p) (e :: es) [] pos) (d2z sp dvs E t):=by
 intro pins s σ H Q I h
 refine wpAny_Call_Name_kw (c4s I hg hm ?_ hdb)
 refine PySem.W.callWith_K (h₀:=X.base) I.ok.mod.kin hk (thn (ha pos pins s σ H _ I h) fun us s1 ⟨vs,H1,I1,r,q⟩=>⟨I1.kIn,?_⟩) he hpl
 exact c7j F hr hb hd hx I1 r q
structure Mk (K:Γd) (C f:Addr):Prop where
 makes:PySem.W.makesIn K C=true
 init:PySem.W.findIn K (.ref C) "__init__" = some (some (.ref f))
 fn:PySem.W.isFn K (.ref f)=true
 kp:PySem.W.keepIn K (.ref C)=true
end
section
variable {X:Cx} {CX:CXT} {k:Nat} {f C:Addr} {fd:FuncData} {ps ks:List Str} {sp:Sp} {E:XK} {x m:Str} {p pos apos kpos:Pos} {e o:Expr} {es:List Expr} {kws:List Keyword} {te ta:TE} {t tk:TA} {nm:Option Str}
structure KBinds (K:Γd) (fd:FuncData) (ps ks:List Str) (g:List Value→List Value→List Value) (gV:List V→List V→List V):Prop where
 to:∀ (s:Shared) (us ws:List Value),K.In s.heap→(g us ws).length=ps.length→BindsTo s fd ⟨us,ks.zip ws⟩ (ps.zip (g us ws))
 rel:∀ {vs:List V} {us:List Value} {zs:List V} {ws:List Value},Vals vs us→Vals zs ws→Vals (gV vs zs) (g us ws)
variable {g:List Value→List Value→List Value} {gV:List V→List V→List V}
end
structure FnScope (N P:List Str) (sc:Scope):Prop where
 kind:sc.kind=.function
 co:sc.isCoroutine=false
 gen:sc.isGenerator=false
 nd:N.Nodup
 pre:N.take P.length=P
 par:∀ x∈P,sc.names.lookup x=some .local ∨ sc.names.lookup x=some .cell
 nofree:∀ y∈sc.names,y.2≠.free
theorem b0d {kindOf:Str→Option NameKind} {x:Str}:∀ {binds:List (Str×Value)} {m:Str→Option Value},(∀ v,(x,v) ∉ binds)→bindL kindOf binds m x=m x
 | [],_,_=>rfl
 | (n,v) :: r,m,h=>by
  unfold bindL
  rw [b0d fun w hw=>h w (Γh _ hw)]
  split
  ·have:x≠n:=by rintro rfl; exact h v Γn
   simp [this]
  ·rfl
theorem b0f {kindOf:Str→Option NameKind} {x:Str}:∀ {binds:List (Str×Value)} {m:Str→Option Value},(∀ v,(x,v) ∉ binds)→bindC kindOf binds m x=m x
 | [],_,_=>rfl
 | (n,v) :: r,m,h=>by
  unfold bindC
  rw [b0f fun w hw=>h w (Γh _ hw)]
  split
  ·rfl
  ·have:x≠n:=by rintro rfl; exact h v Γn
   simp [this]
theorem b0e {kindOf:Str→Option NameKind} {x:Str} {v:Value}:∀ {P:List Str} {vs:List Value} {i:Nat} {m:Str→Option Value},P.Nodup→P[i]?=some x→vs[i]?=some v→kindOf x=some .local →
  bindL kindOf (P.zip vs) m x=some v
 | [],_,_,_,_,h,_,_=>by simp at h
 | _ :: _,[],_,_,_,_,h,_=>by simp at h
 | p :: P,w :: vs,0,m,nd,h1,h2,hk=>by
  simp at h1 h2; subst h1; subst h2
  show bindL kindOf ((p,w) :: P.zip vs) m p=_
  unfold bindL
  rw [b0d fun v hv=>(List.nodup_cons.mp nd).1 (List.of_mem_zip hv).1,if_pos hk]
  simp
 | p :: P,w :: vs,i + 1,m,nd,h1,h2,hk=>by
  show bindL kindOf ((p,w) :: P.zip vs) m x=_
  unfold bindL
  exact b0e (i:=i) (List.nodup_cons.mp nd).2 (by simpa using h1) (by simpa using h2) hk
theorem b0g {kindOf:Str→Option NameKind} {x:Str} {v:Value}:∀ {P:List Str} {vs:List Value} {i:Nat} {m:Str→Option Value},P.Nodup→P[i]?=some x→vs[i]?=some v→kindOf x≠some .local →
  bindC kindOf (P.zip vs) m x=some v
 | [],_,_,_,_,h,_,_=>by simp at h
 | _ :: _,[],_,_,_,_,h,_=>by simp at h
 | p :: P,w :: vs,0,m,nd,h1,h2,hk=>by
  simp at h1 h2; subst h1; subst h2
  show bindC kindOf ((p,w) :: P.zip vs) m p=_
  unfold bindC
  rw [b0f fun v hv=>(List.nodup_cons.mp nd).1 (List.of_mem_zip hv).1,if_neg hk]
  simp
 | p :: P,w :: vs,i + 1,m,nd,h1,h2,hk=>by
  show bindC kindOf ((p,w) :: P.zip vs) m x=_
  unfold bindC
  exact b0g (i:=i) (List.nodup_cons.mp nd).2 (by simpa using h1) (by simpa using h2) hk
def start (N:List Str) (vs:List V):St:=vs.map some++Γj (N.length - vs.length) none
def c5u (CX:CXT) (P:Program) (w:World) (K:Γd) (mg:Str→Option Value) (base:Heap) (N:List Str) (qual:Str) (scope:Scope) (f:Addr) (cd:Value) (A:Around) (outer:List Env) (s:Shared) (H:Hp) (E:XK):Cx where
 prog:=P
 w:=w
 K:=K
 mg:=mg
 base:=base
 A:=A.deeper (envOfC qual scope s.heap.objs.size f cd)
 N:=N
 s₀:=s
 H₀:=H
 env:=envOfC qual scope s.heap.objs.size f cd
 outer:=outer
 stack:=envOfC qual scope s.heap.objs.size f cd :: outer
 ex:=[]
 calm:=true
 fn:=fun _=>true
 pn:=[]
 xe:=fun e s'=>wpAny (model P w) (A.deeper (envOfC qual scope s.heap.objs.size f cd)) (leaving (envOfC qual scope s.heap.objs.size f cd) e) (fun _ s''=>CX outer H s E e s'') (fun e' s''=>CX outer H s E e' s'') s'
theorem b3h {sc:Scope} {n:Nat} {x:Str} (h:sc.names.lookup x=some .cell):∃ c,(cellsFrom n sc.names []).lookup x=some c:=by
 have q:=PySem.W.cellsFrom_some sc.names n [] (.inl h)
 exact Option.isSome_iff_exists.mp q
theorem b7c {CX:CXT} {P:Program} {w:World} {K:Γd} {mg:Str→Option Value} {base:Heap} {N ps:List Str} {qual:Str} {scope:Scope} {f:Addr} {cd:Value} {A:Around} {outer:List Env} {s s1:Shared} {H:Hp} {E:XK} {us:List Value} {vs:List V}
  (S:FnScope N ps scope) (hd:A.handled=none) (e0:Env0 P w K mg base A outer s H) (hl:vs.length=ps.length) (r:Vals vs us)
  (x:InCallC s s.heap.objs.size (bindL (envOfC qual scope s.heap.objs.size f cd).kindOf (ps.zip us) fun _=>none) (cellsFrom (s.heap.objs.size + 1) scope.names []) (bindC (envOfC qual scope s.heap.objs.size f cd).kindOf (ps.zip us) fun _=>none) s1) :
  Inv (c5u CX P w K mg base N qual scope f cd A outer s H E) [] (start N vs) H s1:=by
 have hpl:ps.length≤N.length:=by have:=congrArg List.length S.pre; rw [List.length_take] at this; lia
 obtain ⟨h1,tk,rfl,hk⟩:=x.done
 have noA:∀ b:Addr,b ∉ (c5u CX P w K mg base N qual scope f cd A outer s H E).ex:=fun b z=>absurd (show b∈([]:List Addr) from z) (by simp)
 refine ⟨⟨e0.mod,S.kind,rfl,rfl,Γi _,fun y z c h1 h2=>?_,fun y hy=>?_,fun y c _ h=>?_,fun _=>hd,Around.frames_deeper e0.frames,.inr ⟨rfl,rfl⟩,fun b z=>absurd z (noA b),e0.bs,e0.bsz,fun b _ _=>noA b,fun b z=>absurd z (noA b),e0.funs,e0.frf⟩,
  rfl,e0.bare,Un.kept hk,⟨_,x.toInCall.ns,fun i y v h1 h2 h3=>?_⟩,fun y c h=>⟨_,x.cell y c h⟩,e0.hok.fresh (Γi _),fun y c h=>?_,fun p hp=>absurd (show p∈([]:List (Addr×Obj)) from hp) (by simp),e0.hok.kept hk,?_⟩
 ·exact name_of_addr x.apart (PySem.mem_of_lookup h1) (PySem.mem_of_lookup h2)
 ·have hy:scope.names.lookup y=some .cell ∨ scope.names.lookup y=some .free:=hy
  rcases hy with hy | hy
  ·exact b3h hy
  ·exact absurd rfl (S.nofree _ (PySem.mem_of_lookup hy))
 ·exact Nat.le_of_lt (x.above y c (PySem.mem_of_lookup h))
 ·have hi:i < vs.length:=by
   unfold start at h2
   by_cases hi:i < vs.length
   ·exact hi
   ·rw [List.getElem?_append_right (by simpa using hi)] at h2
    rw [List.getElem?_replicate] at h2
    split at h2 <;> cases h2
  have ha:vs[i]?=some v:=by
   unfold start at h2
   rw [List.getElem?_append_left (by simpa using hi),List.getElem?_map] at h2
   cases e:vs[i]? with
   | none=>rw [e] at h2; cases h2
   | some a=>rw [e] at h2; cases h2; rfl
  obtain ⟨u,hu,rv⟩:=r.get ha
  have hp:ps[i]?=some y:=by
   rw [← S.pre,List.getElem?_take_of_lt (by lia)]; exact h1
  have ndP:ps.Nodup:=by rw [← S.pre]; exact S.nd.sublist (List.take_sublist _ _)
  refine ⟨u,rv,?_⟩
  rcases S.par y (List.mem_of_getElem? hp) with k | k
  ·exact .inl ⟨k,b0e ndP hp hu k⟩
  ·obtain ⟨c,e⟩:=b3h (n:=s.heap.objs.size + 1) k
   refine .inr ⟨.inl k,c,e,?_⟩
   have q:=x.cell y c e
   rw [b0g ndP hp hu (by show scope.names.lookup y≠_; rw [k]; decide)] at q
   exact q
 ·exact e0.hok.fresh (Nat.le_of_lt (x.above y c (PySem.mem_of_lookup h)))
 ·unfold start
  show _=N.length
  rw [List.length_append,List.length_map,List.length_replicate]
  lia
theorem d6h {CX:CXT} {P:Program} {w:World} {K:Γd} {mg:Str→Option Value} {base:Heap} {k:Nat} {f:Addr} {name qual:Str} {params:Arguments} {body:List Stmt} {scope:Scope} {dV kV doc pm cdv ct oc:Value} {an od:Option Addr}
  {osl:Array (Option Value)} {N ps:List Str} {sp:Sp} (lk:K.lookup f=some ⟨oc,od,.func (PySem.W.fnOf name qual params body scope dV kV doc pm an cdv ct),osl⟩) (hcd:PySem.W.codeIn K cdv qual=true) (S:FnScope N ps scope)
  (len:∀ vs H Q E,sp vs H Q E→vs.length=ps.length)
  (hbody:∀ (A:Around) (outer:List Env) (s:Shared) (H:Hp) (vs:List V) (Q:VK) (E:XK),RoomS k (A.deeper (envOfC qual scope s.heap.objs.size f cdv))→sp vs H Q E →
   ∃ t,PSs (c5u CX P w K mg base N qual scope f cdv A outer s H E) body t∧t { nx:=fun _ H'=>Q .non H',rt:=Q } (start N vs) H) :
  FnOk P w K mg base CX (k + 1) f (PySem.W.fnOf name qual params body scope dV kV doc pm an cdv ct) ps sp:=by
 refine ⟨len,fun A outer s H args us vs Q E hr e0 hb r hsp=>?_⟩
 have hl:=len _ _ _ _ hsp
 have KX:K.In s.heap:=e0.mod.kin.keeps fun b o e=>(e0.bs b o e).1
 have lim:s.heap.NoLimit:=e0.mod.nolimit.keeps fun b o e=>(e0.bs b o e).1
 have hkind:∀ y∈ps.zip us,scope.names.lookup y.1=some .local ∨ (scope.names.lookup y.1=some .cell∧((cellsFrom (s.heap.objs.size + 1) scope.names []).lookup y.1).isSome=true):=fun ⟨n,v⟩ hy=>by
  rcases S.par n (List.of_mem_zip hy).1 with q | q
  ·exact .inl q
  ·exact .inr ⟨q,PySem.W.cellsFrom_some _ _ _ (.inl q)⟩
 refine codeAny_call_function hr.depth (KX _ _ lk) rfl S.co S.gen rfl (PySem.W.codeRec_of KX hcd) (hb _ _ _ _ ?_)
 refine wpAny_newFunctionEnv_cells S.kind hkind fun env he s1 x=>?_
 subst he
 refine ⟨lim.keeps x.toInCall.keep,codeAny_func ?_⟩
 obtain ⟨t,ht,hq⟩:=hbody A outer s H vs Q E (hr.deeperS _) hsp
 have I:Inv (c5u CX P w K mg base N qual scope f cdv A outer s H E) [] (start N vs) H s1:=b7c S hr.hd e0 hl r x
 refine wpAny_mono (ht [] s1 (start N vs) H _ I hq) (fun fl s' hs=>?_) fun e s' hs=>hs
 have fin:∀ {σ':St} {H':Hp} {v:V} {u:Value},Inv (c5u CX P w K mg base N qual scope f cdv A outer s H E) [] σ' H' s'→RelV v u→Q v H'→CE outer P w H s Q u s' :=
  fun {σ' H' v u} J rv q=>⟨v,H',J.os,J.bare,J.base,J.hok,rv,q⟩
 cases fl with
 | ret u =>
  obtain ⟨v,σ',H',J,rv,q⟩:=hs
  exact fin J rv q
 | next =>
  obtain ⟨σ',H',J,q⟩:=hs
  exact fin (v:=V.non) (u:=Value.none) J rfl q
 | brk =>
  obtain ⟨_,_,_,q⟩:=hs
  exact False.elim q
 | cont =>
  obtain ⟨_,_,_,q⟩:=hs
  exact False.elim q
end L2
namespace L2
open PySem PySem.Spec PyProof.Rows
section
variable {X:Cx} {x:Str} {p pos:Pos} {e:Expr} {es:List Expr} {t:TA} {id T:String} {r:List V→Hp→VK→Prop}
def tCB (r:List V→Hp→VK→Prop) (t:TA):TE:=fun σ H Q=>t σ H fun vs H1=>r vs H1 Q
theorem a5b (hc:a1l X (.builtin id) r) (hg:Gl X x) (hm:X.mg x=none) (hv:bootBuiltins x=some (.builtin id)) (ha:PA X (e :: es) t) (hn:x≠"__name__":=by decide) (hdb:(x == ("__debug__":Str))=false:=by decide)
  (he:starEach (e :: es) X.env=(false,eval e X.env) :: starEach es X.env:=by rfl) (hpl:(backTo pos (starEach es X.env)).any (·.1)=false:=by rfl):PE X (.Call (.Name x p) (e :: es) [] pos) (tCB r t):=by
 intro pins s σ H Q I h
 refine wpAny_Call_Name_kw (a9j I hg hm hv ?_ hn hdb)
 exact PyProof.Rows.callWith_builtin1 (thn (ha pos pins s σ H _ I h) fun us s1 ⟨vs,H1,I1,r1,q1⟩=>hc pins s1 σ H1 vs us Q I1 r1 q1) he hpl
theorem a5n (hc:a1l X (.type T) r) (hg:Gl X x) (hm:X.mg x=none) (hv:bootBuiltins x=some (.type T)) (ha:PA X (e :: es) t) (hn:x≠"__name__":=by decide) (hdb:(x == ("__debug__":Str))=false:=by decide)
  (he:starEach (e :: es) X.env=(false,eval e X.env) :: starEach es X.env:=by rfl) (hpl:(backTo pos (starEach es X.env)).any (·.1)=false:=by rfl):PE X (.Call (.Name x p) (e :: es) [] pos) (tCB r t):=by
 intro pins s σ H Q I h
 refine wpAny_Call_Name_kw (a9j I hg hm hv ?_ hn hdb)
 exact PyProof.Rows.callWith_type1 (thn (ha pos pins s σ H _ I h) fun us s1 ⟨vs,H1,I1,r1,q1⟩=>hc pins s1 σ H1 vs us Q I1 r1 q1) he hpl
end
end L2
namespace HT
open PySem PyProof.Rows
def lexLt:List Int→List Int→Bool
 | [],[]=>false
 | [],_ :: _=>true
 | _ :: _,[]=>false
 | x :: xs,y :: ys=>if x=y then lexLt xs ys else decide (x < y)
theorem b3q (x y:Int) (xs ys:List Int):lexLt (x :: xs) (y :: ys)=if x=y then lexLt xs ys else decide (x < y):=rfl
theorem a7y:lexLt [] []=false:=rfl
theorem a6k (y:Int) (ys:List Int):lexLt [] (y :: ys)=true:=rfl
theorem a6l (x:Int) (xs:List Int):lexLt (x :: xs) []=false:=rfl
theorem c1g (A:Around) (s:Shared) (a:Int) (t:Tok) (c:Int) (u:Tok):∃ e,SeqAt.EqAt A s (.int a t) (.int c u) e∧(e=true↔a=c) :=
 ⟨(a == c),SeqAt.EqAt.int_int a t c u,by simp⟩
theorem b9t (A:Around) (s:Shared) (a:Int) (t:Tok) (c:Int) (u:Tok) (prog:Program) (w:World) (E:Value→Shared→Prop) (Q:Value→Shared→Prop) (h:Q (.bool (decide (a < c))) s) :
  wpAny (model prog w) A (richCompare .Lt (.int a t) (.int c u)) Q E s :=
 (PyProof.Rows.lt_int h:wpAny (model prog w) A (compareOp .Lt (.int a t) (.int c u)) Q E s)
section
open PySem.SeqAt
open PySem.AutoSeq1 (wpAny_loadPart')
open PySem.MeetsSeq PySem.MeetsSeq2 PySem.MeetsSeq3
theorem a7e (l b:Addr) (items items2:Array Value) (n n2:Nat) (dd dd2:Option Addr) (sl sl2:Array (Option Value)) (ns ms:List Int) (hi:IntsAre items.toList ns) (hj:IntsAre items2.toList ms) :
  Meets (Builtin.«tuple.__lt__» ⟨[.ref l,.ref b],[]⟩)
   (fun _ R s=>s.heap.get? l=some { cls:=.type "tuple",dict:=dd,data:=.seq items n,slots:=sl }∧s.heap.get? b=some { cls:=.type "tuple",dict:=dd2,data:=.seq items2 n2,slots:=sl2 } ∧
    R (.ok (.ret (.bool (lexLt ns ms)))) s) :=
 .of_wp fun prog w A R s h=>by
  obtain ⟨hp,g,d,tk,os⟩:=s; obtain ⟨hl,hb,h⟩:=h
  have f2:=AutoSeq1.sub_tuple_tuple
  have z1:items.size=ns.length:=by rw [← hi.length]; simp
  have z2:items2.size=ms.length:=by rw [← hj.length]; simp
  wp_walk using wpAny_loadPart' hl,wpAny_loadPart' hb,wpAny_forIn_list _ (fun rest b s'=>b.1=none∧s'=⟨hp,g,d,tk,os⟩∧∃ (vs ws:List Value) (ns' ms':List Int),rest=vs.zip ws ∧
   IntsAre vs ns'∧IntsAre ws ms'∧ns'.length + items2.size=ms'.length + items.size∧R (.ok (.ret (.bool (lexLt ns' ms')))) ⟨hp,g,d,tk,os⟩) _
  case turn =>
   rintro ⟨y,x⟩ rest b s' ⟨hb',rfl,vs,ws,ns',ms',hz,hvi,hwi,hlen,hR⟩
   cases hvi with
   | nil=>rw [List.zip_nil_left] at hz; cases hz
   | cons a t hvi' =>
    cases hwi with
    | nil=>rw [List.zip_nil_right] at hz; cases hz
    | cons c u hwi' =>
     rw [List.zip_cons_cons] at hz
     injection hz with hyx hrest
     injection hyx with hy hx
     subst hy hx
     rw [b3q] at hR
     simp only [List.length_cons] at hlen
     obtain ⟨e,he,hiff⟩:=c1g A.in1 ⟨hp,g,d,tk,os⟩ a t c u
     refine Γa (he prog w _ _ ?_)
     cases e with
     | true =>
      rw [if_pos (hiff.mp rfl)] at hR
      wp_walk
      exact ⟨rfl,rfl,_,_,_,_,hrest,hvi',hwi',by lia,hR⟩
     | false =>
      rw [if_neg (fun q=>absurd (hiff.mpr q) Γk)] at hR
      have hri:=b9t A.in1 ⟨hp,g,d,tk,os⟩ a t c u prog w
      wp_walk using hri
      exact ⟨_,rfl,by simpa using hR⟩
  case fin =>
   rintro ⟨b1,b2⟩ s' ⟨hb',rfl,vs,ws,ns',ms',hz,hvi,hwi,hlen,hR⟩
   simp only at hb'
   subst hb'
   have hv:lexLt ns' ms'=decide (items.size < items2.size):=by
    cases hvi with
    | nil =>
     cases hwi with
     | nil =>
      simp only [List.length_nil] at hlen
      rw [a7y]
      exact (decide_eq_false (by lia)).symm
     | cons c u hw =>
      simp only [List.length_nil,List.length_cons] at hlen
      rw [a6k]
      exact (decide_eq_true (by lia)).symm
    | cons a t hv =>
     cases hwi with
     | nil =>
      simp only [List.length_nil,List.length_cons] at hlen
      rw [a6l]
      exact (decide_eq_false (by lia)).symm
     | cons c u hw =>
      rw [List.zip_cons_cons] at hz
      cases hz
   rw [hv] at hR
   wp_walk
   exact ⟨_,rfl,by simpa [Builtin.Tuple.tupleCompareSizes] using hR⟩
  case h =>
   exact ⟨rfl,rfl,items.toList,items2.toList,ns,ms,rfl,hi,hj,by lia,h⟩
end
section
variable {prog:Program} {w:World} {A:Around} {E:Value→Shared→Prop} {s:Shared}
theorem lt_tupInts {l b:Addr} {items items2:Array Value} {ns ms:List Int} {Q:Value→Shared→Prop} (hl:IsTup s.heap l items) (hb:IsTup s.heap b items2) (hi:IntsAre items.toList ns) (hj:IntsAre items2.toList ms)
  (hu:A.units < cLine) (h:Q (.bool (lexLt ns ms)) s):wpAny (model prog w) A (compareOp .Lt (.ref l) (.ref b)) Q E s:=by
 obtain ⟨⟨cls,dd,data,sl⟩,ho,hc,n,hd⟩:=id hl
 obtain ⟨⟨cls2,dd2,data2,sl2⟩,ho2,hc2,n2,hd2⟩:=id hb
 simp only at hc hd hc2 hd2
 subst hc hd hc2 hd2
 exact richCompare_meets_room (op:=.Lt) ⟨_,ho,rfl⟩ ⟨_,ho2,rfl⟩ PySem.F.slot_tuple_lt PySem.F.entry_tuple_lt (PySem.F.args_tuple_lt_2 _ _) (a7e l b items items2 n n2 dd dd2 sl sl2 ns ms hi hj)
  ⟨ho,ho2,show Value.bool (lexLt ns ms)≠Value.notImplemented∧Q (.bool (lexLt ns ms)) s from ⟨(fun x=>nomatch x),h⟩⟩ hu
theorem cat_tup {t b:Addr} {vs ws:List Value} {Q:Value→Shared→Prop} (ht:IsTup s.heap t vs.toArray) (hb:IsTup s.heap b ws.toArray) (hv:vs≠[])
  (h1:ws=[]→Q (.ref t) s) (h2:ws≠[]→Q (.ref s.heap.objs.size) { s with heap:=s.heap.push { cls:=.type "tuple",data:=.seq (vs++ws).toArray } })
  (hsz:vs.length + ws.length≤sizeLine):wpAny (model prog w) A (binaryOp .Add (.ref t) (.ref b)) Q E s:=by
 obtain ⟨⟨cls,dd,data,sl⟩,ho,hc,n,hd⟩:=id ht
 obtain ⟨⟨cls2,dd2,data2,sl2⟩,ho2,hc2,n2,hd2⟩:=id hb
 simp only at hc hd hc2 hd2
 subst hc hd hc2 hd2
 have e:vs.toArray++ws.toArray=(vs++ws).toArray:=by simp
 by_cases hw:ws=[]
 ·exact concat_meets ⟨_,ho,rfl⟩ ⟨_,ho2,rfl⟩ noFill_tuple_add seq_tuple_add PySem.F.slot_tuple_add PySem.F.entry_tuple_add (PySem.F.args_tuple_add_2 _ _)
   (tuple_addW1 t b vs.toArray ws.toArray n n2 dd dd2 sl sl2 (by simpa using hv) (by simp [hw])) ⟨ho,ho2,h1 hw⟩
 ·refine concat_meets ⟨_,ho,rfl⟩ ⟨_,ho2,rfl⟩ noFill_tuple_add seq_tuple_add PySem.F.slot_tuple_add PySem.F.entry_tuple_add (PySem.F.args_tuple_add_2 _ _)
   (tuple_addW2 t b vs.toArray ws.toArray n n2 dd dd2 sl sl2 (by simpa using hv) (by simpa using hw) (by rw [List.size_toArray,List.size_toArray]; exact hsz)) ⟨ho,ho2,?_⟩
  rw [e]
  exact h2 hw
def sIx (n d:Nat):Option Int→Nat
 | none=>d
 | some v=>if v < 0 then (v + (n:Int)).toNat else min v.toNat n
theorem c7i (n d:Nat) (hd:d≤n) (o:Option Int):sIx n d o≤n:=by
 cases o with
 | none=>exact hd
 | some v =>
  show (if v < 0 then (v + (n:Int)).toNat else min v.toNat n)≤n
  by_cases hv:v < 0
  ·rw [if_pos hv]; lia
  ·rw [if_neg hv]; exact Nat.min_le_right _ _
theorem b8o (v:Int) (n d:Nat):(if v < 0 then max (v + (n:Int)) 0 else min v (n:Int))=((sIx n d (some v):Nat):Int):=by
 show (if v < 0 then max (v + (n:Int)) 0 else min v (n:Int))=(((if v < 0 then (v + (n:Int)).toNat else min v.toNat n):Nat):Int)
 by_cases hv:v < 0
 ·simp only [if_pos hv]; lia
 ·simp only [if_neg hv]; lia
theorem b4g (lo hi:Option Int) (n:Nat):Builtin.Slice.sliceAdjust lo hi 1 (n:Int)=(((sIx n 0 lo:Nat):Int),((sIx n n hi:Nat):Int)):=by
 have h1:¬ ((1:Int) < 0):=by lia
 unfold Builtin.Slice.sliceAdjust
 simp only [h1,if_false]
 refine Prod.ext ?_ ?_
 ·cases lo with
  | none=>rfl
  | some v=>exact b8o v n 0
 ·cases hi with
  | none=>rfl
  | some v=>exact b8o v n n
theorem b3m (i j:Nat):Builtin.Slice.slicePlaces (i:Int) (j:Int) 1=j - i:=by
 unfold Builtin.Slice.slicePlaces
 have h1:(1:Int) > 0:=by lia
 simp only [h1,if_true,Int.ediv_one]
 split <;> lia
theorem a6o {v:Value} {o:Option Int} {Q:Option Int→Shared→Prop} (p:IsPart v o) (h:Q o s):wpAny (model prog w) A (Builtin.Slice.slicePartIndex v) Q E s:=by
 cases p with
 | none=>exact slicePart_none h
 | int i t=>exact slicePart_int h
theorem sliceApplied_gen {sl:Addr} {vl vu:Value} {lo hi:Option Int} {n:Nat} {Q:Int×Int×Nat→Shared→Prop} (hs:s.heap.IsSliceOf sl vl vu .none) (pl:IsPart vl lo) (pu:IsPart vu hi)
  (h:Q (((sIx n 0 lo:Nat):Int),1,sIx n n hi - sIx n 0 lo) s):wpAny (model prog w) A (Builtin.Slice.sliceApplied (.ref sl) (pure (n:Int))) Q E s:=by
 obtain ⟨os,hos,hcs,hds⟩:=id hs
 unfold Builtin.Slice.sliceApplied Builtin.Slice.sliceFields
 refine Γa (Γa (wpAny_field hos hds (x:=vl) rfl (Γa (wpAny_field hos hds (x:=vu) rfl (Γa (wpAny_field hos hds (x:=.none) rfl (Γb ?_)))))))
 refine Γa (slicePart_none ?_)
 show wpAny _ _ (if ((1:Int) == 0)=true then _ else _) _ _ s
 rw [if_neg (by decide)]
 refine Γa (a6o pl (Γa (a6o pu (Γa (Γb ?_)))))
 show wpAny _ _ (match Builtin.Slice.sliceAdjust lo hi 1 (n:Int) with | (lo,hi)=>pure (lo,(1:Int),Builtin.Slice.slicePlaces lo hi 1)) _ _ s
 rw [b4g lo hi n]
 show wpAny _ _ (pure (((sIx n 0 lo:Nat):Int),(1:Int),Builtin.Slice.slicePlaces ((sIx n 0 lo:Nat):Int) ((sIx n n hi:Nat):Int) 1)) _ _ s
 rw [b3m]
 exact Γb h
theorem c0b (xs:Array Value) (i k:Nat):((List.range k).filterMap fun (m:Nat)=>xs[((i:Int) + (m:Int) * 1).toNat]?).toArray=((xs.toList.drop i).take k).toArray:=by
 have e:(fun (m:Nat)=>xs[((i:Int) + (m:Int) * 1).toNat]?)=fun m=>xs[i + m]?:=by
  funext m
  have:((i:Int) + (m:Int) * 1).toNat=i + m:=by lia
  rw [this]
 rw [e]
 have:=pick_run xs i k
 rw [List.filterMap_map] at this
 have e2:((fun x=>xs[x]?) ∘ fun x=>i + x)=fun m=>xs[i + m]?:=rfl
 rw [e2] at this
 rw [this]
theorem getItem_tuple_cut {t sl:Addr} {items:Array Value} {vl vu:Value} {lo hi:Option Int} {Q:Value→Shared→Prop} (ht:IsTup s.heap t items) (hs:s.heap.IsSliceOf sl vl vu .none) (pl:IsPart vl lo) (pu:IsPart vu hi)
  (hw:¬ (sIx items.size 0 lo=0∧sIx items.size items.size hi=items.size))
  (h:Q (.ref s.heap.objs.size) { s with heap:=s.heap.push { cls:=.type "tuple",data:=.seq ((items.toList.drop (sIx items.size 0 lo)).take (sIx items.size items.size hi - sIx items.size 0 lo)).toArray } })
  (hsz:items.size≤sizeLine):wpAny (model prog w) A (getItem (.ref t) (.ref sl)) Q E s:=by
 have htake:sizeOk (.seq ((items.toList.drop (sIx items.size 0 lo)).take (sIx items.size items.size hi - sIx items.size 0 lo)).toArray):=by
  show ((items.toList.drop (sIx items.size 0 lo)).take (sIx items.size items.size hi - sIx items.size 0 lo)).toArray.size≤sizeLine
  rw [List.size_toArray,List.length_take,List.length_drop,Array.length_toList]
  lia
 have hj:sIx items.size items.size hi≤items.size:=c7i _ _ (Γi _) hi
 obtain ⟨os,hos,hcs,hds⟩:=id hs
 have hTs:s.TypeIs (.ref sl) "slice":=⟨os,hos,hcs⟩
 unfold getItem
 try with_reducible refine Γg ?_
 first | refine Γa (Γb ?_) | skip
 refine Γa (wpAny_sequenceKey ht.typeIs (by decide) ?_)
 refine Γa (wpAny_callSpecial?_slot (name:=Γe "__getitem__") ht.typeIs PyProof.Rows.slot_tuple_getitem
  (wpAny_call_entry PyProof.Rows.slot_tuple_getitem ht.typeIs entry_tuple_getitem ?_ (args_tuple_getitem _ _)))
 show wpAny _ _ (Builtin.Tuple.tupleItemsOf (.ref t) >>= _) _ _ s
 refine Γa (tupleItemsOf_ ht ?_)
 refine Γa (wpAny_typeOf hTs ?_)
 rw [if_pos (by decide)]
 refine Γa (sliceApplied_gen hs pl pu ?_)
 have hno:¬ ((((sIx items.size 0 lo:Nat):Int) == 0 && (1:Int) == 1 && (sIx items.size items.size hi - sIx items.size 0 lo) == items.size)=true):=by
  intro q
  rw [Bool.and_eq_true,Bool.and_eq_true] at q
  have q1:((sIx items.size 0 lo:Nat):Int)=0:=eq_of_beq q.1.1
  have q2:sIx items.size items.size hi - sIx items.size 0 lo=items.size:=eq_of_beq q.2
  exact hw ⟨by lia,by lia⟩
 show wpAny _ _ (if (((sIx items.size 0 lo:Nat):Int) == 0 && (1:Int) == 1 && (sIx items.size items.size hi - sIx items.size 0 lo) == items.size)=true then _ else _) _ _ s
 rw [if_neg hno,c0b]
 first
  | exact Γa (m:=Builtin.Tuple.tupleExact _) (wpAny_newObj_type (Γb ⟨_,rfl,Γb h⟩) htake)
  | exact Γa (m:=Builtin.Tuple.tupleExact _) (wpAny_newObj_type (Γa (Γb (Γb ⟨_,rfl,Γb h⟩))) htake)
  | exact Γa (Γa (m:=Builtin.Tuple.tupleExact _) (wpAny_newObj_type (Γb (Γb ⟨_,rfl,Γb h⟩)) htake))
  | exact Γa (Γa (m:=Builtin.Tuple.tupleExact _) (wpAny_newObj_type (Γb ⟨_,rfl,Γb h⟩) htake))
end
end HT
namespace L2
open PySem PySem.Spec PyProof.Rows
abbrev TO:=St→Hp→(Option Int→Hp→Prop)→Prop
def PO (X:Cx) (e:Option Expr) (t:TO):Prop :=
 ∀ (pins:List (Addr×Obj)) (s:Shared) (σ:St) (H:Hp) (Q:Option Int→Hp→Prop),Inv X pins σ H s→t σ H Q →
  wpAny (model X.prog X.w) X.A (evalPart e X.env) (fun u s'=>∃ o H',Inv X pins σ H' s'∧IsPart u o∧Q o H') X.xe s
def c3f:TO:=fun _ H Q=>Q none H
def d2t (t:TE):TO:=fun σ H Q=>t σ H fun x H1=>∃ i,x=.int i∧Q (some i) H1
theorem a6y {ns:List Int}:∀ {us:List Value},Vals (ns.map V.int) us→IntsAre us ns:=by
 induction ns with
 | nil=>intro us r; rw [List.map_nil] at r; cases r; exact .nil
 | cons n ns ih =>
  intro us r
  rw [List.map_cons] at r
  cases r with
  | cons r1 r2 =>
   obtain ⟨t,e⟩:=r1
   subst e
   exact .cons n t (ih r2)
section
variable {X:Cx} {e:Expr} {te:TE} {lo hi:Option Expr} {tl th:TO} {pos p2:Pos}
theorem c3u:PO X none c3f:=by
 intro pins s σ H Q I h
 rw [evalPart_none]
 exact Γb ⟨none,H,I,.none,h⟩
theorem c3t (h:PE X e te):PO X (some e) (d2t te):=by
 intro pins s σ H Q I hw
 rw [evalPart_some]
 refine thn (h pins s σ H _ I hw) fun u s1 ⟨x,H1,I1,r1,q1⟩=>?_
 obtain ⟨i,rfl,q⟩:=q1
 obtain ⟨t,rfl⟩:=r1
 exact ⟨some i,H1,I1,.int i t,q⟩
def SlR (X:Cx) (r:V→Option Int→Option Int→Hp→VK→Prop):Prop :=
 ∀ (pins:List (Addr×Obj)) (s:Shared) (σ:St) (H:Hp) (x:V) (v vl vu:Value) (lo hi:Option Int) (sl:Addr) (Q:VK),Inv X pins σ H s→RelV x v→s.heap.IsSliceOf sl vl vu .none→IsPart vl lo→IsPart vu hi→r x lo hi H Q →
  ∃ T id,typeLookup (.type T) "__getitem__" = pure (some (.builtin id))∧s.TypeIs v T∧wpAny (model X.prog X.w) X.A (getItem v (.ref sl)) (EP X pins σ Q) X.xe s
def tSl (r:V→Option Int→Option Int→Hp→VK→Prop) (te:TE) (tl th:TO):TE:=fun σ H Q=>te σ H fun x H1=>tl σ H1 fun l H2=>th σ H2 fun u H3=>r x l u H3 Q
theorem b2g {r:V→Option Int→Option Int→Hp→VK→Prop} (hr:SlR X r) (he:PE X e te) (hl:PO X lo tl) (hu:PO X hi th):PE X (.Subscript e (.Slice lo hi none p2) pos) (tSl r te tl th):=by
 intro pins s σ H Q I h
 refine Subscript_ (thn (he pins s σ H _ I h) fun v s1 ⟨x,H1,I1,r1,q1⟩=>?_)
 refine wpAny_Slice (thn (hl pins s1 σ H1 _ I1 q1) fun vl s2 ⟨l,H2,I2,pl,q2⟩=>thn (hu pins s2 σ H2 _ I2 q2) fun vu s3 ⟨u,H3,I3,pu,q3⟩=>?_)
 rw [evalPart_none]
 refine Γb ?_
 have I4:Inv X pins σ H3 { s3 with heap:=s3.heap.push { cls:=.type "slice",data:=.fields #[vl,vu,.none] } }:=I3.kept (t':=s3.toks) fun b ob q=>Γc _ q
 obtain ⟨T,id,hT,ht,hg⟩:=hr pins { s3 with heap:=s3.heap.push { cls:=.type "slice",data:=.fields #[vl,vu,.none] } } σ H3 x v vl vu l u s3.heap.objs.size Q I4 r1 (Heap.IsSliceOf.new ..) pl pu q3
 show wpAny (model X.prog X.w) X.A (subscriptTail e (.Slice lo hi none p2) v (.ref s3.heap.objs.size)) (EP X pins σ Q) X.xe { s3 with heap:=s3.heap.push { cls:=.type "slice",data:=.fields #[vl,vu,.none] } }
 exact tail_any (ops:=[.ref s3.heap.objs.size,v]) ht hT hg (by with_unfolding_all rfl)
def c2z (xs:List V) (lo hi:Option Int):List V:=(xs.drop (HT.sIx xs.length 0 lo)).take (HT.sIx xs.length xs.length hi - HT.sIx xs.length 0 lo)
theorem a5z (xs:List V) (lo hi:Option Int):(c2z xs lo hi).length≤xs.length:=by
 unfold c2z
 rw [List.length_take,List.length_drop]
 lia
def rSlT (K:Γd):V→Option Int→Option Int→Hp→VK→Prop:=fun x lo hi H Q=>∃ a xs,x=.ref a∧SqT K H a xs ∧
 ¬ (HT.sIx xs.length 0 lo=0∧HT.sIx xs.length xs.length hi=xs.length)∧∀ p,H p=none→Q (.ref p) (upd H p (.tup (c2z xs lo hi)))
theorem c7e:SlR X (rSlT X.K):=by
 intro pins s σ H x v vl vu lo hi sl Q I rx hs pl pu h
 obtain ⟨a,xs,rfl,hx,hw,q⟩:=h
 cases rx
 obtain ⟨its,r,ht,hz⟩:=I.tuple hx
 have hlen:its.toArray.size=xs.length:=by rw [List.size_toArray]; exact r.length.symm
 refine ⟨"tuple",_,PyProof.Rows.slot_tuple_getitem.lookup,ht.typeIs,?_⟩
 refine HT.getItem_tuple_cut ht hs pl pu (by rw [hlen]; exact hw) ?_ (by rw [hlen]; exact hz)
 rw [hlen]
 refine ⟨.ref s.heap.objs.size,_,I.laid (t':=s.toks) (o:=.tup (c2z xs lo hi)) (fun b ob q=>Γc _ q) (Γi _) ?_,rfl,q _ (I.hok.fresh (Γi _))⟩
 exact ⟨Nat.le_trans (a5z xs lo hi) hz,_,(r.drop (HT.sIx xs.length 0 lo)).take (HT.sIx xs.length xs.length hi - HT.sIx xs.length 0 lo),IsTup.new _ _⟩
def rLtT (K:Γd):R2:=fun x y H Q=>∃ a b ns ms,x=.ref a∧y=.ref b∧SqT K H a (ns.map V.int)∧SqT K H b (ms.map V.int)∧Q (.bl (HT.lexLt ns ms)) H
theorem c8m (hu:X.A.units < cLine):OpR X (compareOp .Lt) (rLtT X.K):=by
 intro pins s σ H x y v u Q I rx ry h
 obtain ⟨a,b,ns,ms,rfl,rfl,ha,hb,q⟩:=h
 cases rx
 cases ry
 obtain ⟨its,r1,p1,_⟩:=I.tuple ha
 obtain ⟨its2,r2,p2,_⟩:=I.tuple hb
 have i1:IntsAre its.toArray.toList ns:=a6y r1
 have i2:IntsAre its2.toArray.toList ms:=a6y r2
 exact HT.lt_tupInts p1 p2 i1 i2 hu ⟨.bl (HT.lexLt ns ms),H,I,rfl,q⟩
def d4d (K:Γd):R2:=fun x y H Q=>∃ a b xs ys,x=.ref a∧y=.ref b∧SqT K H a xs∧SqT K H b ys∧xs≠[]∧xs.length + ys.length≤sizeLine ∧
 (ys=[]→Q (.ref a) H)∧(ys≠[]→∀ p,H p=none→Q (.ref p) (upd H p (.tup (xs++ys))))
theorem Vals.nil_iff {xs:List V} {us:List Value} (r:Vals xs us):us=[]↔xs=[]:=by
 cases r with
 | nil=>simp
 | cons _ _=>simp
theorem c4g:OpR X (binaryOp .Add) (d4d X.K):=by
 intro pins s σ H x y v u Q I rx ry h
 obtain ⟨a,b,xs,ys,rfl,rfl,ha,hb,hx,hz,q1,q2⟩:=h
 cases rx
 cases ry
 obtain ⟨its,r1,p1,_⟩:=I.tuple ha
 obtain ⟨its2,r2,p2,_⟩:=I.tuple hb
 refine HT.cat_tup p1 p2 (fun z=>hx (r1.nil_iff.mp z)) (fun z=>⟨.ref a,H,I,rfl,q1 (r2.nil_iff.mp z)⟩) (fun z=>?_) (by rw [← r1.length,← r2.length]; exact hz)
 refine ⟨.ref s.heap.objs.size,_,I.laid (t':=s.toks) (o:=.tup (xs++ys)) (fun b ob q=>Γc _ q) (Γi _) ?_,rfl,q2 (fun w=>z (r2.nil_iff.mpr w)) _ (I.hok.fresh (Γi _))⟩
 exact ⟨by rw [List.length_append]; exact hz,_,r1.append r2,IsTup.new _ _⟩
end
end L2
namespace L2
open PySem PySem.Spec PyProof.Rows
def ixN (n:Nat) (i:Int):Option Nat:=if 0≤i then (if i < n then some i.toNat else none) else if -(n:Int)≤i then some (i + n).toNat else none
def atI {α:Type} (xs:List α) (i:Int):Option α:=(ixN xs.length i).bind fun j=>xs[j]?
theorem b6u {n:Nat} {i:Int} {j:Nat} (h:ixN n i=some j):seqIndex? i n=some j∧j < n∧-(n:Int)≤i∧i < n:=by
 unfold ixN at h
 by_cases h0:0≤i
 ·rw [if_pos h0] at h
  by_cases h1:i < n
  ·rw [if_pos h1] at h
   have e:i.toNat=j:=Option.some.inj h
   exact ⟨by rw [seqIndex_of h0 h1,e],by lia,by lia,h1⟩
  ·rw [if_neg h1] at h; cases h
 ·rw [if_neg h0] at h
  by_cases h1:-(n:Int)≤i
  ·rw [if_pos h1] at h
   have e:(i + n).toNat=j:=Option.some.inj h
   exact ⟨by rw [seqIndex_neg (by lia) h1,e],by lia,h1,by lia⟩
  ·rw [if_neg h1] at h; cases h
theorem b8r {α:Type} {xs:List α} {i:Int} {v:α} (h:atI xs i=some v):∃ j,seqIndex? i xs.length=some j∧xs[j]?=some v∧j < xs.length∧-(xs.length:Int)≤i∧i < xs.length:=by
 unfold atI at h
 cases e:ixN xs.length i with
 | none=>rw [e] at h; cases h
 | some j =>
  rw [e] at h
  obtain ⟨h1,h2,h3,h4⟩:=b6u e
  exact ⟨j,h1,h,h2,h3,h4⟩
theorem c5z {α:Type} {xs:List α} {j:Nat} {v:α} (h:xs[j]?=some v):atI xs (j:Int)=some v:=by
 have hj:j < xs.length:=(List.getElem?_eq_some_iff.mp h).1
 have e:ixN xs.length (j:Int)=some j:=by
  unfold ixN
  rw [if_pos (by lia),if_pos (by lia)]; simp
 unfold atI; rw [e]; exact h
def b8v (b:Expr):Prop:=∀ o i,subscripted b false o i=operate [o,i] (getItem o i)
def IxR (X:Cx) (r:R2):Prop :=
 ∀ (value slice:Expr) (pins:List (Addr×Obj)) (s:Shared) (σ:St) (H:Hp) (x y:V) (v u:Value) (Q:VK),Inv X pins σ H s→RelV x v→RelV y u→r x y H Q →
  subscripted slice false v u=operate [v,u] (getItem v u)→wpAny (model X.prog X.w) X.A (subscriptTail value slice v u) (EP X pins σ Q) X.xe s
def MtR (X:Cx) (id:String) (r:V→List V→Hp→VK→Prop):Prop :=
 ∀ (pins:List (Addr×Obj)) (s:Shared) (σ:St) (H:Hp) (x:V) (xs:List V) (v:Value) (us:List Value) (Q:VK),Inv X pins σ H s→RelV x v→Vals xs us→r x xs H Q →
  wpAny (model X.prog X.w) X.A (call (.builtin id) (v :: us)) (EP X pins σ Q) X.xe s
section
variable {X:Cx} {a b:Expr} {ta tb:TE} {pos:Pos}
theorem c3y {r:R2} (hr:IxR X r) (ha:PE X a ta) (hb:PE X b tb) (hs:b8v b):PE X (.Subscript a b pos) (tOp r ta tb):=by
 intro pins s σ H Q I h
 exact Subscript_ (d8o ha hb I h fun v u s2 x y H2 I2 rx ry q=>hr a b pins s2 σ H2 x y v u Q I2 rx ry q (hs _ _))
def rIxL (K:Γd):R2:=fun x y H Q=>∃ p xs i v,x=.ref p∧y=.int i∧SqL K H p xs∧atI xs i=some v∧Q v H
def rIxT (K:Γd):R2:=fun x y H Q=>∃ p xs i v,x=.ref p∧y=.int i∧SqT K H p xs∧atI xs i=some v∧Q v H
theorem b6t:IxR X (rIxL X.K):=by
 intro value slice pins s σ H x y v u Q I rx ry h hs
 obtain ⟨p,xs,i,z,rfl,rfl,hq,he,q⟩:=h
 cases rx
 obtain ⟨t,rfl⟩:=ry
 obtain ⟨its,r,pl,hz⟩:=I.list hq
 obtain ⟨j,h1,h2,h3,h4,h5⟩:=b8r he
 obtain ⟨w,ew,rw'⟩:=r.get h2
 have hl:=r.length
 have hn:=a9h
 have fin:EP X pins σ Q w s:=⟨z,H,I,rw',q⟩
 by_cases h0:0≤i
 ·have hj:i.toNat=j:=by
   rw [seqIndex_of h0 h5] at h1
   exact Option.some.inj h1
  exact item_listR pl.isList h0 (by lia) (by rw [hj]; simpa using ew) fin hs
 ·have hj:(i + (its.toArray.size:Int)).toNat=j:=by
   rw [seqIndex_neg (by lia) h4] at h1
   rw [List.size_toArray,← hl]
   exact Option.some.inj h1
  exact subscriptTail_builtinR (x:=w) pl.isList.typeIs slot_list_getitem.lookup
   (wpAny_getItem_list_neg (Q:=fun r s'=>r=w∧EP X pins σ Q r s') pl.isList (by lia) (by rw [List.size_toArray] <;> lia) (by lia) (by rw [hj]; simpa using ew) ⟨rfl,fin⟩) hs
theorem c9e:IxR X (rIxT X.K):=by
 intro value slice pins s σ H x y v u Q I rx ry h hs
 obtain ⟨p,xs,i,z,rfl,rfl,hq,he,q⟩:=h
 cases rx
 obtain ⟨t,rfl⟩:=ry
 obtain ⟨its,r,pl,hz⟩:=I.tuple hq
 obtain ⟨j,h1,h2,h3,h4,h5⟩:=b8r he
 obtain ⟨w,ew,rw'⟩:=r.get h2
 have hl:=r.length
 have hn:=a9h
 have fin:EP X pins σ Q w s:=⟨z,H,I,rw',q⟩
 exact subscriptTail_builtinR (x:=w) pl.typeIs slot_tuple_getitem.lookup
  (getItem_tuple (j:=j) (Q:=fun r s'=>r=w∧EP X pins σ Q r s') pl (by lia) (by lia) (by rw [List.size_toArray,← hl]; exact h1) (by simpa using ew) ⟨rfl,fin⟩) hs
theorem b3p (its:List Value) (n j:Nat) (u:Value):Obj.mapSeq (·.setIfInBounds j u) { cls:=.type "list",data:=.seq its.toArray n } = { cls:=.type "list",data:=.seq (its.set j u).toArray n }:=by
 simp [Obj.mapSeq]
theorem Inv.lst {pins:List (Addr×Obj)} {σ:St} {H:Hp} {s:Shared} {p:Addr} {xs:List V} (I:Inv X pins σ H s) (h:H p=some (.lst xs)) :
  ∃ (its:List Value) (n:Nat),Vals xs its∧s.heap.get? p=some { cls:=.type "list",data:=.seq its.toArray n }∧xs.length≤sizeLine:=by
 obtain ⟨z,its,n,r,e⟩:=I.hok p _ h
 exact ⟨its,n,r,e,z⟩
theorem Inv.lstUpd {pins:List (Addr×Obj)} {σ:St} {H:Hp} {s:Shared} {p:Addr} {xs ys:List V} {its its':List Value} {n n':Nat} {f:Obj→Obj} (I:Inv X pins σ H s) (h:H p=some (.lst xs))
  (ho:s.heap.get? p=some { cls:=.type "list",data:=.seq its.toArray n }) (hf:f { cls:=.type "list",data:=.seq its.toArray n } = { cls:=.type "list",data:=.seq its'.toArray n' }) (r:Vals ys its') (hz:ys.length≤sizeLine) (t:Nat) :
  Inv X pins σ (upd H p (.lst ys)) { s with heap:=s.heap.update p f,toks:=t }:=by
 have e:(s.heap.update p f).get? p=some { cls:=.type "list",data:=.seq its'.toArray n' }:=by
  rw [Heap.get?_update_self f ho (by rw [hf] <;> rfl),hf]
 refine I.write (x:=p) (e:=p) (by rw [h]; trivial) (.inl rfl) (fun b u hb q=>(Γf _ _ (Ne.symm hb)).trans q) ⟨_,e⟩ ?_
 exact ⟨hz,its',n',r,e⟩
def d4b:V→V→V→Hp→(Hp→Prop)→Prop:=fun o i v H Q=>∃ p xs k j,o=.ref p∧i=.int k∧H p=some (.lst xs)∧ixN xs.length k=some j∧Q (upd H p (.lst (xs.set j v)))
theorem b9p:PSet X d4b:=by
 intro pins s σ H o i v ov iv u Q I ro ri rv h
 obtain ⟨p,xs,k,j,rfl,rfl,hp,hj,q⟩:=h
 cases ro
 obtain ⟨t,rfl⟩:=ri
 obtain ⟨its,n,r,ho,hz⟩:=I.lst hp
 obtain ⟨h1,h2,h3,h4⟩:=b6u hj
 have hl:=r.length
 have hn:=a9h
 have I':Inv X pins σ (upd H p (.lst (xs.set j v))) { s with heap:=s.heap.update p (Obj.mapSeq (·.setIfInBounds j u)) } :=
  I.lstUpd hp ho (b3p its n j u) (r.set rv j) (by rw [List.length_set]; exact hz) s.toks
 by_cases h0:0≤k
 ·have hk:k.toNat=j:=by
   rw [seqIndex_of h0 h4] at h1
   exact Option.some.inj h1
  exact PySem.W.ki_setAt ho h0 (by lia) (by rw [List.size_toArray,← hl]; exact h4) (by rw [hk]; exact ⟨_,I',q⟩)
 ·have hk:(k + (its.toArray.size:Int)).toNat=j:=by
   rw [seqIndex_neg (by lia) h3] at h1
   rw [List.size_toArray,← hl]
   exact Option.some.inj h1
  exact PySem.W.ki_setBack ho (by lia) (by rw [List.size_toArray,← hl]; exact h3) (by lia) (by rw [hk]; exact ⟨_,I',q⟩)
theorem a8t (lo hi:Option Int) (n:Nat):(sliceBounds lo hi none n).1=((HT.sIx n 0 lo:Nat):Int)∧(sliceBounds lo hi none n).2.1=((HT.sIx n n hi:Nat):Int)∧(sliceBounds lo hi none n).2.2=1:=by
 refine ⟨?_,?_,rfl⟩
 ·cases lo with
  | none=>simp [sliceBounds,HT.sIx]
  | some i =>
   simp only [sliceBounds,HT.sIx,Option.getD_none,show (1:Int) > 0 by decide,if_true]
   by_cases h:i < 0
   ·simp only [h,if_true] <;> lia
   ·simp only [h,if_false] <;> lia
 ·cases hi with
  | none=>simp [sliceBounds,HT.sIx]
  | some i =>
   simp only [sliceBounds,HT.sIx,Option.getD_none,show (1:Int) > 0 by decide,if_true]
   by_cases h:i < 0
   ·simp only [h,if_true] <;> lia
   ·simp only [h,if_false] <;> lia
theorem a7j (its:List Value) (lo hi:Option Int):slicePick its.toArray lo hi none=((its.drop (HT.sIx its.length 0 lo)).take (HT.sIx its.length its.length hi - HT.sIx its.length 0 lo)).toArray:=by
 obtain ⟨h1,h2,h3⟩:=a8t lo hi its.toArray.size
 unfold slicePick
 rw [h1,h2,h3]
 simp only [sliceRange_one,pick_run,List.size_toArray] <;> rfl
def rSlL (K:Γd):V→Option Int→Option Int→Hp→VK→Prop:=fun x lo hi H Q=>∃ a xs,x=.ref a∧SqL K H a xs∧∀ p,H p=none→Q (.ref p) (upd H p (.lst (c2z xs lo hi)))
theorem b4v:SlR X (rSlL X.K):=by
 intro pins s σ H x v vl vu lo hi sl Q I rx hs pl pu h
 obtain ⟨a,xs,rfl,hx,q⟩:=h
 cases rx
 obtain ⟨its,r,ht,hz⟩:=I.list hx
 have hlen:=r.length
 refine ⟨"list",_,slot_list_getitem.lookup,ht.isList.typeIs,?_⟩
 refine wpAny_getItem_list_slice ht.isList hs pl pu .none (by simp) ?_ (by rw [List.size_toArray] <;> lia)
 rw [a7j,← hlen]
 refine ⟨.ref s.heap.objs.size,_,I.laid (t':=s.toks) (o:=.lst (c2z xs lo hi)) (fun b ob q=>Γc _ q) (Γi _) ?_,rfl,q _ (I.hok.fresh (Γi _))⟩
 exact ⟨Nat.le_trans (a5z xs lo hi) hz,_,0,(r.drop (HT.sIx xs.length 0 lo)).take (HT.sIx xs.length xs.length hi - HT.sIx xs.length 0 lo),Γm _ rfl⟩
theorem b0b:a1l X (.builtin "len") (fun xs H Q=>∃ p ys,xs=[.ref p]∧(SqL X.K H p ys ∨ SqT X.K H p ys)∧Q (.int ys.length) H):=by
 intro pins s σ H xs us Q I r h
 obtain ⟨p,ys,rfl,hq,q⟩:=h
 obtain ⟨u,rfl,rx⟩:=a3o r
 cases rx
 have hn:=a9h
 rcases hq with hq | hq
 ·obtain ⟨its,r',pl,hz⟩:=I.list hq
  have hlen:=r'.length
  exact Calls.call_len_list pl.isList (by simp only [List.size_toArray] <;> lia) ⟨.int ys.length,H,I.tok _,⟨s.toks + 1,by rw [List.size_toArray,hlen]⟩,q⟩
 ·obtain ⟨its,r',pl,hz⟩:=I.tuple hq
  have hlen:=r'.length
  exact len_tuple pl (by simp only [List.size_toArray] <;> lia) ⟨.int ys.length,H,I.tok _,⟨s.toks + 1,by rw [List.size_toArray,hlen]⟩,q⟩
theorem b0a:a1l X (.type "list") (fun xs H Q=>∃ p ys,xs=[.ref p]∧(SqL X.K H p ys ∨ SqT X.K H p ys)∧∀ l,H l=none→Q (.ref l) (upd H l (.lst ys))):=by
 intro pins s σ H xs us Q I r h
 obtain ⟨p,ys,rfl,hq,q⟩:=h
 obtain ⟨u,rfl,rx⟩:=a3o r
 cases rx
 have fin:∀ (its:List Value),Vals ys its→ys.length≤sizeLine→∀ (h':Heap) (c':Nat),(∀ b o',s.heap.get? b=some o'→h'.get? b=some o') →
   h'.get? s.heap.objs.size=some { cls:=.type "list",dict:=none,data:=.seq its.toArray c',slots:=#[] }→EP X pins σ Q (.ref s.heap.objs.size) { s with heap:=h' }:=fun its r' hz h' c' kp e =>
  ⟨.ref s.heap.objs.size,_,I.laid (t':=s.toks) kp (Γi _) (show ObjOk X.prog X.w _ h' _ (.lst ys) from ⟨hz,its,c',r',e⟩),rfl,q _ (I.hok.fresh (Γi _))⟩
 rcases hq with hq | hq
 ·obtain ⟨its,r',pl,hz⟩:=I.list hq
  have hlen:=r'.length
  obtain ⟨o,ho,hc,n,hd⟩:=pl.isList
  exact call_list_seq p (.inl rfl) ho hc hd (fun h' c' kp e=>fin its r' hz h' c' kp e) (by simp only [List.size_toArray] <;> lia)
 ·obtain ⟨its,r',pl,hz⟩:=I.tuple hq
  have hlen:=r'.length
  obtain ⟨o,ho,hc,n,hd⟩:=pl
  exact call_list_seq p (.inr rfl) ho hc hd (fun h' c' kp e=>fin its r' hz h' c' kp e) (by simp only [List.size_toArray] <;> lia)
theorem a2x:a1l X (.type "tuple") (fun xs H Q=>∃ p ys,xs=[.ref p]∧((SqL X.K H p ys∧∀ l,H l=none→Q (.ref l) (upd H l (.tup ys))) ∨ (SqT X.K H p ys∧Q (.ref p) H))):=by
 intro pins s σ H xs us Q I r h
 obtain ⟨p,ys,rfl,h⟩:=h
 obtain ⟨u,rfl,rx⟩:=a3o r
 cases rx
 rcases h with ⟨hq,q⟩ | ⟨hq,q⟩
 ·obtain ⟨its,r',pl,hz⟩:=I.list hq
  have hlen:=r'.length
  refine call_tuple_list pl.isList (fun h' kp=>?_) (by simp only [List.size_toArray] <;> lia)
  have I1:Inv X pins σ H { s with heap:=h' }:=I.kept (t':=s.toks) kp
  have I2:Inv X pins σ (upd H h'.objs.size (.tup ys)) { s with heap:=h'.push { cls:=.type "tuple",data:=.seq its.toArray } } :=
   I1.laid (t':=s.toks) (fun b o e=>Γc _ e) (Γi _) (show ObjOk X.prog X.w _ _ _ (.tup ys) from ⟨hz,its,r',IsTup.new _ _⟩)
  exact ⟨.ref h'.objs.size,_,I2,rfl,q _ (I1.hok.fresh (Γi _))⟩
 ·obtain ⟨its,r',pl,hz⟩:=I.tuple hq
  exact call_tuple_same pl ⟨.ref p,H,I,rfl,q⟩
def tyV (K:Γd) (T:String) (x:V) (H:Hp):Prop:=match x with
 | .str _=>T = "str"
 | .int _=>T = "int"
 | .ref p=>(T = "list"∧∃ xs,SqL K H p xs) ∨ (T = "tuple"∧∃ o,K.lookup p=some o∧o.cls=.type "tuple"∧o.dict=none) ∨
   (T = "dict"∧((∃ kvs,H p=some (.dK kvs)) ∨ ∃ kvs,H p=some (.dT kvs))) ∨ (T = "set"∧∃ S n,H p=some (.set S n))
 | _=>False
theorem c6r {pins:List (Addr×Obj)} {σ:St} {H:Hp} {s:Shared} {T:String} {x:V} {v:Value} (I:Inv X pins σ H s) (r:RelV x v) (ty:tyV X.K T x H) :
  s.TypeIs v T∧∀ a,v=.ref a→∃ ob,s.heap.get? a=some ob∧ob.dict=none:=by
 cases x with
 | str z =>
  obtain ⟨t,rfl⟩:=r
  cases (show T = "str" from ty)
  exact ⟨typeIs_str s z t,fun _ e=>nomatch e⟩
 | int i =>
  obtain ⟨t,rfl⟩:=r
  cases (show T = "int" from ty)
  exact ⟨typeIs_int s i t,fun _ e=>nomatch e⟩
 | ref p =>
  cases r
  rcases ty with ⟨rfl,xs,hq⟩ | ⟨rfl,o,hk,hc,hd⟩ | ⟨rfl,hk⟩ | ⟨rfl,S,n,hk⟩
  ·obtain ⟨its,_,pl,_⟩:=I.list hq
   refine ⟨pl.isList.typeIs,fun a e=>?_⟩
   cases e
   obtain ⟨o,n,e,c,hd,_⟩:=pl
   exact ⟨o,e,hd⟩
  ·refine ⟨⟨o,I.kIn p o hk,hc⟩,fun a e=>?_⟩
   cases e
   exact ⟨o,I.kIn _ o hk,hd⟩
  ·have z:∃ o,s.heap.get? p=some o∧o.ExactDict:=by
    rcases hk with ⟨kvs,hk⟩ | ⟨kvs,hk⟩
    ·obtain ⟨_,_,_,_,o,_,_,e,ex,_⟩:=I.hok p _ hk
     exact ⟨o,e,ex⟩
    ·obtain ⟨_,_,_,_,o,_,_,e,ex,_⟩:=I.hok p _ hk
     exact ⟨o,e,ex⟩
   obtain ⟨o,e,ex⟩:=z
   refine ⟨⟨o,e,ex.1⟩,fun a e2=>?_⟩
   cases e2
   exact ⟨o,e,ex.2.1⟩
  ·obtain ⟨o,_,_,_,e,ex,_⟩:=I.hok p _ hk
   refine ⟨⟨o,e,ex.1⟩,fun a e2=>?_⟩
   cases e2
   exact ⟨o,e,ex.2.1⟩
 | _=>exact False.elim ty
def tBM (K:Γd) (T:String) (r:V→List V→Hp→VK→Prop) (to:TE) (t:TA):TE:=fun σ H Q=>to σ H fun x H1=>tyV K T x H1∧t σ H1 fun xs H2=>r x xs H2 Q
variable {o e:Expr} {es:List Expr} {to:TE} {t:TA} {name:Str} {apos cpos:Pos} {T id:String} {r:V→List V→Hp→VK→Prop}
theorem c0g (pa:PlainAttrs T) (slot:Slot T name id) (hty:typeOf (.builtin id)=pure (.type "method_descriptor")) (hm:MtR X id r) (ho:PE X o to) (ha:PA X (e :: es) t)
  (hbase:attributeBase o name X.env (eval o X.env)=eval o X.env:=by rfl)
  (hfew:((backTo cpos (starEach (e :: es) X.env)).all (fun x=>!x.1) && (backToKw cpos (keywordEach [] X.env)).all (fun x=>x.1.isSome)
   && decide ((e :: es).length + ([]:List Keyword).length + (if ([]:List Keyword).isEmpty then 0 else 1) < 30))=true:=by rfl)
  (hline:(apos.endLine == cpos.line)=true:=by rfl) (hs:starEach (e :: es) X.env=(false,eval e X.env) :: starEach es X.env:=by rfl) (hplain:(backTo cpos (starEach es X.env)).any (·.1)=false:=by rfl) :
  PE X (.Call (.Attribute o name apos) (e :: es) [] cpos) (tBM X.K T r to t):=by
 intro pins s σ H Q I h
 refine wpAny_Call_method_late hbase hfew hline rfl (thn (ho pins s σ H _ I h) fun v s1 ⟨x,H1,I1,r1,ty,q1⟩=>?_)
 obtain ⟨h1,h2⟩:=c6r I1 r1 ty
 refine ⟨T,id,pa,slot,hty,h1,h2,?_⟩
 have hA:=ha cpos pins s1 σ H1 _ I1 q1
 rw [hs] at hA ⊢
 refine Calls.callWith_builtin (by show (false || (backTo cpos (starEach es X.env)).any (·.1))=false; rw [hplain] <;> rfl) (Calls.evalArgs_plain ?_)
 exact thn hA fun us s2 ⟨vs,H2,I2,r2,q2⟩=>hm pins s2 σ H2 x vs v us Q I2 r1 r2 q2
/- xs.append(e),list.index on a module's tuple .. are MtR facts of 06m -/
end
end L2
namespace L2
open PySem PySem.Spec PyProof.Rows
def MtM (X:Cx) (id:String) (r:V→List V→Hp→VK→Prop):Prop :=
 ∀ (pins:List (Addr×Obj)) (s:Shared) (σ:St) (H:Hp) (x:V) (xs:List V) (v:Value) (us:List Value) (Q:VK),Inv X pins σ H s→RelV x v→Vals xs us→r x xs H Q →
  wpAny (model X.prog X.w) X.A (call (.builtin id) (v :: us)) (EP X pins σ Q) X.xe s
theorem Vals.one:∀ {x:V} {us:List Value},Vals [x] us→∃ u,us=[u]∧RelV x u
 | _,_,.cons r .nil=>⟨_,rfl,r⟩
theorem Vals.dropLast {xs:List V} {us:List Value} (h:Vals xs us):Vals xs.dropLast us.dropLast:=by
 induction h with
 | nil=>exact .nil
 | cons r t ih =>
  cases t with
  | nil=>exact .nil
  | cons q t'=>exact .cons r ih
theorem Vals.eraseIdx:∀ {xs:List V} {us:List Value} (i:Nat),Vals xs us→Vals (xs.eraseIdx i) (us.eraseIdx i)
 | _,_,_,.nil=>.nil
 | _,_,0,.cons _ t=>t
 | _,_,i + 1,.cons r t=>.cons r (Vals.eraseIdx i t)
theorem Vals.reverse {xs:List V} {us:List Value} (h:Vals xs us):Vals xs.reverse us.reverse:=by
 induction h with
 | nil=>exact .nil
 | cons r t ih=>rw [List.reverse_cons,List.reverse_cons]; exact Vals.append ih (.cons r .nil)
theorem Vals.rep {xs:List V} {us:List Value} (h:Vals xs us):∀ k:Nat,Vals (Γj k xs).flatten (Γj k us).flatten
 | 0=>.nil
 | k + 1=>by
  rw [List.replicate_succ,List.replicate_succ,List.flatten_cons,List.flatten_cons]
  exact Vals.append h (Vals.rep h k)
theorem a9n (its:List Value):∀ (k:Nat) (acc:List Value),
  List.foldl (fun x1 x2=>x1++x2) acc.toArray (Γj k its.toArray)=(acc++(Γj k its).flatten).toArray
 | 0,acc=>by simp
 | k + 1,acc=>by
  have e:acc.toArray++its.toArray=(acc++its).toArray:=by simp
  have e2:(acc++its)++(Γj k its).flatten=acc++(Γj (k + 1) its).flatten:=by
   rw [List.replicate_succ,List.flatten_cons,List.append_assoc]
  rw [← e2,← a9n its k (acc++its),← e,List.replicate_succ,List.foldl_cons]
section
variable {X:Cx} {pins:List (Addr×Obj)} {σ:St} {H:Hp} {s:Shared} {l b:Addr} {xs ys zs:List V}
theorem Inv.lset {its its':List Value} {n:Nat} {f:Array Value→Array Value} {t':Nat} (I:Inv X pins σ H s) (hH:H l=some (.lst xs))
  (e:s.heap.get? l=some { cls:=.type "list",data:=.seq its.toArray n }) (hf:f its.toArray=its'.toArray) (hv:Vals ys its') (hz:ys.length≤sizeLine) :
  Inv X pins σ (upd H l (.lst ys)) { s with heap:=s.heap.update l (Obj.mapSeq f),toks:=t' }:=by
 have q:=PySem.IsL.update e f
 rw [hf] at q
 refine I.write (x:=l) (e:=l) (by rw [hH]; exact trivial) (.inl rfl) (fun b' u hb hu=>(Γf s.heap (Obj.mapSeq f) (Ne.symm hb)).trans hu) ⟨_,q⟩ ?_
 exact ⟨hz,its',_,hv,q⟩
theorem Inv.lnew {its:List Value} {t':Nat} (I:Inv X pins σ H s) (hv:Vals ys its) (hz:ys.length≤sizeLine) :
  Inv X pins σ (upd H s.heap.objs.size (.lst ys)) { s with heap:=s.heap.push { cls:=.type "list",data:=.seq its.toArray },toks:=t' } :=
 I.laid (fun _ _ q=>Γc _ q) (Γi _) ⟨hz,its,0,hv,Γm _ rfl⟩
theorem Inv.fresh (I:Inv X pins σ H s):H s.heap.objs.size=none:=I.hok.fresh (Γi _)
theorem Inv.lstM (I:Inv X pins σ H s) (hH:H l=some (.lst xs)):xs.length≤sizeLine∧∃ (its:List Value) (n:Nat),Vals xs its∧xs.length=its.length∧s.heap.get? l=some { cls:=.type "list",data:=.seq its.toArray n }:=by
 obtain ⟨z,its,n,r,e⟩:=I.hok l _ hH
 exact ⟨z,its,n,r,r.length,e⟩
theorem a5c {n:Nat} (h:n≤sizeLine):Builtin.List.listTooLong n=false:=by
 unfold Builtin.List.listTooLong
 exact decide_eq_false (by lia)
end
section
variable {X:Cx}
def c3l:V→List V→Hp→VK→Prop:=fun x vs H Q=>∃ l xs y,x=.ref l∧vs=[y]∧H l=some (.lst xs)∧xs.length < sizeLine∧Q .non (upd H l (.lst (xs++[y])))
theorem a4e:MtM X "list.append" c3l:=by
 intro pins s σ H x vs v us Q I rx rv h
 obtain ⟨l,xs,y,rfl,rfl,hH,hz,q⟩:=h
 cases rx
 obtain ⟨u,rfl,ru⟩:=rv.one
 obtain ⟨z,its,n,r,hl,e⟩:=I.lstM hH
 refine call_meets F.slot_list_append ⟨_,e,rfl⟩ F.entry_list_append (F.args_list_append_2 _ _) (PySem.list_append l its.toArray n u (by rw [List.size_toArray]; lia)) ⟨e,?_⟩
 refine ⟨.non,_,I.lset (its':=its++[u]) hH e (by simp) (r.append (.cons ru .nil)) ?_,rfl,q⟩
 rw [List.length_append,List.length_singleton]
 lia
def b5c:V→List V→Hp→VK→Prop:=fun x vs H Q=>∃ l b xs zs,x=.ref l∧vs=[.ref b]∧H l=some (.lst xs)∧H b=some (.lst zs)∧xs.length + zs.length≤sizeLine∧Q .non (upd H l (.lst (xs++zs)))
theorem b6h:MtM X "list.extend" b5c:=by
 intro pins s σ H x vs v us Q I rx rv h
 obtain ⟨l,b,xs,zs,rfl,rfl,hH,hB,hz,q⟩:=h
 cases rx
 obtain ⟨u,rfl,ru⟩:=rv.one
 cases ru
 obtain ⟨z,its,n,r,hl,e⟩:=I.lstM hH
 obtain ⟨z2,its2,n2,r2,hl2,e2⟩:=I.lstM hB
 have hsz:its.toArray.size + its2.toArray.size≤sizeLine:=by rw [List.size_toArray,List.size_toArray]; lia
 have hlong:¬ (!its.toArray.isEmpty && Builtin.List.listTooLong (its.toArray.size + its2.toArray.size))=true:=by
  rw [a5c hsz,Bool.and_false]
  exact Γk
 refine call_meets F.slot_list_extend ⟨_,e,rfl⟩ F.entry_list_extend (F.args_list_extend_2 _ _)
  (AutoSeq1.list_extend_list_list_0 l its.toArray n b its2.toArray n2 hlong (by rw [List.size_toArray]; lia) (by lia)) ⟨e,e2,?_⟩
 refine ⟨.non,_,I.lset (its':=its++its2) hH e (by simp) (r.append r2) ?_,rfl,q⟩
 rw [List.length_append]
 lia
def rCat:R2:=fun x y H Q=>∃ l b xs zs,x=.ref l∧y=.ref b∧H l=some (.lst xs)∧H b=some (.lst zs)∧xs.length + zs.length≤sizeLine∧∀ p,H p=none→Q (.ref p) (upd H p (.lst (xs++zs)))
theorem c8n:OpR X (binaryOp .Add) rCat:=by
 intro pins s σ H x y v u Q I rx ry h
 obtain ⟨l,b,xs,zs,rfl,rfl,hH,hB,hz,q⟩:=h
 cases rx
 cases ry
 obtain ⟨z,its,n,r,hl,e⟩:=I.lstM hH
 obtain ⟨z2,its2,n2,r2,hl2,e2⟩:=I.lstM hB
 refine PySem.P.add_list e e2 ?_ (by rw [List.size_toArray,List.size_toArray]; lia)
 have ea:its.toArray++its2.toArray=(its++its2).toArray:=by simp
 rw [ea]
 exact ⟨.ref _,_,I.lnew (t':=s.toks) (r.append r2) (by rw [List.length_append]; lia),rfl,q _ I.fresh⟩
def rRep:R2:=fun x y H Q=>∃ l k xs,x=.ref l∧y=.int k∧H l=some (.lst xs)∧-(2 ^ 63)≤k∧k < 2 ^ 63∧xs.length * k.toNat≤sizeLine ∧
 ∀ p,H p=none→Q (.ref p) (upd H p (.lst (Γj k.toNat xs).flatten))
theorem c4q {α:Type} (xs:List α) (k:Nat):(Γj k xs).flatten.length=k * xs.length:=by
 induction k with
 | zero=>simp
 | succ k ih=>rw [List.replicate_succ,List.flatten_cons,List.length_append,ih,Nat.succ_mul,Nat.add_comm]
theorem c8i:OpR X (binaryOp .Mult) rRep:=by
 intro pins s σ H x y v u Q I rx ry h
 obtain ⟨l,k,xs,rfl,rfl,hH,h1,h2,hz,q⟩:=h
 cases rx
 obtain ⟨t,rfl⟩:=ry
 obtain ⟨z,its,n,r,hl,e⟩:=I.lstM hH
 have hlen:its.toArray.size * k.toNat≤sizeLine:=by rw [List.size_toArray,← hl]; exact hz
 have hcap:¬ its.toArray.size * k.toNat > (2 ^ 63 - 1) / 8:=by
  have:(sizeLine:Nat)≤(2 ^ 63 - 1) / 8:=by decide
  lia
 have hfit:¬ (!Builtin.List.listFitsIndex k)=true:=by
  rw [fitsIndex_both h1 h2]
  exact Γk
 have hlong:¬ Builtin.List.listTooLong (its.toArray.size * k.toNat)=true:=by
  rw [a5c hlen]
  exact Γk
 have hnew:List.foldl (fun x1 x2=>x1++x2) #[] (Γj (if its.toArray.isEmpty=true then 0 else k.toNat) its.toArray)=(Γj k.toNat its).flatten.toArray:=by
  have f0:∀ m:Nat,List.foldl (fun x1 x2=>x1++x2) #[] (Γj m its.toArray)=(Γj m its).flatten.toArray:=fun m=>by
   have:=a9n its m []
   rw [List.nil_append] at this
   exact this
  rw [f0]
  cases its with
  | nil=>simp
  | cons a r'=>rw [if_neg (by simp)]
 refine wpAny_binaryOp_repeat_ref (T:="list") (U:="int") (by decide) ⟨_,e,rfl⟩ (fun s'=>typeIs_int s' k t) noFill_list_mul F.fills_int_mul F.slot_int_rmul repeat_list F.slot_int_index.lookup
  (call_meets F.slot_int_rmul (typeIs_int s k t) F.entry_int_rmul (F.args_int_rmul_2 _ _) (int___rmul___int_list k t l its.toArray n)
   ⟨e,rfl,⟨_,e,rfl⟩,call_meets F.slot_list_mul ⟨_,e,rfl⟩ F.entry_list_mul (F.args_list_mul_2 _ _) (AutoListH.list___mul___list_int_3 l its.toArray n k t hfit hcap hlong) ⟨e,?_⟩⟩)
 rw [hnew]
 exact ⟨.ref _,_,I.lnew (t':=s.toks) (r.rep k.toNat) (by rw [c4q,Nat.mul_comm]; exact hz),rfl,q _ I.fresh⟩
end
section
variable {prog:Program} {w:World} {A:Around} {E:Value→Shared→Prop} {s:Shared}
set_option maxRecDepth 100000 in
end
section
variable {X:Cx}
end
end L2
namespace Att
open PySem PySem.W PySem.Calls PyProof.Rows
theorem a5u {P:Params} {h:Heap}:∀ (ns:List Int) (vs:List Value),WellAll P h vs (ns.map WData.int)→IntsAre vs ns:=by
 intro ns
 induction ns with
 | nil =>
  intro vs w
  rw [List.map_nil] at w
  cases w
  exact .nil
 | cons n ns ih =>
  intro vs w
  rw [List.map_cons] at w
  cases w with
  | cons a b =>
   cases a
   exact .cons _ _ (ih _ b)
theorem b4x {l:OpenLaw} {n:Nat} (hn:l.most=some n) {P:Params} {h:Heap} {args:List WData} {vals:List Value}
  (hpre:l.row.toRowW.claim.pre args=true) (hwl:WellAll P h vals args) :
  ∃ a vs ns,vals=[Value.ref a]∧args=[WData.list (ns.map WData.int)]∧h.get? a=some { cls:=.type "list",data:=.seq vs.toArray }∧IntsAre vs ns∧ns.length≤n:=by
 have hsh:WShape.hasAll [] args [.list .int]=true:=(pre_splitW hpre).1
 have hc:l.pre.holds [] { args:=args } = true:=(pre_splitW hpre).2
 obtain ⟨d,r,rfl,h1,h2⟩:=hasAllW_cons hsh
 obtain rfl:=hasAllW_nil h2
 obtain ⟨xs,rfl,h3⟩:=hasW_list h1
 obtain ⟨ns,rfl⟩:=items_int h3
 have hlen:ns.length≤n:=by
  unfold OpenLaw.pre at hc
  have h4:(WTm.not (.lt (.lit (.int (n:Int))) (.len (.arg 0)))).holds [] { args:=[.list (ns.map .int)] } = true:=by
   have h4:=(holds_andW hc).1
   rw [hn] at h4
   exact h4
  have h5:=condW_of h4 (w_not (w_lt w_lit (w_len_list (w_arg rfl))))
  rw [List.length_map] at h5
  refine Nat.le_of_not_lt fun q=>?_
  have q':(n:Int) < ((ns.length:Nat):Int):=by lia
  first
   | (rw [decide_eq_true q'] at h5; exact absurd h5 (by decide))
   | (simp at h5; lia)
 cases hwl with
 | cons w1 w2 =>
  cases w2
  cases w1 with
  | list ho hall=>exact ⟨_,_,ns,rfl,rfl,ho,a5u ns _ hall,hlen⟩
theorem b5l (l:OpenLaw) (args:List WData):l.row.toRowW.claim.post args (.bool true) args=true :=
 postW_of (r:=l.row.toRowW) (X:=(true == true))
  (show WShape.has [] (.bool true) .bool=true by first | rfl | decide | simp [WShape.has,WShape.arms,WShape.armsAll])
  (show (WTm.eq .res (.lit (.bool true))).value [] { args:=args,res:=some (.bool true),after:=args } = some (.bool (true == true)) from w_eq_bool (w_res rfl) w_lit) rfl
theorem attach_call {l:OpenLaw} {n:Nat} {q:Program} {loose:List Str} {XP:(Str→Option Value)→Heap→Prop} {YP:World→Heap→Prop} {d:DefRec}
  (hn:l.most=some n) (hdf:d.params.defaults=[])
  (call:∀ (w:World) (s₀ s₁:Shared) (mg mb:Str→Option Value) (fa:Addr) (o:Obj) (pm cd doc:Value) (a:Addr) (vs:List Value) (ns:List Int),
   Ground q loose [] XP w s₀ mg mb s₁.heap→YP w s₁.heap →
   s₁.heap.get? fa=some o→o.data=.func (docDef d.name d.params d.body d.scope pm cd doc)→s₁.heap.CodeRec cd d.name→mg d.name=some (.ref fa) →
   s₁.heap.get? a=some { cls:=.type "list",data:=.seq vs.toArray }→IntsAre vs ns→ns.length≤n→s₁.gens = #[] →
   codeAny (model l.prog w) callerA (.call (.ref fa) ⟨[.ref a],[]⟩) (fun r s'=>r=.ok (.ret (.bool true))∧OldK s₁.heap s'.heap∧s'.os=s₁.os∧AllBare s'.gens) s₁) :
  WalkO q loose XP YP l.row.toRowW d [] (fun f vs=>PySem.call f vs):=by
 intro w s₀ s₁ mg mb G Y fa o pm cd doc dV kV ho hd hcd hD hmg hg args vals as hpre hlay hrd hwl hlo
 obtain rfl:dV=.none:=Dflts.none hD hdf
 obtain rfl:kV=.none:=Dflts.noKw hD
 obtain ⟨a,vs,ns,rfl,rfl,hobj,hints,hlen⟩:=b4x hn hpre hwl
 refine enter_call (codeAny_mono (call w s₀ s₁ mg mb fa o pm cd doc a vs ns G Y ho (fd_plain hd) hcd hmg hobj hints hlen hg) fun r s' hq=>?_)
 obtain ⟨rfl,h2,h3,h4⟩:=hq
 exact ⟨.inl ⟨.bool true,.bool true,[],rfl,fun _=>rfl,.bool true,b5l l _,fun _=>⟨List.Pairwise.nil,fun _ hm=>(nomatch hm)⟩⟩,h2,h3,h4⟩
section
variable {prog:Program} {w:World} {A:Around} {E:Value→Shared→Prop} {s:Shared} {K:Frag}
theorem d8g {R:Result→Shared→Prop} {name qual:Str} {params:Arguments} {body:List Stmt} {scope:Scope} {dV kV doc pm cdv ct oc:Value} {an od:Option Addr} {osl:Array (Option Value)} {f:Addr} {args:Args} {binds:List (Str×Value)}
  (X:K.In s.heap) (hlim:s.heap.NoLimit) (ho:K.lookup f=some ⟨oc,od,.func (fnOf name qual params body scope dV kV doc pm an cdv ct),osl⟩) (hcd:codeIn K cdv qual=true) (hroom:A.depth < recursionLimit)
  (hbind:BindsTo s (fnOf name qual params body scope dV kV doc pm an cdv ct) args binds)
  (hkind:(binds.all fun y=>scope.names.lookup y.1 == some .local || scope.names.lookup y.1 == some .cell)=true)
  (h:∀ s₁,InCallC s s.heap.objs.size (bindL (envOfC qual scope s.heap.objs.size f cdv).kindOf binds fun _=>none) (cellsFrom (s.heap.objs.size + 1) scope.names [])
    (bindC (envOfC qual scope s.heap.objs.size f cdv).kindOf binds fun _=>none) s₁ →
   wpAny (model prog w) (A.deeper (envOfC qual scope s.heap.objs.size f cdv)) (execs body (envOfC qual scope s.heap.objs.size f cdv))
    (fun fl s'=>R (.ok (.ret (match fl with | .ret v=>v | _=>.none))) s')
    (fun e s'=>wpAny (model prog w) (A.deeper (envOfC qual scope s.heap.objs.size f cdv)) (leaving (envOfC qual scope s.heap.objs.size f cdv) e) (fun _ s''=>R (.error e) s'') (fun e' s''=>R (.error e') s'') s') s₁)
  (hco:scope.isCoroutine=false) (hgen:scope.isGenerator=false) (hk:scope.kind=.function):codeAny (model prog w) A (.call (.ref f) args) R s:=by
 refine codeAny_call_function hroom (X _ _ ho) rfl hco hgen rfl (codeRec_of X hcd) (hbind _ _ _ _ ?_)
 refine wpAny_newFunctionEnv_cells hk (kindsX hkind _) fun env he s₁ x=>?_
 subst he
 exact ⟨hlim.keeps x.toInCall.keep,codeAny_func (h s₁ x)⟩
def ledger (h:Heap) (L d:Addr):List (Addr×Obj):=(List.range h.objs.size).filterMap fun a=>if a=L ∨ a=d then none else (h.get? a).map fun o=>(a,o)
end
end Att
namespace L2
open PySem PySem.Spec PyProof.Rows
theorem a8r:∀ {vs:List Value} {ns:List Int},IntsAre vs ns→Vals (ns.map V.int) vs
 | _,_,.nil=>.nil
 | _,_,.cons n t h=>.cons ⟨t,rfl⟩ (a8r h)
def d0z (H:Hp):Prop:=∀ b,H b=none ∨ ∃ o xs,H b=some (.frz o (.lst xs))
theorem b2r {P:Program} {w:World} {K:Γd} {mg mb:Str→Option Value} {CX:CXT} {k:Nat} {fa a:Addr} {fd:FuncData} {x:Str} {sp:Sp} {s₁:Shared} {vs:List Value} {ns:List Int}
  (KX:K.In s₁.heap) (hns:s₁.heap.Ns mainGlobals mg) (hb:s₁.heap.Ns builtinsNs mb) (hbb:∀ x:Str,x≠"__name__"→mb x=bootBuiltins x) (hlim:s₁.heap.NoLimit) (hg:s₁.gens = #[])
  (ha:s₁.heap.get? a=some { cls:=.type "list",data:=.seq vs.toArray }) (hi:IntsAre vs ns) (hl:ns.length≤sizeLine) (hr:Room k callerA)
  (F:∀ base:Heap,K.In base→base.Ns mainGlobals mg→FnOk P w K mg base CX k fa fd [x] sp) (hbind:∀ (s:Shared) (u:Value),BindsTo s fd ⟨[u],[]⟩ [(x,u)])
  (hsp:∀ H:Hp,d0z H→SqL K H a (ns.map V.int)→sp [.ref a] H (fun v _=>v=.bl true) fun _ _ _=>False)
  (hCX:∀ H e s',CX [] H s₁ (fun _ _ _=>False) e s'→False) :
  codeAny (model P w) callerA (.call (.ref fa) ⟨[.ref a],[]⟩) (fun r s'=>r=.ok (.ret (.bool true))∧OldK s₁.heap s'.heap∧s'.os=s₁.os∧AllBare s'.gens) s₁:=by
 have rv:=a8r hi
 have lenV:=hi.length
 -- from an abstract heap in which nothing but the script may be tracked
 have core:∀ H:Hp,d0z H→SqL K H a (ns.map V.int)→HOk P w H s₁.heap→(∀ b,H b≠none→b=a)→(H a≠none→K.lookup a=none) →
   codeAny (model P w) callerA (.call (.ref fa) ⟨[.ref a],[]⟩) (fun r s'=>r=.ok (.ret (.bool true))∧OldK s₁.heap s'.heap∧s'.os=s₁.os∧AllBare s'.gens) s₁:=by
  intro H hO hS hok hA hK
  have base_of:∀ {b:Addr} {o:Obj},s₁.heap.get? b=some o→H b=none→(c1a s₁.heap H).get? b=some o:=fun e n=>c0z e n
  have noA:∀ {b:Addr} {o:Obj} {es:Array DictEntry} {ep:Nat},s₁.heap.get? b=some o→o.data=.dict es ep→H b=none:=fun {b o es ep} e d=>by
   cases q:H b with
   | none=>rfl
   | some u =>
    have e':b=a:=hA b (by rw [q]; simp)
    subst e'
    rw [ha] at e; cases e
    have d':Data.seq vs.toArray _=Data.dict es ep:=d
    cases d'
  have nsK:∀ {b:Addr} {m:Str→Option Value},s₁.heap.Ns b m→(c1a s₁.heap H).Ns b m:=fun {b m} ⟨o,es,ep,e,d,r⟩=>⟨o,es,ep,base_of e (noA e d),d,r⟩
  have hKb:K.In (c1a s₁.heap H):=fun b o e=>base_of (KX b o e) (by
   cases q:H b with
   | none=>rfl
   | some u =>
    have e':b=a:=hA b (by rw [q]; simp)
    subst e'
    rw [hK (by rw [q]; simp)] at e; cases e)
  have hM:Mod K mg (c1a s₁.heap H):=⟨hKb,nsK hns,⟨mb,nsK hb,hbb⟩,let ⟨mc,h1,h2⟩:=hlim; ⟨mc,nsK h1,h2⟩⟩
  have e0:Env0 P w K mg (c1a s₁.heap H) callerA [] s₁ H:=⟨rfl,hM,fun b o e=>c4h e,Nat.le_of_eq (b7k _ _),trivial,fun b hb=>absurd (show b∈([]:List Addr) from hb) (by simp),hok,.of_eq hg⟩
  refine codeAny_mono ((F _ hKb (nsK hns)).run callerA [] s₁ H ⟨[.ref a],[]⟩ [.ref a] [.ref a] _ _ hr e0 (hbind s₁ (.ref a)) (.cons rfl .nil) (hsp H hO hS)) fun r s' h=>?_
  cases r with
  | error e=>exact (hCX H e s' h).elim
  | ok fl =>
   cases fl with
   | next=>exact False.elim h
   | brk=>exact False.elim h
   | cont=>exact False.elim h
   | ret u =>
    obtain ⟨v,H',os,bare,un,hok',r',q⟩:=h
    have q':v=.bl true:=q
    subst q'
    obtain rfl:u=Value.bool true:=r'
    refine ⟨rfl,OldK.of_keep fun b o e=>?_,os,bare⟩
    cases q:H b with
    | none=>exact un.keep b o e q (by intro z; exact absurd (show b∈([]:List Addr) from z) (by simp)) (by simp)
    | some u =>
     rcases hO b with z | ⟨ob,xs,z⟩
     ·rw [q] at z; cases z
     ·have z2:=un.frzs b ob _ z
      obtain ⟨e1,_⟩:=hok b _ z
      obtain ⟨e2,_⟩:=hok' b _ z2
      rw [e] at e1; cases e1
      exact e2
 cases hk:K.lookup a with
 | some o =>
  -- the script is one of the module's own objects
  have e:=KX a o hk
  rw [ha] at e
  cases e
  refine core (fun _=>none) (fun _=>.inl rfl) (.inr ⟨_,vs.toArray,_,hk,rfl,rfl,rfl,by rw [List.size_toArray,lenV]; exact hl,by simpa using rv⟩) (fun b u z=>by have z':(none:Option HO)=some u:=z; cases z') (fun b z=>absurd rfl z) fun z=>absurd rfl z
 | none =>
  refine core (fun b=>if b=a then some (.frz { cls:=.type "list",data:=.seq vs.toArray } (.lst (ns.map V.int))) else none) (fun b=>?_) (.inl (.inr ⟨{ cls:=.type "list",data:=.seq vs.toArray },if_pos rfl⟩)) (fun b u z=>?_) (fun b z=>?_) fun _=>hk
  ·by_cases hb:b=a
   ·exact .inr ⟨_,_,if_pos hb⟩
   ·exact .inl (if_neg hb)
  ·by_cases hb:b=a
   ·have z':=(if_pos hb).symm.trans z
    cases z'
    subst hb
    exact ⟨ha,by rw [List.length_map]; exact hl,vs,_,rv,ha⟩
   ·have z':=(if_neg hb).symm.trans z
    cases z'
  ·by_cases hb:b=a
   ·exact hb
   ·exact absurd (if_neg hb) z
end L2
namespace L2
open PySem PySem.Spec PyProof.Rows
abbrev KOf {K:Γd} {h:Heap} (_:K.In h):Γd:=K
theorem walk_of {l:PySem.W.OpenLaw} {n k:Nat} {q:Program} {loose:List Str} {XP:(Str→Option Value)→Heap→Prop} {YP:World→Heap→Prop} {d:DefRec} {K:Params→Γd} {CX:World→CXT} {sp:World→Sp} {x:Str}
  (hn:l.most=some n) (hn2:n≤sizeLine) (hdf:d.params.defaults=[]) (hr:Room k callerA)
  (hY:∀ (w:World) (h:Heap),YP w h→(K w.params).In h)
  (F:∀ (w:World) (mg:Str→Option Value) (fa:Addr) (h:Heap),(K w.params).In h→h.Ns mainGlobals mg→mg d.name=some (.ref fa) →
   ∃ fd:FuncData,(∀ (s:Shared) (u:Value),BindsTo s fd ⟨[u],[]⟩ [(x,u)]) ∧
    ∀ base:Heap,(K w.params).In base→base.Ns mainGlobals mg→FnOk l.prog w (K w.params) mg base (CX w) k fa fd [x] (sp w))
  (hsp:∀ (w:World) (H:Hp) (a:Addr) (ns:List Int),ns.length≤n→d0z H→SqL (K w.params) H a (ns.map V.int)→sp w [.ref a] H (fun v _=>v=.bl true) fun _ _ _=>False)
  (hCX:∀ (w:World) (H:Hp) (s:Shared) (e:Value) (s':Shared),CX w [] H s (fun _ _ _=>False) e s'→False) :
  PySem.W.WalkO q loose XP YP l.row.toRowW d [] (fun f vs=>PySem.call f vs):=by
 refine Att.attach_call hn hdf fun w s₀ s₁ mg mb fa o pm cd doc a vs ns G Y ho hd hcd hmg hobj hints hlen hg=>?_
 have KX:=hY w _ Y
 obtain ⟨fd,hb,hF⟩:=F w mg fa _ KX G.T.g hmg
 exact b2r KX G.T.g G.T.b G.T.builtins G.T.nolimit hg hobj hints (Nat.le_trans hlen hn2) hr hF hb (fun H hO hS=>hsp w H a ns hlen hO hS) fun H e s'=>hCX w H s₁ e s'
end L2
/- THE LAST THEOREM (shape; LID, My.* are yours):
   My.Adr: a structure of the addresses that your layer names (classes, functions); My.Txt K t: a structure (Prop) of the equations over K;
   My.txt_mk : {K} {implicit addresses ..} (e1 : nsIn K mainGlobals "law" = some (some (.ref f))) (e2 : K.lookup f = some ⟨oc, od, .func (fnOf "law" "law" params body scope dV kV doc pm an cdv ct), sl⟩) (e3 : codeIn K cdv "law" = true) .. : ∃ t, My.Txt K t
set_option maxRecDepth 100000 in
set_option maxHeartbeats 0 in
theorem PySem.Challenge.cw_LID_holds:PySem.Challenge.rw_LID.Holds:=by
 w_on; o_law; k_head; (case hw=>w_witness2)
 k_fill
 refine L2.walk_of (l:=PySem.Challenge.rw_LID) (n:=63) (k:=40) (x:="script") (CX:=fun w=>..) (sp:=fun _=>My.sp_law) rfl (by decide) rfl ⟨rfl,by decide,by decide⟩ (fun w h Y=>PySem.W.kIn_of Y) ?F ?S ?C
 case F =>
  intro w mg fa h KX G hmg
  have T:∃ t,My.Txt (L2.KOf KX) t:=by
   dsimp only [L2.KOf]                          -- K must stand as «<heap const> w.params» for k_is
   refine' My.txt_mk ?e1 ?e2 ?e3 ..
   (case e1=>PySem.W.k_is)                    -- in the order: a name -> its address -> its object -> its parts
   (case e2=>PySem.W.k_is)
   ..
  obtain ⟨t,T⟩:=T
  have e0:=hmg.symm.trans (PySem.W.mg_of KX G T.law)
  cases e0                                       -- fa is the law's own address
  exact ⟨_,fun s u=>.of_eq rfl,fun base kb nb=>My.law_fn T kb nb⟩     -- if «.of_eq rfl» comes too early: refine' ⟨_,?b,fun base kb nb=>My.law_fn T kb nb⟩; exact fun s u=>.of_eq rfl
 case S=>exact fun w H a ns hl hO hS=>..
 case C=>exact ..
(the tactic k_is has no namespace: write k_is) -/
namespace L2
open PySem PySem.Spec PyProof.Rows
def a3w (s:Stmt):Arguments:=match s with
 | .FunctionDef _ a _ _ _ _ _ _ _ _=>a
 | _=>{ posonlyargs:=[],args:=[],vararg:=none,kwonlyargs:=[],kw_defaults:=[],kwarg:=none,defaults:=[] }
def a1p (s:Stmt):List Stmt:=match s with
 | .FunctionDef _ _ b _ _ _ _ _ _ _=>b
 | _=>[]
def a0j (s:Stmt):Scope:=match s with
 | .FunctionDef _ _ _ _ _ _ sc _ _ _=>sc
 | _=>{ kind:=.function,names:=[],isGenerator:=false,isCoroutine:=false }
abbrev CX0:CXT:=fun _ _ _ _ _ _=>False
abbrev E0:XK:=fun _ _ _=>False
theorem d4t {X:Cx}:b8w CX0 X E0:=fun _ _ _ _ _ _ _ h=>h.elim
structure Fun (K:Γd) (x qual:Str) (st:Stmt) (f:Addr) (fd:FuncData):Prop where
 ex:∃ (oc:Value) (od:Option Addr) (kV doc pm:Value) (an:Option Addr) (cdv ct:Value) (osl:Array (Option Value)),
  fd=PySem.W.fnOf x qual (a3w st) (a1p st) (a0j st) .none kV doc pm an cdv ct∧K.lookup f=some ⟨oc,od,.func fd,osl⟩∧PySem.W.codeIn K cdv qual=true
 kp:PySem.W.keepIn K (.ref f)=true
section
variable {P:Program} {w:World} {K:Γd} {mg:Str→Option Value} {base:Heap}
theorem Fun.ok {x qual:Str} {st:Stmt} {f:Addr} {fd:FuncData} {N ps:List Str} {k:Nat} {sp:Sp} (F:Fun K x qual st f fd) (S:FnScope N ps (a0j st)) (len:∀ vs H Q E,sp vs H Q E→vs.length=ps.length)
  (hbody:∀ (cdv:Value) (A:Around) (outer:List Env) (s:Shared) (H:Hp) (vs:List V) (Q:VK) (E:XK),RoomS k (A.deeper (envOfC qual (a0j st) s.heap.objs.size f cdv))→sp vs H Q E →
   ∃ t,PSs (c5u CX0 P w K mg base N qual (a0j st) f cdv A outer s H E).nox (a1p st) t∧t { nx:=fun _ H'=>Q .non H',rt:=Q } (start N vs) H):FnOk P w K mg base CX0 (k + 1) f fd ps sp:=by
 obtain ⟨oc,od,kV,doc,pm,an,cdv,ct,osl,rfl,lk,hcd⟩:=F.ex
 refine d6h lk hcd S len fun A outer s H vs Q E hr hsp=>?_
 obtain ⟨t,h,q⟩:=hbody cdv A outer s H vs Q E hr hsp
 exact ⟨t,h.nox,q⟩
theorem Fun.binds {x qual:Str} {st:Stmt} {f:Addr} {fd:FuncData} {ps:List Str} (F:Fun K x qual st f fd)
  (h:∀ (kV doc pm:Value) (an:Option Addr) (cdv ct:Value) (us:List Value),us.length=ps.length→bindArgs (PySem.W.fnOf x qual (a3w st) (a1p st) (a0j st) .none kV doc pm an cdv ct) ⟨us,[]⟩=pure (ps.zip us)):Binds K fd ps []:=by
 obtain ⟨oc,od,kV,doc,pm,an,cdv,ct,osl,rfl,lk,hcd⟩:=F.ex
 exact .all (h kV doc pm an cdv ct)
theorem c9n {x qual:Str} {st:Stmt} {f:Addr} {oc:Value} {od an:Option Addr} {osl:Array (Option Value)} {kV doc pm cdv ct:Value} (l:K.lookup f=some ⟨oc,od,.func (PySem.W.fnOf x qual (a3w st) (a1p st) (a0j st) .none kV doc pm an cdv ct),osl⟩)
  (c:PySem.W.codeIn K cdv qual=true) (k:PySem.W.keepIn K (.ref f)=true):Fun K x qual st f (PySem.W.fnOf x qual (a3w st) (a1p st) (a0j st) .none kV doc pm an cdv ct):=⟨⟨oc,od,kV,doc,pm,an,cdv,ct,osl,rfl,l,c⟩,k⟩
end
section
variable {X:Cx}
end
theorem ite2 {c A B:Prop} [Decidable c] (h1:c→A) (h2:¬ c→B):if c then A else B:=by
 by_cases h:c
 ·rw [if_pos h]
  exact h1 h
 ·rw [if_neg h]
  exact h2 h
def Same (H H':Hp):Prop:=∀ b o,H b=some o→H' b=some o
theorem Same.refl (H:Hp):Same H H:=fun _ _ h=>h
theorem Same.trans {H H1 H2:Hp} (a:Same H H1) (b:Same H1 H2):Same H H2:=fun c o h=>b c o (a c o h)
theorem Same.free {H H':Hp} (e:Same H H') {l:Addr} (h:H' l=Option.none):H l=Option.none:=by
 cases q:H l with
 | none=>rfl
 | some o =>
  rw [e l o q] at h
  cases h
theorem Same.seq {K:Γd} {H H':Hp} {a:Addr} {xs:List V} (e:Same H H') (h:SqL K H a xs):SqL K H' a xs:=by
 rcases h with (h | ⟨o,h⟩) | h
 ·exact .inl (.inl (e _ _ h))
 ·exact .inl (.inr ⟨o,e _ _ h⟩)
 ·exact .inr h
end L2
end
section
namespace L2
open PySem PySem.Spec PyProof.Rows
section
variable {κ:Type} [DecidableEq κ]
def a8o (kvs:List (κ×V)) (k:κ):Option V:=(kvs.find? fun kv=>decide (kv.1=k)).map (·.2)
def a3y (kvs:List (κ×V)) (k:κ) (v:V):List (κ×V) :=
 if (kvs.any fun kv=>decide (kv.1=k))=true then kvs.map (fun kv=>if kv.1=k then (kv.1,v) else kv) else kvs++[(k,v)]
def d0c (kvs:List (κ×V)) (k:κ):List (κ×V):=kvs.filter fun kv=>decide (kv.1≠k)
theorem a3i {p:κ×V} {r:List (κ×V)} {k:κ} (e:p.1=k):a8o (p :: r) k=some p.2:=by simp [a8o,List.find?_cons,e]
theorem a3j {p:κ×V} {r:List (κ×V)} {k:κ} (e:¬ p.1=k):a8o (p :: r) k=a8o r k:=by simp [a8o,List.find?_cons,e]
theorem a3z (k:κ):∀ kvs:List (κ×V),(kvs.any fun kv=>decide (kv.1=k))=(a8o kvs k).isSome
 | []=>rfl
 | p :: r=>by
  rw [List.any_cons]
  by_cases e:p.1=k
  ·simp only [a3i e,decide_eq_true e,Bool.true_or,Option.isSome_some]
  ·rw [a3j e,decide_eq_false e,Bool.false_or]; exact a3z k r
theorem a2j (kvs:List (κ×V)) (k:κ) (v:V):(a3y kvs k v).length≤kvs.length + 1:=by
 unfold a3y
 split
 ·rw [List.length_map]; lia
 ·rw [List.length_append,List.length_cons,List.length_nil]; lia
theorem RelO.isSome_eq {o:Option V} {u:Option Value} (r:RelO o u):o.isSome=u.isSome:=by
 cases o with
 | none=>cases u with
  | none=>rfl
  | some _=>exact (show False from r).elim
 | some _=>cases u with
  | none=>exact (show False from r).elim
  | some _=>rfl
theorem RelO.getD {o:Option V} {u:Option Value} {d:V} {d':Value} (r:RelO o u) (rd:RelV d d'):RelV (o.getD d) (u.getD d'):=by
 cases o with
 | none=>cases u with
  | none=>exact rd
  | some _=>exact (show False from r).elim
 | some _=>cases u with
  | none=>exact (show False from r).elim
  | some _=>exact r
theorem KV.val {kvs:List (κ×V)} {vs:List (κ×Value)} (r:KV kvs vs) (k:κ):RelO (a8o kvs k) (valueAt vs k):=by
 unfold KV at r
 induction r with
 | nil=>exact True.intro
 | @cons p q ps qs h t ih =>
  obtain ⟨h1,h2⟩:=h
  by_cases e:p.1=k
  ·have e':q.1=k:=h1.symm.trans e
   have b:valueAt (q :: qs) k=some q.2:=by simp [valueAt,List.find?_cons,e']
   rw [a3i e,b]; exact h2
  ·have e':¬ q.1=k:=fun z=>e (h1.trans z)
   have b:valueAt (q :: qs) k=valueAt qs k:=by simp [valueAt,List.find?_cons,e']
   rw [a3j e,b]; exact ih
theorem KV.any {kvs:List (κ×V)} {vs:List (κ×Value)} (r:KV kvs vs) (k:κ):(kvs.any fun kv=>decide (kv.1=k))=vs.any fun kv=>decide (kv.1=k):=by
 unfold KV at r
 induction r with
 | nil=>rfl
 | cons h t ih=>rw [List.any_cons,List.any_cons,ih,h.1]
theorem KV.repl {kvs:List (κ×V)} {vs:List (κ×Value)} (r:KV kvs vs) (k:κ) {y:V} {u:Value} (ry:RelV y u) :
  KV (kvs.map fun kv=>if kv.1=k then (kv.1,y) else kv) (vs.map fun kv=>if kv.1=k then (kv.1,u) else kv):=by
 unfold KV at r ⊢
 induction r with
 | nil=>exact .nil
 | @cons p q ps qs h t ih =>
  rw [List.map_cons,List.map_cons]
  refine .cons ?_ ih
  obtain ⟨h1,h2⟩:=h
  by_cases e:p.1=k
  ·rw [if_pos e,if_pos (h1.symm.trans e)]; exact ⟨h1,ry⟩
  ·rw [if_neg e,if_neg (fun z=>e (h1.trans z))]; exact ⟨h1,h2⟩
theorem KV.put {kvs:List (κ×V)} {vs:List (κ×Value)} (r:KV kvs vs) (k:κ) {y:V} {u:Value} (ry:RelV y u):KV (a3y kvs k y) (stored vs k u):=by
 unfold a3y stored
 rw [r.any k]
 by_cases e:(vs.any fun kv=>decide (kv.1=k))=true
 ·rw [if_pos e,if_pos e]; exact r.repl k ry
 ·rw [if_neg e,if_neg e]; exact Paired.snoc r ⟨rfl,ry⟩
theorem KV.drop {kvs:List (κ×V)} {vs:List (κ×Value)} (r:KV kvs vs) (k:κ):KV (d0c kvs k) (without vs k):=by
 unfold KV at r ⊢
 unfold d0c without
 induction r with
 | nil=>exact .nil
 | @cons p q ps qs h t ih =>
  obtain ⟨h1,h2⟩:=h
  rw [List.filter_cons,List.filter_cons]
  by_cases e:p.1=k
  ·have a:¬ decide (p.1≠k)=true:=by simp [e]
   have b:¬ decide (q.1≠k)=true:=by simp [h1.symm.trans e]
   rw [if_neg a,if_neg b]; exact ih
  ·have e':¬ q.1=k:=fun z=>e (h1.trans z)
   have a:decide (p.1≠k)=true:=by simp [e]
   have b:decide (q.1≠k)=true:=by simp [e']
   rw [if_pos a,if_pos b]; exact .cons ⟨h1,h2⟩ ih
theorem KV.length {kvs:List (κ×V)} {vs:List (κ×Value)} (r:KV kvs vs):kvs.length=vs.length:=Paired.length r
end
theorem b6s {P:Program} {w:World} {k:Key} {u:Value} (r:RelV (kV k) u):(a0k P w).is k u=true:=by
 rcases k with i | x | x
 ·obtain ⟨t,e⟩:=(show ∃ t,u=Value.int i t from r); subst e; exact b1b P w i t
 ·cases (show u=Value.none from r); exact a9e P w
 ·obtain ⟨t,e⟩:=(show ∃ t,u=Value.str x t from r); subst e; exact b1a P w x t
theorem a9l {P:Program} {w:World}:∀ {ks:List Key} {us:List Value},Vals (ks.map kV) us→ItemsAre (a0k P w) ks us
 | [],_,r=>by rw [List.map_nil] at r; cases r; exact .nil
 | k :: ks,_,r=>by
  rw [List.map_cons] at r
  cases r with
  | cons h t=>exact .cons (b6s h) (a9l t)
abbrev KT (H:Hp):List (List Key×V)→List (List Key×Addr×Value)→Prop:=Paired fun p q=>p.1=q.1∧H q.2.1=some (.tup (p.1.map kV))∧RelV p.2 q.2.2
theorem KT.val {H:Hp} {kvs:List (List Key×V)} {xs:List (List Key×Addr×Value)} (r:KT H kvs xs) (k:List Key):RelO (a8o kvs k) ((atKey xs k).map (·.2)):=by
 induction r with
 | nil=>exact True.intro
 | @cons p q ps qs h t ih =>
  obtain ⟨h1,_,h2⟩:=h
  by_cases e:p.1=k
  ·have e':q.1=k:=h1.symm.trans e
   have b:atKey (q :: qs) k=some q.2:=by simp [atKey,List.find?_cons,e']
   rw [a3i e,b]; exact h2
  ·have e':¬ q.1=k:=fun z=>e (h1.trans z)
   have b:atKey (q :: qs) k=atKey qs k:=by simp [atKey,List.find?_cons,e']
   rw [a3j e,b]; exact ih
theorem KT.repl {H:Hp} {kvs:List (List Key×V)} {xs:List (List Key×Addr×Value)} (r:KT H kvs xs) (k:List Key) {y:V} {u:Value} (ry:RelV y u) :
  KT H (kvs.map fun kv=>if kv.1=k then (kv.1,y) else kv) (xs.map (putAt k u)):=by
 induction r with
 | nil=>exact .nil
 | @cons p q ps qs h t ih =>
  rw [List.map_cons,List.map_cons]
  refine .cons ?_ ih
  obtain ⟨h1,h2,h3⟩:=h
  unfold putAt
  by_cases e:p.1=k
  ·rw [if_pos e,if_pos (h1.symm.trans e)]; exact ⟨h1,h2,ry⟩
  ·rw [if_neg e,if_neg (fun z=>e (h1.trans z))]; exact ⟨h1,h2,h3⟩
theorem KT.put {H:Hp} {kvs:List (List Key×V)} {xs:List (List Key×Addr×Value)} (r:KT H kvs xs) (k:List Key) {b:Addr} {y:V} {u:Value} (hb:H b=some (.tup (k.map kV))) (ry:RelV y u) :
  KT H (a3y kvs k y) (storedH xs k b u):=by
 have e:(kvs.any fun kv=>decide (kv.1=k))=(atKey xs k).isSome:=by
  rw [a3z,(r.val k).isSome_eq,Option.isSome_map]
 unfold a3y storedH
 rw [e]
 by_cases q:(atKey xs k).isSome=true
 ·rw [if_pos q,if_pos q]; exact r.repl k ry
 ·rw [if_neg q,if_neg q]; exact Paired.snoc r ⟨rfl,hb,ry⟩
theorem KT.keeps {H H':Hp} {kvs:List (List Key×V)} {xs:List (List Key×Addr×Value)} (r:KT H kvs xs) (ht:∀ b ys,H b=some (.tup ys)→H' b=some (.tup ys)):KT H' kvs xs :=
 Paired.mapP r fun _ _ z=>⟨z.1,ht _ _ z.2.1,z.2.2⟩
section
variable {P:Program} {w:World} {H:Hp} {h:Heap} {a:Addr}
theorem c7k {u:HO} (ok:HOk P w H h) (e:Rd H a u):ObjOk P w H h a u:=e.ok ok
theorem b3z {kvs:List (Key×V)} (ok:HOk P w H h) (e:Rd H a (.dK kvs)):kvs.length≤sizeLine∧(a == sysModules)=false∧∃ vs,KV kvs vs∧h.DictOf (a0k P w) a vs :=
 show ObjOk P w H h a (.dK kvs) from c7k ok e
theorem d8d {kvs:List (Key×V)} (ok:HOk P w H h) (e:H a=some (.dK kvs)):kvs.length≤sizeLine∧(a == sysModules)=false∧∃ vs,KV kvs vs∧h.DictOf (a0k P w) a vs:=b3z ok (.inl e)
theorem a5r {ks:List Key} (ok:HOk P w H h) (e:H a=some (.tup (ks.map kV))):(tupleKind (a0k P w)).is h ks a:=by
 obtain ⟨_,its,r,o,h1,h2,n,h3⟩:=(show ObjOk P w H h a (.tup (ks.map kV)) from ok a _ e)
 exact ⟨o,its.toArray,n,h1,h2,h3,by simpa using a9l r⟩
theorem b7v {kvs:List (List Key×V)} (ok:HOk P w H h) (e:Rd H a (.dT kvs)):kvs.length≤sizeLine∧(a == sysModules)=false ∧
  ∃ xs,KT H kvs xs∧h.DictOfH (tupleKind (a0k P w)) a xs:=by
 obtain ⟨z,y,xs,r,o,es,ep,h1,h2,h3,h4,h5⟩:=(show ObjOk P w H h a (.dT kvs) from c7k ok e)
 refine ⟨z,y,xs,r,o,es,ep,h1,h2,h3,h4,fun x hx=>?_,h5⟩
 have all:∀ {l:List (List Key×V)} {m:List (List Key×Addr×Value)},KT H l m→∀ x∈m,(tupleKind (a0k P w)).is h x.1 x.2.1:=by
  intro l m q
  induction q with
  | nil=>intro x hx; exact nomatch hx
  | @cons p q ps qs hq t ih =>
   intro x hx
   rcases List.mem_cons.mp hx with e | hx
   ·subst e
    exact a5r ok (by rw [← hq.1]; exact hq.2.1)
   ·exact ih x hx
 exact all r x hx
theorem d0b {kvs:List (List Key×V)} (ok:HOk P w H h) (e:H a=some (.dT kvs)):kvs.length≤sizeLine∧(a == sysModules)=false ∧
  ∃ xs,KT H kvs xs∧h.DictOfH (tupleKind (a0k P w)) a xs:=b7v ok (.inl e)
end
def DGet (H:Hp) (a:Addr) (y:V) (r:Option V):Prop :=
 (∃ kvs k,Rd H a (.dK kvs)∧y=kV k∧r=a8o kvs k) ∨ ∃ kvs k b,Rd H a (.dT kvs)∧y=.ref b∧H b=some (.tup (k.map kV))∧r=a8o kvs k
def DPut (H:Hp) (a:Addr) (y v:V) (H':Hp):Prop :=
 (∃ kvs k,H a=some (.dK kvs)∧y=kV k∧kvs.length < sizeLine∧H'=upd H a (.dK (a3y kvs k v))) ∨
 ∃ kvs k b,H a=some (.dT kvs)∧y=.ref b∧H b=some (.tup (k.map kV))∧kvs.length < sizeLine∧H'=upd H a (.dT (a3y kvs k v))
theorem DGet.k {H:Hp} {a:Addr} {kvs:List (Key×V)} {k:Key} (e:H a=some (.dK kvs)):DGet H a (kV k) (a8o kvs k):=.inl ⟨kvs,k,.inl e,rfl,rfl⟩
theorem DGet.t {H:Hp} {a b:Addr} {kvs:List (List Key×V)} {k:List Key} (e:H a=some (.dT kvs)) (eb:H b=some (.tup (k.map kV))):DGet H a (.ref b) (a8o kvs k):=.inr ⟨kvs,k,b,.inl e,rfl,eb,rfl⟩
theorem DPut.k {H:Hp} {a:Addr} {kvs:List (Key×V)} {k:Key} {v:V} (e:H a=some (.dK kvs)) (hl:kvs.length < sizeLine):DPut H a (kV k) v (upd H a (.dK (a3y kvs k v))):=.inl ⟨kvs,k,e,rfl,hl,rfl⟩
theorem DPut.t {H:Hp} {a b:Addr} {kvs:List (List Key×V)} {k:List Key} {v:V} (e:H a=some (.dT kvs)) (eb:H b=some (.tup (k.map kV))) (hl:kvs.length < sizeLine) :
  DPut H a (.ref b) v (upd H a (.dT (a3y kvs k v))):=.inr ⟨kvs,k,b,e,rfl,eb,hl,rfl⟩
section
variable {X:Cx} {pins:List (Addr×Obj)} {σ:St} {H:Hp} {s:Shared} {a:Addr} {y v:V} {u r:Value} {o:Option V} {A:Around} {E:Value→Shared→Prop}
theorem Inv.big (I:Inv X pins σ H s):sysModules < s.heap.objs.size:=by
 have h:mainGlobals < s.heap.objs.size:=(I.mod.glob.keeps I.bk).lt
 exact Nat.lt_trans (by decide) h
theorem a9t {Q:Value→Shared→Prop} (hu:A.units + 1 < cLine) (I:Inv X pins σ H s) (g:DGet H a y (some v)) (ry:RelV y u) (h:∀ w' s',Inv X pins σ H s'→RelV v w'→Q w' s') :
  wpAny (model X.prog X.w) A (getItem (.ref a) u) Q E s:=by
 rcases g with ⟨kvs,k,e,ey,l⟩ | ⟨kvs,k,b,e,ey,eb,l⟩
 ·subst ey
  obtain ⟨z,hd,vs,rel,dd⟩:=b3z I.hok e
  obtain ⟨w',hw,rw'⟩:=RelO.some_of (v:=v) (o:=valueAt vs k) (by rw [l]; exact rel.val k)
  exact wpAny_getItem_of (b6s ry) dd.mapOf hw (h w' _ (I.tok _) rw')
 ·subst ey
  cases (show u=Value.ref b from ry)
  obtain ⟨z,hd,xs,rel,dd⟩:=b7v I.hok e
  obtain ⟨w',hw,rw'⟩:=RelO.some_of (v:=v) (o:=(atKey xs k).map (·.2)) (by rw [l]; exact rel.val k)
  obtain ⟨p,hp,hp2⟩:=Option.map_eq_some_iff.mp hw
  refine wpAny_getItem_heap (tupleKind_room_in1 hu) (a5r I.hok eb) dd hp ?_
  rw [hp2]
  exact h w' _ (I.tok _) rw'
theorem d_in {Q:Value→Shared→Prop} (hu:A.units + 1 < cLine) (I:Inv X pins σ H s) (g:DGet H a y o) (ry:RelV y u) (h:∀ s',Inv X pins σ H s'→Q (.bool o.isSome) s') :
  wpAny (model X.prog X.w) A (compareOp .In u (.ref a)) Q E s:=by
 rcases g with ⟨kvs,k,e,ey,l⟩ | ⟨kvs,k,b,e,ey,eb,l⟩
 ·subst ey
  obtain ⟨z,hd,vs,rel,dd⟩:=b3z I.hok e
  refine wpAny_in_of (b6s ry) hd dd.mapOf ?_
  rw [← (rel.val k).isSome_eq,← l]
  exact h _ (I.tok _)
 ·subst ey
  cases (show u=Value.ref b from ry)
  obtain ⟨z,hd,xs,rel,dd⟩:=b7v I.hok e
  refine wpAny_in_heap (tupleKind_room_in1 hu) (a5r I.hok eb) hd dd ?_
  have q:=(rel.val k).isSome_eq
  rw [Option.isSome_map] at q
  rw [← q,← l]
  exact h _ (I.tok _)
theorem b8c {Q:Value→Shared→Prop} (hu:A.units + 1 < cLine) (I:Inv X pins σ H s) (g:DGet H a y o) (ry:RelV y u) (h:∀ s',Inv X pins σ H s'→Q (.bool (!o.isSome)) s') :
  wpAny (model X.prog X.w) A (compareOp .NotIn u (.ref a)) Q E s:=by
 rcases g with ⟨kvs,k,e,ey,l⟩ | ⟨kvs,k,b,e,ey,eb,l⟩
 ·subst ey
  obtain ⟨z,hd,vs,rel,dd⟩:=b3z I.hok e
  refine wpAny_notIn_of (b6s ry) hd dd.mapOf ?_
  rw [← (rel.val k).isSome_eq,← l]
  exact h _ (I.tok _)
 ·subst ey
  cases (show u=Value.ref b from ry)
  obtain ⟨z,hd,xs,rel,dd⟩:=b7v I.hok e
  refine wpAny_notIn_heap (tupleKind_room_in1 hu) (a5r I.hok eb) hd dd ?_
  have q:=(rel.val k).isSome_eq
  rw [Option.isSome_map] at q
  rw [← q,← l]
  exact h _ (I.tok _)
theorem b1p {h':Heap} {t':Nat} {ob:HO} (I:Inv X pins σ H s) (mu:Mut (H a)) (hs:Heap.SameBut a s.heap h') (he:∃ q,h'.get? a=some q) (new:ObjOk X.prog X.w (upd H a ob) h' a ob) :
  Inv X pins σ (upd H a ob) { s with heap:=h',toks:=t' } :=
 I.write (x:=a) (e:=a) mu (.inl rfl) (fun b q hb z=>(hs.2 b hb).trans z) he new
theorem d0e {P:Program} {w:World} {H':Hp} {h':Heap} {kvs:List (Key×V)} {vs:List (Key×Value)} (z:kvs.length≤sizeLine) (hd:(a == sysModules)=false) (rel:KV kvs vs) (dd:h'.DictOf (a0k P w) a vs) :
  ObjOk P w H' h' a (.dK kvs):=⟨z,hd,vs,rel,dd⟩
theorem a9s {H':Hp} {Q:Unit→Shared→Prop} (hu:A.units + 1 < cLine) (I:Inv X pins σ H s) (g:DPut H a y v H') (ry:RelV y u) (rv:RelV v r) (h:∀ s',Inv X pins σ H' s'→Q () s') :
  wpAny (model X.prog X.w) A (setItem (.ref a) u r) Q E s:=by
 rcases g with ⟨kvs,k,e,ey,l,eH⟩ | ⟨kvs,k,b,e,ey,eb,l,eH⟩
 ·subst ey eH
  obtain ⟨z,hd,vs,rel,dd⟩:=d8d I.hok e
  have hz:vs.length≤sizeLine:=by rw [← rel.length]; exact z
  have hl:(a3y kvs k v).length≤sizeLine:=by have:=a2j kvs k v; lia
  refine wpAny_setItem_pairs (hsz:=hz) (b6s ry) dd fun h' dd' hs=>h _ ?_
  have he:∃ q,h'.get? a=some q:=let ⟨q,_,_,hq,_⟩:=dd'; ⟨q,hq⟩
  exact b1p I (by rw [e]; exact True.intro) hs he (d0e hl hd (rel.put k rv) dd')
 ·subst ey eH
  cases (show u=Value.ref b from ry)
  obtain ⟨z,hd,xs,rel,dd⟩:=d0b I.hok e
  have hz:xs.length≤sizeLine:=by rw [← Paired.length rel]; exact z
  have hl:(a3y kvs k v).length≤sizeLine:=by have:=a2j kvs k v; lia
  refine wpAny_setItem_heap (hsz:=hz) (tupleKind_room_in1 hu) (a5r I.hok eb) dd fun h' dd' hs=>h _ ?_
  obtain ⟨q,es,ep,hq,h2,h3,h4,_,h5⟩:=dd'
  refine b1p I (by rw [e]; exact True.intro) hs ⟨q,hq⟩ ⟨hl,hd,_,(rel.put k eb rv).keeps fun c ys ec=>?_,q,es,ep,hq,h2,h3,h4,h5⟩
  rw [a0d (c8w ec e (fun z=>nomatch z))]
  exact ec
end
section
variable {X:Cx} {pins:List (Addr×Obj)} {σ:St} {H:Hp} {s:Shared} {a:Addr} {kvs:List (Key×V)} {k:Key} {u:Value} {A:Around} {E:Value→Shared→Prop}
theorem d8f {Q:Value→Shared→Prop} (I:Inv X pins σ H s) (e:Rd H a (.dK kvs)) (h:∀ t s',Inv X pins σ H s'→Q (.int kvs.length t) s'):wpAny (model X.prog X.w) A (call (.builtin "len") [.ref a]) Q E s:=by
 obtain ⟨z,hd,vs,rel,dd⟩:=b3z I.hok e
 refine call_len_dict hd dd (by rw [← rel.length]; rw [sizeLine_eq] at z; lia) ?_
 rw [← rel.length]
 exact h _ _ (I.tok _)
end
def NoSl (i:Expr):Prop:=∀ ov iv,subscripted i false ov iv=operate [ov,iv] (getItem ov iv)
theorem c3g {prog:Program} {w:World} {A:Around} {E:Value→Shared→Prop} {s:Shared} {env:Env} {value slice:Expr} {pos:Pos} {T id:String} {Q:Value→Shared→Prop}
  (hl:typeLookup (.type T) "__getitem__" = pure (some (.builtin id))) (hs:NoSl slice)
  (h:wpAny (model prog w) A (eval value env) (fun o s₁=>wpAny (model prog w) A (eval slice env) (fun i s₂=>s₂.TypeIs o T∧wpAny (model prog w) A (getItem o i) Q E s₂) E s₁) E s) :
  wpAny (model prog w) A (eval (.Subscript value slice pos) env) Q E s:=by
 refine Subscript_ (wpAny_mono h (fun o s₁ h₁=>wpAny_mono h₁ (fun i s₂ h₂=>?_) fun _ _ x=>x) fun _ _ x=>x)
 obtain ⟨hT,h₂⟩:=h₂
 unfold subscriptTail
 refine Γa ?_
 rw [getitemInPython_of_ne hT.not_modules]
 refine Γa (wpAny_specialOf hT hl ?_)
 have fin:wpAny (model prog w) A (subscripted slice false o i) (fun r s₃=>wpAny (model prog w) A (letTemporaryGo value o r >>= fun _=>pure r) Q E s₃) E s₂:=by
  rw [hs o i]
  exact wpAny_operating (wpAny_mono h₂ (fun r s₃ h₃=>Γa (wpAny_letTemporaryGo (Γb h₃))) fun _ _ x=>x)
 first
  | exact Γb (Γa fin)
  | exact Γa (Γb (Γa fin))
  | exact Γa fin
theorem b1o {X:Cx} {pins:List (Addr×Obj)} {σ:St} {H:Hp} {s:Shared} {a:Addr} {y:V} {o:Option V} (I:Inv X pins σ H s) (g:DGet H a y o):s.TypeIs (.ref a) "dict":=by
 rcases g with ⟨kvs,k,e,_,_⟩ | ⟨kvs,k,b,e,_,_,_⟩
 ·obtain ⟨_,_,vs,_,dd⟩:=b3z I.hok e
  exact dd.typeIs
 ·obtain ⟨_,_,xs,_,dd⟩:=b7v I.hok e
  exact dd.typeIs
def d2y (td ty:TE):TE:=fun σ H Q=>td σ H fun x H1=>ty σ H1 fun y H2=>∃ a v,x=.ref a∧DGet H2 a y (some v)∧Q v H2
def d3v (td ty tv:TE):TS:=fun D σ H=>tv σ H fun v H1=>td σ H1 fun x H2=>ty σ H2 fun y H3=>∃ a H4,x=.ref a∧DPut H3 a y v H4∧D.nx σ H4
def d3w (td ty tv:TE) (rd:V→V→Hp→VK→Prop):TS:=fun D σ H=>td σ H fun x H1=>ty σ H1 fun y H2=>∃ a v,x=.ref a∧DGet H2 a y (some v) ∧
 tv σ H2 fun y2 H3=>rd v y2 H3 fun z H4=>∃ H5,DPut H4 a y z H5∧D.nx σ H5
section
variable {X:Cx} {o i e value:Expr} {pos pos' tpos:Pos} {td ty tv:TE}
theorem b0v (hu:X.A.units + 1 < cLine) (ho:PE X o td) (hi:PE X i ty) (hs:NoSl i):PE X (.Subscript o i pos) (d2y td ty):=by
 intro pins s σ H Q I h
 refine c3g PySem.F.slot_dict_getitem.lookup hs (thn (ho pins s σ H _ I h) fun u s1 ⟨x,H1,I1,rx,q1⟩=>thn (hi pins s1 σ H1 _ I1 q1) fun iv s2 ⟨y,H2,I2,ry,a,v,ex,g,q2⟩=>?_)
 subst ex
 obtain rfl:u=Value.ref a:=rx
 exact ⟨b1o I2 g,a9t hu I2 g ry fun w' s3 I3 rw'=>⟨v,H2,I3,rw',q2⟩⟩
theorem b5i (hu:X.A.units + 1 < cLine) (ho:PE X o td) (hi:PE X i ty) (hv:PE X value tv) (hs:swapsWith value (some (.Subscript o i pos')) pos.line X.env=pure false) :
  PS X (.Assign [.Subscript o i pos'] value pos) (d3v td ty tv):=by
 intro pins s σ H D I h
 refine wpAny_Assign_Subscript (thn (hv pins s σ H _ I h) fun r s1 ⟨v,H1,I1,rv,q1⟩=>thn (ho pins s1 σ H1 _ I1 q1) fun u s2 ⟨x,H2,I2,rx,q2⟩=>thn (hi pins s2 σ H2 _ I2 q2) fun iv s3 ⟨y,H3,I3,ry,a,H4,ex,g,q3⟩=>?_) hs
 subst ex
 obtain rfl:u=Value.ref a:=rx
 exact a9s hu I3 g ry rv fun s4 I4=>⟨σ,H4,I4,q3⟩
theorem c3r {op:Operator} {rd:V→V→Hp→VK→Prop} (hu:X.A.units + 1 < cLine) (ho:PE X o td) (hi:PE X i ty) (hv:PE X value tv) (hop:InOp X op rd)
  (ha:∀ ov iv new,augStore i ov iv new=(do holding [new,ov,iv] (setItem ov iv new); release [new,ov,iv] []; pure .next)):PS X (.AugAssign (.Subscript o i tpos) op value pos) (d3w td ty tv rd):=by
 intro pins s σ H D I h
 refine wpAny_AugAssign_SubscriptAny (thn (ho pins s σ H _ I h) fun u s1 ⟨x,H1,I1,rx,q1⟩=>thn (hi pins s1 σ H1 _ I1 q1) fun iv s2 ⟨y,H2,I2,ry,a,v,ex,g,q2⟩=>?_) ha
 subst ex
 obtain rfl:u=Value.ref a:=rx
 refine a9t hu I2 g ry fun w' s3 I3 rw'=>thn (hv pins s3 σ H2 _ I3 q2) fun w2 s4 ⟨y2,H3,I4,ry2,q3⟩=>thn (hop pins s4 σ H3 v y2 w' w2 _ I4 rw' ry2 q3) fun w3 s5 ⟨z,H4,I5,rz,H5,g5,q4⟩=>?_
 exact a9s hu I5 g5 ry rz fun s6 I6=>⟨σ,H5,I6,q4⟩
end
theorem c1n {P:Program} {w:World} {H:Hp} (h:Heap) (hb:sysModules < h.objs.size):ObjOk P w H (h.push { cls:=.type "dict",data:=.dict #[] }) h.objs.size (.dK []) :=
 ⟨Nat.zero_le _,beq_eq_false_iff_ne.mpr (Ne.symm (Γo hb)),[],.nil,Heap.DictOf.new h⟩
theorem c1j {P:Program} {w:World} {H:Hp} (h:Heap) (hb:sysModules < h.objs.size):ObjOk P w H (h.push { cls:=.type "dict",data:=.dict #[] }) h.objs.size (.dT []) :=
 ⟨Nat.zero_le _,beq_eq_false_iff_ne.mpr (Ne.symm (Γo hb)),[],.nil,_,#[],0,Γm _ rfl,⟨rfl,rfl,rfl⟩,rfl,rfl,List.nodup_nil⟩
def c6x:TE:=fun _ H Q=>∀ p,H p=none→Q (.ref p) (upd H p (.dK []))
section
variable {X:Cx} {pos:Pos}
theorem c0e:PE X (.Dict [] [] pos) c6x:=fun pins s σ H Q I h =>
 wpAny_Dict_empty ⟨.ref s.heap.objs.size,_,I.laid (a:=s.heap.objs.size) (o:=.dK []) (t':=s.toks) (fun _ _ q=>Γc _ q) (Γi _) (c1n s.heap I.big),rfl,h _ (I.hok.fresh (Γi _))⟩
end
structure M1 (X:Cx) (o:Expr) (m:Str) (apos:Pos) (e:Expr) (cpos:Pos):Prop where
 base:attributeBase o m X.env (eval o X.env)=eval o X.env
 few:((backTo cpos (starEach [e] X.env)).all (fun x=>!x.1) && (backToKw cpos (keywordEach [] X.env)).all (fun x=>x.1.isSome)
  && decide (([e]:List Expr).length + ([]:List Keyword).length + (if ([]:List Keyword).isEmpty then 0 else 1) < 30))=true
 line:(apos.endLine == cpos.line)=true
 trees:backTo cpos (starEach [e] X.env)=[(false,eval e X.env)]
structure M2 (X:Cx) (o:Expr) (m:Str) (apos:Pos) (e f:Expr) (cpos:Pos):Prop where
 base:attributeBase o m X.env (eval o X.env)=eval o X.env
 few:((backTo cpos (starEach [e,f] X.env)).all (fun x=>!x.1) && (backToKw cpos (keywordEach [] X.env)).all (fun x=>x.1.isSome)
  && decide (([e,f]:List Expr).length + ([]:List Keyword).length + (if ([]:List Keyword).isEmpty then 0 else 1) < 30))=true
 line:(apos.endLine == cpos.line)=true
 trees:backTo cpos (starEach [e,f] X.env)=[(false,eval e X.env),(false,eval f X.env)]
section
variable {X:Cx} {pins:List (Addr×Obj)} {σ:St} {H:Hp} {s:Shared} {a:Addr} {y d:V} {u r:Value} {o:Option V} {A:Around} {E:Value→Shared→Prop}
end
section
variable {X:Cx} {o e f:Expr} {apos cpos:Pos} {td ty tx:TE}
end
section
variable {X:Cx} {pins:List (Addr×Obj)} {σ:St} {H:Hp} {s:Shared} {a:Addr} {kvs:List (Key×V)} {A:Around} {E:Value→Shared→Prop}
end
section
variable {X:Cx} {pins:List (Addr×Obj)} {σ:St} {H:Hp} {s:Shared} {a:Addr} {y:V} {u:Value} {A:Around} {E:Value→Shared→Prop}
end
end L2
namespace L2
open PySem PySem.Spec PyProof.Rows
section
variable {κ:Type} [DecidableEq κ]
end
end L2
end
section
namespace HT
open PySem PyProof.Rows
def lexLe:List Int→List Int→Bool
 | [],[]=>true
 | [],_ :: _=>true
 | _ :: _,[]=>false
 | x :: xs,y :: ys=>if x=y then lexLe xs ys else decide (x≤y)
section
open PySem.SeqAt
open PySem.AutoSeq1 (wpAny_loadPart')
open PySem.MeetsSeq PySem.MeetsSeq2 PySem.MeetsSeq3
end
section
variable {prog:Program} {w:World} {A:Around} {E:Value→Shared→Prop} {s:Shared}
end
end HT
namespace L2
open PySem PySem.Spec PyProof.Rows
section
variable {X:Cx}
end
end L2
end
set_option maxHeartbeats 4000000
section
namespace L2
open PySem PySem.Spec PyProof.Rows
open AutoSeq1 (wpAny_loadPart')
theorem b3o (l b:Addr) (xs ys:Array Value) (n n2:Nat) (dd:Option Addr) (sl:Array (Option Value)) (h0:¬(!xs.isEmpty && Builtin.List.listTooLong (xs.size + ys.size))=true) (h1:xs.size≤sizeLine) (h2:xs.size + ys.size≤sizeLine + 1) :
  Meets (Builtin.«list.extend» ⟨[.ref l,.ref b],[]⟩) (fun _ R s=>s.heap.get? l=some { cls:=.type "list",dict:=none,data:=.seq xs n,slots:=#[] }∧s.heap.get? b=some { cls:=.type "tuple",dict:=dd,data:=.seq ys n2,slots:=sl }∧R (.ok (.ret Value.none)) { s with heap:=s.heap.update l (Obj.mapSeq fun x=>x++ys),toks:=s.toks }) :=
 .of_wp fun prog w A R s h=>by
  obtain ⟨hp,g,d,tk,os⟩:=s; obtain ⟨hl,hb,h⟩:=h
  have f2:=AutoSeq1.sub_tuple_tuple; have f3:=AutoSeq1.sub_list_list; have f4:=AutoSeq1.sub_tuple_list; have f5:=AutoSeq1.sub_list_tuple
  have hz':(xs++ys).size≤sizeLine + 1:=by rw [Array.size_append]; exact h2
  wp_walk using (wpAny_updateSeq hl rfl (hz:=h1) (_hz':=hz')),wpAny_loadPart' hl,wpAny_loadPart' hb
  exact ⟨_,rfl,h⟩
section
variable {X:Cx}
def c7m (K:Γd):V→List V→Hp→VK→Prop:=fun x vs H Q=>∃ l b xs zs,x=.ref l∧vs=[.ref b]∧H l=some (.lst xs)∧SqT K H b zs∧xs.length + zs.length≤sizeLine∧Q .non (upd H l (.lst (xs++zs)))
theorem c4k:MtM X "list.extend" (c7m X.K):=by
 intro pins s σ H x vs v us Q I rx rv h
 obtain ⟨l,b,xs,zs,rfl,rfl,hH,hB,hz,q⟩:=h
 cases rx
 obtain ⟨u,rfl,ru⟩:=rv.one
 cases ru
 obtain ⟨z,its,n,r,hl,e⟩:=I.lstM hH
 obtain ⟨its2,r2,⟨⟨oc,od,odt,os⟩,e2,ec,n2,ed⟩,z2⟩:=I.tuple hB
 have hl2:=r2.length
 simp only at ec ed
 subst ec ed
 have hsz:its.toArray.size + its2.toArray.size≤sizeLine:=by rw [List.size_toArray,List.size_toArray]; lia
 have hlong:¬ (!its.toArray.isEmpty && Builtin.List.listTooLong (its.toArray.size + its2.toArray.size))=true:=by
  rw [a5c hsz,Bool.and_false]; exact Γk
 refine call_meets F.slot_list_extend ⟨_,e,rfl⟩ F.entry_list_extend (F.args_list_extend_2 _ _) (b3o l b its.toArray its2.toArray n n2 _ _ hlong (by rw [List.size_toArray]; lia) (by lia)) ⟨e,e2,?_⟩
 refine ⟨.non,_,I.lset (its':=its++its2) hH e (by simp) (r.append r2) ?_,rfl,q⟩
 rw [List.length_append]; lia
theorem c0h:OpR X (binaryOp .Add) (fun x y H Q=>∃ a b ys,x=.ref a∧y=.ref b∧SqT X.K H a []∧SqT X.K H b ys∧Q (.ref b) H):=by
 intro pins s σ H x y v u Q I rx ry h
 obtain ⟨a,b,ys,rfl,rfl,ha,hb,q⟩:=h
 cases rx; cases ry
 obtain ⟨its,r1,⟨⟨oc,od,odt,os⟩,e1,ec,n,ed⟩,_⟩:=I.tuple ha
 obtain ⟨its2,r2,⟨⟨oc2,od2,odt2,os2⟩,e2,ec2,n2,ed2⟩,_⟩:=I.tuple hb
 simp only at ec ed ec2 ed2
 subst ec ed ec2 ed2
 cases r1
 exact concat_meets ⟨_,e1,rfl⟩ ⟨_,e2,rfl⟩ noFill_tuple_add seq_tuple_add F.slot_tuple_add F.entry_tuple_add (F.args_tuple_add_2 _ _) (tuple_addW0 a b #[] its2.toArray n n2 od od2 os os2 rfl) ⟨e1,e2,.ref b,H,I,rfl,q⟩
theorem b9n:SlR X (fun x lo hi H Q=>∃ a xs,x=.ref a∧SqT X.K H a xs∧HT.sIx xs.length 0 lo=0∧HT.sIx xs.length xs.length hi=xs.length∧Q (.ref a) H):=by
 intro pins s σ H x v vl vu lo hi sl Q I rx hs pl pu h
 obtain ⟨t,xs,rfl,hx,h1,h2,q⟩:=h
 cases rx
 obtain ⟨its,r,ht,hz⟩:=I.tuple hx
 have hlen:its.toArray.size=xs.length:=by rw [List.size_toArray]; exact r.length.symm
 refine ⟨"tuple",_,PyProof.Rows.slot_tuple_getitem.lookup,ht.typeIs,?_⟩
 obtain ⟨os,eo,co,do'⟩:=id hs
 have ty:s.TypeIs (.ref sl) "slice":=⟨os,eo,co⟩
 rw [← hlen] at h1 h2
 unfold getItem
 try with_reducible refine Γg ?_
 first | refine Γa (Γb ?_) | skip
 refine Γa (wpAny_sequenceKey ht.typeIs (by decide) (Γa (wpAny_callSpecial?_slot (name:=Γe "__getitem__") ht.typeIs PyProof.Rows.slot_tuple_getitem (wpAny_call_entry PyProof.Rows.slot_tuple_getitem ht.typeIs entry_tuple_getitem ?_ (args_tuple_getitem _ _)))))
 show wpAny _ _ (Builtin.Tuple.tupleItemsOf (.ref t) >>= _) _ _ s; refine Γa (tupleItemsOf_ ht (Γa (wpAny_typeOf ty ?_)))
 rw [if_pos (by decide)]; refine Γa (HT.sliceApplied_gen hs pl pu ?_)
 show wpAny _ _ (if (((HT.sIx its.toArray.size 0 lo:Nat):Int) == 0 && (1:Int) == 1 && (HT.sIx its.toArray.size its.toArray.size hi - HT.sIx its.toArray.size 0 lo) == its.toArray.size)=true then _ else _) _ _ s
 rw [if_pos (by rw [h1,h2]; simp)]
 refine Γa (m:=Builtin.Tuple.tupleIsExact (.ref t)) ?_
 unfold Builtin.Tuple.tupleIsExact
 refine Γa (wpAny_typeOf ht.typeIs (Γb ?_))
 rw [if_pos (by decide)]
 exact Γa (wpAny_rule (Γb ⟨_,rfl,Γb ⟨.ref t,H,I,rfl,q⟩⟩))
end
def Kept (h0 h:Heap) (N:Nat):Prop:=∀ b o,b < N→h0.get? b=some o→h.get? b=some o
def c6f (P:Program) (w:World) (A:Around) (I:Nat→Value→Prop) (bt:Nat→Nat→Bool) (h0:Heap) (N:Nat):Prop :=
 ∀ i j u v (s:Shared) (Q:Value→Shared→Prop) (E:Value→Shared→Prop),Kept h0 s.heap N→I i u→I j v→Q (.bool (bt i j)) s→wpAny (model P w) A (richCompare .Lt u v) Q E s
section
variable {P:Program} {w:World} {A:Around} {R:Result→Shared→Prop} {it S N:Addr} {fp wr:List Addr} {n:Nat} {V:Nat→Value→Prop} {St:Nat→Heap→Prop} {bt:Nat→Nat→Bool} {h0:Heap}
theorem b3r (W:Walks P w A.in1 it fp wr n V St) (C:c6f P w A.in1 V bt h0 N) (sf:S ∉ fp) (nw:∀ b∈wr,N≤b) (nS:N≤S) :
  ∀ (k j:Nat) (s:Shared) (best:Value) (c:Nat),n - (j + 1)=k→j + 1≤n→St (j + 1) s.heap→V (argBest bt j) best→Kept h0 s.heap N→s.heap.get? S=some { cls:=.type "list",dict:=none,data:=.seq #[best,best] c,slots:=#[] } →
  (∀ v h' tk,V (argBest bt (n - 1)) v→(∀ b o,b ∉ wr→b≠S→s.heap.get? b=some o→h'.get? b=some o)→R (.ok (.ret v)) { s with heap:=h',toks:=tk })→codeAny (model P w) A (.builtin "min.loop" ⟨[.ref it,.none,.ref S],[]⟩) R s:=by
 have sw:S ∉ wr:=fun h=>sf (W.sub _ h)
 have nm:(toString "min"++toString ".loop":String) = "min.loop":=by decide
 have low:∀ {b:Addr},b < N→b ∉ wr∧b≠S:=fun {b} hb=>⟨fun z=>absurd (nw b z) (Nat.not_le.mpr hb),fun z=>absurd nS (by rw [← z]; exact Nat.not_le.mpr hb)⟩
 intro k
 induction k with
 | zero =>
  intro j s best c hk hj hst hV kp hS hR
  have en:j + 1=n:=by lia
  refine codeAny_builtin F.entry_min_loop ?_; rw [Around.under_plainId F.plain_min_loop _]
  show wpAny _ A.in1 (seqItems? (.ref S) >>= _) _ _ s; refine Γa (wpAny_seqItems hS rfl ?_)
  show wpAny _ A.in1 (tryCatch (pyNext (.ref it)) _ >>= _) _ _ s; refine Γa (wpAny_tryCatch (W.done s _ _ (en ▸ hst) fun g tk kk=>?_))
  have S1:=kk S _ sw hS
  show wpAny _ A.in1 (updateSeq S (fun _=>#[]) >>= _) _ _ _; refine Γa (wpAny_updateSeq S1 rfl (Γa (wpAny_letGo (Γb ?_))))
  exact hR best _ tk (by rw [← en]; exact hV) fun b o c1 c2 e=>(Γf _ _ (Ne.symm c2)).trans (kk b o c1 e)
 | succ k ih =>
  intro j s best c hk hj hst hV kp hS hR
  have lt:j + 1 < n:=by lia
  refine codeAny_builtin F.entry_min_loop ?_; rw [Around.under_plainId F.plain_min_loop _]
  show wpAny _ A.in1 (seqItems? (.ref S) >>= _) _ _ s; refine Γa (wpAny_seqItems hS rfl ?_)
  show wpAny _ A.in1 (tryCatch (pyNext (.ref it)) _ >>= _) _ _ s; refine Γa (wpAny_tryCatch (W.item (j + 1) s _ _ lt hst fun v g tk vP st1 kk=>?_))
  have S1:=kk S _ sw hS
  have kp1:Kept h0 g N:=fun b o hb e=>kk b o (low hb).1 (kp b o hb e)
  show wpAny _ A.in1 (tryCatch (holding [v,v] (richCompare .Lt v best >>= _)) _ >>= _) _ _ _
  refine Γa (wpAny_tryCatch (Γg (Γa (C (j + 1) (argBest bt j) v best _ _ _ kp1 vP hV (Γa (Γg (wpAny_truthy_bool (Γa (wpAny_letGo (Γb ?_))))))))))
  cases hb:bt (j + 1) (argBest bt j) with
  | true =>
   simp only [if_true]; refine Γa (wpAny_updateSeq S1 rfl (Γa (wpAny_letGo ?_))); rw [nm]
   refine Γb ⟨plainId_quiet F.plain_min_loop _,ih (j + 1) _ v _ (by lia) lt (W.frame _ _ _ st1 fun b bf o e=>(Γf _ _ (fun h:S=b=>sf (by rw [h]; exact bf))).trans e) (by simp only [argBest,hb,if_true]; exact vP)
    (fun b o l e=>(Γf _ _ (Ne.symm (low l).2)).trans (kp1 b o l e)) (Heap.get?_update_self _ S1 rfl) fun v' g' tk' p' k'=>?_⟩
   exact hR v' g' tk' p' fun b o c1 c2 e=>k' b o c1 c2 ((Γf _ _ (Ne.symm c2)).trans (kk b o c1 e))
  | false =>
   simp only [Γp,if_false]; refine Γa (wpAny_letGo ?_); rw [nm]
   refine Γb ⟨plainId_quiet F.plain_min_loop _,ih (j + 1) _ best c (by lia) lt st1 (by simp only [argBest,hb,Γp,if_false]; exact hV) kp1 S1 fun v' g' tk' p' k'=>?_⟩
   exact hR v' g' tk' p' fun b o c1 c2 e=>k' b o c1 c2 (kk b o c1 e)
theorem b1f (W:Walks P w A.in1 it fp wr n V St) (C:c6f P w A.in1 V bt h0 N) (sf:S ∉ fp) (nw:∀ b∈wr,N≤b) (nS:N≤S) (hn:0 < n) {s:Shared} {c:Nat} (hst:St 0 s.heap) (kp:Kept h0 s.heap N)
  (hS:s.heap.get? S=some { cls:=.type "list",dict:=none,data:=.seq #[] c,slots:=#[] })
  (hR:∀ v h' tk,V (argBest bt (n - 1)) v→(∀ b o,b ∉ wr→b≠S→s.heap.get? b=some o→h'.get? b=some o)→R (.ok (.ret v)) { s with heap:=h',toks:=tk }):codeAny (model P w) A (.builtin "min.loop" ⟨[.ref it,.none,.ref S],[]⟩) R s:=by
 have sw:S ∉ wr:=fun h=>sf (W.sub _ h)
 have nm:(toString "min"++toString ".loop":String) = "min.loop":=by decide
 have low:∀ {b:Addr},b < N→b ∉ wr∧b≠S:=fun {b} hb=>⟨fun z=>absurd (nw b z) (Nat.not_le.mpr hb),fun z=>absurd nS (by rw [← z]; exact Nat.not_le.mpr hb)⟩
 refine codeAny_builtin F.entry_min_loop ?_; rw [Around.under_plainId F.plain_min_loop _]
 show wpAny _ A.in1 (seqItems? (.ref S) >>= _) _ _ s; refine Γa (wpAny_seqItems hS rfl ?_)
 show wpAny _ A.in1 (tryCatch (pyNext (.ref it)) _ >>= _) _ _ s; refine Γa (wpAny_tryCatch (W.item 0 s _ _ hn hst fun v g tk vP st1 kk=>?_))
 have S1:=kk S _ sw hS
 show wpAny _ A.in1 (updateSeq S (fun _=>#[v,v]) >>= _) _ _ _; refine Γa (wpAny_updateSeq S1 rfl ?_); rw [nm]
 refine Γb ⟨plainId_quiet F.plain_min_loop _,b3r W C sf nw nS _ 0 _ v _ rfl hn (W.frame _ _ _ st1 fun b bf o e=>(Γf _ _ (fun h:S=b=>sf (by rw [h]; exact bf))).trans e) vP
  (fun b o l e=>(Γf _ _ (Ne.symm (low l).2)).trans (kk b o (low l).1 (kp b o l e))) (Heap.get?_update_self _ S1 rfl) fun v' g' tk' p' k'=>?_⟩
 exact hR v' g' tk' p' fun b o c1 c2 e=>k' b o c1 c2 ((Γf _ _ (Ne.symm c2)).trans (kk b o c1 e))
end
section
variable {P:Program} {w:World} {A:Around} {E:Value→Shared→Prop} {s:Shared}
theorem b4c {l:Addr} {xs:Array Value} {bt:Nat→Nat→Bool} {Q:Value→Shared→Prop} (hh:A.in1.handled=none) (hl:s.heap.IsList l xs) (hn:0 < xs.size) (C:c6f P w A.in1 (fun i v=>xs[i]?=some v) bt s.heap s.heap.objs.size)
  (K:∀ v h' tk,xs[argBest bt (xs.size - 1)]?=some v→(∀ b o,s.heap.get? b=some o→h'.get? b=some o)→Q v { s with heap:=h',toks:=tk }):wpAny (model P w) A (call (.builtin "min") [.ref l]) Q E s:=by
 have nm:(toString "min"++toString ".loop":String) = "min.loop":=by decide
 have ll:l < s.heap.objs.size:=by obtain ⟨_,e,_⟩:=hl; exact Γl e
 refine call_function_tree F.kind_min F.plain_min F.entry_min (F.args_min1 _) ?_
 show wpAny _ A.in1 (Builtin.Builtins.bindParams "min" ["key","default"] 0 ⟨[],[]⟩ >>= _) _ _ s
 refine Γa (wpAny_of_eq (show Builtin.Builtins.bindParams "min" ["key","default"] 0 ⟨[],[]⟩=pure [none,none] from rfl) (Γa (Γb (Γa (wpAny_pyIter_list hl ?_)))))
 have W:=Walks.list (prog:=P) (w:=w) hh s.heap.objs.size l (Γo ll) xs
 refine Γa (wpAny_newObj_type ?_)
 rw [nm]
 have z1:(s.heap.push { cls:=.type "list_iterator",data:=.fields #[.ref l,.int 0 0] }).objs.size=s.heap.objs.size + 1:=Heap.size_push ..
 refine Γb ⟨plainId_quiet F.plain_min_loop _,b1f (S:=(s.heap.push { cls:=.type "list_iterator",data:=.fields #[.ref l,.int 0 0] }).objs.size) W C ?_ ?_ ?_ hn ⟨⟨_,Γc _ (Γm _ rfl),rfl,rfl⟩,(hl.push _).push _⟩
  (fun b o hb e=>Γc _ (Γc _ e)) (Γm _ rfl) fun v h' tk hv hk=>?_⟩
 ·rw [z1]; intro z; simp only [List.mem_cons,List.not_mem_nil,or_false] at z; rcases z with z | z
  ·exact absurd z (Nat.ne_of_gt (Nat.lt_succ_self _))
  ·exact absurd z (Nat.ne_of_gt (Nat.lt_succ_of_lt ll))
 ·intro b hb; simp at hb; rw [hb]; exact Γi _
 ·rw [z1]; exact Nat.le_succ _
 ·refine K v h' tk hv fun b o e=>hk b o (by simp; exact Γo (Γl e)) ?_ (Γc _ (Γc _ e))
  rw [z1]; exact Γo (Nat.lt_succ_of_lt (Γl e))
end
end L2
end
section
namespace L2
open PySem PySem.Spec PyProof.Rows
section
variable {prog:Program} {w:World} {A:Around} {E:Value→Shared→Prop} {s:Shared}
end
section
variable {X:Cx} {a e k:Expr} {ta te tk:TE} {pos p2:Pos}
end
end L2
end
section
namespace L2
open PySem PySem.Spec PyProof.Rows
def a8q (cells:List (Str×Addr)):List (Str×NameKind)→List (Str×Addr)→List (Str×Addr)
 | [],acc=>acc
 | (n,k) :: r,acc=>if (k == NameKind.free)=true then a8q cells r ((n,(cells.lookup n).getD 0) :: acc) else a8q cells r acc
theorem b3g {env:Env}:∀ (names:List (Str×NameKind)) (acc:List (Str×Addr)),(∀ p∈names,p.2=.free→∃ c,env.cells.lookup p.1=some c) →
  (forIn names acc fun (x:Str×NameKind) (cs:List (Str×Addr))=>if (x.2 == NameKind.free)=true then cellOf env x.1 >>= fun c=>pure (ForInStep.yield ((x.1,c) :: cs)) else pure (ForInStep.yield cs):Sem (List (Str×Addr)))=pure (a8q env.cells names acc)
 | [],acc,_=>rfl
 | (n,k) :: r,acc,h=>by
  have ih:=b3g (env:=env) r
  rw [List.forIn_cons]
  unfold a8q
  by_cases hk:(k == NameKind.free)=true
  ·obtain ⟨c,hc⟩:=h (n,k) Γn (by simpa using hk)
   have hcell:cellOf env n=pure c:=by
    have hc':env.cells.lookup n=some c:=hc
    unfold cellOf; rw [hc']
   have hc':env.cells.lookup n=some c:=hc
   simp only [hk,if_true,hcell,hc',Option.getD_some,pure_bind]
   exact ih _ fun p hp=>h p (Γh _ hp)
  ·simp only [hk,if_false,pure_bind,Γp]
   exact ih _ fun p hp=>h p (Γh _ hp)
theorem a3n {scope:Scope} {env:Env} (h:∀ p∈scope.names,p.2=.free→∃ c,env.cells.lookup p.1=some c):closureFor scope env=pure (a8q env.cells scope.names []):=by
 have q:=b3g (env:=env) scope.names [] h
 unfold closureFor
 first
  | exact (by rw [q]; rfl)
  | (simp only [bind_pure]; exact q)
theorem a3x {cells:List (Str×Addr)} {x:Str} {c:Addr}:∀ (names:List (Str×NameKind)) (acc:List (Str×Addr)),(∀ p∈names,p.2=.free→∃ c,cells.lookup p.1=some c)→(∀ y d,acc.lookup y=some d→cells.lookup y=some d) →
  (a8q cells names acc).lookup x=some c→cells.lookup x=some c
 | [],acc,_,ha,h=>ha x c h
 | (n,k) :: r,acc,hn,ha,h=>by
  unfold a8q at h
  split at h
  ·rename_i hk
   refine a3x r _ (fun p hp=>hn p (Γh _ hp)) (fun y d hy=>?_) h
   rw [List.lookup_cons] at hy
   obtain ⟨c',hc'⟩:=hn (n,k) Γn (by simpa using hk)
   have hc'':cells.lookup n=some c':=hc'
   split at hy
   ·rename_i hyn
    have e:y=n:=by simpa using hyn
    subst e
    rw [hc''] at hy ⊢
    exact hy
   ·exact ha y d hy
  ·exact a3x r _ (fun p hp=>hn p (Γh _ hp)) ha h
theorem a8k {cells:List (Str×Addr)} {x:Str}:∀ (names:List (Str×NameKind)) (acc:List (Str×Addr)),((x,NameKind.free)∈names ∨ ∃ c,acc.lookup x=some c)→∃ c,(a8q cells names acc).lookup x=some c
 | [],acc,h=>by
  rcases h with h | h
  ·simp at h
  ·exact h
 | (n,k) :: r,acc,h=>by
  unfold a8q
  split
  ·refine a8k r _ ?_
   by_cases hx:x=n
   ·subst hx
    exact .inr ⟨(cells.lookup x).getD 0,by rw [List.lookup_cons]; simp⟩
   ·rcases h with h | ⟨c,h⟩
    ·rcases List.mem_cons.mp h with h | h
     ·cases h; exact absurd rfl hx
     ·exact .inl h
    ·refine .inr ⟨c,?_⟩
     rw [List.lookup_cons]
     have:(x == n)=false:=by simpa using hx
     rw [this]
     exact h
  ·rename_i hk
   refine a8k r _ ?_
   rcases h with h | h
   ·rcases List.mem_cons.mp h with h | h
    ·cases h; simp at hk
    ·exact .inl h
   ·exact .inr h
theorem a3d {env : Env} {x : Str} : ∀ {names : List (Str × NameKind)},
    ((names.map fun (n, k) => if (k == NameKind.free && env.scope.kind == .function && env.kindOf n == some .cell) then (n, NameKind.cell) else (n, k)).lookup x = some .cell ∨
     (names.map fun (n, k) => if (k == NameKind.free && env.scope.kind == .function && env.kindOf n == some .cell) then (n, NameKind.cell) else (n, k)).lookup x = some .free) → names.lookup x = some .cell ∨ names.lookup x = some .free
  | [], h => by rcases h with h | h <;> simp at h
  | (n, k) :: r, h => by
    have ih := @a3d env x r
    rw [List.map_cons] at h
    rw [List.lookup_cons]
    by_cases hk : (k == NameKind.free && env.scope.kind == .function && env.kindOf n == some .cell) = true
    · simp only [hk, if_true] at h
      cases hx : x == n with
      | true =>
        have : k = .free := by simp only [Bool.and_eq_true] at hk; simpa using hk.1.1
        exact .inr (by rw [this])
      | false =>
        simp only [List.lookup_cons, hx] at h
        exact ih h
    · simp only [hk, if_false, Γp] at h
      cases hx : x == n with
      | true => simpa only [List.lookup_cons, hx] using h
      | false =>
        simp only [List.lookup_cons, hx] at h
        exact ih h
theorem a0x:∀ (names:List (Str×NameKind)) (b:Nat) (acc:List (Str×Addr)),cellsFrom b names acc=cellsFrom b names []++acc
 | [],_,_=>rfl
 | (n,k) :: r,b,acc=>by
  unfold cellsFrom
  split
  ·rw [a0x r _ ((n,b) :: acc),a0x r _ [(n,b)],List.append_assoc]; rfl
  ·exact a0x r b acc
theorem a3h:∀ (names:List (Str×NameKind)) (b:Nat) {x:Str} {c:Addr},(x,c)∈cellsFrom b names []→(x,NameKind.cell)∈names
 | [],_,_,_,h=>by simp [cellsFrom] at h
 | (n,k) :: r,b,x,c,h=>by
  unfold cellsFrom at h
  split at h
  ·rename_i hk
   rw [a0x] at h
   rcases List.mem_append.mp h with h | h
   ·exact Γh _ (a3h r _ h)
   ·simp at h
    have:k=.cell:=by simpa using hk
    rw [h.1,this]; exact Γn
  ·exact Γh _ (a3h r _ h)
theorem a7x {x:Str} {c:Addr}:∀ {l l':List (Str×Addr)},(l++l').lookup x=some c→l.lookup x=some c ∨ (l.lookup x=none∧l'.lookup x=some c)
 | [],_,h=>.inr ⟨rfl,h⟩
 | (n,d) :: r,l',h=>by
  rw [List.cons_append,List.lookup_cons] at h
  rw [List.lookup_cons]
  cases hx:x == n with
  | true=>rw [hx] at h; exact .inl h
  | false=>rw [hx] at h; exact a7x h
theorem b6m {x:Str}:∀ {l l':List (Str×Addr)},((∃ c,l.lookup x=some c) ∨ ∃ c,l'.lookup x=some c)→∃ c,(l++l').lookup x=some c
 | [],_,h=>by
  rcases h with ⟨c,h⟩ | h
  ·cases h
  ·exact h
 | (n,d) :: r,l',h=>by
  rw [List.cons_append,List.lookup_cons]
  cases hx:x == n with
  | true=>exact ⟨d,rfl⟩
  | false =>
   refine b6m ?_
   rcases h with ⟨c,h⟩ | h
   ·rw [List.lookup_cons,hx] at h; exact .inl ⟨c,h⟩
   ·exact .inr h
theorem a4s {M:Model} {A:Around} {E:Value→Shared→Prop} {s:Shared} {scope:Scope} {globals:Addr} {cl:List (Str×Addr)} {qual:Str} {env:Env} {Q:Env→Shared→Prop}
  (hQ:∀ h4:Heap,h4.Ns s.heap.objs.size (fun _=>none)→(∀ b o,s.heap.get? b=some o→h4.get? b=some o)→CellsOk h4 (s.heap.objs.size + 1) (cellsFrom (s.heap.objs.size + 1) scope.names []) →
   Q (newEnv scope s.heap.objs.size globals (cellsFrom (s.heap.objs.size + 1) scope.names cl) qual none .none (some env) builtinsNs) { s with heap:=h4,toks:=s.toks + ([]:List (Str×Value)).length }) :
  wpAny M A (newFunctionEnv scope globals cl [] qual none .none (some env)) Q E s:=by
 simp only [newFunctionEnv,Option.isSome_some,if_true]
 refine Γa (wpAny_alloc ?_)
 refine Γa (wpAny_layCells _ (fun name kind cells=>by cases hkc:kind == NameKind.cell <;> simp [hkc]) _ _ _ _ ?_)
 have ok:=cellsFrom_ok scope.names (s.heap.push { cls:=.type "dict",data:=.dict #[] }) (s.heap.objs.size + 1) [] ⟨fun _ _ hm=>(nomatch hm),List.Pairwise.nil⟩ (by rw [Heap.size_push]; exact Γi _)
 rw [Heap.size_push] at ok
 rw [show ({ s with heap:=s.heap.push { cls:=.type "dict",data:=.dict #[] } }:Shared).heap.objs.size=s.heap.objs.size + 1 from Heap.size_push ..]
 simp only [List.forIn_nil]
 exact Γa (Γb (Γb (hQ _ ((Heap.Ns.new s.heap (.type "dict")).keeps (pushCells_keeps _ _)) (fun b o e=>pushCells_keeps _ _ b o (Γc _ e)) ok)))
def d1p (x:Str):Str:=Γe "#"++x
def a7u (own:List Str) (x:Str):Str:=if own.contains x then d1p x else x
def cxC (X:Cx) (scope:Scope) (own:List Str) (fp:List Addr) (C:Addr) (s:Shared) (H:Hp):Cx :=
 { X with N:=X.N.map (a7u own)++own,s₀:=s,H₀:=H,env:=compEnvC scope (cellsFrom (C + 1) scope.names (a8q X.env.cells scope.names [])) C X.env,outer:=X.stack,stack:=X.stack,ex:=fp,fn:=fun x=>scope.names.lookup x == some .cell,pn:=[],xe:=fun _ _=>False }
structure CScope (X:Cx) (scope:Scope) (own:List Str):Prop where
 kind:scope.kind=.function
 nocell:∀ p∈scope.names,p.2=.cell→scope.names.lookup p.1=some .cell
 names:∀ p∈scope.names,p.2=.local→scope.names.lookup p.1=some .local
 free:∀ p∈scope.names,p.2=.free→X.env.kindOf p.1=some .cell ∨ X.env.kindOf p.1=some .free
 apart:∀ x∈X.N,own.contains x=false→scope.names.lookup x≠some .local∧scope.names.lookup x≠some .cell
 hid:∀ x∈X.N,own.contains x=true→scope.names.lookup (d1p x)=none
section
variable {X:Cx}
theorem a6v {names:List (Str×NameKind)} {x:Str} {k:NameKind} (h:names.lookup x=some k):(x,k)∈names:=PySem.mem_of_lookup h
theorem a4a {env:Env} {x:Str}:∀ {names:List (Str×NameKind)},
  (names.map fun (n,k)=>if (k == NameKind.free && env.scope.kind == .function && env.kindOf n == some .cell) then (n,NameKind.cell) else (n,k)).lookup x=some .local→names.lookup x=some .local
 | [],h=>by simp at h
 | (n,k) :: r,h=>by
  have ih:=@a4a env x r
  rw [List.map_cons] at h
  rw [List.lookup_cons]
  by_cases hk:(k == NameKind.free && env.scope.kind == .function && env.kindOf n == some .cell)=true
  ·simp only [hk,if_true] at h
   cases hx:x == n with
   | true=>simp [List.lookup_cons,hx] at h
   | false =>
    simp only [List.lookup_cons,hx] at h
    exact ih h
  ·simp only [hk,if_false,Γp] at h
   cases hx:x == n with
   | true=>simpa [List.lookup_cons,hx] using h
   | false =>
    simp only [List.lookup_cons,hx] at h
    exact ih h
theorem a8v {env:Env} {scope:Scope} {x:Str} (h:scope.names.lookup x=none):(relabel scope env).names.lookup x=none:=by
 unfold relabel
 simp only
 generalize scope.names=l at h
 induction l with
 | nil=>rfl
 | cons p r ih =>
  obtain ⟨n,k⟩:=p
  rw [List.lookup_cons] at h
  cases e:(x == n) with
  | true=>rw [e] at h; cases h
  | false =>
   rw [e] at h
   rw [List.map_cons]
   split
   ·rw [List.lookup_cons,e]; exact ih h
   ·rw [List.lookup_cons,e]; exact ih h
theorem b2u {scope:Scope} {own:List Str} {fp:List Addr} {pins:List (Addr×Obj)} {σ:St} {H:Hp} {s:Shared} {h4:Heap} {t4:Nat} (I:Inv X pins σ H s) (SC:CScope X scope own) (hc:X.calm=true)
  (hf:∀ b∈fp,b1w X pins H b) (hfo:∀ b∈fp,∃ o,s.heap.get? b=some o)
  (hns:h4.Ns s.heap.objs.size (fun _=>none)) (hk:∀ b o,s.heap.get? b=some o→h4.get? b=some o) (ok:CellsOk h4 (s.heap.objs.size + 1) (cellsFrom (s.heap.objs.size + 1) scope.names [])) :
  Inv (cxC X scope own fp s.heap.objs.size s H) [] (σ++Γj own.length none) H { s with heap:=h4,toks:=t4 }:=by
 have fr:∀ p∈scope.names,p.2=.free→∃ c,X.env.cells.lookup p.1=some c:=fun p hp hq=>I.ok.has p.1 (SC.free p hp hq)
 have cl0:∀ {x:Str} {c:Addr},(a8q X.env.cells scope.names []).lookup x=some c→X.env.cells.lookup x=some c:=fun h=>a3x scope.names [] fr (fun y d hy=>by simp at hy) h
 have cl:∀ {x:Str} {c:Addr},(cellsFrom (s.heap.objs.size + 1) scope.names (a8q X.env.cells scope.names [])).lookup x=some c→((x,c)∈cellsFrom (s.heap.objs.size + 1) scope.names []∧s.heap.objs.size + 1≤c) ∨ X.env.cells.lookup x=some c:=fun h=>by
  rw [a0x] at h
  rcases a7x h with z | z
  ·exact .inl ⟨PySem.mem_of_lookup z,(ok.empty _ _ (PySem.mem_of_lookup z)).2⟩
  ·exact .inr (cl0 z.2)
 have hasC:∀ {x:Str},(scope.names.lookup x=some .cell ∨ scope.names.lookup x=some .free)→∃ c,(cellsFrom (s.heap.objs.size + 1) scope.names (a8q X.env.cells scope.names [])).lookup x=some c:=fun {x} h=>by
  rw [a0x]
  refine b6m ?_
  rcases h with h | h
  ·exact .inl (Option.isSome_iff_exists.mp (PySem.W.cellsFrom_some _ _ _ (.inl h)))
  ·exact .inr (a8k scope.names [] (.inl (a6v h)))
 have clt:∀ {x:Str} {c:Addr},X.env.cells.lookup x=some c→c < s.heap.objs.size:=fun h=>by obtain ⟨v,q⟩:=I.cell _ _ h; exact q.lt
 refine ⟨⟨I.ok.mod,SC.kind,I.ok.glob,I.ok.blt,Γi _,fun x y c h1 h2=>?_,fun x hx=>?_,fun x c hf' h=>?_,fun _=>I.ok.hd hc,I.ok.frames,.inl rfl,fun b hb=>?_,
   fun b o e=>I.bs b o e,Nat.le_trans I.ok.bsz I.sz,fun b o e hb=>?_,fun b hb hz=>?_,I.stack,I.stkFree⟩,
  rfl,I.bare,Un.kept hk,⟨_,hns,fun i x v e1 e2 e3=>?_⟩,fun x c h=>?_,I.fresh,fun x c h=>(cl h).elim (fun z=>I.hok.fresh (by lia)) (I.freeC x c),fun p hp=>absurd (show p∈([]:List (Addr×Obj)) from hp) (by simp),I.hok.kept hk,?_⟩
 ·rcases cl h1 with z1 | z1 <;> rcases cl h2 with z2 | z2
  ·exact name_of_addr ok.apart z1.1 z2.1
  ·exact absurd (clt z2) (Nat.not_lt.mpr (Nat.le_of_succ_le z1.2))
  ·exact absurd (clt z1) (Nat.not_lt.mpr (Nat.le_of_succ_le z2.2))
  ·exact I.ok.inj x y c z1 z2
 ·have hx:(relabel scope X.env).names.lookup x=some .cell ∨ (relabel scope X.env).names.lookup x=some .free:=hx
  exact hasC (a3d hx)
 ·have hf':(scope.names.lookup x == some .cell)=true:=hf'
  have h:(cellsFrom (s.heap.objs.size + 1) scope.names (a8q X.env.cells scope.names [])).lookup x=some c:=h
  obtain ⟨c',hc'⟩:=Option.isSome_iff_exists.mp (PySem.W.cellsFrom_some scope.names (s.heap.objs.size + 1) [] (.inl (by simpa using hf')))
  rw [a0x] at h
  rcases a7x h with z | z
  ·have:=(ok.empty _ _ (PySem.mem_of_lookup z)).2
   show s.heap.objs.size≤c
   lia
  ·rw [hc'] at z; cases z.1
 ·have hb:b∈fp:=hb
  obtain ⟨o,ho⟩:=hfo b hb
  exact ⟨Γo (Γl ho),fun x c h=>(cl h).elim (fun z e=>absurd (e ▸ Γl ho:c < s.heap.objs.size) (Nat.not_lt.mpr (Nat.le_of_succ_le z.2))) ((hf b hb).2.2.2.2.1 x c)⟩
 ·have hb:b∈fp:=hb
  have e:X.base.get? b=some o:=e
  rcases (hf b hb).2.2.2.1 with z | z
  ·exact I.ok.noex b o e z
  ·exact absurd (Nat.lt_of_lt_of_le (Γl e) (Nat.le_trans I.ok.bsz z)) (Nat.lt_irrefl _)
 ·have hb:b∈fp:=hb
  have hz:b∈frs X.stack:=hz
  rcases List.mem_cons.mp (I.stkSub b hz) with z | z
  ·exact (hf b hb).2.1 z
  ·exact (hf b hb).2.2.1 z
 ·have e1:(X.N.map (a7u own)++own)[i]?=some x:=e1
  have e3:Vis (relabel scope X.env) x:=e3
  have hi:i < σ.length:=by
   by_cases hi:i < σ.length
   ·exact hi
   ·rw [List.getElem?_append_right (by lia),List.getElem?_replicate] at e2
    split at e2 <;> cases e2
  rw [List.getElem?_append_left hi] at e2
  rw [List.getElem?_append_left (by rw [List.length_map,← I.len]; exact hi),List.getElem?_map] at e1
  obtain ⟨y,e1,ey⟩:=Option.map_eq_some_iff.mp e1
  have hny:own.contains y=false:=by
   cases hy:own.contains y with
   | false=>rfl
   | true =>
    exfalso
    have hh:=SC.hid y (List.mem_of_getElem? e1) hy
    have ex:x=d1p y:=by rw [← ey]; unfold a7u; rw [if_pos hy]
    rw [← ex] at hh
    have e4:(relabel scope X.env).names.lookup x=none:=a8v hh
    rcases e3 with z | z | z <;> (rw [e4] at z; cases z)
  have ex:x=y:=by rw [← ey]; unfold a7u; rw [if_neg (by rw [hny]; exact Γk)]
  rw [← ex] at e1 hny
  have hnl:(relabel scope X.env).names.lookup x≠some .local:=fun z=>(SC.apart x (List.mem_of_getElem? e1) hny).1 (a4a z)
  have hv:(relabel scope X.env).names.lookup x=some .cell ∨ (relabel scope X.env).names.lookup x=some .free:=by
   rcases e3 with z | z | z
   ·exact absurd z hnl
   ·exact .inl z
   ·exact .inr z
  have hfr:scope.names.lookup x=some .free:=(a3d hv).resolve_left (SC.apart x (List.mem_of_getElem? e1) hny).2
  have hm:=a6v hfr
  have hkx:=SC.free (x,.free) hm rfl
  obtain ⟨m,hn,hl⟩:=I.loc
  have hkx':X.env.scope.names.lookup x=some .cell ∨ X.env.scope.names.lookup x=some .free:=hkx
  obtain ⟨u,r,l⟩:=hl i x v e1 e2 (hkx'.elim (fun z=>.inr (.inl z)) fun z=>.inr (.inr z))
  refine ⟨u,r,.inr ⟨hv,?_⟩⟩
  obtain ⟨c,hcl⟩:=hasC (.inr hfr)
  refine ⟨c,hcl,?_⟩
  rcases l with ⟨z,_⟩ | ⟨z,c',hc',q⟩
  ·rcases hkx with y | y <;> (rw [z] at y; cases y)
  ·rcases cl hcl with y | y
   ·have:=SC.nocell _ (a3h _ _ y.1) rfl
    rw [hfr] at this; cases this
   ·rw [hc'] at y; cases y
    obtain ⟨o,ho,hd⟩:=q
    exact ⟨o,hk _ _ ho,hd⟩
 ·rcases cl h with z | z
  ·exact ⟨_,(ok.empty _ _ z.1).1⟩
  obtain ⟨v,o,ho,hd⟩:=I.cell x c z
  exact ⟨v,o,hk _ _ ho,hd⟩
 ·show (σ++Γj own.length none).length=(X.N.map (a7u own)++own).length
  rw [List.length_append,List.length_append,List.length_map,List.length_replicate,I.len]
end
def a7g (ifs:List Expr) (env:Env):Sem Bool :=
 forIn ifs true fun c r=>if r=true then do let ok ← isTrue c env (eval c env); pure (ForInStep.yield ok) else pure (ForInStep.yield r)
def PTs (X:Cx) (ifs:List Expr) (t:TT):Prop :=
 ∀ (pins:List (Addr×Obj)) (s:Shared) (σ:St) (H:Hp) (Q:Bool→Hp→Prop),Inv X pins σ H s→t σ H Q→wpAny (model X.prog X.w) X.A (a7g ifs X.env) (TP X pins σ Q) X.xe s
theorem a5j {M:Model} {A:Around} {E:Value→Shared→Prop} {env:Env} {Q:Bool→Shared→Prop} {s:Shared} (h:Q false s):∀ ifs:List Expr,
  wpAny M A (forIn ifs false fun c r=>if r=true then do let ok ← isTrue c env (eval c env); pure (ForInStep.yield ok) else pure (ForInStep.yield r)) Q E s
 | []=>Γb h
 | c :: r=>by
  rw [List.forIn_cons]
  simp only [Γp,if_false]
  exact Γa (Γb (a5j h r))
section
variable {X:Cx}
def d2r:TT:=fun _ H Q=>Q true H
theorem b5f:PTs X [] d2r:=fun _ _ _ H _ I h=>Γb ⟨H,I,h⟩
theorem b9x {c:Expr} {r:List Expr} {t u:TT} (h1:PT X c t) (h2:PTs X r u):PTs X (c :: r) (fun σ H Q=>t σ H fun b H1=>if b=true then u σ H1 Q else Q false H1):=by
 intro pins s σ H Q I h
 unfold a7g
 rw [List.forIn_cons]
 simp only [if_true]
 refine Γa (Γa (thn (h1 pins s σ H _ I h) fun b s1 ⟨H1,I1,q1⟩=>Γb ?_))
 cases b with
 | true =>
  rw [if_pos rfl] at q1
  exact h2 pins s1 σ H1 Q I1 q1
 | false =>
  rw [if_neg Γk] at q1
  exact a5j ⟨H1,I1,q1⟩ r
end
section
variable {prog:Program} {w:World} {A:Around} {R:Result→Shared→Prop} {s:Shared}
theorem b4a {elt target iter:Expr} {ifs:List Expr} {scope:Scope} {pos:Pos} {it acc:Value} {env:Env} (I:Nat→Shared→Prop)
  (turn:∀ n s,I n s→wpAny (model prog w) A (pyNext it) (fun r s1=>match r with
   | none=>R (.ok .next) s1
   | some v=>wpAny (model prog w) A (letOwnedTupleGo target it v) (fun _ s2=>wpAny (model prog w) A (assign target env v) (fun _ s3=>wpAny (model prog w) A (a7g ifs env) (fun ok s4 =>
     if ok=true then wpAny (model prog w) A (eval elt env) (fun x s5=>wpAny (model prog w) A (call (.builtin "list.append") [acc,x]) (fun _ s6=>∃ m,m < n∧I m s6) (fun _ _=>False) s5) (fun _ _=>False) s4
     else ∃ m,m < n∧I m s4) (fun _ _=>False) s3) (fun _ _=>False) s2) (fun _ _=>False) s1) (fun _ _=>False) s)
  (n:Nat) (h:I n s):codeAny (model prog w) A (.compLoop (.ListComp elt [⟨target,iter,ifs,0⟩] scope pos) 0 it acc env) R s:=by
 refine codeAny_loop rfl I (fun n s hI=>?_) n h
 show wpAny _ A ((compTurn (.ListComp elt [⟨target,iter,ifs,0⟩] scope pos) 0 it acc env).onRaise (fun x=>do noteFrame x env; theTreesLotGoes x)) _ _ s
 refine wpAny_noted ?_
 rw [compTurn_list]
 have no:∀ (e:Value) (s':Shared),(fun (_:Value) (_:Shared)=>False) e s'→notedBy (model prog w) A env (fun e s'=>R (.error e) s') e s':=fun _ _ z=>z.elim
 refine Γa (wpAny_standAt (Γa (wpAny_mono (turn n s hI) (fun r s1 h1=>?_) no)))
 cases r with
 | none=>exact Γb h1
 | some v =>
  refine Γa (wpAny_mono h1 (fun _ s2 h2=>Γa (wpAny_mono h2 (fun _ s3 h3=>Γa (wpAny_mono h3 (fun ok s4 h4=>?_) no)) no)) no)
  cases ok with
  | true =>
   rw [if_pos rfl] at h4
   simp only [if_true]
   exact Γa (Γa (wpAny_mono h4 (fun x s5 h5=>Γa (wpAny_mono h5 (fun _ s6 h6=>Γb (Γb ⟨rfl,h6⟩)) no)) no))
  | false =>
   rw [if_neg Γk] at h4
   simp only [Γp,if_false]
   first
    | exact Γb ⟨rfl,h4⟩
    | exact Γa (Γb (Γb ⟨rfl,h4⟩))
end
def Wk (σ σ2:St):Prop:=σ2.length=σ.length∧∀ (j:Nat) (v:V),σ[j]?=some (some v)→σ2[j]?=some (some v)
def b9i (wi:TI) (g:TG) (tt:TT) (te:TE) (own:Nat):TE:=fun σ H Q=>wi σ H fun J H1=>∀ acc,H1 acc=none→∃ W:Nat→Nat→Hp→Prop,(∃ m,W 0 m (upd H1 acc (.lst [])))∧∀ i m H,W i m H →
 (J.stop i H∧Q (.ref acc) H) ∨ (J.go i H∧∀ x H',J.yld i H x H'→g x (σ++Γj own none) H' fun σ2 H2=>Wk (σ++Γj own none) σ2∧tt σ2 H2 fun b H3 =>
  if b=true then te σ2 H3 fun v H4=>∃ ys,H4 acc=some (.lst ys)∧ys.length < sizeLine∧∃ m',m' < m∧W (i + 1) m' (upd H4 acc (.lst (ys++[v]))) else ∃ m',m' < m∧W (i + 1) m' H3)
section
variable {X:Cx} {elt tg iter:Expr} {ifs:List Expr} {scope:Scope} {own:List Str} {pos:Pos} {wi:TI} {g:TG} {tt:TT} {te:TE}
theorem b3e {pins:List (Addr×Obj)} {σ:St} {H2:Hp} {s2:Shared} {Q:VK} {it:Addr} {fp:List Addr} {tn:Nat→Heap→Prop} {J:It} {RR:Value→Addr→Result→Shared→Prop}
  (hc:X.calm=true) (SC:CScope X scope own)
  (hblock:∀ C s H,PG (cxC X scope own fp C s H) tg g∧PTs (cxC X scope own fp C s H) ifs tt∧PE (cxC X scope own fp C s H) elt te)
  (I2:Inv X pins σ H2 s2) (T:Turn X.prog X.w X.K tg J fp it tn) (st2:tn 0 s2.heap) (f2:∀ b∈fp,b1w X pins H2 b)
  (h:∀ acc,H2 acc=none→∃ W:Nat→Nat→Hp→Prop,(∃ m,W 0 m (upd H2 acc (.lst [])))∧∀ i m H,W i m H →
   (J.stop i H∧Q (.ref acc) H) ∨ (J.go i H∧∀ x H',J.yld i H x H'→g x (σ++Γj own.length none) H' fun σ2 H2=>Wk (σ++Γj own.length none) σ2∧tt σ2 H2 fun b H3 =>
    if b=true then te σ2 H3 fun v H4=>∃ ys,H4 acc=some (.lst ys)∧ys.length < sizeLine∧∃ m',m' < m∧W (i + 1) m' (upd H4 acc (.lst (ys++[v]))) else ∃ m',m' < m∧W (i + 1) m' H3))
  (hRR:∀ acc C H' m s',Inv X pins σ H' s'→s'.heap.Ns C m→C≠X.env.locals→(∀ x c,X.env.cells.lookup x=some c→c≠C)→s2.heap.objs.size≤C→H' C=none→Q (.ref acc) H'→RR (.ref acc) C (.ok .next) s') {E:Value→Shared→Prop} :
  wpAny (model X.prog X.w) X.A (newList []) (fun acc s3=>wpAny (model X.prog X.w) X.A (newFunctionEnv scope X.env.globals (a8q X.env.cells scope.names []) [] X.env.qual none .none (some X.env)) (fun cenv s4 =>
   codeAny (model X.prog X.w) X.A (.compStart (.ListComp elt [⟨tg,iter,ifs,0⟩] scope pos) 0 (.ref it) acc { cenv with scope:=relabel scope X.env }) (RR acc cenv.locals) s4) E s3) E s2:=by
 have hacc:=I2.fresh
 have I3:Inv X pins σ (upd H2 s2.heap.objs.size (.lst [])) { s2 with heap:=s2.heap.push { cls:=.type "list",data:=.seq ([]:List Value).toArray },toks:=s2.toks }:=I2.lnew .nil (Nat.zero_le _)
 refine wpAny_newObj_type ?_
 obtain ⟨W,⟨m0,w0⟩,turn⟩:=h _ hacc
 generalize hs3:({ s2 with heap:=s2.heap.push { cls:=.type "list",data:=.seq ([]:List Value).toArray },toks:=s2.toks }:Shared)=s3 at I3
 have keep23:∀ b o,s2.heap.get? b=some o→s3.heap.get? b=some o:=fun b o e=>by rw [← hs3]; exact Γc _ e
 have hf3:∀ b∈fp,b1w X pins (upd H2 s2.heap.objs.size (.lst [])) b:=fun b hb=>by
  obtain ⟨o,ho,_⟩:=T.obj _ _ st2 b hb
  exact ⟨by rw [a0d (Γo (Γl ho))]; exact (f2 b hb).1,(f2 b hb).2⟩
 have st3:tn 0 s3.heap:=T.keep _ _ _ st2 fun b hb o e=>keep23 b o e
 refine a4s fun h4 hns' keep34 ok34=>?_
 have I4:=b2u (t4:=s3.toks + ([]:List (Str×Value)).length) I3 SC hc hf3 (fun b hb=>by obtain ⟨o,ho,_⟩:=T.obj _ _ st3 b hb; exact ⟨o,ho⟩) hns' keep34 ok34
 have st4:tn 0 h4:=T.keep _ _ _ st3 fun b hb o e=>keep34 b o e
 obtain ⟨hg,ht,he⟩:=hblock s3.heap.objs.size s3 (upd H2 s2.heap.objs.size (.lst []))
 have e5:(cxC X scope own fp s3.heap.objs.size s3 (upd H2 s2.heap.objs.size (.lst []))).env=compEnvC scope (cellsFrom (s3.heap.objs.size + 1) scope.names (a8q X.env.cells scope.names [])) s3.heap.objs.size X.env:=rfl
 generalize hY:cxC X scope own fp s3.heap.objs.size s3 (upd H2 s2.heap.objs.size (.lst []))=Y at hg ht he I4 e5
 have fpY:∀ {H':Hp},(∀ b∈fp,H' b=none)→∀ b∈fp,b1w Y [] H' b:=fun hn b hb=>by
  obtain ⟨o,ho,_⟩:=T.obj _ _ st3 b hb
  refine ⟨hn b hb,?_,?_,?_,?_,?_⟩
  ·rw [← hY]; exact Γo (Γl ho)
  ·have:=I4.ok.exfs b (by rw [← hY]; exact hb)
   exact this
  ·exact .inl (by rw [← hY]; exact hb)
  ·exact fun x c h=>(I4.ok.exf b (by rw [← hY]; exact hb)).2 x c h
  ·intro p hp; rw [← hY] at hp; exact absurd (show p∈([]:List (Addr×Obj)) from hp) (by simp)
 have hYp:Y.prog=X.prog∧Y.w=X.w∧Y.K=X.K∧Y.calm=true∧Y.A=X.A∧Y.xe=(fun _ _=>False)∧Y.s₀=s3∧Y.H₀=upd H2 s2.heap.objs.size (.lst [])∧Y.outer=X.stack∧Y.ex=fp:=by rw [← hY]; exact ⟨rfl,rfl,rfl,hc,rfl,rfl,rfl,rfl,rfl,rfl⟩
 obtain ⟨y1,y2,y3,y4,y5,y6,y7,y8,y9,y10⟩:=hYp
 have loop:∀ s5:Shared,s5 = { s3 with heap:=h4,toks:=s3.toks + ([]:List (Str×Value)).length } →
   codeAny (model X.prog X.w) X.A (.compLoop (.ListComp elt [⟨tg,iter,ifs,0⟩] scope pos) 0 (.ref it) (.ref s2.heap.objs.size) Y.env) (RR (.ref s2.heap.objs.size) s3.heap.objs.size) s5:=by
  rintro s5 rfl
  refine b4a (fun n s'=>∃ i H',Inv Y [] (σ++Γj own.length none) H' s'∧tn i s'.heap∧(∀ b∈fp,H' b=none)∧W i n H') ?_ m0 ⟨0,_,I4,st4,fun b hb=>(hf3 b hb).1,w0⟩
  rintro n s6 ⟨i,H6,I6,st6,fr6,w6⟩
  rcases turn i n H6 w6 with ⟨stop,q⟩ | ⟨go,step⟩
  ·have d:=T.done Y y1 y2 y3 y4 i [] s6 _ H6 (fun _ _=>False) I6 (fpY fr6) st6 stop
   rw [y5] at d
   refine thn d fun r s7 ⟨hr,I7⟩=>?_
   subst hr
   obtain ⟨m,hn,_⟩:=I7.loc
   have hL:Y.env.locals=s3.heap.objs.size:=by rw [e5]; rfl
   rw [hL] at hn
   have b7:=I7.base
   rw [y7,y8,y10] at b7
   have b7':Un (frs X.stack) fp (upd H2 s2.heap.objs.size (.lst [])) H6 s3.heap s7.heap:=by
    have z:Y.fs=frs X.stack:=by show frs Y.outer=_; rw [y9]
    rw [z] at b7
    exact b7
   have hok7:=I7.hok
   rw [y1,y2] at hok7
   have os7:=I7.os
   rw [y7] at os7
   have I8:Inv X pins σ H6 s7:=I3.call' os7 b7' hok7 I7.bare fun b hb=>⟨(hf3 b hb).2.2.2.1,(hf3 b hb).2.1,(hf3 b hb).2.2.2.2.1,(hf3 b hb).2.2.2.2.2⟩
   have hfree:=I7.free
   rw [hL] at hfree
   refine hRR _ _ H6 m s7 I8 hn (Nat.ne_of_gt I3.lt) (fun x c h z=>?_) ?_ hfree q
   ·obtain ⟨v,y⟩:=I3.cell x c h
    exact absurd y.lt (by rw [z]; exact Nat.lt_irrefl _)
   ·rw [← hs3,Heap.size_push]; exact Nat.le_succ _
  ·have d:=T.item Y y1 y2 y3 y4 i [] s6 _ H6 (fun _ _=>False) I6 (fpY fr6) st6 go
   rw [y5] at d
   refine thn d fun r s7 ⟨u,hr,h7⟩=>?_
   subst hr
   refine thn h7 fun _ s8 ⟨x,H8,I8,r8,y8',st8,fr8⟩=>?_
   have I8':=I8.pinned (fpY fr8) (T.obj _ _ st8)
   have pinK:∀ {σ':St} {H':Hp} {s':Shared},Inv Y ([]++a5m fp s8.heap) σ' H' s'→tn (i + 1) s'.heap∧∀ b∈fp,H' b=none:=fun {σ' H' s'} I' =>
    ⟨T.keep _ _ _ st8 fun b hb o e=>(I'.pin (b,o) (List.mem_append_right _ (List.mem_append_right _ (a2f hb e)))).1,fun b hb=>by
     obtain ⟨o,e,_⟩:=T.obj _ _ st8 b hb
     exact (I'.pin (b,o) (List.mem_append_right _ (List.mem_append_right _ (a2f hb e)))).2.1⟩
   have dg:=hg _ s8 _ H8 x u _ I8' r8 (step x H8 y8')
   rw [y1,y2,y5,y6] at dg
   refine thn dg fun _ s9 ⟨σ9,H9,I9,wk,q9⟩=>?_
   have dt:=ht _ s9 σ9 H9 _ I9 q9
   rw [y1,y2,y5,y6] at dt
   refine thn dt fun ok s10 ⟨H10,I10,q10⟩=>?_
   cases ok with
   | true =>
    rw [if_pos rfl] at q10 ⊢
    have de:=he _ s10 σ9 H10 _ I10 q10
    rw [y1,y2,y5,y6] at de
    refine thn de fun y s11 ⟨v11,H11,I11,r11,ys,hys,hz,m',hm,w11⟩=>?_
    have da:=a4e (X:=Y) _ s11 σ9 H11 (.ref s2.heap.objs.size) [v11] (.ref s2.heap.objs.size) [y] (fun _ H'=>H'=upd H11 s2.heap.objs.size (.lst (ys++[v11]))) I11 rfl (.cons r11 .nil) ⟨_,ys,v11,rfl,rfl,hys,hz,rfl⟩
    rw [y1,y2,y5,y6] at da
    refine thn da fun _ s12 ⟨v12,H12,I12,r12,e12⟩=>?_
    subst e12
    obtain ⟨t12,f12⟩:=pinK I12
    exact ⟨m',hm,i + 1,_,(I12.unpinned).weak wk.1.symm wk.2,t12,f12,w11⟩
   | false =>
    rw [if_neg Γk] at q10 ⊢
    obtain ⟨m',hm,w10⟩:=q10
    obtain ⟨t10,f10⟩:=pinK I10
    exact ⟨m',hm,i + 1,_,(I10.unpinned).weak wk.1.symm wk.2,t10,f10,w10⟩
 rw [e5] at loop
 exact codeAny_compStart_list (loop _ rfl) (T.self _ 0 _ _ _ st4 (loop _ rfl))
theorem b0w (hc:X.calm=true) (SC:CScope X scope own) (hi:PI X.nox tg iter wi)
  (hblock:∀ fp C s H,PG (cxC X scope own fp C s H) tg g∧PTs (cxC X scope own fp C s H) ifs tt∧PE (cxC X scope own fp C s H) elt te)
  (hs:∀ x,foldedSetIterable iter X.env x=pure x:=by intro _; rfl) :
  PE X.nox (.ListComp elt [⟨tg,iter,ifs,0⟩] scope pos) (b9i wi g tt te own.length):=by
 intro pins s σ H Q I h
 have fr:∀ p∈scope.names,p.2=.free→∃ c,X.env.cells.lookup p.1=some c:=fun p hp hq=>I.ok.has p.1 (SC.free p hp hq)
 rw [eval_ListComp]
 refine wpAny_comprehension_free (use:=none) rfl hs (a3n fr) SC.kind SC.names (thn (hi pins s σ H _ I h) fun v s1 h1=>thn h1 fun itv s2 h2=>?_)
 obtain ⟨it,fp,tn,J,H2,e,I2,T,st2,f2,h2⟩:=h2
 subst e
 refine b3e (X:=X.nox) (own:=own) (RR:=fun acc C=>compPost (model X.prog X.w) X.A (fun _ _=>False) none (EP X.nox pins σ Q) acc C) hc ⟨SC.kind,SC.nocell,SC.names,SC.free,SC.apart,SC.hid⟩ (fun C s H=>hblock fp C s H) I2 T st2 f2 h2 ?_
 intro acc C H' m s' I' hn hL hcl hC hH q
 obtain ⟨f0,f1,f2',f3,f4,f5⟩:=I2.fpOk hC hH
 refine ⟨m,hn,fun h' hsb=>⟨.ref acc,H',?_,rfl,q⟩⟩
 exact I'.turned (t':=s'.toks) (fun b o hb e=>(hsb.2 b hb).trans e) f0 f1 f3 f4 f5
theorem a6t {i:Nat} {x:Str} {px:Pos} {spos:Pos} (hc:X.calm=true) (SC:CScope X scope own) (hN:X.N.Nodup) (hx:X.N[i]?=some x) (hl:X.env.scope.names.lookup x=some .local) (hi:PI X.nox tg iter wi)
  (hblock:∀ fp C s H,PG (cxC X scope own fp C s H) tg g∧PTs (cxC X scope own fp C s H) ifs tt∧PE (cxC X scope own fp C s H) elt te)
  (hsw:swapsWith (.ListComp elt [⟨tg,iter,ifs,0⟩] scope pos) (some (.Name x px)) spos.line X.env=pure true)
  (hs:∀ x,foldedSetIterable iter X.env x=pure x:=by intro _; rfl) :
  PS X.nox (.Assign [.Name x px] (.ListComp elt [⟨tg,iter,ifs,0⟩] scope pos) spos) (b8x (b9i wi g tt te own.length) (a4i i)):=by
 intro pins s σ H D I h
 have fr:∀ p∈scope.names,p.2=.free→∃ c,X.env.cells.lookup p.1=some c:=fun p hp hq=>I.ok.has p.1 (SC.free p hp hq)
 show wpAny (model X.prog X.w) X.A (exec _ X.env) _ _ s
 rw [exec_Assign_Name_used _ _ _ _ hsw]
 refine Γa (wpAny_standAt (Γa ?_))
 show wpAny _ X.A (do let _ ← comprehension (.ListComp elt [⟨tg,iter,ifs,0⟩] scope pos) scope X.env _ (newList []) false (eval iter X.env) (some (assign (.Name x px) X.env))) _ _ s
 refine Γa (wpAny_mono (wpAny_comprehension_free (use:=some (assign (.Name x px) X.env)) (Q:=fun _ s'=>SP X.nox pins D .next s') rfl hs (a3n fr) SC.kind SC.names
  (thn (hi pins s σ H _ I h) fun v s1 h1=>thn h1 fun itv s2 h2=>?_)) (fun _ s' hq=>Γb (Γb hq)) fun _ _ e=>e)
 obtain ⟨it,fp,tn,J,H2,e,I2,T,st2,f2,h2⟩:=h2
 subst e
 refine b3e (X:=X.nox) (own:=own) (Q:=fun v H1=>a4i i v σ H1 D.nx) (RR:=fun acc C=>compPost (model X.prog X.w) X.A (fun _ _=>False) (some (assign (.Name x px) X.env)) (fun _ s'=>SP X.nox pins D .next s') acc C) hc ⟨SC.kind,SC.nocell,SC.names,SC.free,SC.apart,SC.hid⟩ (fun C s H=>hblock fp C s H) I2 T st2 f2 h2 ?_
 intro acc C H' m s' I' hn hL hcl hC hH q
 obtain ⟨f0,f1,f2',f3,f4,f5⟩:=I2.fpOk hC hH
 show wpAny (model X.prog X.w) X.A (assign (.Name x px) X.env (.ref acc)) _ _ s'
 refine wpAny_assign_Name (a5k (X:=X.nox) I' hN hx (.inl hl) (v:=.ref acc) rfl (fun s'' I'' hch=>?_) (.inr hl))
 obtain ⟨a,hsa,ha⟩:=hch
 have hCa:C≠a:=by
  rcases ha with z | z
  ·rw [z]; exact hL
  ·exact fun y=>hcl x a z y.symm
 refine ⟨m,hn.sameBut hsa hCa,fun h' hsb=>?_⟩
 exact ⟨_,H',I''.turned (t':=s''.toks) (fun b o hb e=>(hsb.2 b hb).trans e) f0 f1 f3 f4 f5,q⟩
end
end L2
end
section
namespace L2
open PySem PySem.Spec PyProof.Rows
section
variable {X:Cx} {pins:List (Addr×Obj)} {σ:St} {H:Hp} {s:Shared} {h':Heap}
theorem Inv.turnedNew {t':Nat} {ch:List Addr} {p:Addr} {o:HO} (I:Inv X pins σ H s) (hp:s.heap.objs.size≤p) (k:∀ b ob,b ∉ ch→s.heap.get? b=some ob→h'.get? b=some ob) (hf:∀ b∈ch,b1w X pins H b)
  (new:ObjOk X.prog X.w (upd H p o) h' p o):Inv X pins σ (upd H p o) { s with heap:=h',toks:=t' }:=by
 have hn:H p=none:=I.hok.fresh hp
 have nit:∀ b u,H b=some u→b ∉ ch:=fun b u e z=>by rw [(hf b z).1] at e; cases e
 have nep:∀ {b ob},s.heap.get? b=some ob→b≠p:=fun e=>Γo (Nat.lt_of_lt_of_le (Γl e) hp)
 refine I.step (g':=s.gens) (d':=s.drawn) (ch:=ch) (fun b hb=>⟨(hf b hb).2.2.2.1,(hf b hb).2.1,(hf b hb).2.2.2.2.1,(hf b hb).2.2.2.2.2⟩) (fun b ob _ _ hc e _=>k b ob hc e) (fun b ob _ _ hc e _=>⟨ob.slots,k b ob hc e⟩)
  (fun b ob hc e n=>by rw [a0d (nep e)]; exact n) (fun b ob hc e=>⟨ob,k b ob hc e⟩) (fun b xs e=>by rw [a0d (a0r e hn)]; exact e) (fun b u xs e=>by rw [a0d (a0r e hn)]; exact e)
  (fun b ps e=>⟨#[],by rw [a0d (a0r e hn),e]; simp⟩) (fun m hm=>?_) (fun b u e=>?_) I.bare
 ·obtain ⟨ob,es,ep,ho,r⟩:=hm
  exact ⟨ob,es,ep,k _ ob (fun z=>(hf _ z).2.1 rfl) ho,r⟩
 ·by_cases hb:b=p
  ·subst hb; rw [a0e] at e; cases e; exact new
  ·rw [a0d hb] at e
   refine (I.hok b u e).stay (fun c v hc q=>k c v ?_ q) (fun c q=>by rw [a0d (a0r q hn)]; exact q) fun c xs q=>by rw [a0d (a0r q hn)]; exact q
   rcases hc with z | z
   ·rw [z]; exact nit b u e
   ·exact nit c _ z
theorem Inv.turnedL {t':Nat} {ch:List Addr} (I:Inv X pins σ H s) (k:∀ b ob,b ∉ ch→s.heap.get? b=some ob→h'.get? b=some ob) (hf:∀ b∈ch,b1w X pins H b):Inv X pins σ H { s with heap:=h',toks:=t' }:=by
 have nit:∀ b u,H b=some u→b ∉ ch:=fun b u e z=>by rw [(hf b z).1] at e; cases e
 refine I.step (g':=s.gens) (d':=s.drawn) (ch:=ch) (fun b hb=>⟨(hf b hb).2.2.2.1,(hf b hb).2.1,(hf b hb).2.2.2.2.1,(hf b hb).2.2.2.2.2⟩) (fun b ob _ _ hc e _=>k b ob hc e) (fun b ob _ _ hc e _=>⟨ob.slots,k b ob hc e⟩)
  (fun _ _ _ _ n=>n) (fun b ob hc e=>⟨ob,k b ob hc e⟩) (fun _ _ e=>e) (fun _ _ _ e=>e) (fun b ps e=>⟨#[],by rw [e]; simp⟩) (fun m hm=>?_) (fun b u e=>?_) I.bare
 ·obtain ⟨ob,es,ep,ho,r⟩:=hm
  exact ⟨ob,es,ep,k _ ob (fun z=>(hf _ z).2.1 rfl) ho,r⟩
 ·refine (I.hok b u e).stay (fun c v hc q=>k c v ?_ q) (fun _ q=>q) fun _ _ q=>q
  rcases hc with z | z
  ·rw [z]; exact nit b u e
  ·exact nit c _ z
end
end L2
end
section
namespace L2
open PySem PySem.Spec PyProof.Rows
def SeqB (b:Bool) (h:Heap) (l:Addr) (xs:Array Value):Prop:=match b with | true=>h.IsList l xs | false=>h.IsTuple l xs
def IterB (b:Bool) (h:Heap) (it l:Addr) (i:Nat):Prop:=match b with | true=>h.IsListIter it l i | false=>h.IsTupleIter it l i
def b6z (b:Bool):String:=match b with | true=>"list_iterator" | false=>"tuple_iterator"
section
variable {b:Bool} {h h':Heap} {it l c:Addr} {i:Nat} {xs:Array Value}
theorem SeqB.push {o:Obj} (x:SeqB b h l xs):SeqB b (h.push o) l xs:=by
 cases b
 ·exact Heap.IsTuple.push x o
 ·exact Heap.IsList.push x o
theorem IterB.move (x:IterB b h it l i) (e:Heap.ExtBut c h h') (n:it≠c):IterB b h' it l i:=by
 cases b
 ·exact Heap.IsTupleIter.extBut x e n
 ·exact Heap.IsListIter.extBut x e n
theorem IterB.to (x:IterB b h it l i) (k:∀ o,h.get? it=some o→h'.get? it=some o):IterB b h' it l i:=by
 cases b <;> (obtain ⟨o,e,r⟩:=x; exact ⟨o,k o e,r⟩)
theorem IterB.obj (x:IterB b h it l i):∃ o,h.get? it=some o∧∀ v,o.data≠.cell v:=by
 cases b <;> (obtain ⟨o,e,_,d⟩:=x; exact ⟨o,e,fun v z=>by rw [d] at z; cases z⟩)
theorem IterB.lt (x:IterB b h it l i):it < h.objs.size:=let ⟨_,e,_⟩:=x.obj; Γl e
end
section
variable {P:Program} {w:World} {A:Around} {E:Value→Shared→Prop} {s:Shared} {b:Bool} {it l:Addr} {i:Nat} {xs:Array Value} {Q:Value→Shared→Prop}
theorem c4w (x:SeqB b s.heap l xs) (q:Q (.ref s.heap.objs.size) { s with heap:=s.heap.push { cls:=.type (b6z b),data:=.fields #[.ref l,.int 0 0] } }):wpAny (model P w) A (pyIter (.ref l)) Q E s:=by
 cases b
 ·exact wpAny_pyIter_tuple x q
 ·exact wpAny_pyIter_list x q
theorem d5h {x:Value} (hi:s.heap.IsTupleIter it l i) (hl:s.heap.IsTuple l xs) (hx:xs[i]?=some x) (q:∀ h',h'.IsTupleIter it l (i + 1)→Heap.SameBut it s.heap h'→Q x { s with heap:=h' }):wpAny (model P w) A (Builtin.SmallTypes.nextOf (.ref it)) Q E s:=by
 obtain ⟨oi,ei,ci,di⟩:=id hi
 obtain ⟨os,es,_,ns,ds⟩:=hl
 unfold Builtin.SmallTypes.nextOf
 refine Γa (wpAny_callSpecial?_slot (name:=Γe "__next__") hi.typeIs F.slot_tuple_iterator_next (wpAny_call_entry F.slot_tuple_iterator_next hi.typeIs F.entry_tuple_iterator_next ?_ (F.args_tuple_iterator_next_1 _)))
 show wpAny _ _ (field (.ref it) 0 >>= _) _ _ s; refine Γa (wpAny_field ei di (x:=.ref l) rfl ?_)
 show wpAny _ _ (if (Value.ref l == Value.none)=true then _ else _) _ _ s; rw [if_neg (show ¬ ((Value.ref l == Value.none)=true) from Γk)]
 show wpAny _ _ (field (.ref it) 1 >>= _) _ _ s; refine Γa (wpAny_field ei di (x:=.int i 0) rfl ?_)
 show wpAny _ _ (seqItems? (.ref l) >>= _) _ _ s; refine Γa (wpAny_seqItems es ds ?_)
 simp only [Int.toNat_natCast,hx]
 refine Γa (wpAny_setField ei di (by simp) (Γb ⟨x,rfl,Γb (q _ ⟨_,Heap.get?_update_self _ ei (Obj.isFreed_of_fields (Obj.data_mapFields di _)),(Obj.cls_mapFields ..).trans ci,?_⟩ (Heap.SameBut.update ..))⟩))
 rw [Obj.data_mapFields di]; simp [rawInt]
theorem d3d (hh:A.handled=none) (hi:s.heap.IsTupleIter it l i) (hl:s.heap.IsTuple l xs) (hx:xs[i]?=none)
  (q:∀ h' e,Heap.ExtBut it s.heap h'→(∃ o,h'.get? e=some o∧o.cls=.type "StopIteration")→E (.ref e) { s with heap:=h' }):wpAny (model P w) A (Builtin.SmallTypes.nextOf (.ref it)) Q E s:=by
 obtain ⟨oi,ei,ci,di⟩:=id hi
 obtain ⟨os,es,_,ns,ds⟩:=hl
 unfold Builtin.SmallTypes.nextOf
 refine Γa (wpAny_callSpecial?_slot (name:=Γe "__next__") hi.typeIs F.slot_tuple_iterator_next (wpAny_call_entry F.slot_tuple_iterator_next hi.typeIs F.entry_tuple_iterator_next ?_ (F.args_tuple_iterator_next_1 _)))
 show wpAny _ _ (field (.ref it) 0 >>= _) _ _ s; refine Γa (wpAny_field ei di (x:=.ref l) rfl ?_)
 show wpAny _ _ (if (Value.ref l == Value.none)=true then _ else _) _ _ s; rw [if_neg (show ¬ ((Value.ref l == Value.none)=true) from Γk)]
 show wpAny _ _ (field (.ref it) 1 >>= _) _ _ s; refine Γa (wpAny_field ei di (x:=.int i 0) rfl ?_)
 show wpAny _ _ (seqItems? (.ref l) >>= _) _ _ s; refine Γa (wpAny_seqItems es ds ?_)
 simp only [Int.toNat_natCast,hx]
 refine Γa (wpAny_rule (Γa (wpAny_setField ei di (by simp) ?_))); show wpAny _ _ (newExc (.type "StopIteration") [] >>= _) _ _ _
 refine Γa ?_; simp only [newExc,newTuple]
 refine Γa (wpAny_newObj_type ?_ (by size_fits)); refine Γa (m:=firstArgMember _ _) (wpAny_of_eq (a:=Value.none) (by first | rfl | (simp only [firstArgMember]; rfl)) ?_)
 refine wpAny_newObj_type ?_ (by size_fits); simp only [raiseNew]; refine Γa (wpAny_handled ?_)
 first | rw [show A.in1.handled=none from hh] | rw [hh]
 exact Γa (Γb (wpAny_throw (q _ _ (((Heap.SameBut.update ..).extBut.push _).push _) ⟨_,Γm _ rfl,rfl⟩)))
theorem d5i {x:Value} (hi:IterB b s.heap it l i) (hl:SeqB b s.heap l xs) (hx:xs[i]?=some x) (q:∀ h',IterB b h' it l (i + 1)→Heap.SameBut it s.heap h'→Q x { s with heap:=h' }):wpAny (model P w) A (Builtin.SmallTypes.nextOf (.ref it)) Q E s:=by
 cases b
 ·exact d5h hi hl hx q
 ·exact wpAny_nextOf_list_item hi hl hx q
theorem d3e (hh:A.handled=none) (hi:IterB b s.heap it l i) (hl:SeqB b s.heap l xs) (hx:xs[i]?=none)
  (q:∀ h' e,Heap.ExtBut it s.heap h'→(∃ o,h'.get? e=some o∧o.cls=.type "StopIteration")→E (.ref e) { s with heap:=h' }):wpAny (model P w) A (Builtin.SmallTypes.nextOf (.ref it)) Q E s:=by
 cases b
 ·exact d3d hh hi hl hx q
 ·exact wpAny_nextOf_list_end hh hi hl hx q
end
section
variable {P:Program} {w:World} {A:Around} {E:Value→Shared→Prop} {s:Shared} {p q:Bool} {z TI TO i1 i2 l1 l2:Addr} {k1 k2:Nat} {xs ys:Array Value} {x y a b:Value}
end
abbrev zb1 (p:Bool) (h:Heap) (l1:Addr):Heap:=h.push { cls:=.type (b6z p),data:=.fields #[.ref l1,.int 0 0] }
section
variable {P:Program} {w:World} {A:Around} {E:Value→Shared→Prop} {s:Shared}
end
end L2
end
section
namespace L2
open PySem PySem.Spec PyProof.Rows
open AutoSeq1 (wpAny_loadPart')
section
variable {P:Program} {w:World} {A:Around} {E:Value→Shared→Prop} {s:Shared} {p:Bool} {e it l:Addr} {i:Nat} {xs:Array Value} {x old:Value}
theorem b3y {Q:Value→Shared→Prop} (ee:IsEnum s.heap e it i old) (t1:IterB p s.heap it l i) (m1:SeqB p s.heap l xs) (ex:xs[i]?=some x) (ne:e≠it)
  (K:∀ h',IsEnumOut h' e it ((i:Int) + 1) x s.heap.objs.size→IterB p h' it l (i + 1)→h'.get? s.heap.objs.size=some { cls:=.type "tuple",data:=.seq #[.int i s.toks,x] } →
   (∀ b o,b≠e→b≠it→s.heap.get? b=some o→h'.get? b=some o)→Q (.ref s.heap.objs.size) { s with heap:=h',toks:=s.toks + 1 }) :
  wpAny (model P w) A (Builtin.«enumerate.__next__» ⟨[.ref e],[]⟩) (fun fin s'=>∃ v,fin=.done (.ret v)∧Q v s') E s:=by
 obtain ⟨hp,g,d,tk,os⟩:=s
 show wpAny _ _ (field (.ref e) 2 >>= _) _ _ _; refine Γa (wpAny_field ee rfl (x:=.ref it) rfl (Γa (d5i t1 m1 ex fun g1 t11 b1=>?_)))
 replace b1:Heap.SameBut it hp g1:=b1
 have e1:IsEnum g1 e it i old:=(b1.2 e ne).trans ee
 show wpAny _ _ (field (.ref e) 3 >>= _) _ _ ⟨g1,g,d,tk,os⟩; refine Γa (wpAny_field e1 rfl (x:=rawInt i) rfl ?_)
 show wpAny _ _ (field (.ref e) 4 >>= _) _ _ ⟨g1,g,d,tk,os⟩; refine Γa (wpAny_field e1 rfl (x:=.none) rfl ?_)
 show wpAny _ _ (mkInt i >>= _) _ _ ⟨g1,g,d,tk,os⟩; refine Γa (wpAny_mkInt ?_)
 show wpAny _ _ (setField (.ref e) 3 (rawInt ((i:Int) + 1)) >>= _) _ _ ⟨g1,g,d,tk + 1,os⟩; refine Γa (wpAny_setField_rec e1 (by simp) fun g2 e2 b2=>?_)
 replace b2:Heap.SameBut e g1 g2:=b2
 replace e2:IsEnum g2 e it ((i:Int) + 1) old:=e2
 show wpAny _ _ (setField (.ref e) 4 .none >>= _) _ _ ⟨g2,g,d,tk + 1,os⟩; refine Γa (wpAny_setField_rec e2 (by simp) fun g3 e3 b3=>?_)
 replace b3:Heap.SameBut e g2 g3:=b3
 replace e3:IsEnum g3 e it ((i:Int) + 1) old:=e3
 show wpAny _ _ (newTuple [.int i tk,x] >>= _) _ _ ⟨g3,g,d,tk + 1,os⟩; refine Γa (wpAny_newTuple ?_)
 have e4:IsEnum (g3.push { cls:=.type "tuple",data:=.seq #[.int i tk,x] }) e it ((i:Int) + 1) old:=Γc _ e3
 generalize hg4:g3.push { cls:=.type "tuple",data:=.seq #[.int i tk,x] } = g4 at e4
 have sz:g3.objs.size=hp.objs.size:=by rw [b3.1,b2.1,b1.1]
 have el:e < hp.objs.size:=Γl ee
 have t4:g4.get? hp.objs.size=some { cls:=.type "tuple",data:=.seq #[.int i tk,x] }:=by rw [← hg4,← sz]; exact Γm _ rfl
 have k4:∀ b o,b≠e→b≠it→hp.get? b=some o→g4.get? b=some o:=fun b o c1 c2 h=>by rw [← hg4]; exact Γc _ (b3.extBut b o c1 (b2.extBut b o c1 (b1.extBut b o c2 h)))
 have i4:IterB p g4 it l (i + 1):=by
  rw [← hg4]; exact ((t11.move b2.extBut (Ne.symm ne)).move b3.extBut (Ne.symm ne)).to fun o h=>Γc _ h
 show wpAny _ _ (Builtin.SmallTypes.ownedTupleIsFree (.ref e) >>= _) _ _ ⟨g4,g,d,tk + 1,os⟩
 rw [sz]
 clear hg4 e3 b3 e2 b2 e1 b1 t11 sz g3 g2 g1
 refine Γa ?_; unfold Builtin.SmallTypes.ownedTupleIsFree
 refine Γa (wpAny_field e4 rfl (x:=.none) rfl (Γb ?_)); simp only [if_true]
 refine Γa (wpAny_rule (Γa (wpAny_field e4 rfl (x:=old) rfl (Γa (wpAny_setField_rec e4 (by simp) fun g5 e5 b5=>?_)))))
 replace b5:Heap.SameBut e g4 g5:=b5
 replace e5:IsEnum g5 e it ((i:Int) + 1) x:=e5
 show wpAny _ _ (Builtin.SmallTypes.ownedTupleHandOut (.ref e) (.ref hp.objs.size) >>= _) _ _ ⟨g5,g,d,tk + 1,os⟩; refine Γa ?_; unfold Builtin.SmallTypes.ownedTupleHandOut
 refine Γa (wpAny_setField_rec e5 (by simp) fun g6 e6 b6=>?_)
 replace b6:Heap.SameBut e g5 g6:=b6
 replace e6:IsEnumOut g6 e it ((i:Int) + 1) x hp.objs.size:=e6
 refine wpAny_setField_rec e6 (by simp) fun g7 e7 b7=>?_
 replace b7:Heap.SameBut e g6 g7:=b7
 replace e7:IsEnumOut g7 e it ((i:Int) + 1) x hp.objs.size:=e7
 refine Γa (wpAny_letGo (Γb ⟨_,rfl,K g7 e7 (((i4.move b5.extBut (Ne.symm ne)).move b6.extBut (Ne.symm ne)).move b7.extBut (Ne.symm ne)) ?_ fun b o c1 c2 h=>b7.extBut b o c1 (b6.extBut b o c1 (b5.extBut b o c1 (k4 b o c1 c2 h)))⟩))
 exact b7.extBut _ _ (Nat.ne_of_gt el) (b6.extBut _ _ (Nat.ne_of_gt el) (b5.extBut _ _ (Nat.ne_of_gt el) t4))
theorem b3x {Q:Option Value→Shared→Prop} (ee:IsEnum s.heap e it i old) (t1:IterB p s.heap it l i) (m1:SeqB p s.heap l xs) (ex:xs[i]?=some x) (ne:e≠it)
  (K:∀ h',IsEnumOut h' e it ((i:Int) + 1) x s.heap.objs.size→IterB p h' it l (i + 1)→h'.get? s.heap.objs.size=some { cls:=.type "tuple",data:=.seq #[.int i s.toks,x] } →
   (∀ b o,b≠e→b≠it→s.heap.get? b=some o→h'.get? b=some o)→Q (some (.ref s.heap.objs.size)) { s with heap:=h',toks:=s.toks + 1 }):wpAny (model P w) A (pyNext (.ref e)) Q E s:=by
 have ty:s.TypeIs (.ref e) "enumerate":=⟨_,ee,rfl⟩
 unfold pyNext
 exact Γa (wpAny_attempt (wpAny_callSpecial?_slot (name:=Γe "__next__") ty F.slot_enumerate_next (wpAny_call_entry F.slot_enumerate_next ty F.entry_enumerate_next (b3y ee t1 m1 ex ne fun h' a b c d=>Γb (K h' a b c d)) (F.args_enumerate_next_1 _))))
theorem b3w {Q:Option Value→Shared→Prop} (hh:A.handled=none) (ee:IsEnum s.heap e it i old) (t1:IterB p s.heap it l i) (m1:SeqB p s.heap l xs) (ex:xs[i]?=none) (K:∀ h',Heap.ExtBut it s.heap h'→Q none { s with heap:=h' }):wpAny (model P w) A (pyNext (.ref e)) Q E s:=by
 have ty:s.TypeIs (.ref e) "enumerate":=⟨_,ee,rfl⟩
 unfold pyNext
 refine Γa (wpAny_attempt (wpAny_callSpecial?_slot (name:=Γe "__next__") ty F.slot_enumerate_next (wpAny_call_entry F.slot_enumerate_next ty F.entry_enumerate_next ?_ (F.args_enumerate_next_1 _))))
 show wpAny _ _ (field (.ref e) 2 >>= _) _ _ _; refine Γa (wpAny_field ee rfl (x:=.ref it) rfl (Γa (d3e hh t1 m1 ex fun h' v k hv=>?_)))
 obtain ⟨o,e1,e2⟩:=hv
 exact Γa (wpAny_isInstance (T:="StopIteration") (b:=true) ⟨o,e1,e2⟩ isSubtype_stop (Γb (K _ k)))
end
theorem b1c (p:Bool) (l:Addr) (xs:Array Value) :
  Meets (Builtin.«enumerate.__new__» ⟨[.type "enumerate",.ref l],[]⟩) (fun _ R s=>SeqB p s.heap l xs ∧
   R (.ok (.ret (.ref (zb1 p s.heap l).objs.size))) { s with heap:=(zb1 p s.heap l).push { cls:=.type "enumerate",data:=.fields #[.none,.bool false,.ref s.heap.objs.size,rawInt 0,.none,.none] } }) :=
 .of_wp fun prog w A R s h=>by
  obtain ⟨hp,g,d,tk,os⟩:=s; obtain ⟨m1,h⟩:=h
  have hsub:=sub_enumerate
  have M1:SeqB p (Shared.heap ⟨hp,g,d,tk,os⟩) l xs:=m1
  have hob:∃ o,hp.get? l=some o:=by cases p <;> (obtain ⟨o,e,_⟩:=m1; exact ⟨o,e⟩)
  obtain ⟨ob,hl⟩:=hob
  wp_walk using wpAny_loadPart' hl
  refine wpAny_stack_any fun st=>Γb ?_
  split
  ·rename_i c _ _ _ _ _
   cases (c == Value.type "enumerate")
   ·wp_walk using wpAny_loadPart' hl,c4w M1
    exact ⟨_,rfl,h⟩
   ·wp_walk using wpAny_loadPart' hl,c4w M1
    exact ⟨_,rfl,h⟩
  ·wp_walk using wpAny_loadPart' hl,c4w M1
   exact ⟨_,rfl,h⟩
section
variable {P:Program} {w:World} {A:Around} {E:Value→Shared→Prop} {s:Shared}
theorem b4d {p:Bool} {l:Addr} {xs:Array Value} {Q:Value→Shared→Prop} (m1:SeqB p s.heap l xs)
  (K:∀ h',IsEnum h' (s.heap.objs.size + 1) s.heap.objs.size 0 .none→IterB p h' s.heap.objs.size l 0→(∀ b o,s.heap.get? b=some o→h'.get? b=some o)→Q (.ref (s.heap.objs.size + 1)) { s with heap:=h' }) :
  wpAny (model P w) A (call (.type "enumerate") [.ref l]) Q E s:=by
 refine callType_new F.called_enumerate (by decide) (F.typeCall_enumerate_1 _) (F.newCall_enumerate_1 _) (fun obj=>F.args_object_init_2 obj _) F.entry_enumerate_new (b1c p l xs) ⟨m1,?_⟩
 have z1:(zb1 p s.heap l).objs.size=s.heap.objs.size + 1:=Heap.size_push ..
 show _∧_
 rw [z1]
 have f2:IsEnum ((zb1 p s.heap l).push { cls:=.type "enumerate",data:=.fields #[.none,.bool false,.ref s.heap.objs.size,rawInt 0,.none,.none] }) (s.heap.objs.size + 1) s.heap.objs.size 0 .none:=by
  have:=Γm (zb1 p s.heap l) (o:={ cls:=.type "enumerate",data:=.fields #[.none,.bool false,.ref s.heap.objs.size,rawInt 0,.none,.none] }) rfl
  rw [z1] at this; exact this
 refine ⟨⟨_,f2,rfl⟩,K _ f2 ?_ fun b o x=>Γc _ (Γc _ x)⟩
 cases p <;> exact ⟨_,Γc _ (Γm _ rfl),rfl,rfl⟩
end
def SqB (b:Bool) (K:Γd) (H:Hp) (a:Addr) (xs:List V):Prop:=match b with | true=>SqL K H a xs | false=>SqT K H a xs
section
variable {X:Cx} {pins:List (Addr×Obj)} {σ:St} {H:Hp} {s:Shared} {a:Addr} {xs ys:List V} {b:Bool}
theorem Inv.seqB (I:Inv X pins σ H s) (h:SqB b X.K H a xs):∃ its:List Value,Vals xs its∧SeqB b s.heap a its.toArray∧xs.length=its.length:=by
 cases b
 ·obtain ⟨its,r,q,_⟩:=I.tuple h
  exact ⟨its,r,q,r.length⟩
 ·obtain ⟨its,r,q,_⟩:=I.list h
  exact ⟨its,r,q.isList,r.length⟩
theorem Inv.seqB_inj (I:Inv X pins σ H s) (h:SqB b X.K H a xs) (h':SqB b X.K H a ys):xs=ys:=by
 cases b
 ·exact I.tuple_inj h h'
 ·exact I.list_inj h h'
end
def Ien (K : Γd) (p : Bool) (a : Addr) : It :=
  ⟨fun i H => ∃ xs x, SqB p K H a xs ∧ xs[i]? = some x,
   fun i H v H' => ∃ c, H c = none ∧ v = .ref c ∧ ∀ xs x, SqB p K H a xs → xs[i]? = some x → H' = upd H c (.tup [.int i, x]),
   fun i H => ∃ xs, SqB p K H a xs ∧ xs.length ≤ i⟩
theorem c3e {P:Program} {w:World} {K:Γd} {p:Bool} {elts:List Expr} {k:Nat} {pos:Pos} {a e it:Addr} (ne:e≠it) :
  Turn P w K (.Tuple elts k pos) (Ien K p a) [e,it] e (fun i h=>(∃ old,IsEnum h e it i old)∧IterB p h it a i) where
 mem:=by simp
 obj:=fun i h st c hc=>by
  obtain ⟨⟨old,ee⟩,t1⟩:=st
  simp only [List.mem_cons,List.not_mem_nil,or_false] at hc
  rcases hc with rfl | rfl
  ·exact ⟨_,ee,fun v z=>by cases z⟩
  ·exact t1.obj
 keep:=fun i h h' st kk=>by
  obtain ⟨⟨old,ee⟩,t1⟩:=st
  exact ⟨⟨old,kk e (by simp) _ ee⟩,t1.to fun o q=>kk it (by simp) o q⟩
 item:=by
  intro X hP hw hK hc i pins s σ H E I hf st hg
  subst hP hw hK
  obtain ⟨xs,x,q1,hx⟩:=hg
  obtain ⟨⟨old,ee⟩,t1⟩:=st
  obtain ⟨its,rv,m1,_⟩:=I.seqB q1
  obtain ⟨u,hu,ru⟩:=rv.get hx
  refine b3x ee t1 m1 (x:=u) (by simpa using hu) ne fun h' a1 a2 a3 hk=>?_
  refine ⟨_,rfl,wpAny_letOwnedTupleGo_enum a1 fun h'' z'' hs''=>?_⟩
  have szn:e≠s.heap.objs.size:=Γo (Γl ee)
  have T'':=hs''.extBut _ _ (Ne.symm szn) a3
  have I1:Inv X pins σ (upd H s.heap.objs.size (.tup [.int i,x])) { s with heap:=h'',toks:=s.toks + 1 }:=I.turnedNew (t':=s.toks + 1) (ch:=[e,it]) (Γi _)
   (fun c ob hc q=>by simp only [List.mem_cons,List.not_mem_nil,or_false,not_or] at hc; exact hs''.extBut _ _ hc.1 (hk c ob hc.1 hc.2 q))
   (fun c hc=>hf c hc) ⟨by show 2≤sizeLine; decide,[.int i s.toks,u],.cons ⟨_,rfl⟩ (.cons ru .nil),⟨_,T'',rfl,_,rfl⟩⟩
  refine ⟨.ref s.heap.objs.size,_,I1,rfl,⟨_,I.fresh,rfl,fun xs' x' r1 hx'=>?_⟩,⟨⟨_,z''⟩,a2.move hs''.extBut (Ne.symm ne)⟩,fun c hc=>?_⟩
  ·have e1:=I.seqB_inj r1 q1
   subst e1
   rw [hx] at hx'; cases hx'; rfl
  ·have:c≠s.heap.objs.size:=by
    have hlt:c < s.heap.objs.size:=by
     simp only [List.mem_cons,List.not_mem_nil,or_false] at hc
     rcases hc with rfl | rfl
     ·exact Γl ee
     ·exact t1.lt
    exact Γo hlt
   rw [a0d this]; exact (hf c hc).1
 done:=by
  intro X hP hw hK hc i pins s σ H E I hf st hg
  subst hP hw hK
  obtain ⟨xs,q1,hx⟩:=hg
  obtain ⟨⟨old,ee⟩,t1⟩:=st
  obtain ⟨its,rv,m1,l1⟩:=I.seqB q1
  refine b3w (I.ok.hd hc) ee t1 m1 (by simp; lia) fun h' hk=>⟨rfl,?_⟩
  exact I.turnedL (t':=s.toks) (ch:=[it]) (fun c ob hc q=>hk c ob (by simpa using hc) q) (fun c hc=>hf c (by simp at hc; simp [hc]))
 self:=fun _ _ _ _ _ st h=>wpAny_pyIter_enum st.1.choose_spec h
section
variable {X:Cx}
def iEn (K:Γd) (ta:TA):TI:=fun σ H R=>ta σ H fun vs H1=>∃ p a,vs=[.ref a]∧(∃ xs,SqB p K H1 a xs)∧R (Ien K p a) H1
theorem d4p {elts:List Expr} {k:Nat} {tp:Pos} {e1:Expr} {ta:TA} {p pos:Pos} (hg:Gl X "enumerate") (hm:X.mg "enumerate" = none) (ha:PA X [e1] ta) (hs:starEach [e1] X.env=[(false,eval e1 X.env)]) :
  PI X (.Tuple elts k tp) (.Call (.Name "enumerate" p) [e1] [] pos) (iEn X.K ta):=by
 intro pins s σ H R I h
 refine wpAny_Call_Name_kw (a9j I hg hm PyProof.Rows.boot_enumerate ?_ (by decide) (by decide))
 refine PyProof.Rows.callWith_type1 (thn (ha pos pins s σ H _ I h) fun us s1 ⟨vs,H1,I1,r1,q1⟩=>?_) (by rw [hs]; rfl) rfl
 obtain ⟨p,a,e,⟨xs,hq1⟩,kk⟩:=q1
 subst e
 obtain ⟨u1,rfl,ra⟩:=a3o r1
 cases ra
 obtain ⟨its,rv,m1,_⟩:=I1.seqB hq1
 refine b4d m1 fun h' ee t1 hk=>wpAny_pyIter_enum ee ?_
 have I2:Inv X pins σ H1 { s1 with heap:=h' }:=I1.kept (t':=s1.toks) fun c o e=>hk c o e
 refine ⟨_,_,_,Ien X.K p a,H1,rfl,I2,c3e (Nat.ne_of_gt (Nat.lt_succ_self _)),⟨⟨_,ee⟩,t1⟩,fun c hc=>?_,kk⟩
 have hge:s1.heap.objs.size≤c:=by
  simp only [List.mem_cons,List.not_mem_nil,or_false] at hc
  rcases hc with rfl | rfl <;> first | exact Γi _ | exact Nat.le_add_right _ _
 exact I1.fpOk hge (I1.hok.fresh hge)
end
end L2
end
section
namespace L2
open PySem PySem.Spec PyProof.Rows
section
variable {prog:Program} {w:World} {A:Around} {R:Result→Shared→Prop} {s:Shared}
theorem b1r {kx vx target iter:Expr} {ifs:List Expr} {scope:Scope} {pos:Pos} {it:Value} {D:Addr} {env:Env} (I:Nat→Shared→Prop)
  (turn:∀ n s,I n s→wpAny (model prog w) A (pyNext it) (fun r s1=>match r with
   | none=>R (.ok .next) s1
   | some v=>wpAny (model prog w) A (letOwnedTupleGo target it v) (fun _ s2=>wpAny (model prog w) A (assign target env v) (fun _ s3=>wpAny (model prog w) A (a7g ifs env) (fun ok s4 =>
     if ok=true then wpAny (model prog w) A (eval kx env) (fun kv s5=>wpAny (model prog w) A (eval vx env) (fun vv s6=>wpAny (model prog w) A (dictSet D kv vv) (fun _ s7=>∃ m,m < n∧I m s7) (fun _ _=>False) s6) (fun _ _=>False) s5) (fun _ _=>False) s4
     else ∃ m,m < n∧I m s4) (fun _ _=>False) s3) (fun _ _=>False) s2) (fun _ _=>False) s1) (fun _ _=>False) s)
  (n:Nat) (h:I n s):codeAny (model prog w) A (.compLoop (.DictComp kx vx [⟨target,iter,ifs,0⟩] scope pos) 0 it (.ref D) env) R s:=by
 refine codeAny_loop rfl I (fun n s hI=>?_) n h
 show wpAny _ A ((compTurn (.DictComp kx vx [⟨target,iter,ifs,0⟩] scope pos) 0 it (.ref D) env).onRaise (fun x=>do noteFrame x env; theTreesLotGoes x)) _ _ s
 refine wpAny_noted ?_
 rw [compTurn_dict]
 have no:∀ (e:Value) (s':Shared),(fun (_:Value) (_:Shared)=>False) e s'→notedBy (model prog w) A env (fun e s'=>R (.error e) s') e s':=fun _ _ z=>z.elim
 refine Γa (wpAny_standAt (Γa (wpAny_mono (turn n s hI) (fun r s1 h1=>?_) no)))
 cases r with
 | none=>exact Γb h1
 | some v =>
  refine Γa (wpAny_mono h1 (fun _ s2 h2=>Γa (wpAny_mono h2 (fun _ s3 h3=>Γa (wpAny_mono h3 (fun ok s4 h4=>?_) no)) no)) no)
  cases ok with
  | true =>
   rw [if_pos rfl] at h4
   simp only [if_true]
   exact Γa (Γa (wpAny_mono h4 (fun kv s5 h5=>Γa (Γg (wpAny_mono h5 (fun vv s6 h6=>Γa (wpAny_standAt (Γg (wpAny_mono h6 (fun _ s7 h7=>Γb ⟨rfl,h7⟩) no)))) no))) no))
  | false =>
   rw [if_neg Γk] at h4
   simp only [Γp,if_false]
   first
    | exact Γb ⟨rfl,h4⟩
    | exact Γa (Γb (Γb ⟨rfl,h4⟩))
end
def b4r (wi:TI) (g:TG) (tt:TT) (tk tv:TE) (own:Nat):TE:=fun σ H Q=>wi σ H fun J H1=>∀ acc,H1 acc=none→∃ W:Nat→Nat→Hp→Prop,(∃ m,W 0 m (upd H1 acc (.dT [])))∧∀ i m H,W i m H →
 (J.stop i H∧Q (.ref acc) H) ∨ (J.go i H∧∀ x H',J.yld i H x H'→g x (σ++Γj own none) H' fun σ2 H2=>Wk (σ++Γj own none) σ2∧tt σ2 H2 fun b H3 =>
  if b=true then tk σ2 H3 fun y H4=>tv σ2 H4 fun v H5=>∃ kvs k b,H5 acc=some (.dT kvs)∧y=.ref b∧H5 b=some (.tup (k.map kV))∧kvs.length < sizeLine∧∃ m',m' < m∧W (i + 1) m' (upd H5 acc (.dT (a3y kvs k v))) else ∃ m',m' < m∧W (i + 1) m' H3)
section
variable {X:Cx} {kx vx tg iter:Expr} {ifs:List Expr} {scope:Scope} {own:List Str} {pos:Pos} {wi:TI} {g:TG} {tt:TT} {tk tv:TE}
theorem a9u {pins:List (Addr×Obj)} {σ:St} {H2:Hp} {s2:Shared} {Q:VK} {it:Addr} {fp:List Addr} {tn:Nat→Heap→Prop} {J:It} {RR:Value→Addr→Result→Shared→Prop}
  (hu:X.A.units + 1 < cLine) (hc:X.calm=true) (SC:CScope X scope own)
  (hblock:∀ C s H,PG (cxC X scope own fp C s H) tg g∧PTs (cxC X scope own fp C s H) ifs tt∧PE (cxC X scope own fp C s H) kx tk∧PE (cxC X scope own fp C s H) vx tv)
  (I2:Inv X pins σ H2 s2) (T:Turn X.prog X.w X.K tg J fp it tn) (st2:tn 0 s2.heap) (f2:∀ b∈fp,b1w X pins H2 b)
  (h:∀ acc,H2 acc=none→∃ W:Nat→Nat→Hp→Prop,(∃ m,W 0 m (upd H2 acc (.dT [])))∧∀ i m H,W i m H →
   (J.stop i H∧Q (.ref acc) H) ∨ (J.go i H∧∀ x H',J.yld i H x H'→g x (σ++Γj own.length none) H' fun σ2 H2=>Wk (σ++Γj own.length none) σ2∧tt σ2 H2 fun b H3 =>
    if b=true then tk σ2 H3 fun y H4=>tv σ2 H4 fun v H5=>∃ kvs k b,H5 acc=some (.dT kvs)∧y=.ref b∧H5 b=some (.tup (k.map kV))∧kvs.length < sizeLine∧∃ m',m' < m∧W (i + 1) m' (upd H5 acc (.dT (a3y kvs k v))) else ∃ m',m' < m∧W (i + 1) m' H3))
  (hRR:∀ acc C H' m s',Inv X pins σ H' s'→s'.heap.Ns C m→C≠X.env.locals→(∀ x c,X.env.cells.lookup x=some c→c≠C)→s2.heap.objs.size≤C→H' C=none→Q (.ref acc) H'→RR (.ref acc) C (.ok .next) s') {E:Value→Shared→Prop} :
  wpAny (model X.prog X.w) X.A (newDict) (fun acc s3=>wpAny (model X.prog X.w) X.A (newFunctionEnv scope X.env.globals (a8q X.env.cells scope.names []) [] X.env.qual none .none (some X.env)) (fun cenv s4 =>
   codeAny (model X.prog X.w) X.A (.compStart (.DictComp kx vx [⟨tg,iter,ifs,0⟩] scope pos) 0 (.ref it) acc { cenv with scope:=relabel scope X.env }) (RR acc cenv.locals) s4) E s3) E s2:=by
 have hacc:=I2.fresh
 have I3:Inv X pins σ (upd H2 s2.heap.objs.size (.dT [])) { s2 with heap:=s2.heap.push { cls:=.type "dict",data:=.dict #[] },toks:=s2.toks }:=I2.laid (a:=s2.heap.objs.size) (o:=.dT []) (t':=s2.toks) (fun _ _ q=>Γc _ q) (Γi _) (c1j s2.heap I2.big)
 refine wpAny_newObj_type ?_
 obtain ⟨W,⟨m0,w0⟩,turn⟩:=h _ hacc
 generalize hs3:({ s2 with heap:=s2.heap.push { cls:=.type "dict",data:=.dict #[] },toks:=s2.toks }:Shared)=s3 at I3
 have keep23:∀ b o,s2.heap.get? b=some o→s3.heap.get? b=some o:=fun b o e=>by rw [← hs3]; exact Γc _ e
 have hf3:∀ b∈fp,b1w X pins (upd H2 s2.heap.objs.size (.dT [])) b:=fun b hb=>by
  obtain ⟨o,ho,_⟩:=T.obj _ _ st2 b hb
  exact ⟨by rw [a0d (Γo (Γl ho))]; exact (f2 b hb).1,(f2 b hb).2⟩
 have st3:tn 0 s3.heap:=T.keep _ _ _ st2 fun b hb o e=>keep23 b o e
 refine a4s fun h4 hns' keep34 ok34=>?_
 have I4:=b2u (t4:=s3.toks + ([]:List (Str×Value)).length) I3 SC hc hf3 (fun b hb=>by obtain ⟨o,ho,_⟩:=T.obj _ _ st3 b hb; exact ⟨o,ho⟩) hns' keep34 ok34
 have st4:tn 0 h4:=T.keep _ _ _ st3 fun b hb o e=>keep34 b o e
 obtain ⟨hg,ht,hk',hv'⟩:=hblock s3.heap.objs.size s3 (upd H2 s2.heap.objs.size (.dT []))
 have e5:(cxC X scope own fp s3.heap.objs.size s3 (upd H2 s2.heap.objs.size (.dT []))).env=compEnvC scope (cellsFrom (s3.heap.objs.size + 1) scope.names (a8q X.env.cells scope.names [])) s3.heap.objs.size X.env:=rfl
 generalize hY:cxC X scope own fp s3.heap.objs.size s3 (upd H2 s2.heap.objs.size (.dT []))=Y at hg ht hk' hv' I4 e5
 have fpY:∀ {H':Hp},(∀ b∈fp,H' b=none)→∀ b∈fp,b1w Y [] H' b:=fun hn b hb=>by
  obtain ⟨o,ho,_⟩:=T.obj _ _ st3 b hb
  refine ⟨hn b hb,?_,?_,?_,?_,?_⟩
  ·rw [← hY]; exact Γo (Γl ho)
  ·have:=I4.ok.exfs b (by rw [← hY]; exact hb)
   exact this
  ·exact .inl (by rw [← hY]; exact hb)
  ·exact fun x c h=>(I4.ok.exf b (by rw [← hY]; exact hb)).2 x c h
  ·intro p hp; rw [← hY] at hp; exact absurd (show p∈([]:List (Addr×Obj)) from hp) (by simp)
 have hYp:Y.prog=X.prog∧Y.w=X.w∧Y.K=X.K∧Y.calm=true∧Y.A=X.A∧Y.xe=(fun _ _=>False)∧Y.s₀=s3∧Y.H₀=upd H2 s2.heap.objs.size (.dT [])∧Y.outer=X.stack∧Y.ex=fp:=by rw [← hY]; exact ⟨rfl,rfl,rfl,hc,rfl,rfl,rfl,rfl,rfl,rfl⟩
 obtain ⟨y1,y2,y3,y4,y5,y6,y7,y8,y9,y10⟩:=hYp
 have loop:∀ s5:Shared,s5 = { s3 with heap:=h4,toks:=s3.toks + ([]:List (Str×Value)).length } →
   codeAny (model X.prog X.w) X.A (.compLoop (.DictComp kx vx [⟨tg,iter,ifs,0⟩] scope pos) 0 (.ref it) (.ref s2.heap.objs.size) Y.env) (RR (.ref s2.heap.objs.size) s3.heap.objs.size) s5:=by
  rintro s5 rfl
  refine b1r (fun n s'=>∃ i H',Inv Y [] (σ++Γj own.length none) H' s'∧tn i s'.heap∧(∀ b∈fp,H' b=none)∧W i n H') ?_ m0 ⟨0,_,I4,st4,fun b hb=>(hf3 b hb).1,w0⟩
  rintro n s6 ⟨i,H6,I6,st6,fr6,w6⟩
  rcases turn i n H6 w6 with ⟨stop,q⟩ | ⟨go,step⟩
  ·have d:=T.done Y y1 y2 y3 y4 i [] s6 _ H6 (fun _ _=>False) I6 (fpY fr6) st6 stop
   rw [y5] at d
   refine thn d fun r s7 ⟨hr,I7⟩=>?_
   subst hr
   obtain ⟨m,hn,_⟩:=I7.loc
   have hL:Y.env.locals=s3.heap.objs.size:=by rw [e5]; rfl
   rw [hL] at hn
   have b7:=I7.base
   rw [y7,y8,y10] at b7
   have b7':Un (frs X.stack) fp (upd H2 s2.heap.objs.size (.dT [])) H6 s3.heap s7.heap:=by
    have z:Y.fs=frs X.stack:=by show frs Y.outer=_; rw [y9]
    rw [z] at b7
    exact b7
   have hok7:=I7.hok
   rw [y1,y2] at hok7
   have os7:=I7.os
   rw [y7] at os7
   have I8:Inv X pins σ H6 s7:=I3.call' os7 b7' hok7 I7.bare fun b hb=>⟨(hf3 b hb).2.2.2.1,(hf3 b hb).2.1,(hf3 b hb).2.2.2.2.1,(hf3 b hb).2.2.2.2.2⟩
   have hfree:=I7.free
   rw [hL] at hfree
   refine hRR _ _ H6 m s7 I8 hn (Nat.ne_of_gt I3.lt) (fun x c h z=>?_) ?_ hfree q
   ·obtain ⟨v,y⟩:=I3.cell x c h
    exact absurd y.lt (by rw [z]; exact Nat.lt_irrefl _)
   ·rw [← hs3,Heap.size_push]; exact Nat.le_succ _
  ·have d:=T.item Y y1 y2 y3 y4 i [] s6 _ H6 (fun _ _=>False) I6 (fpY fr6) st6 go
   rw [y5] at d
   refine thn d fun r s7 ⟨u,hr,h7⟩=>?_
   subst hr
   refine thn h7 fun _ s8 ⟨x,H8,I8,r8,y8',st8,fr8⟩=>?_
   have I8':=I8.pinned (fpY fr8) (T.obj _ _ st8)
   have pinK:∀ {σ':St} {H':Hp} {s':Shared},Inv Y ([]++a5m fp s8.heap) σ' H' s'→tn (i + 1) s'.heap∧∀ b∈fp,H' b=none:=fun {σ' H' s'} I' =>
    ⟨T.keep _ _ _ st8 fun b hb o e=>(I'.pin (b,o) (List.mem_append_right _ (List.mem_append_right _ (a2f hb e)))).1,fun b hb=>by
     obtain ⟨o,e,_⟩:=T.obj _ _ st8 b hb
     exact (I'.pin (b,o) (List.mem_append_right _ (List.mem_append_right _ (a2f hb e)))).2.1⟩
   have dg:=hg _ s8 _ H8 x u _ I8' r8 (step x H8 y8')
   rw [y1,y2,y5,y6] at dg
   refine thn dg fun _ s9 ⟨σ9,H9,I9,wk,q9⟩=>?_
   have dt:=ht _ s9 σ9 H9 _ I9 q9
   rw [y1,y2,y5,y6] at dt
   refine thn dt fun ok s10 ⟨H10,I10,q10⟩=>?_
   cases ok with
   | true =>
    rw [if_pos rfl] at q10 ⊢
    have dk:=hk' _ s10 σ9 H10 _ I10 q10
    rw [y1,y2,y5,y6] at dk
    refine thn dk fun ky s11 ⟨v11,H11,I11,r11,q11⟩=>?_
    have dv:=hv' _ s11 σ9 H11 _ I11 q11
    rw [y1,y2,y5,y6] at dv
    refine thn dv fun y s12 ⟨v12,H12,I12,r12,kvs,k,b,hys,hyb,hkb,hz,m',hm,w12⟩=>?_
    subst hyb
    cases (show ky=Value.ref b from r11)
    obtain ⟨z,hd,xs,rel,dd⟩:=d0b I12.hok hys
    rw [y1,y2] at dd
    have hz':xs.length≤sizeLine:=by rw [← Paired.length rel]; exact z
    have hl:(a3y kvs k v12).length≤sizeLine:=by have:=a2j kvs k v12; lia
    have ko:=a5r I12.hok hkb
    rw [y1,y2] at ko
    refine wpAny_dictSet_heap (knd:=tupleKind (a0k X.prog X.w)) (hsz:=hz') (show X.A.units < cLine by lia) ko dd fun h' dd' hs=>?_
    obtain ⟨q,es,ep,hq,h2',h3',h4',h5',h6'⟩:=dd'
    rw [← y1,← y2] at h4'
    have I13:Inv Y ([]++a5m fp s8.heap) σ9 (upd H12 s2.heap.objs.size (.dT (a3y kvs k v12))) { s12 with heap:=h',toks:=s12.toks + (tupleKind (a0k X.prog X.w)).draws k }:=by
     refine b1p I12 (by rw [hys]; exact True.intro) hs ⟨q,hq⟩ ⟨hl,hd,_,(rel.put k hkb r12).keeps fun c ys ec=>?_,q,es,ep,hq,h2',h3',h4',h6'⟩
     rw [a0d (c8w ec hys (fun z=>nomatch z))]
     exact ec
    obtain ⟨t13,f13⟩:=pinK I13
    exact ⟨m',hm,i + 1,_,(I13.unpinned).weak wk.1.symm wk.2,t13,f13,w12⟩
   | false =>
    rw [if_neg Γk] at q10 ⊢
    obtain ⟨m',hm,w10⟩:=q10
    obtain ⟨t10,f10⟩:=pinK I10
    exact ⟨m',hm,i + 1,_,(I10.unpinned).weak wk.1.symm wk.2,t10,f10,w10⟩
 rw [e5] at loop
 exact codeAny_compStart_dict (loop _ rfl) (T.self _ 0 _ _ _ st4 (loop _ rfl))
theorem c0f (hu:X.A.units + 1 < cLine) (hc:X.calm=true) (SC:CScope X scope own) (hi:PI X.nox tg iter wi)
  (hblock:∀ fp C s H,PG (cxC X scope own fp C s H) tg g∧PTs (cxC X scope own fp C s H) ifs tt∧PE (cxC X scope own fp C s H) kx tk∧PE (cxC X scope own fp C s H) vx tv)
  (hs:∀ x,foldedSetIterable iter X.env x=pure x:=by intro _; rfl) :
  PE X.nox (.DictComp kx vx [⟨tg,iter,ifs,0⟩] scope pos) (b4r wi g tt tk tv own.length):=by
 intro pins s σ H Q I h
 have fr:∀ p∈scope.names,p.2=.free→∃ c,X.env.cells.lookup p.1=some c:=fun p hp hq=>I.ok.has p.1 (SC.free p hp hq)
 rw [arm_eval_DictComp]
 refine wpAny_comprehension_free (use:=none) rfl hs (a3n fr) SC.kind SC.names (thn (hi pins s σ H _ I h) fun v s1 h1=>thn h1 fun itv s2 h2=>?_)
 obtain ⟨it,fp,tn,J,H2,e,I2,T,st2,f2,h2⟩:=h2
 subst e
 refine a9u (X:=X.nox) (own:=own) (RR:=fun acc C=>compPost (model X.prog X.w) X.A (fun _ _=>False) none (EP X.nox pins σ Q) acc C) hu hc ⟨SC.kind,SC.nocell,SC.names,SC.free,SC.apart,SC.hid⟩ (fun C s H=>hblock fp C s H) I2 T st2 f2 h2 ?_
 intro acc C H' m s' I' hn hL hcl hC hH q
 obtain ⟨f0,f1,f2',f3,f4,f5⟩:=I2.fpOk hC hH
 refine ⟨m,hn,fun h' hsb=>⟨.ref acc,H',?_,rfl,q⟩⟩
 exact I'.turned (t':=s'.toks) (fun b o hb e=>(hsb.2 b hb).trans e) f0 f1 f3 f4 f5
theorem b0s {i:Nat} {x:Str} {px:Pos} {spos:Pos} (hu:X.A.units + 1 < cLine) (hc:X.calm=true) (SC:CScope X scope own) (hN:X.N.Nodup) (hx:X.N[i]?=some x) (hl:X.env.scope.names.lookup x=some .local) (hi:PI X.nox tg iter wi)
  (hblock:∀ fp C s H,PG (cxC X scope own fp C s H) tg g∧PTs (cxC X scope own fp C s H) ifs tt∧PE (cxC X scope own fp C s H) kx tk∧PE (cxC X scope own fp C s H) vx tv)
  (hsw:swapsWith (.DictComp kx vx [⟨tg,iter,ifs,0⟩] scope pos) (some (.Name x px)) spos.line X.env=pure true)
  (hs:∀ x,foldedSetIterable iter X.env x=pure x:=by intro _; rfl) :
  PS X.nox (.Assign [.Name x px] (.DictComp kx vx [⟨tg,iter,ifs,0⟩] scope pos) spos) (b8x (b4r wi g tt tk tv own.length) (a4i i)):=by
 intro pins s σ H D I h
 have fr:∀ p∈scope.names,p.2=.free→∃ c,X.env.cells.lookup p.1=some c:=fun p hp hq=>I.ok.has p.1 (SC.free p hp hq)
 show wpAny (model X.prog X.w) X.A (exec _ X.env) _ _ s
 rw [exec_Assign_Name_used _ _ _ _ hsw]
 refine Γa (wpAny_standAt (Γa ?_))
 show wpAny _ X.A (do let _ ← comprehension (.DictComp kx vx [⟨tg,iter,ifs,0⟩] scope pos) scope X.env _ newDict false (eval iter X.env) (some (assign (.Name x px) X.env))) _ _ s
 refine Γa (wpAny_mono (wpAny_comprehension_free (use:=some (assign (.Name x px) X.env)) (Q:=fun _ s'=>SP X.nox pins D .next s') rfl hs (a3n fr) SC.kind SC.names
  (thn (hi pins s σ H _ I h) fun v s1 h1=>thn h1 fun itv s2 h2=>?_)) (fun _ s' hq=>Γb (Γb hq)) fun _ _ e=>e)
 obtain ⟨it,fp,tn,J,H2,e,I2,T,st2,f2,h2⟩:=h2
 subst e
 refine a9u (X:=X.nox) (own:=own) (Q:=fun v H1=>a4i i v σ H1 D.nx) (RR:=fun acc C=>compPost (model X.prog X.w) X.A (fun _ _=>False) (some (assign (.Name x px) X.env)) (fun _ s'=>SP X.nox pins D .next s') acc C) hu hc ⟨SC.kind,SC.nocell,SC.names,SC.free,SC.apart,SC.hid⟩ (fun C s H=>hblock fp C s H) I2 T st2 f2 h2 ?_
 intro acc C H' m s' I' hn hL hcl hC hH q
 obtain ⟨f0,f1,f2',f3,f4,f5⟩:=I2.fpOk hC hH
 show wpAny (model X.prog X.w) X.A (assign (.Name x px) X.env (.ref acc)) _ _ s'
 refine wpAny_assign_Name (a5k (X:=X.nox) I' hN hx (.inl hl) (v:=.ref acc) rfl (fun s'' I'' hch=>?_) (.inr hl))
 obtain ⟨a,hsa,ha⟩:=hch
 have hCa:C≠a:=by
  rcases ha with z | z
  ·rw [z]; exact hL
  ·exact fun y=>hcl x a z y.symm
 refine ⟨m,hn.sameBut hsa hCa,fun h' hsb=>?_⟩
 exact ⟨_,H',I''.turned (t':=s''.toks) (fun b o hb e=>(hsb.2 b hb).trans e) f0 f1 f3 f4 f5,q⟩
end
end L2
end
section
namespace L2
open PySem PySem.Spec PyProof.Rows
section
variable {prog:Program} {w:World} {A:Around} {R:Result→Shared→Prop} {s:Shared}
end
def tIn (wi:TI) (g:TG) (tt:TT) (te:TE) (acc:Addr) (σ:St) (H:Hp) (R:St→Hp→Prop):Prop:=wi σ H fun J H1=>∃ W:Nat→Nat→St→Hp→Prop,(∃ m,W 0 m σ H1)∧∀ i m σ H,W i m σ H →
 (J.stop i H∧R σ H) ∨ (J.go i H∧∀ x H',J.yld i H x H'→g x σ H' fun σ2 H2=>tt σ2 H2 fun b H3 =>
  if b=true then te σ2 H3 fun v H4=>∃ ys,H4 acc=some (.lst ys)∧ys.length < sizeLine∧∃ m',m' < m∧W (i + 1) m' σ2 (upd H4 acc (.lst (ys++[v]))) else ∃ m',m' < m∧W (i + 1) m' σ2 H3)
def c6y (wi:TI) (g:TG) (tt:TT) (wi2:TI) (g2:TG) (tt2:TT) (te:TE) (own:Nat):TE:=fun σ H Q=>wi σ H fun J H1=>∀ acc,H1 acc=none→∃ W:Nat→Nat→Hp→Prop,(∃ m,W 0 m (upd H1 acc (.lst [])))∧∀ i m H,W i m H →
 (J.stop i H∧Q (.ref acc) H) ∨ (J.go i H∧∀ x H',J.yld i H x H'→g x (σ++Γj own none) H' fun σ2 H2=>Wk (σ++Γj own none) σ2∧tt σ2 H2 fun b H3 =>
  if b=true then tIn wi2 g2 tt2 te acc σ2 H3 fun σ3 H4=>Wk (σ++Γj own none) σ3∧∃ m',m' < m∧W (i + 1) m' H4 else ∃ m',m' < m∧W (i + 1) m' H3)
section
variable {X:Cx} {elt tg iter tg2 iter2:Expr} {ifs ifs2:List Expr} {scope:Scope} {own:List Str} {pos:Pos} {wi wi2:TI} {g g2:TG} {tt tt2:TT} {te:TE}
end
end L2
end
section
namespace Kq
open PySem PySem.Spec PyProof.Rows L2
inductive D where
 | non | bl (b:Bool) | int (i:Int) | str (x:String) | tup (xs:List D) | lst (xs:List D)
mutual
noncomputable def D.eqv:D→D→Bool
 | .non,.non=>true
 | .bl a,.bl b=>a == b
 | .bl a,.int j=>(if a then 1 else 0) == j
 | .int i,.bl b=>i == (if b then 1 else 0)
 | .int a,.int b=>a == b
 | .str a,.str b=>a == b
 | .tup a,.tup b=>D.eqvs a b
 | .lst a,.lst b=>D.eqvs a b
 | _,_=>false
noncomputable def D.eqvs:List D→List D→Bool
 | [],[]=>true
 | a :: r,b :: q=>D.eqv a b && D.eqvs r q
 | _,_=>false
end
mutual
noncomputable def D.wt:D→Nat
 | .non=>0 | .bl _=>0
 | .int i=>if -(2 ^ 40) < i∧i < 2 ^ 40 then 41 else 151
 | .str x=>x.length
 | .tup xs=>D.wts xs
 | .lst xs=>D.wts xs
noncomputable def D.wts:List D→Nat
 | []=>0
 | a :: r=>D.wt a + 1 + D.wts r
end
mutual
noncomputable def D.fit:D→Bool
 | .int i=>decide (-(2 ^ 150) < i∧i < 2 ^ 150)
 | .tup xs=>D.fits xs
 | .lst xs=>D.fits xs
 | _=>true
noncomputable def D.fits:List D→Bool
 | []=>true
 | a :: r=>D.fit a && D.fits r
end
inductive FV where
 | non | bl (b:Bool) | int (i:Int) | str (x:String) | tup (xs:List FV) | lst (xs:List FV)
 | scr (ns:List Int)
 | shn (d:D)
 | dct (ks:List (List Int)) (vs:List FV)
 | dci (ks:List Int) (vs:List FV)
 | dcz (o:Obj) (ks:List (List Int)) (vs:List FV)
 | dcn (z:Option Obj) (ks:List (List (Option Int))) (vs:List FV)
 | obj (C dx:Addr) (fs:List (Str×V)) (gs:List (Addr×List V))
noncomputable def big:Nat:=100000
inductive Mo where | imm | own | frz | ob | gst (i:Nat) (x:Str)
 deriving DecidableEq
noncomputable def Mo.w:Mo→Bool | .imm=>false | .frz=>false | _=>true
noncomputable def Mo.g:Mo→Bool | .gst _ _=>true | _=>false
theorem Mo.w_imm {m:Mo} (h:m.w=true):m≠.imm:=fun z=>by rw [z] at h; cases h
theorem Mo.w_frz {m:Mo} (h:m.w=true):m≠.frz:=fun z=>by rw [z] at h; cases h
theorem Mo.w_own {m:Mo} (h:m=.own):m.w=true:=by rw [h]; rfl
abbrev Md:=List Mo
abbrev a0a:=List (Option FV)
noncomputable def a0g:Md→Nat→Mo
 | [],_=>.imm
 | m :: _,0=>m
 | _ :: ms,n + 1=>a0g ms n
noncomputable def lk:a0a→Nat→Option FV
 | [],_=>none
 | x :: _,0=>x
 | _ :: L,n + 1=>lk L n
theorem a1n:∀ (L:a0a) (i:Nat) (v:FV),lk L i=some v↔L[i]?=some (some v)
 | [],i,v=>by simp [lk]
 | x :: L,0,v=>by simp [lk]
 | x :: L,i + 1,v=>by simpa [lk] using a1n L i v
noncomputable def wp {α:Type} (r:Option α) (Q:α→Prop):Prop:=match r with
 | some x=>Q x
 | none=>False
theorem wpx {α:Type} {r:Option α} {Q:α→Prop} (h:wp r Q):∃ x,r=some x∧Q x:=by
 cases r with
 | none=>exact h.elim
 | some x=>exact ⟨x,rfl,h⟩
mutual
noncomputable def dPy:D→PyData
 | .non=>.none
 | .bl b=>.bool b
 | .int i=>.int i
 | .str x=>.str (Γe x)
 | .tup xs=>.tuple (a3s xs)
 | .lst xs=>.list (a3s xs)
noncomputable def a3s:List D→List PyData
 | []=>[]
 | a :: r=>dPy a :: a3s r
end
noncomputable def a2l (ks:List (List Int)):List (List (Int ⊕ Option Str)):=ks.map fun k=>k.map Sum.inl
noncomputable def a2z (ks:List Int):List (Int ⊕ Option Str):=ks.map Sum.inl
noncomputable def oK:Option Int→Int ⊕ Option Str
 | some i=>.inl i
 | none=>.inr none
noncomputable def a1s (ks:List (List (Option Int))):List (List (Int ⊕ Option Str)):=ks.map fun k=>k.map oK
noncomputable def hoN (u:HO):Option Obj→HO
 | none=>u
 | some o=>.frz o u
noncomputable def ScrAt (K:Γd) (S:Hp) (a:Addr) (ns:List Int):Prop:=(∃ o,S a=some (.frz o (.lst (ns.map V.int)))) ∨ SqL K (fun _=>none) a (ns.map V.int)
mutual
noncomputable def RV (K:Γd) (S:Hp):FV→V→Prop
 | .non,v=>v=.non
 | .bl b,v=>v=.bl b
 | .int i,v=>v=.int i
 | .str x,v=>v=.str (Γe x)
 | .tup ps,v=>∃ a xs,v=.ref a∧S a=some (.tup xs)∧RVs K S ps xs
 | .lst ps,v=>∃ a xs,v=.ref a∧S a=some (.lst xs)∧RVs K S ps xs
 | .scr ns,v=>∃ a,v=.ref a∧ScrAt K S a ns
 | .shn d,v=>v=.str (dPy d).shown
 | .dct ks vs,v=>∃ a xs,v=.ref a∧ks.length=vs.length∧S a=some (.dT ((a2l ks).zip xs))∧RVs K S vs xs
 | .dci ks vs,v=>∃ a xs,v=.ref a∧ks.length=vs.length∧S a=some (.dK ((a2z ks).zip xs))∧RVs K S vs xs
 | .dcz o ks vs,v=>∃ a xs,v=.ref a∧ks.length=vs.length∧S a=some (.frz o (.dT ((a2l ks).zip xs)))∧RVs K S vs xs
 | .dcn z ks vs,v=>∃ a xs,v=.ref a∧ks.length=vs.length∧S a=some (hoN (.dT ((a1s ks).zip xs)) z)∧RVs K S vs xs
 | .obj C dx fs gs,v=>∃ a,v=.ref a∧S a=some (.big C dx fs gs)
noncomputable def RVs (K:Γd) (S:Hp):List FV→List V→Prop
 | [],vs=>vs=[]
 | p :: ps,vs=>∃ v r,vs=v :: r∧RV K S p v∧RVs K S ps r
end
mutual
theorem RV.mono {K:Γd} {S S':Hp} (x:Same S S'):∀ {p:FV} {v:V},RV K S p v→RV K S' p v
 | .non,v,h=>h
 | .bl b,v,h=>h
 | .int i,v,h=>h
 | .str _,v,h=>h
 | .shn _,v,h=>h
 | .tup ps,v,⟨a,xs,e,h1,h2⟩=>⟨a,xs,e,x _ _ h1,RVs.mono x h2⟩
 | .lst ps,v,⟨a,xs,e,h1,h2⟩=>⟨a,xs,e,x _ _ h1,RVs.mono x h2⟩
 | .dct ks vs,v,⟨a,xs,e,h0,h1,h2⟩=>⟨a,xs,e,h0,x _ _ h1,RVs.mono x h2⟩
 | .dci ks vs,v,⟨a,xs,e,h0,h1,h2⟩=>⟨a,xs,e,h0,x _ _ h1,RVs.mono x h2⟩
 | .dcz o ks vs,v,⟨a,xs,e,h0,h1,h2⟩=>⟨a,xs,e,h0,x _ _ h1,RVs.mono x h2⟩
 | .dcn z ks vs,v,⟨a,xs,e,h0,h1,h2⟩=>⟨a,xs,e,h0,x _ _ h1,RVs.mono x h2⟩
 | .obj _ _ _ _,v,⟨a,e,h⟩=>⟨a,e,x _ _ h⟩
 | .scr ns,v,⟨a,e,h⟩=>⟨a,e,h.elim (fun ⟨o,h⟩=>.inl ⟨o,x _ _ h⟩) .inr⟩
theorem RVs.mono {K:Γd} {S S':Hp} (x:Same S S'):∀ {ps:List FV} {vs:List V},RVs K S ps vs→RVs K S' ps vs
 | [],vs,h=>h
 | p :: ps,vs,⟨v,r,e,h1,h2⟩=>⟨v,r,e,RV.mono x h1,RVs.mono x h2⟩
end
section
variable {K:Γd} {S H:Hp}
theorem RVs.length:∀ {ps:List FV} {vs:List V},RVs K S ps vs→ps.length=vs.length
 | [],vs,h=>by cases (show vs=[] from h); rfl
 | p :: ps,vs,h=>by
  obtain ⟨v,r,e,_,h2⟩:=h
  subst e
  rw [List.length_cons,List.length_cons,RVs.length h2]
theorem RVs.get:∀ {ps:List FV} {vs:List V} {i:Nat} {p:FV},RVs K S ps vs→ps[i]?=some p→∃ v,vs[i]?=some v∧RV K S p v
 | [],vs,i,p,_,e=>by simp at e
 | q :: ps,vs,0,p,⟨v,r,e',h1,_⟩,e=>by
  subst e'
  simp at e; subst e
  exact ⟨v,rfl,h1⟩
 | q :: ps,vs,i + 1,p,⟨v,r,e',_,h2⟩,e=>by
  subst e'
  simpa using RVs.get (i:=i) (p:=p) h2 (by simpa using e)
theorem RVs.append:∀ {ps qs:List FV} {vs us:List V},RVs K S ps vs→RVs K S qs us→RVs K S (ps++qs) (vs++us)
 | [],qs,vs,us,h,g=>by cases (show vs=[] from h); exact g
 | p :: ps,qs,vs,us,⟨v,r,e,h1,h2⟩,g=>by
  subst e
  exact ⟨v,r++us,rfl,h1,RVs.append h2 g⟩
theorem RVs.one {p:FV} {v:V} (h:RV K S p v):RVs K S [p] [v]:=⟨v,[],rfl,h,rfl⟩
theorem RVs.take:∀ {ps:List FV} {vs:List V} (n:Nat),RVs K S ps vs→RVs K S (ps.take n) (vs.take n)
 | [],vs,n,h=>by cases (show vs=[] from h); simp [RVs]
 | p :: ps,vs,0,h=>by simp [RVs]
 | p :: ps,vs,n + 1,⟨v,r,e,h1,h2⟩=>by
  subst e
  exact ⟨v,r.take n,rfl,h1,RVs.take n h2⟩
theorem RVs.drop:∀ {ps:List FV} {vs:List V} (n:Nat),RVs K S ps vs→RVs K S (ps.drop n) (vs.drop n)
 | [],vs,n,h=>by cases (show vs=[] from h); simp [RVs]
 | p :: ps,vs,0,h=>h
 | p :: ps,vs,n + 1,⟨v,r,e,h1,h2⟩=>by
  subst e
  exact RVs.drop n h2
theorem RVs.set:∀ {ps:List FV} {vs:List V} (n:Nat) {p:FV} {v:V},RVs K S ps vs→RV K S p v→RVs K S (ps.set n p) (vs.set n v)
 | [],vs,n,p,v,h,_=>by cases (show vs=[] from h); simp [RVs]
 | q :: ps,vs,0,p,v,⟨v',r,e,h1,h2⟩,g=>by
  subst e
  exact ⟨v,r,rfl,g,h2⟩
 | q :: ps,vs,n + 1,p,v,⟨v',r,e,h1,h2⟩,g=>by
  subst e
  exact ⟨v',r.set n v,rfl,h1,RVs.set n h2 g⟩
theorem RVs.rep {ps:List FV} {vs:List V} (h:RVs K S ps vs):∀ k:Nat,RVs K S (Γj k ps).flatten (Γj k vs).flatten
 | 0=>rfl
 | k + 1=>by
  rw [List.replicate_succ,List.replicate_succ,List.flatten_cons,List.flatten_cons]
  exact h.append (h.rep k)
theorem RVs.ns:∀ (ns:List Int),RVs K S (ns.map .int) (ns.map V.int)
 | []=>rfl
 | n :: ns=>⟨_,_,rfl,rfl,RVs.ns ns⟩
theorem RVs.one_of {p:FV} {us:List V} (h:RVs K S [p] us):∃ u,us=[u]∧RV K S p u:=by
 obtain ⟨v,r,rfl,h1,h2⟩:=h
 cases (show r=[] from h2)
 exact ⟨v,rfl,h1⟩
theorem RVs.two_of {p q:FV} {us:List V} (h:RVs K S [p,q] us):∃ u v,us=[u,v]∧RV K S p u∧RV K S q v:=by
 obtain ⟨v,r,rfl,h1,h2⟩:=h
 obtain ⟨u,rfl,h3⟩:=h2.one_of
 exact ⟨v,u,rfl,h1,h3⟩
noncomputable def c6j:FV→Option (List FV)
 | .lst ps=>some ps
 | .dct ks vs=>if ks.length=vs.length then some vs else none
 | .dci ks vs=>if ks.length=vs.length then some vs else none
 | .dcz _ ks vs=>if ks.length=vs.length then some vs else none
 | .dcn _ ks vs=>if ks.length=vs.length then some vs else none
 | .obj _ _ _ _=>some []
 | _=>none
noncomputable def c4e:FV→List V→HO
 | .dct ks _,xs=>.dT ((a2l ks).zip xs)
 | .dci ks _,xs=>.dK ((a2z ks).zip xs)
 | .dcz o ks _,xs=>.frz o (.dT ((a2l ks).zip xs))
 | .dcn z ks _,xs=>hoN (.dT ((a1s ks).zip xs)) z
 | .obj C dx fs gs,_=>.big C dx fs gs
 | _,xs=>.lst xs
noncomputable def a2u (K:Γd) (S H:Hp) (a:Addr) (v:FV):Prop:=S a=none∧∃ ps xs,c6j v=some ps∧H a=some (c4e v xs)∧RVs K S ps xs
noncomputable def RH (K:Γd) (S H:Hp) (v:FV) (x:V):Prop:=RV K S v x ∨ ∃ a,x=.ref a∧a2u K S H a v
theorem RH.lst {ps:List FV} {x:V} (s:Same S H) (h:RH K S H (.lst ps) x):∃ a xs,x=.ref a∧H a=some (.lst xs)∧RVs K S ps xs:=by
 rcases h with ⟨a,xs,e,h1,h2⟩ | ⟨a,e,_,qs,xs,e2,h1,h2⟩
 ·exact ⟨a,xs,e,s _ _ h1,h2⟩
 ·cases e2; exact ⟨a,xs,e,h1,h2⟩
theorem RH.val {v:FV} {x:V} (h:RH K S H v x) (n:c6j v=none):RV K S v x:=by
 rcases h with h | ⟨a,_,_,ps,xs,e,_⟩
 ·exact h
 ·rw [n] at e; cases e
theorem RH.tup {ps:List FV} {x:V} (s:Same S H) (h:RH K S H (.tup ps) x):∃ a xs,x=.ref a∧H a=some (.tup xs)∧RVs K S ps xs:=by
 obtain ⟨a,xs,e,h1,h2⟩:=h.val rfl
 exact ⟨a,xs,e,s _ _ h1,h2⟩
theorem ScrAt.sq {a:Addr} {ns:List Int} (s:Same S H) (h:ScrAt K S a ns):SqL K H a (ns.map V.int):=by
 rcases h with ⟨o,h⟩ | h
 ·exact .inl (.inr ⟨o,s _ _ h⟩)
 ·rcases h with (h | ⟨o,h⟩) | h
  ·cases h
  ·cases h
  ·exact .inr h
noncomputable def a1o:FV→Option (List FV)
 | .lst xs=>some xs
 | .scr ns=>some (ns.map .int)
 | _=>none
noncomputable def a4w:FV→Option (List FV)
 | .tup xs=>some xs
 | v=>a1o v
theorem RH.list {v:FV} {ps:List FV} {x:V} (s:Same S H) (h:RH K S H v x) (e:a1o v=some ps):∃ a xs,x=.ref a∧SqL K H a xs∧RVs K S ps xs:=by
 cases v with
 | lst qs =>
  cases e
  obtain ⟨a,xs,rfl,h1,h2⟩:=h.lst s
  exact ⟨a,xs,rfl,SqL.of h1,h2⟩
 | scr ns =>
  cases e
  obtain ⟨a,rfl,g⟩:=h.val rfl
  exact ⟨a,_,rfl,ScrAt.sq s g,RVs.ns ns⟩
 | _=>cases e
noncomputable def isL:FV→Bool
 | .tup _=>false
 | _=>true
theorem RH.seq {v:FV} {ps:List FV} {x:V} (s:Same S H) (h:RH K S H v x) (e:a4w v=some ps):∃ a xs,x=.ref a∧SqB (isL v) K H a xs∧RVs K S ps xs:=by
 cases v with
 | tup qs =>
  cases e
  obtain ⟨a,xs,rfl,h1,h2⟩:=h.tup s
  exact ⟨a,xs,rfl,SqT.of h1,h2⟩
 | lst qs=>exact h.list s e
 | scr qs=>exact h.list s e
 | _=>cases e
end
noncomputable def a5s:HO→Bool
 | .tup _=>true
 | _=>false
theorem a4o (v:FV) (xs:List V):a5s (c4e v xs)=false:=by
 cases v with
 | dcn z ks vs=>cases z <;> rfl
 | _=>rfl
structure Cn where
 H0:Hp
 S0:Hp
 P0:Option Addr
 fz:List (Nat×Addr)
 pr:List (Addr×HO)
 P1:List (Nat×Addr)
structure Iv (K:Γd) (c:Cn) (md:Md) (L:a0a) (σ:L2.St) (S H:Hp):Prop where
 len:L.length=σ.length
 imm:∀ i v,a0g md i=.imm→L[i]?=some (some v)→∃ x,σ[i]?=some (some x)∧RV K S v x
 own:∀ i v,a0g md i≠.imm→L[i]?=some (some v)→∃ a,σ[i]?=some (some (.ref a))∧a2u K S H a v∧(c.P0=some a ∨ c.H0 a=none ∨ ∃ j,(j,a)∈c.P1)
 dis:∀ i j v w a,a0g md i≠.imm→a0g md j≠.imm→L[i]?=some (some v)→L[j]?=some (some w)→σ[i]?=some (some (.ref a))→σ[j]?=some (some (.ref a))→i=j
 sub:Same S H
 frame:∀ a o,c.H0 a=some o→c.P0≠some a→(∀ j,(j,a) ∉ c.P1)→H a=some o
 s0:Same c.S0 S
 grow:∀ a o,S a=some o→c.S0 a=some o ∨ c.H0 a=none ∨ a5s o=true
 lent:∀ a,c.P0=some a→a0g md 0≠.imm∧σ[0]?=some (some (.ref a))∧∃ v,L[0]?=some (some v)
 fzs:∀ p∈c.fz,a0g md p.1=.frz∧σ[p.1]?=some (some (.ref p.2))∧∃ v,L[p.1]?=some (some v)
 fzm:∀ i v,a0g md i=.frz→L[i]?=some (some v)→∃ a,(i,a)∈c.fz
 fzp:∀ p∈c.fz,∃ o,(p.2,o)∈c.pr
 prs:∀ p∈c.pr,H p.1=some p.2∧S p.1=none∧∀ i v,(a0g md i).w=true→L[i]?=some (some v)→σ[i]?≠some (some (.ref p.1))
 ntp:∀ p∈c.pr,a5s p.2=false
 lnt1:∀ q∈c.P1,(a0g md q.1).g=true∧σ[q.1]?=some (some (.ref q.2))∧∃ v,L[q.1]?=some (some v)
 tie:∀ j i x C dx fs v,a0g md j=.gst i x→a0g md i=.ob→L[i]?=some (some (.obj C dx fs []))→L[j]?=some (some v)→∃ u,fs.lookup x=some u∧σ[j]?=some (some u)
section
variable {K:Γd} {c:Cn} {md:Md} {L:a0a} {σ:L2.St} {S H S' H':Hp}
theorem Iv.h0 (I:Iv K c md L σ S H) {p:Addr} (h:H p=none):c.H0 p=none:=by
 cases e:c.H0 p with
 | none=>rfl
 | some o =>
  by_cases z:c.P0=some p
  ·obtain ⟨m,e1,v,e2⟩:=I.lent p z
   obtain ⟨a,e3,⟨_,_,_,_,e4,_⟩,_⟩:=I.own 0 v m e2
   rw [e1] at e3; cases e3
   rw [h] at e4; cases e4
  ·by_cases z1:∃ j,(j,p)∈c.P1
   ·obtain ⟨j,hj⟩:=z1
    obtain ⟨g,e1,v,e2⟩:=I.lnt1 _ hj
    obtain ⟨a,e3,⟨_,_,_,_,e4,_⟩,_⟩:=I.own j v (fun z=>by rw [z] at g; cases g) e2
    rw [e1] at e3; cases e3
    rw [h] at e4; cases e4
   ·rw [I.frame p o e z fun j hj=>z1 ⟨j,hj⟩] at h; cases h
theorem Iv.sn (I:Iv K c md L σ S H) {p:Addr} (h:H p=none):S p=none:=by
 cases e:S p with
 | none=>rfl
 | some o=>rw [I.sub p o e] at h; cases h
theorem Iv.go3 (I:Iv K c md L σ S H) (s:Same S S') (sub:Same S' H') (g:∀ a o,S' a=some o→S a=some o ∨ H a=none ∨ a5s o=true) (k:∀ a o,H a=some o→H' a=some o):Iv K c md L σ S' H' where
 len:=I.len
 imm:=fun i v h e=>let ⟨x,e1,r⟩:=I.imm i v h e; ⟨x,e1,r.mono s⟩
 own:=fun i v h e=>by
  obtain ⟨a,e1,⟨h1,ps,xs,e2,h2,h3⟩,h4⟩:=I.own i v h e
  refine ⟨a,e1,⟨?_,ps,xs,e2,k _ _ h2,h3.mono s⟩,h4⟩
  cases q:S' a with
  | none=>rfl
  | some o =>
   rcases g a o q with z | z | z
   ·rw [h1] at z; cases z
   ·rw [h2] at z; cases z
   ·have:=sub a o q
    rw [k _ _ h2] at this
    rw [← Option.some.inj this,a4o] at z; cases z
 dis:=I.dis
 sub:=sub
 frame:=fun a o h n n1=>k _ _ (I.frame a o h n n1)
 s0:=I.s0.trans s
 grow:=fun a o h=>(g a o h).elim (I.grow a o) fun z=>z.elim (fun z=>.inr (.inl (I.h0 z))) fun z=>.inr (.inr z)
 lent:=I.lent
 fzs:=I.fzs
 fzm:=I.fzm
 fzp:=I.fzp
 prs:=fun p hp=>by
  obtain ⟨h1,h2,h3⟩:=I.prs p hp
  refine ⟨k _ _ h1,?_,h3⟩
  cases q:S' p.1 with
  | none=>rfl
  | some o =>
   rcases g _ o q with z | z | z
   ·rw [h2] at z; cases z
   ·rw [h1] at z; cases z
   ·have:=sub _ o q
    rw [k _ _ h1] at this
    rw [← Option.some.inj this,I.ntp p hp] at z; cases z
 ntp:=I.ntp
 lnt1:=I.lnt1
 tie:=I.tie
theorem Iv.go (I:Iv K c md L σ S H) (s:Same S S') (sub:Same S' H') (g:∀ a o,S' a=some o→S a=some o ∨ H a=none) (k:∀ a o,H a=some o→H' a=some o):Iv K c md L σ S' H':=I.go3 s sub (fun a o e=>(g a o e).imp_right .inl) k
theorem a0i {p:Addr} {o:HO} (h:H p=none):Same H (upd H p o):=fun a u e=>by rw [a0d (a0r e h)]; exact e
theorem Iv.new (I:Iv K c md L σ S H) {p:Addr} (h:H p=none) (o:HO):Iv K c md L σ (upd S p o) (upd H p o) :=
 I.go (a0i (I.sn h)) (fun a u e=>by
  by_cases z:a=p
  ·subst z; rw [a0e] at e ⊢; exact e
  ·rw [a0d z] at e ⊢; exact I.sub a u e) (fun a u e=>by
  by_cases z:a=p
  ·subst z; exact .inr h
  ·rw [a0d z] at e; exact .inl e) (a0i h)
theorem Iv.lay (I:Iv K c md L σ S H) {p:Addr} (h:H p=none) (o:HO):Iv K c md L σ S (upd H p o) :=
 I.go (Same.refl S) (I.sub.trans (a0i h)) (fun a u e=>.inl e) (a0i h)
theorem Iv.back4 (I:Iv K c md L σ S H) {i:Nat} {v w:FV} {a:Addr} (m:(a0g md i).w=true) (e:L[i]?=some (some v)) (e1:σ[i]?=some (some (.ref a))) (s:Same S S') (sub:Same S' H') (g:∀ a o,S' a=some o→S a=some o ∨ H a=none ∨ a5s o=true)
  (k:∀ b o,H b=some o→b≠a→H' b=some o) (new:a2u K S' H' a w) (ht:∀ j x C dx fs u,a0g md j=.gst i x→a0g md i=.ob→w=.obj C dx fs []→L[j]?=some (some u)→∃ u,fs.lookup x=some u∧σ[j]?=some (some u)):Iv K c md (L.set i (some w)) σ S' H':=by
 have mi:=Mo.w_imm m
 have hi:=(List.getElem?_eq_some_iff.mp e).1
 obtain ⟨a',e1',⟨h1,qs,ys,_,h2,h3⟩,h4⟩:=I.own i v mi e
 rw [e1] at e1'; cases e1'
 have look:∀ j u,(L.set i (some w))[j]?=some (some u)→(j=i∧u=w) ∨ (j≠i∧L[j]?=some (some u)):=fun j u z=>by
  by_cases q:j=i
  ·subst q; rw [List.getElem?_set_self hi] at z; cases z; exact .inl ⟨rfl,rfl⟩
  ·rw [List.getElem?_set_ne (Ne.symm q)] at z; exact .inr ⟨q,z⟩
 have lookx:∀ j,(∃ u,L[j]?=some (some u))→∃ u,(L.set i (some w))[j]?=some (some u):=fun j h=>by
  obtain ⟨u,z⟩:=h
  by_cases q:j=i
  ·subst q; exact ⟨_,List.getElem?_set_self hi⟩
  ·exact ⟨u,by rw [List.getElem?_set_ne (Ne.symm q)]; exact z⟩
 have old:∀ j u,(L.set i (some w))[j]?=some (some u)→∃ u,L[j]?=some (some u):=fun j u z=>(look j u z).elim (fun q=>⟨v,by rw [q.1]; exact e⟩) fun q=>⟨u,q.2⟩
 refine ⟨by rw [List.length_set]; exact I.len,fun j u hm z=>?_,fun j u hm z=>?_,fun j k u u2 b m1 m2 z1 z2=>?_,sub,fun b o z n n1=>?_,I.s0.trans s,fun b o z=>(g b o z).elim (I.grow b o) fun z=>z.elim (fun z=>.inr (.inl (I.h0 z))) fun z=>.inr (.inr z),fun b z=>?_,fun p hp=>?_,fun j u hm z=>?_,I.fzp,fun p hp=>?_,I.ntp,fun q hq=>?_,fun j i' x C dx fs u h1 h2 h3 h4=>?_⟩
 ·rcases look j u z with ⟨q,_⟩ | ⟨_,z⟩
  ·rw [q] at hm; exact absurd hm mi
  ·obtain ⟨x,f1,f2⟩:=I.imm j u hm z
   exact ⟨x,f1,f2.mono s⟩
 ·rcases look j u z with ⟨rfl,rfl⟩ | ⟨q,z⟩
  ·exact ⟨a,e1,new,h4⟩
  ·obtain ⟨b,f1,⟨g1,rs,zs,g2,g3,g4⟩,g5⟩:=I.own j u hm z
   have hb:b≠a:=fun y=>by subst y; exact q (I.dis j i u v b hm mi z e f1 e1)
   refine ⟨b,f1,⟨?_,rs,zs,g2,k b _ g3 hb,g4.mono s⟩,g5⟩
   cases q':S' b with
   | none=>rfl
   | some o =>
    rcases g b o q' with z | z | z
    ·rw [g1] at z; cases z
    ·rw [g3] at z; cases z
    ·have:=sub b o q'
     rw [k b _ g3 hb] at this
     rw [← Option.some.inj this,a4o] at z; cases z
 ·obtain ⟨w',z1⟩:=old j u z1
  obtain ⟨u',z2⟩:=old k u2 z2
  exact I.dis j k w' u' b m1 m2 z1 z2
 ·refine k b o (I.frame b o z n n1) fun y=>?_
  subst y
  rcases h4 with y | y | ⟨j,y⟩
  ·exact n y
  ·rw [z] at y; cases y
  ·exact n1 j y
 ·obtain ⟨g1,g2,g3⟩:=I.lent b z
  exact ⟨g1,g2,lookx 0 g3⟩
 ·obtain ⟨g1,g2,g4⟩:=I.fzs p hp
  exact ⟨g1,g2,lookx _ g4⟩
 ·rcases look j u z with ⟨q,_⟩ | ⟨_,z⟩
  ·rw [q] at hm; exact absurd hm (Mo.w_frz m)
  ·exact I.fzm j u hm z
 ·obtain ⟨g1,g2,g3⟩:=I.prs p hp
  have kp:=k _ _ g1 fun y=>g3 i v m e (by rw [y]; exact e1)
  refine ⟨kp,?_,fun j u hm z=>let ⟨u',z'⟩:=old j u z; g3 j u' hm z'⟩
  cases q':S' p.1 with
  | none=>rfl
  | some o =>
   rcases g _ o q' with z | z | z
   ·rw [g2] at z; cases z
   ·rw [g1] at z; cases z
   ·have:=sub _ o q'
    rw [kp] at this
    rw [← Option.some.inj this,I.ntp p hp] at z; cases z
 ·obtain ⟨g1,g2,g3⟩:=I.lnt1 q hq
  exact ⟨g1,g2,lookx _ g3⟩
 ·obtain ⟨u',h4'⟩:=old j u h4
  rcases look i' _ h3 with ⟨rfl,e9⟩ | ⟨_,h3⟩
  ·exact ht j x C dx fs u' h1 h2 e9.symm h4'
  ·exact I.tie j i' x C dx fs u' h1 h2 h3 h4'
theorem Iv.back3 (I:Iv K c md L σ S H) {i:Nat} {v w:FV} {a:Addr} (m:a0g md i=.own) (e:L[i]?=some (some v)) (e1:σ[i]?=some (some (.ref a))) (s:Same S S') (sub:Same S' H') (g:∀ a o,S' a=some o→S a=some o ∨ H a=none ∨ a5s o=true)
  (k:∀ b o,H b=some o→b≠a→H' b=some o) (new:a2u K S' H' a w):Iv K c md (L.set i (some w)) σ S' H':=I.back4 (Mo.w_own m) e e1 s sub g k new fun _ _ _ _ _ _ _ z=>by rw [m] at z; cases z
theorem Iv.back (I:Iv K c md L σ S H) {i:Nat} {v w:FV} {a:Addr} (m:a0g md i=.own) (e:L[i]?=some (some v)) (e1:σ[i]?=some (some (.ref a))) (s:Same S S') (sub:Same S' H') (g:∀ a o,S' a=some o→S a=some o ∨ H a=none)
  (k:∀ b o,H b=some o→b≠a→H' b=some o) (new:a2u K S' H' a w):Iv K c md (L.set i (some w)) σ S' H':=I.back3 m e e1 s sub (fun a o e=>(g a o e).imp_right .inl) k new
theorem Iv.write (I:Iv K c md L σ S H) {i:Nat} {v:FV} {a:Addr} {ps:List FV} {xs:List V} (m:a0g md i=.own) (e:L[i]?=some (some v)) (e1:σ[i]?=some (some (.ref a))) (r:RVs K S ps xs) :
  Iv K c md (L.set i (some (.lst ps))) σ S (upd H a (.lst xs)):=by
 obtain ⟨a',e1',⟨h1,_⟩,_⟩:=I.own i v (fun z=>by rw [m] at z; cases z) e
 rw [e1] at e1'; cases e1'
 exact I.back m e e1 (Same.refl S) (fun b o z=>by rw [a0d fun y=>by subst y; rw [h1] at z; cases z]; exact I.sub b o z) (fun b o z=>.inl z) (fun b o z n=>by rw [a0d n]; exact z) ⟨h1,ps,xs,rfl,a0e,r⟩
theorem Iv.set (I:Iv K c md L σ S H) {i:Nat} {v:FV} {x:V} (ni:∀ a,c.P0=some a→i≠0) (nf:a0g md i≠.frz) (h:(a0g md i=.imm∧RV K S v x) ∨ (a0g md i=.own∧∃ a,x=.ref a∧a2u K S H a v∧c.H0 a=none∧(∀ p∈c.pr,p.1≠a)∧∀ j w,j≠i→a0g md j≠.imm→L[j]?=some (some w)→σ[j]?≠some (some (.ref a)))) :
  Iv K c md (L.set i (some v)) (σ.set i (some x)) S H:=by
 have look:∀ j w,(L.set i (some v))[j]?=some (some w)→(j=i∧w=v∧(σ.set i (some x))[j]?=some (some x)) ∨ (j≠i∧L[j]?=some (some w)∧(σ.set i (some x))[j]?=σ[j]?):=fun j w z=>by
  by_cases q:j=i
  ·subst q
   have hj:j < L.length:=by have:=(List.getElem?_eq_some_iff.mp z).1; rwa [List.length_set] at this
   rw [List.getElem?_set_self hj] at z; cases z
   exact .inl ⟨rfl,rfl,by rw [List.getElem?_set_self (by rw [← I.len]; exact hj)]⟩
  ·rw [List.getElem?_set_ne (Ne.symm q)] at z
   exact .inr ⟨q,z,List.getElem?_set_ne (Ne.symm q)⟩
 have far:∀ j,j≠i→(L.set i (some v))[j]?=L[j]?∧(σ.set i (some x))[j]?=σ[j]?:=fun j q=>⟨List.getElem?_set_ne (Ne.symm q),List.getElem?_set_ne (Ne.symm q)⟩
 refine ⟨by rw [List.length_set,List.length_set]; exact I.len,fun j w hm z=>?_,fun j w hm z=>?_,fun j k w u b m1 m2 z1 z2 y1 y2=>?_,I.sub,I.frame,I.s0,I.grow,fun b z=>?_,fun p hp=>?_,fun j w hm z=>?_,I.fzp,fun p hp=>?_,I.ntp,fun q hq=>?_,fun j k y C dx fs u h1 h2 h3 h4=>?_⟩
 ·rcases look j w z with ⟨rfl,rfl,y⟩ | ⟨q,z,y⟩
  ·rcases h with ⟨_,r⟩ | ⟨hm',_⟩
   ·exact ⟨x,y,r⟩
   ·rw [hm] at hm'; cases hm'
  ·rw [y]; exact I.imm j w hm z
 ·rcases look j w z with ⟨rfl,rfl,y⟩ | ⟨q,z,y⟩
  ·rcases h with ⟨hm',_⟩ | ⟨_,a,rfl,o,h0,_,_⟩
   ·exact absurd hm' hm
   ·exact ⟨a,y,o,.inr (.inl h0)⟩
  ·rw [y]; exact I.own j w hm z
 ·rcases look j w z1 with ⟨p1,p2,p3⟩ | ⟨p1,p2,p3⟩
  ·rcases look k u z2 with ⟨q1,q2,q3⟩ | ⟨q1,q2,q3⟩
   ·rw [p1,q1]
   ·rcases h with ⟨hm',_⟩ | ⟨_,a,rfl,_,_,_,n⟩
    ·rw [p1] at m1; exact absurd hm' m1
    ·rw [p3] at y1; cases y1
     rw [q3] at y2
     exact absurd y2 (n k u q1 m2 q2)
  ·rw [p3] at y1
   rcases look k u z2 with ⟨q1,q2,q3⟩ | ⟨q1,q2,q3⟩
   ·rcases h with ⟨hm',_⟩ | ⟨_,a,rfl,_,_,_,n⟩
    ·rw [q1] at m2; exact absurd hm' m2
    ·rw [q3] at y2; cases y2
     exact absurd y1 (n j w p1 m1 p2)
   ·rw [q3] at y2
    exact I.dis j k w u b m1 m2 p2 q2 y1 y2
 ·obtain ⟨g1,g2,g3⟩:=I.lent b z
  obtain ⟨f1,f2⟩:=far 0 (Ne.symm (ni b z))
  rw [f1,f2]; exact ⟨g1,g2,g3⟩
 ·obtain ⟨g1,g2,g4⟩:=I.fzs p hp
  obtain ⟨f1,f2⟩:=far p.1 fun y=>nf (by rw [← y]; exact g1)
  rw [f1,f2]; exact ⟨g1,g2,g4⟩
 ·rcases look j w z with ⟨rfl,_,_⟩ | ⟨_,z,_⟩
  ·exact absurd hm nf
  ·exact I.fzm j w hm z
 ·obtain ⟨g1,g2,g3⟩:=I.prs p hp
  refine ⟨g1,g2,fun j w hm z=>?_⟩
  rcases look j w z with ⟨q1,q2,q3⟩ | ⟨q1,q2,q3⟩
  ·rcases h with ⟨hm',_⟩ | ⟨_,a,rfl,_,_,n,_⟩
   ·rw [q1,hm'] at hm; cases hm
   ·rw [q3]; exact fun y=>n p hp (by cases y; rfl)
  ·rw [q3]; exact g3 j w hm q2
 ·obtain ⟨g1,g2,g3⟩:=I.lnt1 q hq
  obtain ⟨f1,f2⟩:=far q.1 fun y=>by
   rw [y] at g1
   rcases h with ⟨hm',_⟩ | ⟨hm',_⟩ <;> rw [hm'] at g1 <;> cases g1
  rw [f1,f2]; exact ⟨g1,g2,g3⟩
 ·have n1:j≠i:=fun y=>by
   rw [y] at h1
   rcases h with ⟨hm',_⟩ | ⟨hm',_⟩ <;> rw [hm'] at h1 <;> cases h1
  have n2:k≠i:=fun y=>by
   rw [y] at h2
   rcases h with ⟨hm',_⟩ | ⟨hm',_⟩ <;> rw [hm'] at h2 <;> cases h2
  rw [(far j n1).1] at h4
  rw [(far k n2).1] at h3
  rw [(far j n1).2]
  exact I.tie j k y C dx fs u h1 h2 h3 h4
theorem Iv.tup (I:Iv K c md L σ S H) {b:Addr} {xs:List V} (h:H b=some (.tup xs)):Iv K c md L σ (upd S b (.tup xs)) H∧Same S (upd S b (.tup xs)):=by
 have s:Same S (upd S b (.tup xs)):=fun a o e=>by
  by_cases z:a=b
  ·subst z; rw [I.sub _ _ e] at h; rw [h,a0e]
  ·rw [a0d z]; exact e
 refine ⟨I.go3 s (fun a o e=>?_) (fun a o e=>?_) fun a o e=>e,s⟩
 ·by_cases z:a=b
  ·subst z; rw [a0e] at e; rw [← e]; exact h
  ·rw [a0d z] at e; exact I.sub a o e
 ·by_cases z:a=b
  ·subst z; rw [a0e] at e; cases e; exact .inr (.inr rfl)
  ·rw [a0d z] at e; exact .inl e
end
end Kq
end
section
namespace Kq
noncomputable def a7v {α β:Type} (f:α→Option β):List α→Option (List β)
 | []=>some []
 | x :: xs=>(f x).bind fun y=>(a7v f xs).map (y :: ·)
noncomputable def fD:Nat→FV→Option D
 | 0,_=>none
 | n + 1,v=>match v with
  | .non=>some .non
  | .bl b=>some (.bl b)
  | .int i=>some (.int i)
  | .str x=>some (.str x)
  | .tup xs=>(a7v (fD n) xs).map .tup
  | .lst xs=>(a7v (fD n) xs).map .lst
  | .scr _=>none
  | .shn _=>none
  | .dct _ _=>none
  | .dci _ _=>none
  | .dcz _ _ _=>none
  | .obj _ _ _ _=>none | .dcn _ _ _=>none
noncomputable def a0n:Nat:=40
noncomputable def b4h:FV→Option Bool
 | .non=>some false
 | .bl b=>some b
 | .int i=>some (i != 0)
 | .str _=>none
 | .tup xs=>some (!xs.isEmpty)
 | .lst xs=>some (!xs.isEmpty)
 | .scr xs=>some (!xs.isEmpty)
 | .shn _=>none
 | .dct _ _=>none
 | .dci _ _=>none
 | .dcz _ _ _=>none
 | .obj _ _ _ _=>none | .dcn _ _ _=>none
noncomputable def a3b:FV→Option Int | .int i=>some i | _=>none
noncomputable def blF:FV→Option Bool | .bl b=>some b | _=>none
noncomputable def a6d:FV→Option (List FV) | .tup xs=>some xs | _=>none
noncomputable def a6i:FV→Option (List FV) | .lst xs=>some xs | _=>none
noncomputable def a2b (i:Int):Bool:=decide (-(2 ^ 64) < i∧i < 2 ^ 64)
noncomputable def a1x (i:Int):Bool:=decide (-(2 ^ 62)≤i∧i < 2 ^ 62)
noncomputable def b0p (i:Int):Bool:=decide (-(2 ^ 40)≤i∧i≤2 ^ 40)
noncomputable def eqD (a b:FV):Option Bool:=(fD a0n a).bind fun x=>(fD a0n b).bind fun y=>some (D.eqv x y)
noncomputable def eqF (a b:FV):Option Bool:=match a,b with
 | .shn x,.shn y=>open Classical in if x=y then some true else none
 | a,b=>eqD a b
noncomputable def inD:D→D→Option Bool
 | x,.lst xs=>some (xs.any fun y=>D.eqv y x)
 | x,.tup xs=>some (xs.any fun y=>D.eqv y x)
 | _,_=>none
noncomputable def inF (a b:FV):Option Bool:=(fD a0n a).bind fun x=>(fD a0n b).bind fun y=>inD x y
noncomputable def a0z:List FV→Option (List Int)
 | []=>some []
 | .int i :: r=>(a0z r).map (i :: ·)
 | _=>none
noncomputable def a4j:List FV→Option (List Bool)
 | []=>some []
 | .bl b :: r=>(a4j r).map (b :: ·)
 | _=>none
noncomputable def c6s:List FV→Option (List (List Int))
 | []=>some []
 | .tup xs :: r=>(a0z xs).bind fun t=>(c6s r).map (t :: ·)
 | _=>none
noncomputable def lexLt:List Int→List Int→Bool
 | [],[]=>false
 | [],_ :: _=>true
 | _ :: _,[]=>false
 | a :: r,b :: q=>if a=b then lexLt r q else decide (a < b)
noncomputable def lexLe:List Int→List Int→Bool
 | [],[]=>true
 | [],_ :: _=>true
 | _ :: _,[]=>false
 | a :: r,b :: q=>if a=b then lexLe r q else decide (a≤b)
noncomputable def a3f (f:Int→Int→Option FV) (v w:FV):Option FV:=(a3b v).bind fun i=>(a3b w).bind fun j=>f i j
noncomputable def a6h (v w:FV):Option FV:=match v with
 | .tup xs=>(a6d w).bind fun ys=>if xs.length + ys.length≤big then some (.tup (xs++ys)) else none
 | .lst xs=>(a6i w).bind fun ys=>if xs.length + ys.length≤big then some (.lst (xs++ys)) else none
 | v=>a3f (fun i j=>some (.int (i + j))) v w
noncomputable def c6z:FV→FV→Option FV:=a3f fun i j=>some (.int (i - j))
noncomputable def b8y (v w:FV):Option FV:=match v with
 | .lst xs=>(a3b w).bind fun k=>if -(2 ^ 63)≤k∧k < 2 ^ 63∧xs.length * k.toNat≤big then some (.lst (Γj k.toNat xs).flatten) else none
 | v=>a3f (fun i j=>if (a2b i || a2b j)=true then some (.int (i * j)) else none) v w
noncomputable def b7o:FV→FV→Option FV:=a3f fun i j=>if 0 < j∧j < 1073741824 then some (.int (i / j)) else none
noncomputable def b8z:FV→FV→Option FV:=a3f fun i j=>if 0 < j then some (.int (i % j)) else none
noncomputable def c7z:FV→FV→Option FV:=a3f fun i j=>if 0≤j∧j≤1000∧a2b i=true then some (.int (i ^ j.toNat)) else none
noncomputable def eqB (a b:FV):Option FV:=(eqF a b).map .bl
noncomputable def neB (a b:FV):Option FV:=(eqF a b).map fun r=>.bl (!r)
noncomputable def inB (a b:FV):Option FV:=(inF a b).map .bl
noncomputable def niB (a b:FV):Option FV:=(inF a b).map fun r=>.bl (!r)
noncomputable def ltB (v w:FV):Option FV:=match v with
 | .tup xs=>(a6d w).bind fun ys=>(a0z xs).bind fun a=>(a0z ys).bind fun b=>some (.bl (lexLt a b))
 | v=>a3f (fun i j=>some (.bl (decide (i < j)))) v w
noncomputable def leB (v w:FV):Option FV:=match v with
 | .tup xs=>(a6d w).bind fun ys=>(a0z xs).bind fun a=>(a0z ys).bind fun b=>some (.bl (lexLe a b))
 | v=>a3f (fun i j=>some (.bl (decide (i≤j)))) v w
noncomputable def gtB:FV→FV→Option FV:=a3f fun i j=>some (.bl (decide (j < i)))
noncomputable def geB:FV→FV→Option FV:=a3f fun i j=>some (.bl (decide (j≤i)))
noncomputable def ixN (n:Nat) (i:Int):Option Nat:=if 0≤i then (if i < n then some i.toNat else none) else if -(n:Int)≤i then some (i + n).toNat else none
noncomputable def atF (xs:List FV) (i:Int):Option FV:=(ixN xs.length i).bind fun j=>xs[j]?
noncomputable def ixF (v w:FV):Option FV:=(a3b w).bind fun j=>(a4w v).bind fun xs=>atF xs j
noncomputable def min2F:FV→FV→Option FV:=a3f fun i j=>some (.int (if j < i then j else i))
noncomputable def c0m:FV→FV→Option FV:=a3f fun i j=>some (.int (if j > i then j else i))
noncomputable def a1y:FV→Option FV | .non=>some (.bl true) | _=>some (.bl false)
noncomputable def a1i:FV→Option FV | .non=>some (.bl false) | _=>some (.bl true)
noncomputable def isBlF (c:Bool):FV→Option FV | .bl b=>some (.bl (b == c)) | _=>some (.bl false)
noncomputable def notBlF (c:Bool):FV→Option FV | .bl b=>some (.bl (b != c)) | _=>some (.bl true)
noncomputable def d5c (v:FV):Option FV:=(blF v).map fun b=>.bl (!b)
noncomputable def d5j (v:FV):Option FV:=(a3b v).map fun i=>.int (-i)
noncomputable def turnF (v:FV):Option FV:=(a6d v).map fun xs=>.tup xs.reverse
noncomputable def b0k (v:FV):Option FV:=(a4w v).map fun xs=>.int xs.length
noncomputable def d0w (v:FV):Option FV:=(a3b v).map fun i=>.int (if i < 0 then -i else i)
noncomputable def b1z:FV→Option FV | .int i=>some (.int i) | .bl b=>some (.int (if b then 1 else 0)) | _=>none
noncomputable def d1b (xs:List FV):Option Int:=(a0z xs).bind fun ns=>if ns.length≤big∧ns.all b0p=true then some ns.sum else none
noncomputable def c6h (v:FV):Option FV:=(a1o v).bind fun xs=>(d1b xs).map .int
noncomputable def c6m (v:FV):Option FV:=(a1o v).bind fun xs=>(a4j xs).map fun bs=>.bl (bs.all id)
noncomputable def d0v (v:FV):Option FV:=(a1o v).bind fun xs=>(a4j xs).map fun bs=>.bl (bs.any id)
noncomputable def a1f (b:Int):List Int→Int
 | []=>b
 | x :: r=>a1f (if x < b then x else b) r
noncomputable def c2s (b:List Int):List (List Int)→List Int
 | []=>b
 | x :: r=>c2s (if lexLt x b=true then x else b) r
noncomputable def d1m (xs:List FV):Option FV:=(a0z xs).bind fun ns=>match ns with
 | n :: r=>some (.int (a1f n r))
 | []=>none
noncomputable def minT (xs:List FV):Option FV:=(c6s xs).bind fun ns=>match ns with
 | n :: r=>some (.tup ((c2s n r).map .int))
 | []=>none
noncomputable def b6j (v:FV):Option FV:=(a1o v).bind d1m
noncomputable def minTF (v:FV):Option FV:=(a1o v).bind minT
noncomputable def a5i (v:FV):Option FV:=(a4w v).map .tup
noncomputable def a3u (v:FV):Option FV:=(a4w v).map .lst
noncomputable def d3f (v:FV):Option FV:=(fD a0n v).bind fun d=>if d.fit=true∧d.wt≤big then some (.shn d) else none
noncomputable def b9l (v:FV):Option FV:=match v with
 | .non=>some (.str "None")
 | .bl b=>some (.str (if b then "True" else "False"))
 | .str x=>some (.str x)
 | .int i=>if -(2 ^ 150) < i∧i < 2 ^ 150 then some (.str (toString i)) else none
 | .tup xs=>d3f (.tup xs)
 | .lst xs=>d3f (.lst xs)
 | .scr _=>none | .shn _=>none | .dct _ _=>none | .dci _ _=>none | .dcz _ _ _=>none | .obj _ _ _ _=>none | .dcn _ _ _=>none
inductive Ty where | int | bool | str | list | tuple
 deriving DecidableEq
noncomputable def a9m:FV→Ty→Option Bool
 | .non,_=>some false
 | .bl _,t=>some (t == .int || t == .bool)
 | .int _,t=>some (t == .int)
 | .str _,t=>some (t == .str)
 | .tup _,t=>some (t == .tuple)
 | .lst _,t=>some (t == .list)
 | .scr _,_=>none
 | .shn _,t=>some (t == .str)
 | .dct _ _,_=>none
 | .dci _ _,_=>none
 | .dcz _ _ _,_=>none
 | .obj _ _ _ _,_=>none
 | .dcn _ _ _,_=>none
noncomputable def c0w (t:Ty) (v:FV):Option FV:=(a9m v t).map .bl
noncomputable def isi2F (t u:Ty) (v:FV):Option FV:=(a9m v t).bind fun a=>(a9m v u).map fun b=>.bl (a || b)
noncomputable def sIx (n d:Nat):Option Int→Nat
 | none=>d
 | some v=>if v < 0 then (v + n).toNat else min v.toNat n
noncomputable def a6g {α:Type} (xs:List α) (lo hi:Option Int):List α:=(xs.drop (sIx xs.length 0 lo)).take (sIx xs.length xs.length hi - sIx xs.length 0 lo)
noncomputable def a8u (v:FV) (lo hi:Option Int):Option FV:=match v with
 | .tup xs=>some (.tup (a6g xs lo hi))
 | .lst xs=>some (.lst (a6g xs lo hi))
 | _=>none
abbrev EW:=a0a→(FV→a0a→Prop)→Prop
abbrev BW:=a0a→(Bool→a0a→Prop)→Prop
abbrev AW:=a0a→(List FV→a0a→Prop)→Prop
abbrev OW:=a0a→(Option Int→a0a→Prop)→Prop
noncomputable def a0c (i:Nat):EW:=fun L Q=>wp (lk L i) fun x=>Q x L
noncomputable def eC (v:FV):EW:=fun L Q=>Q v L
noncomputable def eUn (f:FV→Option FV) (a:EW):EW:=fun L Q=>a L fun x L1=>wp (f x) fun z=>Q z L1
noncomputable def eOp (f:FV→FV→Option FV) (a b:EW):EW:=fun L Q=>a L fun x L1=>b L1 fun y L2=>wp (f x y) fun z=>Q z L2
noncomputable def a8g (f:FV→FV→Option FV) (i:Nat) (b:EW):EW:=fun L Q=>wp (lk L i) fun _=>b L fun y L1=>wp (lk L1 i) fun x=>wp (f x y) fun z=>Q z L1
noncomputable def eChain (f g:FV→FV→Option FV) (a b c:EW):EW:=fun L Q=>a L fun x L1=>b L1 fun y L2=>wp (f x y) fun r=>wp (blF r) fun r=>if r=true then c L2 fun z L3=>wp (g y z) fun q=>Q q L3 else Q (.bl false) L2
noncomputable def c9z (a b:EW):EW:=fun L Q=>a L fun x L1=>wp (b4h x) fun r=>if r=true then b L1 Q else Q x L1
noncomputable def eOr (a b:EW):EW:=fun L Q=>a L fun x L1=>wp (b4h x) fun r=>if r=true then Q x L1 else b L1 Q
noncomputable def eIf (c:BW) (a b:EW):EW:=fun L Q=>c L fun r L1=>if r=true then a L1 Q else b L1 Q
noncomputable def a1j (a:EW):BW:=fun L Q=>a L fun x L1=>wp (b4h x) fun b=>Q b L1
noncomputable def c1t (a b:BW):BW:=fun L Q=>a L fun r L1=>if r=true then b L1 Q else Q false L1
noncomputable def bOr (a b:BW):BW:=fun L Q=>a L fun r L1=>if r=true then Q true L1 else b L1 Q
noncomputable def b3j (a:BW):BW:=fun L Q=>a L fun r L1=>Q (!r) L1
noncomputable def a2r:BW:=fun L Q=>Q true L
noncomputable def a1a:AW:=fun L Q=>Q [] L
noncomputable def a0b (a:EW) (r:AW):AW:=fun L Q=>a L fun x L1=>r L1 fun xs L2=>Q (x :: xs) L2
noncomputable def a6m (a:AW):EW:=fun L Q=>a L fun xs L1=>xs.length≤big∧Q (.tup xs) L1
noncomputable def a8i (a:AW):EW:=fun L Q=>a L fun xs L1=>xs.length≤big∧Q (.lst xs) L1
noncomputable def b6e:OW:=fun L Q=>Q none L
noncomputable def b0y (a:EW):OW:=fun L Q=>a L fun x L1=>wp (a3b x) fun i=>Q (some i) L1
noncomputable def eSl (a:EW) (l h:OW):EW:=fun L Q=>a L fun x L1=>l L1 fun i L2=>h L2 fun j L3=>wp (a8u x i j) fun z=>Q z L3
noncomputable def eSlN (k:Nat) (l h:OW):EW:=fun L Q=>wp (lk L k) fun _=>l L fun i L2=>h L2 fun j L3=>wp (lk L3 k) fun x=>wp (a8u x i j) fun z=>Q z L3
abbrev CW:=Nat→List FV→(FV×FV→Prop)→Prop
noncomputable def a2e (call:CW) (f:Nat) (a:AW):EW:=fun L Q=>a L fun xs L1=>call f xs fun z=>Q z.1 L1
noncomputable def a1g (call:CW) (f i:Nat) (a:AW):EW:=fun L Q=>wp (lk L i) fun _=>a L fun xs L1=>wp (lk L1 i) fun x=>call f (x :: xs) fun z=>Q z.1 (L1.set i (some z.2))
noncomputable def c6c (v y:FV):Option FV:=(a6i v).bind fun xs=>if xs.length < big then some (.lst (xs++[y])) else none
noncomputable def nscF:FV→Option (List FV) | .tup xs=>some xs | .lst xs=>some xs | _=>none
noncomputable def d7p (v y:FV):Option FV:=(a6i v).bind fun xs=>(nscF y).bind fun ys=>if xs.length + ys.length≤big then some (.lst (xs++ys)) else none
noncomputable def a8h (f:FV→FV→Option FV) (i:Nat) (a:EW):EW:=fun L Q=>wp (lk L i) fun v=>wp (a6i v) fun _=>a L fun y L1=>wp (lk L1 i) fun x=>wp (f x y) fun z=>Q .non (L1.set i (some z))
noncomputable def upF (lo:Int):Nat→List FV
 | 0=>[]
 | n + 1=>.int lo :: upF (lo + 1) n
noncomputable def a2y (xs ys:List FV):List FV:=xs.zipWith (fun p q=>.tup [p,q]) ys
noncomputable def a4y (a:EW):AW:=fun L Q=>a L fun x L1=>wp (a4w x) fun xs=>Q xs L1
noncomputable def b4i (a:EW):AW:=fun L Q=>a L fun x L1=>wp (a3b x) fun j=>a1x j=true∧Q (upF 0 j.toNat) L1
noncomputable def iRng2 (a b:EW):AW:=fun L Q=>a L fun x L1=>b L1 fun y L2=>wp (a3b x) fun i=>wp (a3b y) fun j=>(a1x i && a1x j)=true∧Q (upF i (j - i).toNat) L2
noncomputable def iZip (a b:EW):AW:=fun L Q=>a L fun x L1=>b L1 fun y L2=>wp (a4w x) fun xs=>wp (a4w y) fun ys=>Q (a2y xs ys) L2
noncomputable def b1i (a:EW):AW:=fun L Q=>a L fun x L1=>wp (a4w x) fun xs=>Q (a2y (upF 0 xs.length) xs) L1
inductive Tg where | nm (i:Nat) | tp (is:List Nat) | tn (i:Nat) (is:List Nat)
noncomputable def d4v:List FV→Option (FV×FV) | [a,b]=>some (a,b) | _=>none
noncomputable def a7m:a0a→List Nat→List FV→Option a0a
 | L,[],[]=>some L
 | L,i :: is,v :: vs=>a7m (L.set i (some v)) is vs
 | _,_,_=>none
noncomputable def gW (tg:Tg) (v:FV) (L:a0a) (Q:a0a→Prop):Prop:=match tg with
 | .nm i=>Q (L.set i (some v))
 | .tp is=>wp (a6d v) fun xs=>wp (a7m L is xs) Q
 | .tn i is=>wp (a6d v) fun xs=>wp (d4v xs) fun p=>wp (a6d p.2) fun ys=>wp (a7m (L.set i (some p.1)) is ys) Q
noncomputable def a3a (n m:Nat) (tg:Tg) (t:BW) (e:EW):List FV→List FV→a0a→(List FV→a0a→Prop)→Prop
 | [],acc,L,Q=>Q acc L
 | x :: xs,acc,L,Q=>gW tg x (L++Γj m none) fun L1=>t L1 fun b L2=>if b=true then e L2 fun v L3=>a3a n m tg t e xs (acc++[v]) (L3.take n) Q else a3a n m tg t e xs acc (L2.take n) Q
noncomputable def a1z (n m:Nat) (it:AW) (tg:Tg) (t:BW) (e:EW):EW:=fun L Q=>it L fun xs L1=>L1.length=n∧xs.length≤big∧a3a n m tg t e xs [] L1 fun ys L2=>Q (.lst ys) L2
inductive FFl where | next | ret (v:FV) | brk | cont
abbrev SW:=a0a→(FFl→a0a→Prop)→Prop
noncomputable def aft (k:a0a→Prop) (Q:FFl→a0a→Prop):FFl→a0a→Prop
 | .next,L=>k L
 | .ret v,L=>Q (.ret v) L
 | .brk,L=>Q .brk L
 | .cont,L=>Q .cont L
noncomputable def a6e:SW:=fun L Q=>Q .next L
noncomputable def a0s (s r:SW):SW:=fun L Q=>s L (aft (fun L1=>r L1 Q) Q)
noncomputable def a1u (e:EW) (tg:Tg):SW:=fun L Q=>e L fun x L1=>gW tg x L1 fun L2=>Q .next L2
noncomputable def d3g (v j x:FV):Option FV:=(a6i v).bind fun xs=>(a3b j).bind fun n=>(ixN xs.length n).map fun p=>.lst (xs.set p x)
noncomputable def c7g (k:Nat) (i e:EW):SW:=fun L Q=>wp (lk L k) fun _=>e L fun x L1=>i L1 fun j L2=>wp (lk L2 k) fun y=>wp (d3g y j x) fun z=>Q .next (L2.set k (some z))
noncomputable def d1i (f:FV→FV→Option FV) (i:Nat) (e:EW):SW:=fun L Q=>wp (lk L i) fun a=>e L fun x L1=>wp (f a x) fun z=>Q .next (L1.set i (some z))
noncomputable def a2s (e:EW):SW:=fun L Q=>e L fun x L1=>Q (.ret x) L1
noncomputable def sRetN:SW:=fun L Q=>Q (.ret .non) L
noncomputable def c2c (e:EW):SW:=fun L Q=>e L fun _ L1=>Q .next L1
noncomputable def sIf (c:BW) (a b:SW):SW:=fun L Q=>c L fun r L1=>if r=true then a L1 Q else b L1 Q
noncomputable def sBrk:SW:=fun L Q=>Q .brk L
noncomputable def sCont:SW:=fun L Q=>Q .cont L
noncomputable def b0m (k:a0a→Prop) (Q:FFl→a0a→Prop):FFl→a0a→Prop
 | .next,L=>k L
 | .cont,L=>k L
 | .brk,L=>Q .next L
 | .ret v,L=>Q (.ret v) L
noncomputable def c2w (tg:Tg) (b:SW):List FV→a0a→(FFl→a0a→Prop)→Prop
 | [],L,Q=>Q .next L
 | x :: xs,L,Q=>gW tg x L fun L1=>b L1 (b0m (fun L2=>c2w tg b xs L2 Q) Q)
noncomputable def b0j (it:AW) (tg:Tg) (b:SW):SW:=fun L Q=>it L fun xs L1=>c2w tg b xs L1 Q
noncomputable def c6g (c:BW) (b:SW):Nat→a0a→(FFl→a0a→Prop)→Prop
 | 0,_,_=>False
 | n + 1,L,Q=>c L fun r L1=>if r=true then b L1 (b0m (fun L2=>c6g c b n L2 Q) Q) else Q .next L1
noncomputable def c6i (c:BW) (b:SW):SW:=fun L Q=>∃ n,c6g c b n L Q
structure FD where
 np:Nat
 ns:Nat
 body:CW→SW
 io:Bool
 fr:Bool
noncomputable def b9a (io fr:Bool) (Q:FV×FV→Prop):FFl→a0a→Prop
 | .ret v,L=>match io with
  | true=>wp (lk L 0) fun x=>Q (v,x)
  | false=>Q (v,.non)
 | .next,L=>match fr with
  | true=>False
  | false=>match io with
   | true=>wp (lk L 0) fun x=>Q (.non,x)
   | false=>Q (.non,.non)
 | _,_=>False
noncomputable def callW (tb:List FD):Nat→CW
 | 0,_,_,_=>False
 | d + 1,f,args,Q=>match tb[f]? with
  | none=>False
  | some fd=>args.length=fd.np∧fd.body (callW tb d) (args.map some++Γj (fd.ns - fd.np) none) (b9a fd.io fd.fr Q)
end Kq
end
section
namespace Kq
open PySem PySem.Spec PyProof.Rows L2
theorem a9b {x y:String} (h:Γe x=Γe y):x=y:=by
 rw [Str.ofString_eq_toList,Str.ofString_eq_toList] at h
 have h2:x.toList.map Char.toNat=y.toList.map Char.toNat:=by
  injection h with h
  simpa using congrArg Array.toList h
 have inj:∀ (a b:List Char),a.map Char.toNat=b.map Char.toNat→a=b:=by
  intro a
  induction a with
  | nil=>intro b hb; cases b <;> simp_all
  | cons c a ih =>
   intro b hb
   cases b with
   | nil=>simp at hb
   | cons d b =>
    simp only [List.map_cons,List.cons.injEq] at hb
    rw [ih b hb.2,Char.toNat_inj.mp hb.1]
 exact String.toList_inj.mp (inj _ _ h2)
theorem c7b (a b:String):(Γe a == Γe b)=(a == b):=by
 rw [Bool.eq_iff_iff]
 simp only [beq_iff_eq]
 exact ⟨a9b,fun h=>by rw [h]⟩
theorem a3c (x:String):PyData.strOk (Γe x)=true:=by
 rw [Str.ofString_eq_toList]
 unfold PyData.strOk
 simp only [List.all_toArray,List.all_map,List.all_eq_true,Function.comp_apply,decide_eq_true_eq]
 intro c _
 have h:c.val.toNat < 0xd800 ∨ (0xdfff < c.val.toNat∧c.val.toNat < 0x110000):=c.valid
 show c.val.toNat < 1114112
 lia
mutual
theorem a4z:∀ d:D,(dPy d).canLay0=true
 | .non=>rfl
 | .bl _=>rfl
 | .int _=>rfl
 | .str x=>by simp only [dPy,PyData.canLay0]; exact a3c x
 | .tup xs=>by simp only [dPy,PyData.canLay0]; exact a5y xs
 | .lst xs=>by simp only [dPy,PyData.canLay0]; exact a5y xs
theorem a5y:∀ xs:List D,PyData.canLayAll0 (a3s xs)=true
 | []=>rfl
 | x :: xs=>by simp only [a3s,PyData.canLayAll0,a4z x,a5y xs,Bool.and_self]
end
mutual
theorem b8f:∀ a b:D,PyData.eqv (dPy a) (dPy b)=D.eqv a b
 | .non,b=>by cases b <;> simp only [dPy,PyData.eqv,D.eqv]
 | .bl _,b=>by cases b <;> simp only [dPy,PyData.eqv,D.eqv]
 | .int _,b=>by cases b <;> simp only [dPy,PyData.eqv,D.eqv]
 | .str x,b=>by cases b <;> simp only [dPy,PyData.eqv,D.eqv,c7b]
 | .tup xs,b=>by cases b <;> simp only [dPy,PyData.eqv,D.eqv,b8e]
 | .lst xs,b=>by cases b <;> simp only [dPy,PyData.eqv,D.eqv,b8e]
theorem b8e:∀ a b:List D,PyData.eqvAll (a3s a) (a3s b)=D.eqvs a b
 | [],b=>by cases b <;> simp only [a3s,PyData.eqvAll,D.eqvs]
 | x :: xs,b=>by cases b <;> simp only [a3s,PyData.eqvAll,D.eqvs,b8f,b8e]
end
theorem b8g (x:D):∀ xs:List D,((a3s xs).any fun y=>PyData.eqv y (dPy x))=xs.any fun y=>D.eqv y x
 | []=>rfl
 | y :: r=>by simp only [a3s,List.any_cons,b8f,b8g x r]
mutual
theorem b3d:∀ d:D,(dPy d).hasDict=false
 | .non=>rfl
 | .bl _=>rfl
 | .int _=>rfl
 | .str x=>rfl
 | .tup xs=>by simp only [dPy,PyData.hasDict]; exact a5x xs
 | .lst xs=>by simp only [dPy,PyData.hasDict]; exact a5x xs
theorem a5x:∀ xs:List D,PyData.hasDictAll (a3s xs)=false
 | []=>rfl
 | x :: xs=>by simp only [a3s,PyData.hasDictAll,b3d x,a5x xs,Bool.or_self]
end
theorem log2_lt {i:Int} {k:Nat} (hk:0 < k) (h:-(2 ^ k:Int) < i∧i < 2 ^ k):i.natAbs.log2 < k:=by
 by_cases h0:i.natAbs=0
 ·rw [h0]; simpa using hk
 ·rw [Nat.log2_lt h0]
  have e:((2 ^ k:Nat):Int)=(2:Int) ^ k:=by rw [Int.natCast_pow]; rfl
  lia
mutual
theorem c5t:∀ d:D,d.fit=true→(dPy d).showable=true∧(dPy d).intsShort 160=true∧(dPy d).weight≤d.wt
 | .non,_=>⟨rfl,rfl,Γi _⟩
 | .bl _,_=>⟨rfl,rfl,Γi _⟩
 | .int i,h=>by
  have h:-(2 ^ 150:Int) < i∧i < 2 ^ 150:=by simpa [D.fit] using h
  have l1:=log2_lt (k:=150) (by decide) h
  refine ⟨?_,?_,?_⟩
  ·simp only [dPy,PyData.showable,decide_eq_true_eq]; lia
  ·simp only [dPy,PyData.intsShort,decide_eq_true_eq]
   have e:=int_text_length_le (k:=150) (by decide) l1
   show (Γe (toString i)).length≤160
   rw [PySem.ofString_length]; lia
  ·simp only [dPy,PyData.weight,D.wt]
   split
   ·lia
   ·split
    ·rename_i hs
     have l2:=log2_lt (k:=40) (by decide) hs
     lia
    ·lia
 | .str x,_=>by
  refine ⟨rfl,rfl,?_⟩
  simp only [dPy,PyData.weight,D.wt]
  have:(Γe x).length=x.length:=PySem.ofString_length x
  exact Nat.le_of_eq this
 | .tup xs,h=>by
  obtain ⟨h1,h2,h3⟩:=b8d xs (by simpa only [D.fit] using h)
  exact ⟨by simpa only [dPy,PyData.showable] using h1,by simpa only [dPy,PyData.intsShort] using h2,by simpa only [dPy,PyData.weight,D.wt] using h3⟩
 | .lst xs,h=>by
  obtain ⟨h1,h2,h3⟩:=b8d xs (by simpa only [D.fit] using h)
  exact ⟨by simpa only [dPy,PyData.showable] using h1,by simpa only [dPy,PyData.intsShort] using h2,by simpa only [dPy,PyData.weight,D.wt] using h3⟩
theorem b8d:∀ xs:List D,D.fits xs=true→PyData.showableAll (a3s xs)=true∧PyData.intsShortAll 160 (a3s xs)=true∧PyData.weightAll (a3s xs)≤D.wts xs
 | [],_=>⟨rfl,rfl,Γi _⟩
 | x :: xs,h=>by
  have h:x.fit=true∧D.fits xs=true:=by simpa only [D.fits,Bool.and_eq_true] using h
  obtain ⟨a1,a2,a3⟩:=c5t x h.1
  obtain ⟨b1,b2,b3⟩:=b8d xs h.2
  refine ⟨?_,?_,?_⟩
  ·simp only [a3s,PyData.showableAll,a1,b1,Bool.and_self]
  ·simp only [a3s,PyData.intsShortAll,a2,b2,Bool.and_self]
  ·simp only [a3s,PyData.weightAll,D.wts]; lia
end
theorem c5s {d:D} (h:d.fit=true) (hw:d.wt≤big):(dPy d).shown.length≤sizeLine:=by
 obtain ⟨_,h2,h3⟩:=c5t d h
 have:=PyData.shown_le 160 (by decide) (dPy d) (PyData.leavesShort_of_canLay0 160 _ (a4z d) h2)
 unfold big at hw
 have e:sizeLine=16777216:=rfl
 lia
theorem bnd {α β:Type} {o:Option α} {f:α→Option β} {z:β} (h:o.bind f=some z):∃ a,o=some a∧f a=some z:=Option.bind_eq_some_iff.mp h
theorem mpd {α β:Type} {o:Option α} {f:α→β} {z:β} (h:o.map f=some z):∃ a,o=some a∧f a=z:=Option.map_eq_some_iff.mp h
theorem itd {α:Type} {c:Prop} [Decidable c] {a b:α} (h:(if c then some a else none)=some b):c∧a=b:=by
 by_cases z:c
 ·rw [if_pos z] at h; exact ⟨z,Option.some.inj h⟩
 ·rw [if_neg z] at h; cases h
theorem a5g:∀ {n:Nat} {p:FV} {d:D},fD n p=some d→(dPy d).depth≤n
 | 0,p,d,h=>by cases h
 | n + 1,p,d,h=>by
  have ds:∀ {ps:List FV} {ds:List D},a7v (fD n) ps=some ds→PyData.depthAll (a3s ds)≤n:=by
   intro ps
   induction ps with
   | nil=>intro ds h; cases h; simp [a3s,PyData.depthAll]
   | cons q ps ih =>
    intro ds h
    obtain ⟨y,e1,h⟩:=bnd h
    obtain ⟨zs,e2,rfl⟩:=mpd h
    simp only [a3s,PyData.depthAll]
    exact Nat.max_le.mpr ⟨a5g e1,ih e2⟩
  cases p with
  | tup ps=>obtain ⟨zs,e,rfl⟩:=mpd (show (a7v (fD n) ps).map D.tup=some d from h); simp only [dPy,PyData.depth]; have:=ds e; lia
  | lst ps=>obtain ⟨zs,e,rfl⟩:=mpd (show (a7v (fD n) ps).map D.lst=some d from h); simp only [dPy,PyData.depth]; have:=ds e; lia
  | non=>cases h; simp [dPy,PyData.depth]
  | bl _=>cases h; simp [dPy,PyData.depth]
  | int _=>cases h; simp [dPy,PyData.depth]
  | str _=>cases h; simp [dPy,PyData.depth]
  | scr _=>cases h
  | shn _=>cases h
  | dct _ _=>cases h
  | dci _ _=>cases h
  | dcz _ _ _=>cases h
  | obj _ _ _ _=>cases h
  | dcn _ _ _=>cases h
section
variable {X:Cx} {pins:List (Addr×Obj)} {σ:L2.St} {S H:Hp} {s:Shared}
noncomputable def d9e (X:Cx) (S:Hp) (s:Shared) (n:Nat):Prop:=∀ (p:FV) (v:V) (u:Value) (d:D),RV X.K S p v→RelV v u→fD n p=some d→∃ as,Reads s.heap u (dPy d) as
theorem a5l {n:Nat} (R:d9e X S s n):∀ {ps:List FV} {vs:List V} {us:List Value} {ds:List D},RVs X.K S ps vs→Vals vs us→a7v (fD n) ps=some ds→∃ as,ReadsAll s.heap us (a3s ds) as
 | [],vs,us,ds,r,q,h=>by
  cases (show vs=[] from r)
  cases q
  cases h
  exact ⟨[],.nil⟩
 | p :: ps,vs,us,ds,r,rq,h=>by
  obtain ⟨v1,vr,rfl,r1,r2⟩:=r
  cases rq with
  | cons q1 q2 =>
   obtain ⟨y,e1,h⟩:=bnd h
   obtain ⟨zs,e2,rfl⟩:=mpd h
   obtain ⟨as,ra⟩:=R _ _ _ _ r1 q1 e1
   obtain ⟨bs,rb⟩:=a5l R r2 q2 e2
   exact ⟨as++bs,.cons ra rb⟩
theorem a8w {n:Nat} (I:Inv X pins σ H s) (R:d9e X S s n) {a:Addr} {xs:List V} {ps:List FV} {d:D} (h1:H a=some (.lst xs)) (h2:RVs X.K S ps xs) (h:(a7v (fD n) ps).map D.lst=some d):∃ as,Reads s.heap (.ref a) (dPy d) as:=by
 obtain ⟨zs,e,rfl⟩:=mpd h
 obtain ⟨its,rr,⟨o,k,e1,e2,e2',e3⟩,_⟩:=I.list (SqL.of h1)
 obtain ⟨as,ra⟩:=a5l R h2 rr e
 exact ⟨a :: as,.list e1 e2 e3 (by simpa using ra)⟩
theorem a7n (I:Inv X pins σ H s) (hs:Same S H):∀ n,d9e X S s n
 | 0,p,v,u,d,_,_,h=>by cases h
 | n + 1,p,v,u,d,rp,rv,h=>by
  have R:=a7n I hs n
  cases p with
  | tup ps =>
   obtain ⟨a,xs,rfl,h1,h2⟩:=rp
   cases (show u=Value.ref a from rv)
   obtain ⟨zs,e,rfl⟩:=mpd (show (a7v (fD n) ps).map D.tup=some d from h)
   obtain ⟨its,rr,⟨o,e1,e2,k,e3⟩,_⟩:=I.tuple (SqT.of (hs _ _ h1))
   obtain ⟨as,ra⟩:=a5l R h2 rr e
   exact ⟨as,.tuple e1 e2 e3 (by simpa using ra)⟩
  | lst ps =>
   obtain ⟨a,xs,rfl,h1,h2⟩:=rp
   cases (show u=Value.ref a from rv)
   exact a8w I R (hs _ _ h1) h2 h
  | non=>cases h; cases (show v=_ from rp); cases (show u=_ from rv); exact ⟨_,.none⟩
  | bl _=>cases h; cases (show v=_ from rp); cases (show u=_ from rv); exact ⟨_,.bool _⟩
  | int _=>cases h; cases (show v=_ from rp); obtain ⟨t,rfl⟩:=rv; exact ⟨_,.int _ _⟩
  | str _=>cases h; cases (show v=_ from rp); obtain ⟨t,rfl⟩:=rv; exact ⟨_,.str _ _⟩
  | scr _=>cases h
  | shn _=>cases h
  | dct _ _=>cases h
  | dci _ _=>cases h
  | dcz _ _ _=>cases h
  | obj _ _ _ _=>cases h
  | dcn _ _ _=>cases h
theorem a4b (I:Inv X pins σ H s) (hs:Same S H) {n:Nat} {p:FV} {v:V} {u:Value} {d:D} (rp:RH X.K S H p v) (rv:RelV v u) (h:fD n p=some d):∃ as,Reads s.heap u (dPy d) as:=by
 rcases rp with rp | ⟨a,rfl,_,ps,xs,e,h1,h2⟩
 ·exact a7n I hs n p v u d rp rv h
 ·cases (show u=Value.ref a from rv)
  cases n with
  | zero=>cases h
  | succ n =>
   cases p with
   | lst qs=>cases e; exact a8w I (a7n I hs n) h1 h2 h
   | dct _ _=>cases h
   | dci _ _=>cases h
   | dcz _ _ _=>cases h
   | obj _ _ _ _=>cases h
   | dcn _ _ _=>cases h
   | _=>cases e
end
theorem a0m:big≤sizeLine:=by decide
theorem a1e {v:FV} {i:Int} (h:a3b v=some i):v=.int i:=by cases v <;> cases h; rfl
theorem d0p {v:FV} {i:Bool} (h:blF v=some i):v=.bl i:=by cases v <;> cases h; rfl
theorem a1m {v:FV} {i:List FV} (h:a6d v=some i):v=.tup i:=by cases v <;> cases h; rfl
theorem a3e {v:FV} {i:List FV} (h:a6i v=some i):v=.lst i:=by cases v <;> cases h; rfl
structure NewOr (K:Γd) (S H:Hp) (Q:VK) (z:FV):Prop where
 old:∀ x,(∀ ps,z≠.lst ps)→RV K S z x→Q x H
 tup:∀ ps xs p,z=.tup ps→RVs K S ps xs→H p=none→Q (.ref p) (upd H p (.tup xs))
 lst:∀ ps xs p,z=.lst ps→RVs K S ps xs→H p=none→Q (.ref p) (upd H p (.lst xs))
section
variable {X:Cx} {K:Γd} {S H:Hp} {Q:VK}
theorem NewOr.bl {b:Bool} (k:NewOr K S H Q (.bl b)):Q (.bl b) H:=k.old _ (fun _ z=>nomatch z) rfl
theorem NewOr.int {b:Int} (k:NewOr K S H Q (.int b)):Q (.int b) H:=k.old _ (fun _ z=>nomatch z) rfl
theorem NewOr.str {b:String} (k:NewOr K S H Q (.str b)):Q (.str (Γe b)) H:=k.old _ (fun _ z=>nomatch z) rfl
theorem RH.int {i:Int} {x:V} (h:RH K S H (.int i) x):x=.int i:=h.val rfl
theorem RH.bl {i:Bool} {x:V} (h:RH K S H (.bl i) x):x=.bl i:=h.val rfl
noncomputable def Rq (K:Γd) (f:FV→FV→Option FV):R2:=fun x y H Q=>∃ S v w z,Same S H∧RH K S H v x∧RH K S H w y∧f v w=some z∧NewOr K S H Q z
theorem a7o {g:Value→Value→Sem Value} {f:Int→Int→Option FV} {r:R2} (o:OpR X g r) (h:∀ i j z H Q,f i j=some z→(∀ x,(∀ S,RV X.K S z x)→Q x H)→r (.int i) (.int j) H Q) (n:∀ i j z,f i j=some z→∀ ps,z≠.lst ps):OpR X g (Rq X.K (a3f f)):=by
 intro pins s σ H x y u1 u2 Q I rx ry ⟨S,v,w,z,hs,hv,hw,e,k⟩
 obtain ⟨i,e1,e⟩:=bnd e
 obtain ⟨j,e2,e⟩:=bnd e
 cases a1e e1; cases a1e e2
 obtain rfl:=hv.int
 obtain rfl:=hw.int
 exact o pins s σ H _ _ u1 u2 Q I rx ry (h i j z H Q e fun x hx=>k.old x (n i j z e) (hx S))
theorem d4e:OpR X (binaryOp .Sub) (Rq X.K c6z):=a7o c8h (fun i j z H Q e k=>⟨i,j,rfl,rfl,k _ fun S=>by cases e; rfl⟩) fun i j z e ps=>by cases e; exact fun z=>nomatch z
theorem c7q:OpR X (binaryOp .FloorDiv) (Rq X.K b7o):=a7o c4f (fun i j z H Q e k=>⟨i,j,rfl,rfl,(itd e).1,k _ fun S=>by cases (itd e).2; rfl⟩) fun i j z e ps=>by cases (itd e).2; exact fun z=>nomatch z
theorem d4i:OpR X (binaryOp .Mod) (Rq X.K b8z):=a7o c8l (fun i j z H Q e k=>⟨i,j,rfl,rfl,(itd e).1,k _ fun S=>by cases (itd e).2; rfl⟩) fun i j z e ps=>by cases (itd e).2; exact fun z=>nomatch z
theorem d4g:OpR X (binaryOp .Pow) (Rq X.K c7z):=a7o c8j (fun i j z H Q e k=>⟨i,j,rfl,rfl,by
 obtain ⟨h1,h2,h3⟩:=(itd e).1
 have:-(2 ^ 64) < i∧i < 2 ^ 64:=by simpa [a2b] using h3
 exact ⟨h1,by lia,by lia⟩,k _ fun S=>by cases (itd e).2; rfl⟩) fun i j z e ps=>by cases (itd e).2; exact fun z=>nomatch z
theorem q_gt:OpR X (compareOp .Gt) (Rq X.K gtB):=a7o d4y (fun i j z H Q e k=>⟨i,j,rfl,rfl,k _ fun S=>by cases e; rfl⟩) fun i j z e ps=>by cases e; exact fun z=>nomatch z
theorem q_ge:OpR X (compareOp .GtE) (Rq X.K geB):=a7o d4z (fun i j z H Q e k=>⟨i,j,rfl,rfl,k _ fun S=>by cases e; rfl⟩) fun i j z e ps=>by cases e; exact fun z=>nomatch z
theorem c7t:OpR X (binaryOp .Add) (Rq X.K (a3f fun i j=>some (.int (i + j)))):=a7o c8o (fun i j z H Q e k=>⟨i,j,rfl,rfl,k _ fun S=>by cases e; rfl⟩) fun i j z e ps=>by cases e; exact fun z=>nomatch z
theorem c7o:OpR X (binaryOp .Mult) (Rq X.K (a3f fun i j=>if (a2b i || a2b j)=true then some (.int (i * j)) else none)):=a7o c8k (fun i j z H Q e k=>⟨i,j,rfl,rfl,by
 have:=(itd e).1
 simp only [a2b,Bool.or_eq_true,decide_eq_true_eq] at this
 exact this,k _ fun S=>by cases (itd e).2; rfl⟩) fun i j z e ps=>by cases (itd e).2; exact fun z=>nomatch z
theorem d4j:OpR X (compareOp .Lt) (Rq X.K (a3f fun i j=>some (.bl (decide (i < j))))):=a7o d4x (fun i j z H Q e k=>⟨i,j,rfl,rfl,k _ fun S=>by cases e; rfl⟩) fun i j z e ps=>by cases e; exact fun z=>nomatch z
theorem c7s {xs ys:List FV} {x y:V} {z:FV} {pins:List (Addr×Obj)} {σ:L2.St} {s:Shared} {u1 u2:Value} (I:Inv X pins σ H s) (rx:RelV x u1) (ry:RelV y u2) (hs:Same S H) (hv:RH X.K S H (.tup xs) x) (hw:RH X.K S H (.tup ys) y)
  (e:(if xs.length + ys.length≤big then some (FV.tup (xs++ys)) else none)=some z) (k:NewOr X.K S H Q z):wpAny (model X.prog X.w) X.A (binaryOp .Add u1 u2) (EP X pins σ Q) X.xe s:=by
 obtain ⟨hc,rfl⟩:=itd e
 have rv:=hv.val rfl
 have rw':=hw.val rfl
 obtain ⟨a,as,rfl,ha,ra⟩:=hv.tup hs
 obtain ⟨b,bs,rfl,hb,rb⟩:=hw.tup hs
 have l1:=ra.length
 have l2:=rb.length
 have hl:=a0m
 by_cases h0:as=[]
 ·subst h0
  have z2:xs=[]:=List.eq_nil_of_length_eq_zero (by simpa using l1)
  subst z2
  exact c0h pins s σ H _ _ u1 u2 Q I rx ry ⟨a,b,bs,rfl,rfl,SqT.of ha,SqT.of hb,k.old _ (fun _ z=>nomatch z) rw'⟩
 refine c4g pins s σ H _ _ u1 u2 Q I rx ry ⟨a,b,as,bs,rfl,rfl,SqT.of ha,SqT.of hb,h0,by lia,fun z=>?_,fun _ p hp=>k.tup _ _ p rfl (ra.append rb) hp⟩
 subst z
 have z2:ys=[]:=List.eq_nil_of_length_eq_zero (by simpa using l2)
 subst z2
 exact k.old _ (fun _ z=>nomatch z) (by rw [List.append_nil]; exact rv)
theorem d4l:OpR X (binaryOp .Add) (Rq X.K a6h):=by
 intro pins s σ H x y u1 u2 Q I rx ry ⟨S,v,w,z,hs,hv,hw,e,k⟩
 cases v with
 | tup xs =>
  obtain ⟨ys,e1,e⟩:=bnd e
  cases a1m e1
  exact c7s I rx ry hs hv hw e k
 | lst xs =>
  obtain ⟨ys,e1,e⟩:=bnd e
  cases a3e e1
  obtain ⟨hc,rfl⟩:=itd e
  obtain ⟨a,as,rfl,ha,ra⟩:=hv.lst hs
  obtain ⟨b,bs,rfl,hb,rb⟩:=hw.lst hs
  have l1:=ra.length
  have l2:=rb.length
  have hl:=a0m
  exact c8n pins s σ H _ _ u1 u2 Q I rx ry ⟨a,b,as,bs,rfl,rfl,ha,hb,by lia,fun p hp=>k.lst _ _ p rfl (ra.append rb) hp⟩
 | _=>exact c7t pins s σ H x y u1 u2 Q I rx ry ⟨S,_,w,z,hs,hv,hw,e,k⟩
theorem d4h:OpR X (binaryOp .Mult) (Rq X.K b8y):=by
 intro pins s σ H x y u1 u2 Q I rx ry ⟨S,v,w,z,hs,hv,hw,e,k⟩
 cases v with
 | lst xs =>
  obtain ⟨j,e1,e⟩:=bnd e
  cases a1e e1
  obtain ⟨hc,rfl⟩:=itd e
  obtain ⟨a,as,rfl,ha,ra⟩:=hv.lst hs
  obtain rfl:=hw.int
  have l1:=ra.length
  have hl:=a0m
  exact c8i pins s σ H _ _ u1 u2 Q I rx ry ⟨a,j,as,rfl,rfl,ha,hc.1,hc.2.1,by rw [← l1]; lia,fun p hp=>k.lst _ _ p rfl (ra.rep _) hp⟩
 | _=>exact c7o pins s σ H x y u1 u2 Q I rx ry ⟨S,_,w,z,hs,hv,hw,e,k⟩
theorem a2k:∀ {ps:List FV} {xs:List V} {ns:List Int},RVs K S ps xs→a0z ps=some ns→xs=ns.map V.int
 | [],xs,ns,r,e=>by cases (show xs=[] from r); cases e; rfl
 | p :: ps,xs,ns,r,e=>by
  obtain ⟨v,q,rfl,h1,h2⟩:=r
  cases p with
  | int i =>
   obtain ⟨ms,z,rfl⟩:=mpd (show (a0z ps).map (i :: ·)=some ns from e)
   rw [a2k h2 z,List.map_cons,show v=.int i from h1]
  | _=>cases e
theorem a4q:∀ {ps:List FV} {xs:List V} {ns:List Bool},RVs K S ps xs→a4j ps=some ns→xs=ns.map V.bl
 | [],xs,ns,r,e=>by cases (show xs=[] from r); cases e; rfl
 | p :: ps,xs,ns,r,e=>by
  obtain ⟨v,q,rfl,h1,h2⟩:=r
  cases p with
  | bl i =>
   obtain ⟨ms,z,rfl⟩:=mpd (show (a4j ps).map (i :: ·)=some ns from e)
   rw [a4q h2 z,List.map_cons,show v=.bl i from h1]
  | _=>cases e
theorem c2r:∀ a b:List Int,Kq.lexLt a b=HT.lexLt a b
 | [],[]=>by simp [Kq.lexLt,HT.lexLt]
 | [],_ :: _=>by simp [Kq.lexLt,HT.lexLt]
 | _ :: _,[]=>by simp [Kq.lexLt,HT.lexLt]
 | a :: r,b :: q=>by
  simp only [Kq.lexLt,HT.lexLt,c2r r q]
  try (by_cases h:a=b <;> simp [h])
theorem q_lt (hu:X.A.units + 64 < cLine):OpR X (compareOp .Lt) (Rq X.K ltB):=by
 intro pins s σ H x y u1 u2 Q I rx ry ⟨S,v,w,z,hs,hv,hw,e,k⟩
 cases v with
 | tup xs =>
  obtain ⟨ys,e1,e⟩:=bnd e
  cases a1m e1
  obtain ⟨ns,e2,e⟩:=bnd e
  obtain ⟨ms,e3,e⟩:=bnd e
  cases e
  obtain ⟨a,as,rfl,ha,ra⟩:=hv.tup hs
  obtain ⟨b,bs,rfl,hb,rb⟩:=hw.tup hs
  cases a2k ra e2; cases a2k rb e3
  exact c8m (by lia) pins s σ H _ _ u1 u2 Q I rx ry ⟨a,b,ns,ms,rfl,rfl,SqT.of ha,SqT.of hb,by rw [← c2r]; exact k.bl⟩
 | _=>exact d4j pins s σ H x y u1 u2 Q I rx ry ⟨S,_,w,z,hs,hv,hw,e,k⟩
theorem c9s {p q:FV} {b:Bool} (e:eqF p q=some b):(∃ d,p=.shn d∧q=.shn d∧b=true) ∨ ∃ x y,fD a0n p=some x∧fD a0n q=some y∧b=D.eqv x y:=by
 have gen:eqD p q=some b→∃ x y,fD a0n p=some x∧fD a0n q=some y∧b=D.eqv x y:=fun e=>by
  obtain ⟨x,e1,e⟩:=bnd e
  obtain ⟨y,e2,e⟩:=bnd e
  cases e
  exact ⟨x,y,e1,e2,rfl⟩
 unfold eqF at e
 split at e
 ·obtain ⟨rfl,rfl⟩:=@itd _ _ (Classical.propDecidable _) _ _ e
  exact .inl ⟨_,rfl,rfl,rfl⟩
 ·exact .inr (gen e)
theorem c7r (hu:X.A.units + 64 < cLine) (neg:Bool):OpR X (compareOp (if neg then .NotEq else .Eq)) (Rq X.K fun p q=>(eqF p q).map fun r=>.bl (neg != r)):=by
 intro pins s σ H x y v u Q I rx ry ⟨S,p,q,z,hs,rp,rq,e,k⟩
 obtain ⟨b,e',rfl⟩:=mpd (show (eqF p q).map (fun r=>FV.bl (neg != r))=some z from e)
 have fin:=k.bl
 rcases c9s e' with ⟨d,rfl,rfl,rfl⟩ | ⟨dx,dy,e1,e2,rfl⟩
 ·obtain rfl:x=.str (dPy d).shown:=rp.val rfl
  obtain rfl:y=.str (dPy d).shown:=rq.val rfl
  cases neg with
  | false=>exact d5a pins s σ H _ _ v u Q I rx ry ⟨rfl,by simpa using fin⟩
  | true=>exact d4w pins s σ H _ _ v u Q I rx ry ⟨rfl,by simpa using fin⟩
 ·obtain ⟨as,ra⟩:=a4b I hs rp rx e1
  obtain ⟨bs,rb⟩:=a4b I hs rq ry e2
  have hd:X.A.units + min (dPy dx).depth (dPy dy).depth < cLine:=by
   have h1:=a5g e1
   unfold a0n at h1
   lia
  cases neg with
  | false=>exact PySem.SeqAt.compareEq_reads ra rb (a4z dx) (a4z dy) hd ⟨.bl _,H,I,rfl,by rw [b8f]; simpa using fin⟩
  | true=>exact PySem.SeqAt.compareNe_reads ra rb (a4z dx) (a4z dy) hd ⟨.bl _,H,I,rfl,by rw [b8f]; simpa using fin⟩
theorem q_eq (hu:X.A.units + 64 < cLine):OpR X (compareOp .Eq) (Rq X.K eqB):=fun pins s σ H x y v u Q I rx ry ⟨S,p,q,z,hs,rp,rq,e,k⟩=>c7r hu false pins s σ H x y v u Q I rx ry ⟨S,p,q,z,hs,rp,rq,by
 obtain ⟨b,e1,rfl⟩:=mpd e
 show (eqF p q).map _=_
 rw [e1]; cases b <;> rfl,k⟩
theorem q_ne (hu:X.A.units + 64 < cLine):OpR X (compareOp .NotEq) (Rq X.K neB):=fun pins s σ H x y v u Q I rx ry ⟨S,p,q,z,hs,rp,rq,e,k⟩=>c7r hu true pins s σ H x y v u Q I rx ry ⟨S,p,q,z,hs,rp,rq,by
 obtain ⟨b,e1,rfl⟩:=mpd e
 show (eqF p q).map _=_
 rw [e1]; cases b <;> rfl,k⟩
theorem c7p (hu:X.A.units + 64 < cLine) (neg:Bool):OpR X (compareOp (if neg then .NotIn else .In)) (Rq X.K fun p q=>(inF p q).map fun r=>.bl (neg != r)):=by
 intro pins s σ H x y v u Q I rx ry ⟨S,p,q,z,hs,rp,rq,e,k⟩
 obtain ⟨b,e',rfl⟩:=mpd (show (inF p q).map (fun r=>FV.bl (neg != r))=some z from e)
 have fin:=k.bl
 obtain ⟨dx,e1,e'⟩:=bnd e'
 obtain ⟨dy,e2,e'⟩:=bnd e'
 obtain ⟨as,ra⟩:=a4b I hs rp rx e1
 obtain ⟨bs,rb⟩:=a4b I hs rq ry e2
 have hd:∀ ys,X.A.units + 1 + min (PyData.depthAll (a3s ys)) (dPy dx).depth < cLine:=fun ys=>by
  have h1:=a5g e1
  unfold a0n at h1
  lia
 cases dy with
 | lst ys =>
  cases e'
  simp only [dPy] at rb
  cases neg with
  | false=>exact PySem.SeqAt.in_list_reads rb ra (a5y ys) (a4z dx) (hd ys) ⟨.bl _,H,I,rfl,by rw [b8g]; simpa using fin⟩
  | true=>exact PySem.SeqAt.notIn_list_reads rb ra (a5y ys) (a4z dx) (hd ys) ⟨.bl _,H,I,rfl,by rw [b8g]; simpa using fin⟩
 | tup ys =>
  cases e'
  simp only [dPy] at rb
  cases neg with
  | false=>exact PySem.SeqAt.in_tuple_reads rb ra (a5y ys) (a4z dx) (hd ys) ⟨.bl _,H,I,rfl,by rw [b8g]; simpa using fin⟩
  | true=>exact PySem.SeqAt.notIn_tuple_reads rb ra (a5y ys) (a4z dx) (hd ys) ⟨.bl _,H,I,rfl,by rw [b8g]; simpa using fin⟩
 | _=>cases e'
theorem q_in (hu:X.A.units + 64 < cLine):OpR X (compareOp .In) (Rq X.K inB):=fun pins s σ H x y v u Q I rx ry ⟨S,p,q,z,hs,rp,rq,e,k⟩=>c7p hu false pins s σ H x y v u Q I rx ry ⟨S,p,q,z,hs,rp,rq,by
 obtain ⟨b,e1,rfl⟩:=mpd e
 show (inF p q).map _=_
 rw [e1]; cases b <;> rfl,k⟩
theorem q_ni (hu:X.A.units + 64 < cLine):OpR X (compareOp .NotIn) (Rq X.K niB):=fun pins s σ H x y v u Q I rx ry ⟨S,p,q,z,hs,rp,rq,e,k⟩=>c7p hu true pins s σ H x y v u Q I rx ry ⟨S,p,q,z,hs,rp,rq,by
 obtain ⟨b,e1,rfl⟩:=mpd e
 show (inF p q).map _=_
 rw [e1]; cases b <;> rfl,k⟩
theorem c6a {ps:List FV} {xs:List V} {i:Int} {p:FV} (r:RVs K S ps xs) (e:atF ps i=some p):∃ v,L2.atI xs i=some v∧RV K S p v:=by
 obtain ⟨j,e1,e2⟩:=bnd e
 obtain ⟨v,h1,h2⟩:=r.get e2
 refine ⟨v,?_,h2⟩
 show (L2.ixN xs.length i).bind (fun j=>xs[j]?)=some v
 rw [← r.length,show L2.ixN ps.length i=some j from e1]
 exact h1
noncomputable def Ri (K:Γd):R2:=fun x y H Q=>∃ S v w z,Same S H∧RH K S H v x∧RH K S H w y∧ixF v w=some z∧∀ u,RV K S z u→Q u H
theorem q_ix:IxR X (Ri X.K):=by
 intro value slice pins s σ H x y v u Q I rx ry ⟨S,p,q,z,hs,rp,rq,e,k⟩ hsl
 obtain ⟨j,e1,e3⟩:=bnd e
 obtain ⟨ps,e2,e4⟩:=bnd e3
 cases a1e e1
 obtain rfl:=rq.int
 obtain ⟨a,xs,rfl,hq,r⟩:=rp.seq hs e2
 obtain ⟨w,h1,h2⟩:=c6a r e4
 cases hb:isL p with
 | true=>rw [hb] at hq; exact b6t value slice pins s σ H _ _ v u Q I rx ry ⟨a,xs,j,w,rfl,rfl,hq,h1,k w h2⟩ hsl
 | false=>rw [hb] at hq; exact c9e value slice pins s σ H _ _ v u Q I rx ry ⟨a,xs,j,w,rfl,rfl,hq,h1,k w h2⟩ hsl
theorem b2d (n d:Nat) (o:Option Int):Kq.sIx n d o=HT.sIx n d o:=by
 cases o with
 | none=>rfl
 | some v=>simp only [Kq.sIx,HT.sIx]; try (split <;> split <;> lia)
theorem b1q {ps:List FV} {xs:List V} {lo hi:Option Int} (r:RVs K S ps xs):RVs K S (a6g ps lo hi) (c2z xs lo hi):=by
 unfold a6g c2z
 rw [b2d,b2d,r.length]
 exact (r.drop _).take _
noncomputable def Rsl (K:Γd):V→Option Int→Option Int→Hp→VK→Prop:=fun x lo hi H Q=>∃ S v z,Same S H∧RH K S H v x∧a8u v lo hi=some z∧NewOr K S H Q z
theorem q_sl:SlR X (Rsl X.K):=by
 intro pins s σ H x v vl vu lo hi sl Q I rx hsl pl pu ⟨S,p,z,hs,rp,e,k⟩
 cases p with
 | tup ps =>
  cases e
  have rv:=rp.val rfl
  obtain ⟨a,xs,rfl,ha,ra⟩:=rp.tup hs
  by_cases hc:HT.sIx xs.length 0 lo=0∧HT.sIx xs.length xs.length hi=xs.length
  ·refine b9n pins s σ H _ v vl vu lo hi sl Q I rx hsl pl pu ⟨a,xs,rfl,SqT.of ha,hc.1,hc.2,k.old _ (fun _ z=>nomatch z) ?_⟩
   have e:a6g ps lo hi=ps:=by
    unfold a6g
    rw [b2d,b2d,ra.length,hc.1,hc.2,List.drop_zero,Nat.sub_zero,List.take_of_length_le (Nat.le_of_eq ra.length)]
   rw [e]; exact rv
  ·exact c7e pins s σ H _ v vl vu lo hi sl Q I rx hsl pl pu ⟨a,xs,rfl,SqT.of ha,hc,fun p hp=>k.tup _ _ p rfl (b1q ra) hp⟩
 | lst ps =>
  cases e
  obtain ⟨a,xs,rfl,ha,ra⟩:=rp.lst hs
  exact b4v pins s σ H _ v vl vu lo hi sl Q I rx hsl pl pu ⟨a,xs,rfl,SqL.of ha,fun p hp=>k.lst _ _ p rfl (b1q ra) hp⟩
 | _=>cases e
end
section
variable {X:Cx} {K:Γd} {S H:Hp} {Q:VK}
noncomputable def Rc (K:Γd) (f:FV→Option FV):List V→Hp→VK→Prop:=fun xs H Q=>∃ S v x z,xs=[x]∧Same S H∧RH K S H v x∧f v=some z∧NewOr K S H Q z
noncomputable def Rc2 (K:Γd) (f:FV→FV→Option FV):List V→Hp→VK→Prop:=fun xs H Q=>∃ S v w x y z,xs=[x,y]∧Same S H∧RH K S H v x∧RH K S H w y∧f v w=some z∧NewOr K S H Q z
theorem c7d {b:Bool} {a:Addr} {xs:List V} (h:SqB b K H a xs):SqL K H a xs ∨ SqT K H a xs:=by cases b; exact .inr h; exact .inl h
theorem d8j:a1l X (.builtin "len") (Rc X.K b0k):=by
 rintro pins s σ H xs us Q I r ⟨S,v,x,z,rfl,hs,rv,e,k⟩
 obtain ⟨ps,e1,rfl⟩:=mpd e
 obtain ⟨a,ys,rfl,hq,ry⟩:=rv.seq hs e1
 refine b0b pins s σ H _ us Q I r ⟨a,ys,rfl,c7d hq,?_⟩
 rw [← ry.length]
 exact k.int
theorem d8n:a1l X (.builtin "abs") (Rc X.K d0w):=by
 rintro pins s σ H xs us Q I r ⟨S,v,x,z,rfl,hs,rv,e,k⟩
 obtain ⟨i,e1,rfl⟩:=mpd e
 cases a1e e1
 obtain rfl:=rv.int
 exact c1s pins s σ H _ us Q I r ⟨i,rfl,k.int⟩
theorem d8k:a1l X (.type "int") (Rc X.K b1z):=by
 rintro pins s σ H xs us Q I r ⟨S,v,x,z,rfl,hs,rv,e,k⟩
 cases v with
 | int i =>
  cases e
  obtain rfl:=rv.int
  exact b0c pins s σ H _ us Q I r (.inl ⟨i,rfl,k.int⟩)
 | bl b =>
  cases e
  obtain rfl:=rv.bl
  exact b0c pins s σ H _ us Q I r (.inr ⟨b,rfl,k.int⟩)
 | _=>cases e
theorem c5w:a1l X (.type "tuple") (Rc X.K a5i):=by
 rintro pins s σ H xs us Q I r ⟨S,v,x,z,rfl,hs,rv,e,k⟩
 obtain ⟨ps,e1,rfl⟩:=mpd e
 obtain ⟨a,ys,rfl,hq,ry⟩:=rv.seq hs e1
 cases v with
 | tup qs=>cases e1; exact a2x pins s σ H _ us Q I r ⟨a,ys,rfl,.inr ⟨hq,k.old _ (fun _ z=>nomatch z) (rv.val rfl)⟩⟩
 | lst qs=>exact a2x pins s σ H _ us Q I r ⟨a,ys,rfl,.inl ⟨hq,fun l hl=>k.tup _ _ l rfl ry hl⟩⟩
 | scr qs=>exact a2x pins s σ H _ us Q I r ⟨a,ys,rfl,.inl ⟨hq,fun l hl=>k.tup _ _ l rfl ry hl⟩⟩
 | _=>cases e1
theorem c3c:a1l X (.type "list") (Rc X.K a3u):=by
 rintro pins s σ H xs us Q I r ⟨S,v,x,z,rfl,hs,rv,e,k⟩
 obtain ⟨ps,e1,rfl⟩:=mpd e
 obtain ⟨a,ys,rfl,hq,ry⟩:=rv.seq hs e1
 exact b0a pins s σ H _ us Q I r ⟨a,ys,rfl,c7d hq,fun l hl=>k.lst _ _ l rfl ry hl⟩
theorem d0k (hc:X.calm=true):a1l X (.builtin "max") (Rc2 X.K c0m):=by
 rintro pins s σ H xs us Q I r ⟨S,v,w,x,y,z,rfl,hs,rv,rw',e,k⟩
 obtain ⟨i,e1,e2⟩:=bnd e
 obtain ⟨j,e3,e4⟩:=bnd e2
 cases a1e e1; cases a1e e3; cases e4
 obtain rfl:=rv.int
 obtain rfl:=rw'.int
 exact b8q hc pins s σ H _ us Q I r ⟨i,j,rfl,k.int⟩
theorem Vals.mapInt {ns:List Int}:∀ {us:List Value},Vals (ns.map V.int) us→∀ i:Nat,i < ns.length→∃ t,us[i]?=some (.int (ns.getD i 0) t):=fun {us} r i hi=>by
 obtain ⟨u,e,t,rfl⟩:=r.get (i:=i) (x:=.int (ns.getD i 0)) (by simp [hi])
 exact ⟨t,e⟩
theorem a3t (ns:List Int):∀ j,j≤ns.length→preSum (fun i=>ns.getD i 0) j=(ns.take j).sum
 | 0,_=>by simp [preSum]
 | j + 1,h=>by
  have hj:j < ns.length:=h
  show preSum _ j + ns.getD j 0=_
  rw [a3t ns j (by lia),List.take_succ_eq_append_getElem hj,List.sum_append]
  simp [List.getD,hj]
theorem c2a (B:Int) (hB:0≤B):∀ ns:List Int,(∀ n∈ns,-B≤n∧n≤B)→-(B * ns.length)≤ns.sum∧ns.sum≤B * ns.length
 | [],_=>by simp
 | n :: r,h=>by
  have ih:=c2a B hB r fun m hm=>h m (Γh _ hm)
  have hn:=h n Γn
  rw [List.sum_cons,List.length_cons]
  have e:B * ((r.length + 1:Nat):Int)=B * (r.length:Int) + B:=by rw [Int.natCast_add,Int.mul_add]; simp
  rw [e]
  lia
theorem b4b (hc:X.calm=true):a1l X (.builtin "sum") (fun xs H Q=>∃ (a:Addr) (ns:List Int),xs=[.ref a]∧SqL X.K H a (ns.map V.int)∧ns.length≤big∧(∀ n∈ns,-(2 ^ 40)≤n∧n≤2 ^ 40)∧Q (.int ns.sum) H):=by
 intro pins s σ H xs us Q I r h
 obtain ⟨a,ns,rfl,hq,hz,hb,q⟩:=h
 obtain ⟨u,rfl,rx⟩:=a3o r
 cases rx
 obtain ⟨its,r',pl,hz'⟩:=I.list hq
 have hlen:ns.length=its.length:=by have:=r'.length; simpa using this
 have alt:a < s.heap.objs.size:=by obtain ⟨_,e,_⟩:=pl.isList; exact Γl e
 have hh:X.A.in1.handled=none:=I.ok.hd hc
 refine call_sum_walk (wpAny_pyIter_list pl.isList ?_)
 refine ⟨s.heap.objs.size,_,_,_,_,_,fun i=>ns.getD i 0,rfl,Walks.list hh s.heap.objs.size a (Γo alt) its.toArray,⟨⟨_,Γm _ rfl,rfl,rfl⟩,pl.isList.at fun o e=>Γc _ e⟩,?_,?_,?_,?_⟩
 ·intro b hb'
  simp at hb'
  rcases hb' with rfl | rfl
  ·show _ < (s.heap.push _).objs.size; rw [Heap.size_push]; exact Nat.lt_succ_self _
  ·show _ < (s.heap.push _).objs.size; rw [Heap.size_push]; exact Nat.lt_succ_of_lt alt
 ·intro i v hv
  have hv:its.toArray[i]?=some v:=hv
  have hi:i < ns.length:=by rw [hlen]; simpa using (Array.getElem?_eq_some_iff.mp hv).1
  obtain ⟨t,e⟩:=Vals.mapInt r' i hi
  refine ⟨t,?_⟩
  have e':its.toArray[i]?=some (.int (ns.getD i 0) t):=by simpa using e
  rw [hv] at e'
  exact Option.some.inj e'
 ·intro j hj
  have hj':j < ns.length:=by rw [hlen]; simpa using hj
  have hm:ns.getD j 0∈ns:=by simp [List.getD,hj']
  refine ⟨?_,?_⟩
  ·have:=hb _ hm
   show -(2 ^ 63)≤ns.getD j 0∧ns.getD j 0 < 2 ^ 63
   lia
  ·rw [a3t ns (j + 1) hj']
   have b2:=c2a 1099511627776 (by decide) (ns.take (j + 1)) fun n hn=>by have:=hb n (List.mem_of_mem_take hn); lia
   have l2:(ns.take (j + 1)).length≤100000:=by rw [List.length_take]; unfold big at hz; lia
   unfold InLong; lia
 ·intro h' tk t' hk
  have e:preSum (fun i=>ns.getD i 0) its.toArray.size=ns.sum:=by
   rw [List.size_toArray,← hlen,a3t ns _ (Γi _),List.take_length]
  rw [e]
  refine ⟨.int ns.sum,H,?_,⟨t',rfl⟩,q⟩
  exact I.kept (t':=tk) fun b o e=>hk b o (by simp; exact Γo (Γl e)) (Γc _ e)
theorem b1y {prog:Program} {w:World} {A:Around} {its:List Value} {bs:List Bool} (r:Vals (bs.map V.bl) its):TruthOf prog w A (fun i v=>its.toArray[i]?=some v) (fun i=>bs.getD i false):=by
 intro i v s Q E hv hq
 have hlen:bs.length=its.length:=by have:=r.length; simpa using this
 have hi:i < bs.length:=by rw [hlen]; simpa using (Array.getElem?_eq_some_iff.mp hv).1
 obtain ⟨u,e,ru⟩:=r.get (i:=i) (x:=.bl (bs.getD i false)) (by simp [hi])
 have e':its.toArray[i]?=some u:=by simpa using e
 rw [hv] at e'
 cases e'
 cases ru
 exact Γb hq
theorem b5b (bs:List Bool):(List.range bs.length).all (fun i=>bs.getD i false)=bs.all id:=by
 rw [Bool.eq_iff_iff]
 simp only [List.all_eq_true,List.mem_range,id]
 constructor
 ·intro h b hb
  obtain ⟨i,hi,e⟩:=List.mem_iff_getElem.mp hb
  have:=h i hi
  simpa [List.getD,hi,e] using this
 ·intro h i hi
  have:=h bs[i] (List.getElem_mem hi)
  simpa [List.getD,hi] using this
theorem b5a (bs:List Bool):(List.range bs.length).any (fun i=>bs.getD i false)=bs.any id:=by
 rw [Bool.eq_iff_iff]
 simp only [List.any_eq_true,List.mem_range,id]
 constructor
 ·rintro ⟨i,hi,e⟩
  exact ⟨bs[i],List.getElem_mem hi,by simpa [List.getD,hi] using e⟩
 ·rintro ⟨b,hb,e⟩
  obtain ⟨i,hi,e'⟩:=List.mem_iff_getElem.mp hb
  exact ⟨i,hi,by simpa [List.getD,hi,e'] using e⟩
theorem b4f (hc:X.calm=true):a1l X (.builtin "all") (fun xs H Q=>∃ (a:Addr) (bs:List Bool),xs=[.ref a]∧SqL X.K H a (bs.map V.bl)∧Q (.bl (bs.all id)) H):=by
 intro pins s σ H xs us Q I r h
 obtain ⟨a,bs,rfl,hq,q⟩:=h
 obtain ⟨u,rfl,rx⟩:=a3o r
 cases rx
 obtain ⟨its,r',pl,hz'⟩:=I.list hq
 have hlen:bs.length=its.length:=by have:=r'.length; simpa using this
 have alt:a < s.heap.objs.size:=by obtain ⟨_,e,_⟩:=pl.isList; exact Γl e
 have hh:X.A.in1.handled=none:=I.ok.hd hc
 refine call_all_walk (wpAny_pyIter_list pl.isList ?_)
 refine ⟨s.heap.objs.size,_,_,_,_,_,fun i=>bs.getD i false,rfl,Walks.list hh s.heap.objs.size a (Γo alt) its.toArray,⟨⟨_,Γm _ rfl,rfl,rfl⟩,pl.isList.at fun o e=>Γc _ e⟩,b1y r',?_⟩
 intro h' tk hk
 rw [List.size_toArray,← hlen,b5b]
 exact ⟨.bl _,H,I.kept (t':=tk) fun b o e=>hk b o (by simp; exact Γo (Γl e)) (Γc _ e),rfl,q⟩
theorem b4e (hc:X.calm=true):a1l X (.builtin "any") (fun xs H Q=>∃ (a:Addr) (bs:List Bool),xs=[.ref a]∧SqL X.K H a (bs.map V.bl)∧Q (.bl (bs.any id)) H):=by
 intro pins s σ H xs us Q I r h
 obtain ⟨a,bs,rfl,hq,q⟩:=h
 obtain ⟨u,rfl,rx⟩:=a3o r
 cases rx
 obtain ⟨its,r',pl,hz'⟩:=I.list hq
 have hlen:bs.length=its.length:=by have:=r'.length; simpa using this
 have alt:a < s.heap.objs.size:=by obtain ⟨_,e,_⟩:=pl.isList; exact Γl e
 have hh:X.A.in1.handled=none:=I.ok.hd hc
 refine call_any_walk (wpAny_pyIter_list pl.isList ?_)
 refine ⟨s.heap.objs.size,_,_,_,_,_,fun i=>bs.getD i false,rfl,Walks.list hh s.heap.objs.size a (Γo alt) its.toArray,⟨⟨_,Γm _ rfl,rfl,rfl⟩,pl.isList.at fun o e=>Γc _ e⟩,b1y r',?_⟩
 intro h' tk hk
 rw [List.size_toArray,← hlen,b5a]
 exact ⟨.bl _,H,I.kept (t':=tk) fun b o e=>hk b o (by simp; exact Γo (Γl e)) (Γc _ e),rfl,q⟩
theorem d8h (hc:X.calm=true):a1l X (.builtin "sum") (Rc X.K c6h):=by
 rintro pins s σ H xs us Q I r ⟨S,v,x,z,rfl,hs,rv,e,k⟩
 obtain ⟨ps,e1,e2⟩:=bnd e
 obtain ⟨n,e3,rfl⟩:=mpd e2
 obtain ⟨ns,e4,e5⟩:=bnd e3
 obtain ⟨hb,rfl⟩:=itd e5
 obtain ⟨a,ys,rfl,hq,ry⟩:=rv.list hs e1
 cases a2k ry e4
 refine b4b hc pins s σ H _ us Q I r ⟨a,ns,rfl,hq,hb.1,fun n hn=>?_,k.int⟩
 have:=List.all_eq_true.mp hb.2 n hn
 simpa [b0p] using this
theorem d8m (hc:X.calm=true):a1l X (.builtin "all") (Rc X.K c6m):=by
 rintro pins s σ H xs us Q I r ⟨S,v,x,z,rfl,hs,rv,e,k⟩
 obtain ⟨ps,e1,e2⟩:=bnd e
 obtain ⟨bs,e3,rfl⟩:=mpd e2
 obtain ⟨a,ys,rfl,hq,ry⟩:=rv.list hs e1
 cases a4q ry e3
 exact b4f hc pins s σ H _ us Q I r ⟨a,bs,rfl,hq,k.bl⟩
theorem d8l (hc:X.calm=true):a1l X (.builtin "any") (Rc X.K d0v):=by
 rintro pins s σ H xs us Q I r ⟨S,v,x,z,rfl,hs,rv,e,k⟩
 obtain ⟨ps,e1,e2⟩:=bnd e
 obtain ⟨bs,e3,rfl⟩:=mpd e2
 obtain ⟨a,ys,rfl,hq,ry⟩:=rv.list hs e1
 cases a4q ry e3
 exact b4e hc pins s σ H _ us Q I r ⟨a,bs,rfl,hq,k.bl⟩
theorem a6w:∀ (xs:List Int) (b x:Int),a1f b (xs++[x])=if x < a1f b xs then x else a1f b xs
 | [],b,x=>rfl
 | y :: ys,b,x=>by
  show a1f (if y < b then y else b) (ys++[x])=_
  rw [a6w ys]; rfl
theorem a9i (n:Int) (r:List Int):∀ k,k≤r.length→(n :: r)[argBest (fun i j=>decide ((n :: r).getD i 0 < (n :: r).getD j 0)) k]?=some (a1f n (r.take k))
 | 0,_=>by simp [argBest,a1f]
 | k + 1,h=>by
  have ih:=a9i n r k (by lia)
  have hk:k < r.length:=h
  have e1:(n :: r).getD (argBest (fun i j=>decide ((n :: r).getD i 0 < (n :: r).getD j 0)) k) 0=a1f n (r.take k):=by rw [List.getD_eq_getElem?_getD,ih]; rfl
  have e2:(n :: r).getD (k + 1) 0=r[k]:=by simp [List.getD,hk]
  rw [List.take_succ_eq_append_getElem hk,a6w]
  simp only [argBest,e1,e2,decide_eq_true_eq]
  split
  ·simp [hk]
  ·exact ih
theorem d0j (hc:X.calm=true):a1l X (.builtin "min") (Rc X.K b6j):=by
 rintro pins s σ H xs us Q I r ⟨S,v,x,z,rfl,hs,rv,e,k⟩
 obtain ⟨ps,e1,e2⟩:=bnd e
 obtain ⟨ns,e3,e4⟩:=bnd e2
 obtain ⟨a,ys,rfl,hq,ry⟩:=rv.list hs e1
 obtain ⟨u,rfl,ru⟩:=a3o r
 cases (show u=Value.ref a from ru)
 obtain ⟨its,r',pl,hz'⟩:=I.list hq
 have hh:X.A.in1.handled=none:=I.ok.hd hc
 have hlen:ys.length=its.length:=r'.length
 cases a2k ry e3
 cases ns with
 | nil=>cases e4
 | cons n r =>
  cases e4
  have hl2:its.length=r.length + 1:=by rw [← hlen]; simp
  have it:∀ (i:Nat) (v:Value),its.toArray[i]?=some v→∃ t,v=Value.int ((n :: r).getD i 0) t:=fun i v hv=>by
   have hv:its[i]?=some v:=by simpa using hv
   have hi:=(List.getElem?_eq_some_iff.mp hv).1
   obtain ⟨t,e⟩:=Vals.mapInt r' i (by simp; lia)
   rw [hv] at e
   exact ⟨t,Option.some.inj e⟩
  refine b4c (bt:=fun i j=>decide ((n :: r).getD i 0 < (n :: r).getD j 0)) hh pl.isList (by simp; lia) (fun i j u v s1 Q1 E1 _ hi hj q1=>?_) fun v h' tk hv hk=>?_
  ·obtain ⟨t1,rfl⟩:=it i u hi
   obtain ⟨t2,rfl⟩:=it j v hj
   exact PyProof.Rows.lt_int q1
  ·have hv:its[argBest (fun i j=>decide ((n :: r).getD i 0 < (n :: r).getD j 0)) (its.toArray.size - 1)]?=some v:=by simpa using hv
   have hb:=a9i n r r.length (Γi _)
   rw [List.take_length] at hb
   have hsz:its.toArray.size - 1=r.length:=by simp; lia
   rw [hsz] at hv
   generalize argBest (fun i j=>decide ((n :: r).getD i 0 < (n :: r).getD j 0)) r.length=z at hv hb
   obtain ⟨t,rfl⟩:=it z v (by simpa using hv)
   rw [List.getD_eq_getElem?_getD,hb]
   exact ⟨.int (a1f n r),H,I.kept (t':=tk) hk,⟨t,rfl⟩,k.int⟩
theorem b2a (hu:X.A.units + 64 < cLine) (hg:X.A.guards=some []) {pins:List (Addr×Obj)} {s:Shared} {σ:L2.St} {v z:FV} {a:Addr} (I:Inv X pins σ H s) (hs:Same S H) (rv:RH X.K S H v (.ref a)) (e:d3f v=some z) (k:NewOr X.K S H Q z):wpAny (model X.prog X.w) X.A (PySem.call (.type "str") [.ref a]) (EP X pins σ Q) X.xe s:=by
 obtain ⟨d,e1,e2⟩:=bnd e
 obtain ⟨hf,rfl⟩:=itd e2
 obtain ⟨as,ra⟩:=a4b I hs rv (show RelV (.ref a) (.ref a) from rfl) e1
 have hdp:=a5g e1
 unfold a0n at hdp
 refine str_of_reads (h₀:=s.heap) ra (c5t d hf.1).1 (fun z=>by rw [b3d] at z; cases z) hg (by lia) (fun _ _ h=>h) (fun h' u' tk hk=>?_) (c5s hf.1 hf.2)
 exact ⟨.str (dPy d).shown,H,I.kept (t':=tk) hk,⟨u',rfl⟩,k.old _ (fun _ z=>nomatch z) rfl⟩
theorem d8i (hu:X.A.units + 64 < cLine) (hg:X.A.guards=some []):a1l X (.type "str") (Rc X.K b9l):=by
 rintro pins s σ H xs us Q I r ⟨S,v,x,z,rfl,hs,rv,e,k⟩
 obtain ⟨u,rfl,ru⟩:=a3o r
 cases v with
 | int i =>
  obtain ⟨hc,rfl⟩:=itd e
  obtain rfl:=rv.int
  exact a9z pins s σ H _ _ Q I r ⟨i,rfl,by have:=log2_lt (k:=150) (by decide) hc; lia,k.str⟩
 | non =>
  cases e
  cases (show x=.non from rv.val rfl); cases (show u=_ from ru)
  exact PySem.P.str_of_none ⟨.str _,H,I.tok _,⟨_,rfl⟩,k.str⟩
 | bl b =>
  cases e
  obtain rfl:=rv.bl
  cases (show u=_ from ru)
  exact PySem.P.str_of_bool ⟨.str (Γe (if b then "True" else "False")),H,I.tok _,⟨_,by cases b <;> rfl⟩,k.str⟩
 | str x =>
  cases e
  cases (show _=V.str _ from rv.val rfl); obtain ⟨t,rfl⟩:=ru
  exact PySem.P.str_of_str ⟨.str _,H,I,⟨_,rfl⟩,k.str⟩
 | tup xs =>
  obtain ⟨a,ys,rfl,_⟩:=rv.tup hs
  cases (show u=_ from ru)
  exact b2a hu hg I hs rv e k
 | lst xs =>
  obtain ⟨a,ys,rfl,_⟩:=rv.lst hs
  cases (show u=_ from ru)
  exact b2a hu hg I hs rv e k
 | _=>cases e
end
structure CC where
 N:List Str
 sc:List (Str×NameKind)
 fns:List Str
 md:Md
 top:Bool
 oc:List (Str×NameKind)
 ms:List (Str×Addr×Str)
 fl:List (Addr×Str)
noncomputable def CC.vis (C:CC) (x:Str):Bool:=match C.sc.lookup x with
 | some .local=>true
 | some .cell=>true
 | some .free=>true
 | _=>false
noncomputable def CC.gl (C:CC) (x:Str):Bool:=decide (C.sc.lookup x=some .globalImplicit)
noncomputable def CC.loc (C:CC) (x:Str):Bool:=match C.sc.lookup x with
 | some .local=>true
 | some .cell=>C.top || C.oc.lookup x == some .cell
 | _=>false
noncomputable def CC.nm (C:CC) (i:Nat) (x:Str):Bool:=decide (C.N[i]?=some x) && C.vis x && !(x == ("__debug__":Str)) && !(x == ("__classdict__":Str))
noncomputable def bltNames:List String:=["len","abs","int","sum","all","any","min","max","tuple","list","isinstance","range","zip","bool","str","enumerate","reversed","sorted","dict","set"]
noncomputable def d9f (P:Program) (w:World) (K:Γd) (mg:Str→Option Value) (base:Heap) (n:Nat) (s:Sp) (c:Str) (Ca:Addr) (m:Str):Prop:=∃ fa fd ps,mg c=some (.ref Ca)∧Cls K Ca∧(m=("__init__":Str)→Mk K Ca fa)∧(m≠("__init__":Str)→Meth K Ca m fa)∧Binds K fd ps []∧FnOk P w K mg base CX0 n fa fd ps s
structure Good (X:Cx) (C:CC) (n:Nat) (sp:Γd→Nat→Sp):Prop where
 N:X.N=C.N
 sc:X.env.scope.names=C.sc
 kind:X.env.scope.kind=.function
 nd:C.N.Nodup
 calm:X.calm=true
 fn:∀ x,(C.top || C.oc.lookup x == some .cell)=true→X.fn x=true
 room:RoomS n X.A
 fns:∀ (f:Nat) (x:Str),C.fns[f]?=some x→∃ fa fd ps,X.mg x=some (.ref fa)∧PySem.W.keepIn X.K (.ref fa)=true∧Binds X.K fd ps []∧FnOk X.prog X.w X.K X.mg X.base CX0 n fa fd ps (sp X.K f)
 blt:∀ b∈bltNames,X.mg (Γe b)=none
 mts:∀ (k:Nat) (c:Str) (Ca:Addr) (m:Str),C.ms[k]?=some (c,Ca,m)→d9f X.prog X.w X.K X.mg X.base n (sp X.K (C.fns.length + k)) c Ca m
 fls:∀ p∈C.fl,Cls X.K p.1∧b0i X.K p.1 p.2
theorem b2 {a b:Bool} (h:(a && b)=true):a=true∧b=true:=by simpa using h
theorem nb {a:Bool} (h:(!a)=true):a=false:=by simpa using h
theorem de {p:Prop} [Decidable p] (h:decide p=true):p:=by simpa using h
noncomputable def lv (K:Γd) (md:Md) (e:EW):TE:=fun σ H Q=>∃ c L S Q0,Iv K c md L σ S H∧e L Q0∧∀ v L',Q0 v L'→∀ x S' H',RV K S' v x→Iv K c md L' σ S' H'→Same S S'→Q x H'
noncomputable def lr (K:Γd) (md:Md) (e:EW):TE:=fun σ H Q=>∃ c L S Q0,Iv K c md L σ S H∧e L Q0∧∀ v L',Q0 v L'→∀ x S' H',RH K S' H' v x→Iv K c md L' σ S' H'→Same S S'→Q x H'
noncomputable def a6n (c:Cn) (md:Md) (L:a0a) (σ:L2.St) (a:Addr):Prop:=c.H0 a=none∧(∀ p∈c.pr,p.1≠a)∧∀ j w,a0g md j≠.imm→L[j]?=some (some w)→σ[j]?≠some (some (.ref a))
noncomputable def lf (K:Γd) (md:Md) (e:EW):TE:=fun σ H Q=>∃ c L S Q0,Iv K c md L σ S H∧e L Q0∧∀ v L',Q0 v L'→∀ a S' H',a2u K S' H' a v→a6n c md L' σ a→Iv K c md L' σ S' H'→Same S S'→Q (.ref a) H'
noncomputable def lb (K:Γd) (md:Md) (e:BW):TT:=fun σ H Q=>∃ c L S Q0,Iv K c md L σ S H∧e L Q0∧∀ v L',Q0 v L'→∀ S' H',Iv K c md L' σ S' H'→Same S S'→Q v H'
noncomputable def la (K:Γd) (md:Md) (e:AW):TA:=fun σ H Q=>∃ c L S Q0,Iv K c md L σ S H∧e L Q0∧∀ v L',Q0 v L'→∀ x S' H',RVs K S' v x→Iv K c md L' σ S' H'→Same S S'→Q x H'
noncomputable def lo (K:Γd) (md:Md) (e:OW):TO:=fun σ H Q=>∃ c L S Q0,Iv K c md L σ S H∧e L Q0∧∀ v L',Q0 v L'→∀ S' H',Iv K c md L' σ S' H'→Same S S'→Q v H'
noncomputable def FE (X:Cx) (C:CC) (x:Expr) (e:EW):Prop:=PE X.nox x (lv X.K C.md e)
noncomputable def FR (X:Cx) (C:CC) (x:Expr) (e:EW):Prop:=PE X.nox x (lr X.K C.md e)
noncomputable def FF (X:Cx) (C:CC) (x:Expr) (e:EW):Prop:=PE X.nox x (lf X.K C.md e)
noncomputable def FB (X:Cx) (C:CC) (x:Expr) (e:BW):Prop:=PT X.nox x (lb X.K C.md e)
noncomputable def FW (X:Cx) (C:CC) (x:Expr) (e:BW):Prop:=PW X.nox x (lb X.K C.md e)
noncomputable def FA (X:Cx) (C:CC) (x:List Expr) (e:AW):Prop:=PA X.nox x (la X.K C.md e)
noncomputable def FO (X:Cx) (C:CC) (x:Option Expr) (e:OW):Prop:=L2.PO X.nox x (lo X.K C.md e)
section
variable {X:Cx}
theorem PE.imp {e:Expr} {t u:TE} (h:PE X e t) (f:∀ σ H Q,u σ H Q→t σ H Q):PE X e u:=fun pins s σ H Q I hu=>h pins s σ H Q I (f σ H Q hu)
theorem PT.imp {e:Expr} {t u:TT} (h:PT X e t) (f:∀ σ H Q,u σ H Q→t σ H Q):PT X e u:=fun pins s σ H Q I hu=>h pins s σ H Q I (f σ H Q hu)
theorem PW.imp {e:Expr} {t u:TT} (h:PW X e t) (f:∀ σ H Q,u σ H Q→t σ H Q):PW X e u:=fun w pins s σ H Q I hu=>h w pins s σ H Q I (f σ H Q hu)
theorem PA.imp {e:List Expr} {t u:TA} (h:PA X e t) (f:∀ σ H Q,u σ H Q→t σ H Q):PA X e u:=fun p pins s σ H Q I hu=>h p pins s σ H Q I (f σ H Q hu)
theorem PO.imp {e:Option Expr} {t u:TO} (h:L2.PO X e t) (f:∀ σ H Q,u σ H Q→t σ H Q):L2.PO X e u:=fun pins s σ H Q I hu=>h pins s σ H Q I (f σ H Q hu)
end
section
variable {X:Cx} {C:CC} {n:Nat} {sp:Γd→Nat→Sp}
theorem Good.vis (G:Good X C n sp) {x:Str} (h:C.vis x=true):Vis X.env.scope x:=by
 unfold CC.vis at h
 unfold Vis
 rw [G.sc]
 split at h
 ·rename_i e; exact .inl e
 ·rename_i e; exact .inr (.inl e)
 ·rename_i e; exact .inr (.inr e)
 ·cases h
theorem Good.gl (G:Good X C n sp) {x:Str} (h:C.gl x=true):Gl X x:=by
 show X.env.scope.names.lookup x=_
 rw [G.sc]; exact de h
theorem Good.loc (G:Good X C n sp) {x:Str} (h:C.loc x=true):L2.Loc X.env.scope x∧(X.fn x=true ∨ X.env.scope.names.lookup x=some .local):=by
 unfold CC.loc at h
 unfold L2.Loc
 rw [G.sc]
 split at h
 ·rename_i e; exact ⟨.inl e,.inr e⟩
 ·rename_i e; exact ⟨.inr e,.inl (G.fn x h)⟩
 ·cases h
variable {K:Γd} {c:Cn} {md:Md} {L:a0a} {σ:L2.St} {S H:Hp}
theorem Iv.rd (I:Iv K c md L σ S H) {i:Nat} {v:FV} (e:lk L i=some v):∃ x,σ[i]?=some (some x)∧RH K S H v x:=by
 rw [a1n] at e
 by_cases m:a0g md i=.imm
 ·obtain ⟨x,h1,h2⟩:=I.imm i v m e
  exact ⟨x,h1,.inl h2⟩
 ·obtain ⟨a,h1,h2,_⟩:=I.own i v m e
  exact ⟨_,h1,.inr ⟨a,rfl,h2⟩⟩
theorem b0z {Q:VK} {z:FV} (I:Iv K c md L σ S H) (k:∀ x S' H',RV K S' z x→Iv K c md L σ S' H'→Same S S'→Q x H'):NewOr K S H Q z where
 old:=fun x _ r=>k x S H r I (Same.refl S)
 tup:=fun ps xs p e r hp=>k _ _ _ (by rw [e]; exact ⟨p,xs,rfl,a0e,r.mono (a0i (I.sn hp))⟩) (I.new hp _) (a0i (I.sn hp))
 lst:=fun ps xs p e r hp=>k _ _ _ (by rw [e]; exact ⟨p,xs,rfl,a0e,r.mono (a0i (I.sn hp))⟩) (I.new hp _) (a0i (I.sn hp))
theorem Iv.fresh (I:Iv K c md L σ S H) {p:Addr} (h:H p=none):a6n c md L σ p:=by
 refine ⟨I.h0 h,fun q hq z=>?_,fun j w m e z=>?_⟩
 ·rw [← z,(I.prs q hq).1] at h; cases h
 ·obtain ⟨a,e1,⟨_,_,_,_,e2,_⟩,_⟩:=I.own j w m e
  rw [z] at e1; cases e1
  rw [h] at e2; cases e2
theorem c8v {Q:VK} {z:FV} (I:Iv K c md L σ S H) (hz:∃ ps,z=.lst ps) (k:∀ a S' H',a2u K S' H' a z→a6n c md L σ a→Iv K c md L σ S' H'→Same S S'→Q (.ref a) H'):NewOr K S H Q z where
 old:=fun x n _=>let ⟨ps,e⟩:=hz; absurd e (n ps)
 tup:=fun ps xs p e r hp=>by obtain ⟨qs,e2⟩:=hz; rw [e2] at e; cases e
 lst:=fun ps xs p e r hp=>by subst e; exact k p S _ ⟨I.sn hp,ps,xs,rfl,a0e,r⟩ (I.fresh hp) (I.lay hp _) (Same.refl S)
theorem fe_var (G:Good X C n sp) {i:Nat} {x:Str} {pos:Pos} (h:C.nm i x=true) (m:a0g C.md i=.imm):FE X C (.Name x pos) (a0c i):=by
 have h:=b2 h; have h1:=b2 h.1; have h2:=b2 h1.1
 refine PE.imp (b5q (by show X.N[i]?=_; rw [G.N]; exact de h2.1) (G.vis h2.2) (nb h1.2) (nb h.2)) fun σ H Q ⟨c,L,S,Q0,I,h,k⟩=>?_
 obtain ⟨v,e,q⟩:=wpx h
 obtain ⟨x,e1,r⟩:=I.imm i v m ((a1n _ _ _).mp e)
 exact ⟨x,e1,k v L q x S H r I (Same.refl S)⟩
theorem fr_var (G:Good X C n sp) {i:Nat} {x:Str} {pos:Pos} (h:C.nm i x=true):FR X C (.Name x pos) (a0c i):=by
 have h:=b2 h; have h1:=b2 h.1; have h2:=b2 h1.1
 refine PE.imp (b5q (by show X.N[i]?=_; rw [G.N]; exact de h2.1) (G.vis h2.2) (nb h1.2) (nb h.2)) fun σ H Q ⟨c,L,S,Q0,I,h,k⟩=>?_
 obtain ⟨v,e,q⟩:=wpx h
 obtain ⟨x,e1,r⟩:=I.rd e
 exact ⟨x,e1,k v L q x S H r I (Same.refl S)⟩
theorem fr_of {x:Expr} {e:EW} (h:FE X C x e):FR X C x e:=PE.imp h fun σ H Q ⟨c,L,S,Q0,I,h,k⟩=>⟨c,L,S,Q0,I,h,fun v L' q x S' H' r=>k v L' q x S' H' (.inl r)⟩
theorem d7b {x:Expr} {v:FV} {u:V} (h:PE X.nox x (tC u)) (r:∀ S,RV X.K S v u):FE X C x (eC v):=PE.imp h fun σ H Q ⟨c,L,S,Q0,I,h,k⟩=>k v L h u S H (r S) I (Same.refl S)
theorem fe_int {i j pos}:FE X C (.Constant (.int i) j pos) (eC (.int i)):=d7b c8g fun _=>rfl
theorem fe_bl {i j pos}:FE X C (.Constant (.bool i) j pos) (eC (.bl i)):=d7b d4s fun _=>rfl
theorem fe_non {j pos}:FE X C (.Constant .none j pos) (eC .non):=d7b c2i fun _=>rfl
section
variable {f:FV→FV→Option FV} {a b:Expr} {ea eb:EW} {pos:Pos} {i:Nat} {x:Str}
theorem a1d (G:Good X C n sp) (h:C.nm i x=true):PE X.nox (.Name x pos) (c6w i):=by
 have h:=b2 h; have h1:=b2 h.1; have h2:=b2 h1.1
 exact b5q (by show X.N[i]?=_; rw [G.N]; exact de h2.1) (G.vis h2.2) (nb h1.2) (nb h.2)
theorem go2 {r:R2} {σ:L2.St} {H:Hp} {Q:VK} (hh:∃ (c:Cn) (L:a0a) (S:Hp) (Q0:FV→FV→a0a→Prop),Iv K c md L σ S H∧ea L (fun x L1=>eb L1 fun y L2=>Q0 x y L2)∧∀ v w L' S' H' x y,Q0 v w L'→RV K S' v x→RH K S' H' w y→Iv K c md L' σ S' H'→Same S S'→r x y H' Q):tOp r (lv K md ea) (lr K md eb) σ H Q:=by
 obtain ⟨c,L,S,Q0,I,h,k⟩:=hh
 exact ⟨c,L,S,_,I,h,fun v L1 hv x S1 H1 r1 I1 s1=>⟨c,L1,S1,_,I1,hv,fun w L2 hw y S2 H2 r2 I2 s2=>k v w L2 S2 H2 x y hw (r1.mono s2) r2 I2 (s1.trans s2)⟩⟩
theorem go2N {r:R2} {σ:L2.St} {H:Hp} {Q:VK} (hh:∃ (c:Cn) (L:a0a) (S:Hp) (Q0:FV→FV→a0a→Prop),Iv K c md L σ S H∧(wp (lk L i) fun _=>eb L fun y L1=>wp (lk L1 i) fun x=>Q0 x y L1)∧∀ v w L' S' H' x y,Q0 v w L'→RH K S' H' v x→RH K S' H' w y→Iv K c md L' σ S' H'→Same S S'→r x y H' Q):tOp r (c6w i) (lr K md eb) σ H Q:=by
 obtain ⟨c,L,S,Q0,I,h,k⟩:=hh
 obtain ⟨_,e,h⟩:=wpx h
 obtain ⟨x,e1,_⟩:=I.rd e
 refine ⟨x,e1,c,L,S,_,I,h,fun w L2 hw y S2 H2 r2 I2 s2=>?_⟩
 obtain ⟨v,e2,q⟩:=wpx hw
 obtain ⟨x',e3,r1⟩:=I2.rd e2
 rw [e1] at e3; cases e3
 exact k v w L2 S2 H2 x y q r1 r2 I2 s2
theorem rq_v {Q0:FV→a0a→Prop} {Q:VK} {v w:FV} {x y:V} (I:Iv K c md L σ S H) (rv:RH K S H v x) (rw':RH K S H w y) (h:wp (f v w) fun z=>Q0 z L) (k:∀ z,Q0 z L→∀ x S' H',RV K S' z x→Iv K c md L σ S' H'→Same S S'→Q x H'):Rq K f x y H Q:=by
 obtain ⟨z,e,q⟩:=wpx h
 exact ⟨S,v,w,z,I.sub,rv,rw',e,b0z I (k z q)⟩
theorem op_v (h:PE X.nox a (tOp (Rq X.K f) (lv X.K C.md ea) (lr X.K C.md eb))):FE X C a (eOp f ea eb):=PE.imp h fun σ H Q ⟨c,L,S,Q0,I,h,k⟩ =>
 go2 ⟨c,L,S,fun x y L2=>wp (f x y) fun z=>Q0 z L2,I,h,fun v w L' S' H' x y q r1 r2 I' s'=>rq_v I' (.inl r1) r2 q fun z qz x S2 H2 r I2 s2=>k z L' qz x S2 H2 r I2 (s'.trans s2)⟩
variable {op:Operator}
theorem b3v (ho:OpR X.nox (binaryOp op) (Rq X.K f)) (ha:FE X C a ea) (hb:FR X C b eb):FE X C (.BinOp a op b pos) (eOp f ea eb):=op_v (d4r ho ha hb)
theorem fe_add (ha:FE X C a ea) (hb:FR X C b eb):FE X C (.BinOp a .Add b pos) (eOp a6h ea eb):=b3v d4l ha hb
theorem fe_sub (ha:FE X C a ea) (hb:FR X C b eb):FE X C (.BinOp a .Sub b pos) (eOp c6z ea eb):=b3v d4e ha hb
theorem fe_mul (ha:FE X C a ea) (hb:FR X C b eb):FE X C (.BinOp a .Mult b pos) (eOp b8y ea eb):=b3v d4h ha hb
theorem d6w (ha:FE X C a ea) (hb:FR X C b eb):FE X C (.BinOp a .FloorDiv b pos) (eOp b7o ea eb):=b3v c7q ha hb
theorem fe_mod (ha:FE X C a ea) (hb:FR X C b eb):FE X C (.BinOp a .Mod b pos) (eOp b8z ea eb):=b3v d4i ha hb
theorem fe_pow (ha:FE X C a ea) (hb:FR X C b eb):FE X C (.BinOp a .Pow b pos) (eOp c7z ea eb):=b3v d4g ha hb
noncomputable def d5k (f:FV→FV→Option FV) (v w:FV):Option FV:=(f v w).bind fun z=>(a6i z).map fun xs=>.lst xs
variable {cop:CmpOp}
theorem b2z (ho:OpR X.nox (compareOp cop) (Rq X.K f)) (ha:FE X C a ea) (hb:FR X C b eb) (hm:behindInMarks cop b=false):FE X C (.Compare a [cop] [b] pos) (eOp f ea eb):=op_v (c3z ho ha hb hm)
noncomputable def a6c (f:FV→FV→Option FV):Prop:=∀ v w z,f v w=some z→∃ b,z=.bl b
theorem c6t {Q0:Bool→a0a→Prop} {Q:Bool→Hp→Prop} {v w:FV} {x y:V} (tb:a6c f) (I:Iv K c md L σ S H) (rv:RH K S H v x) (rw':RH K S H w y) (h:wp (f v w) fun z=>wp (b4h z) fun b=>Q0 b L) (k:∀ z,Q0 z L→Q z H):Rq K f x y H (fun x H'=>∃ k,x=.bl k∧Q k H'):=by
 obtain ⟨z,e,q⟩:=wpx h
 obtain ⟨b,rfl⟩:=tb v w z e
 exact ⟨S,v,w,_,I.sub,rv,rw',e,⟨fun x _ r=>⟨b,r,k b q⟩,fun _ _ _ e=>(nomatch e),fun _ _ _ e=>(nomatch e)⟩⟩
theorem a7b (tb:a6c f) (ho:OpR X.nox (compareOp cop) (Rq X.K f)) (ha:FE X C a ea) (hb:FR X C b eb) (hm:behindInMarks cop b=false):FB X C (.Compare a [cop] [b] pos) (a1j (eOp f ea eb)):=PT.imp (c3o ho ha hb hm) fun σ H Q ⟨c,L,S,Q0,I,h,k⟩ =>
 go2 ⟨c,L,S,fun x y L2=>wp (f x y) fun z=>wp (b4h z) fun b=>Q0 b L2,I,h,fun v w L' S' H' x y q r1 r2 I' s'=>c6t tb I' (.inl r1) r2 q fun z qz=>k z L' qz S' H' I' s'⟩
end
end
noncomputable def a0h:Expr→Bool | .Starred ..=>true | _=>false
noncomputable def a1t:Expr→Bool | .Slice ..=>true | _=>false
noncomputable def c2h:Expr→Bool
 | .UnaryOp .Not _ _=>false
 | .BoolOp ..=>false
 | .IfExp ..=>false
 | .Compare ..=>false
 | _=>true
section
variable {X:Cx} {C:CC} {n:Nat} {sp:Γd→Nat→Sp} {a b d x y z:Expr} {ea eb ec:EW} {pos:Pos}
theorem a0f {xs:List Expr} {env:Env} (h:a0h x=false):starEach (x :: xs) env=(false,eval x env) :: starEach xs env:=by
 cases x <;> first | rfl | (cases h; done)
theorem a4d (h:a1t y=false):b8v y:=by
 intro o i
 cases y <;> first | rfl | (cases h; done)
theorem a8y {env:Env} (h:c2h x=true):∀ a7d,isTrue x env a7d=(do let v ← a7d; standAt x.pos; holding [v] (PySem.truthy v)):=by
 intro a7d
 cases x <;> first | rfl | (cases h; done) | (rename_i op x pos; cases op <;> first | rfl | (cases h; done))
theorem fe_eq (G:Good X C n sp) (ha:FE X C a ea) (hb:FR X C b eb):FE X C (.Compare a [.Eq] [b] pos) (eOp eqB ea eb):=b2z (q_eq G.room.units) ha hb (a2c _ (by decide) (by decide))
theorem fe_lt (G:Good X C n sp) (ha:FE X C a ea) (hb:FR X C b eb):FE X C (.Compare a [.Lt] [b] pos) (eOp ltB ea eb):=b2z (q_lt G.room.units) ha hb (a2c _ (by decide) (by decide))
theorem fe_ge (ha:FE X C a ea) (hb:FR X C b eb):FE X C (.Compare a [.GtE] [b] pos) (eOp geB ea eb):=b2z q_ge ha hb (a2c _ (by decide) (by decide))
theorem c1x {f:FV→FV→Option Bool} {g:Bool→FV} (h:∀ b,∃ c,g b=.bl c):a6c fun v w=>(f v w).map g:=fun v w z e=>by
 obtain ⟨b,_,rfl⟩:=mpd e
 exact h b
theorem c1y {f:Int→Int→Bool}:a6c (a3f fun i j=>some (.bl (f i j))):=fun v w z e=>by
 obtain ⟨i,_,e⟩:=bnd e
 obtain ⟨j,_,e⟩:=bnd e
 cases e; exact ⟨_,rfl⟩
theorem d2q:a6c ltB:=fun v w z e=>by
 cases v with
 | tup xs =>
  obtain ⟨_,_,e⟩:=bnd e
  obtain ⟨_,_,e⟩:=bnd e
  obtain ⟨_,_,e⟩:=bnd e
  cases e; exact ⟨_,rfl⟩
 | _=>exact c1y _ w z e
theorem fb_eq (G:Good X C n sp) (ha:FE X C a ea) (hb:FR X C b eb):FB X C (.Compare a [.Eq] [b] pos) (a1j (eOp eqB ea eb)):=a7b (c1x fun b=>⟨b,rfl⟩) (q_eq G.room.units) ha hb (a2c _ (by decide) (by decide))
theorem fb_ne (G:Good X C n sp) (ha:FE X C a ea) (hb:FR X C b eb):FB X C (.Compare a [.NotEq] [b] pos) (a1j (eOp neB ea eb)):=a7b (c1x fun b=>⟨!b,rfl⟩) (q_ne G.room.units) ha hb (a2c _ (by decide) (by decide))
theorem fb_lt (G:Good X C n sp) (ha:FE X C a ea) (hb:FR X C b eb):FB X C (.Compare a [.Lt] [b] pos) (a1j (eOp ltB ea eb)):=a7b d2q (q_lt G.room.units) ha hb (a2c _ (by decide) (by decide))
theorem fb_gt (ha:FE X C a ea) (hb:FR X C b eb):FB X C (.Compare a [.Gt] [b] pos) (a1j (eOp gtB ea eb)):=a7b c1y q_gt ha hb (a2c _ (by decide) (by decide))
variable {i:Nat} {nx:Str} {p:Pos}
section
variable {cop cop':CmpOp} {f g:FV→FV→Option FV}
end
end
section
variable {X:Cx} {C:CC} {n:Nat} {sp:Γd→Nat→Sp} {a b d x y z:Expr} {ea eb ec:EW} {ba bb:BW} {pos p:Pos}
variable {K:Γd} {c:Cn} {md:Md} {L:a0a} {σ:L2.St} {S H:Hp}
theorem b2k {v:FV} {x:V} (r1:RH K S H v x):a1y v=some (.bl (decide (x=V.non)))∧a1i v=some (.bl (!decide (x=V.non))):=by
 rcases r1 with r1 | ⟨a,rfl,_,ps,xs,e9,_⟩
 ·cases v <;> first | (cases (show x=_ from r1); simp [a1y,a1i]; done) | (obtain ⟨a,_,rfl,_⟩:=r1; simp [a1y,a1i]; done) | (obtain ⟨a,rfl,_⟩:=r1; simp [a1y,a1i]; done)
 ·cases v <;> first | (cases e9; done) | simp [a1y,a1i]
theorem fe_isN {j pos'} (ha:FR X C a ea):FE X C (.Compare a [.Is] [.Constant .none j pos'] pos) (eUn a1y ea):=PE.imp (c2k (c2l ha)) fun σ H Q ⟨c,L,S,Q0,I,h,k⟩ =>
 ⟨c,L,S,_,I,h,fun v L1 hv x S1 H1 r1 I1 s1=>by
  obtain ⟨z,e3,q⟩:=wpx hv
  rw [(b2k r1).1] at e3; cases e3
  exact k _ L1 q _ S1 H1 rfl I1 s1⟩
theorem fb_isN {j pos'} (ha:FR X C a ea):FB X C (.Compare a [.Is] [.Constant .none j pos'] pos) (a1j (eUn a1y ea)):=PT.imp (c2d (c2l ha)) fun σ H Q ⟨c,L,S,Q0,I,h,k⟩ =>
 ⟨c,L,S,_,I,h,fun v L1 hv x S1 H1 r1 I1 s1=>by
  obtain ⟨z,e3,q⟩:=wpx hv
  rw [(b2k r1).1] at e3; cases e3
  exact ⟨_,rfl,k _ L1 q S1 H1 I1 s1⟩⟩
theorem d6r {j pos'} (ha:FR X C a ea):FE X C (.Compare a [.IsNot] [.Constant .none j pos'] pos) (eUn a1i ea):=PE.imp (c2k (b5r ha)) fun σ H Q ⟨c,L,S,Q0,I,h,k⟩ =>
 ⟨c,L,S,_,I,h,fun v L1 hv x S1 H1 r1 I1 s1=>by
  obtain ⟨z,e3,q⟩:=wpx hv
  rw [(b2k r1).2] at e3; cases e3
  exact k _ L1 q _ S1 H1 rfl I1 s1⟩
theorem d7l {j pos'} (ha:FR X C a ea):FB X C (.Compare a [.IsNot] [.Constant .none j pos'] pos) (a1j (eUn a1i ea)):=PT.imp (c2d (b5r ha)) fun σ H Q ⟨c,L,S,Q0,I,h,k⟩ =>
 ⟨c,L,S,_,I,h,fun v L1 hv x S1 H1 r1 I1 s1=>by
  obtain ⟨z,e3,q⟩:=wpx hv
  rw [(b2k r1).2] at e3; cases e3
  exact ⟨_,rfl,k _ L1 q S1 H1 I1 s1⟩⟩
theorem fe_not (ha:FE X C a ea):FE X C (.UnaryOp .Not a pos) (eUn d5c ea):=PE.imp (c8f ha) fun σ H Q ⟨c,L,S,Q0,I,h,k⟩ =>
 ⟨c,L,S,_,I,h,fun v L1 hv x S1 H1 r1 I1 s1=>by
  obtain ⟨z,e,q⟩:=wpx hv
  obtain ⟨b,e1,rfl⟩:=mpd e
  cases d0p e1
  exact ⟨b,r1,k _ L1 q _ S1 H1 rfl I1 s1⟩⟩
theorem fe_neg (ha:FE X C a ea):FE X C (.UnaryOp .USub a pos) (eUn d5j ea):=PE.imp (d4q c6q ha) fun σ H Q ⟨c,L,S,Q0,I,h,k⟩ =>
 ⟨c,L,S,_,I,h,fun v L1 hv x S1 H1 r1 I1 s1=>by
  obtain ⟨z,e,q⟩:=wpx hv
  obtain ⟨b,e1,rfl⟩:=mpd e
  cases a1e e1
  exact ⟨b,r1,k _ L1 q _ S1 H1 rfl I1 s1⟩⟩
theorem b0n {v:FV} {u:V} {t:Bool} (s:Same S H) (r:RH K S H v u) (e:b4h v=some t):d0y K u H t:=by
 have em:∀ {ps:List FV} {xs:List V},RVs K S ps xs→(!ps.isEmpty) = !xs.isEmpty:=fun {ps xs} h=>by cases ps <;> cases xs <;> first | rfl | (have:=h.length; simp at this)
 cases v with
 | non=>cases (show u=V.non from r.val rfl); cases e; exact rfl
 | bl c=>cases r.bl; cases e; exact rfl
 | int c=>cases r.int; cases e; exact rfl
 | str c=>cases e
 | shn c=>cases e
 | dct _ _=>cases e
 | dci _ _=>cases e
 | dcz _ _ _=>cases e
 | obj _ _ _ _=>cases e
 | dcn _ _ _=>cases e
 | tup ps =>
  obtain ⟨a,xs,rfl,h1,h2⟩:=r.tup s
  cases e
  exact .inr (.inl ⟨xs,SqT.of h1,em h2⟩)
 | lst l =>
  obtain ⟨a,xs,rfl,h1,h2⟩:=r.lst s
  cases e
  exact .inl ⟨xs,SqL.of h1,em h2⟩
 | scr ns =>
  cases e
  obtain ⟨a,xs,rfl,h1,h2⟩:=r.list s (show a1o (.scr ns)=_ from rfl)
  refine .inl ⟨_,h1,?_⟩
  rw [← em h2]; cases ns <;> rfl
theorem c4c {rest:List Expr} {ta tb:TE} (ha:PE X a ta) (hb:PE X (.BoolOp .And (b :: rest) pos) tb) :
  PE X (.BoolOp .And (a :: b :: rest) pos) (fun σ H Q=>ta σ H fun x H1=>∃ c,d0y X.K x H1 c∧(if c=true then tb σ H1 Q else Q x H1)):=by
 intro pins s σ H Q I h
 refine BoolOp_and (thn (ha pins s σ H _ I h) fun v s1 ⟨x,H1,I1,r1,c,tv,q1⟩=>?_)
 refine thn (b4q pins s1 σ H1 x v (fun c' H'=>c'=c∧H'=H1) I1 r1 ⟨c,tv,rfl,rfl⟩) fun b s2 ⟨H2,I2,e1,e2⟩=>?_
 subst e1 e2
 cases b with
 | true=>exact hb pins s2 σ H2 Q I2 (by simpa using q1)
 | false=>exact ⟨x,H2,I2,r1,by simpa using q1⟩
theorem c8d {rest:List Expr} {ta tb:TE} (ha:PE X a ta) (hb:PE X (.BoolOp .Or (b :: rest) pos) tb) :
  PE X (.BoolOp .Or (a :: b :: rest) pos) (fun σ H Q=>ta σ H fun x H1=>∃ c,d0y X.K x H1 c∧(if c=true then Q x H1 else tb σ H1 Q)):=by
 intro pins s σ H Q I h
 refine BoolOp_or (thn (ha pins s σ H _ I h) fun v s1 ⟨x,H1,I1,r1,c,tv,q1⟩=>?_)
 refine thn (b4q pins s1 σ H1 x v (fun c' H'=>c'=c∧H'=H1) I1 r1 ⟨c,tv,rfl,rfl⟩) fun b s2 ⟨H2,I2,e1,e2⟩=>?_
 subst e1 e2
 cases b with
 | false=>exact hb pins s2 σ H2 Q I2 (by simpa using q1)
 | true=>exact ⟨x,H2,I2,r1,by simpa using q1⟩
theorem fe_one {op:BoolOp} (ha:FE X C a ea):FE X C (.BoolOp op [a] pos) ea:=c8e ha
theorem fe_and {rest:List Expr} (ha:FE X C a ea) (hb:FE X C (.BoolOp .And (b :: rest) pos) eb):FE X C (.BoolOp .And (a :: b :: rest) pos) (c9z ea eb):=PE.imp (c4c ha hb) fun σ H Q ⟨c,L,S,Q0,I,h,k⟩ =>
 ⟨c,L,S,_,I,h,fun v L1 hv x S1 H1 r1 I1 s1=>by
  obtain ⟨t,e,q⟩:=wpx hv
  refine ⟨t,b0n I1.sub (.inl r1) e,?_⟩
  cases t with
  | true=>exact ⟨c,L1,S1,Q0,I1,q,fun v L' q x S' H' r I' s'=>k v L' q x S' H' r I' (s1.trans s')⟩
  | false=>exact k v L1 q x S1 H1 r1 I1 s1⟩
theorem fe_or {rest:List Expr} (ha:FE X C a ea) (hb:FE X C (.BoolOp .Or (b :: rest) pos) eb):FE X C (.BoolOp .Or (a :: b :: rest) pos) (eOr ea eb):=PE.imp (c8d ha hb) fun σ H Q ⟨c,L,S,Q0,I,h,k⟩ =>
 ⟨c,L,S,_,I,h,fun v L1 hv x S1 H1 r1 I1 s1=>by
  obtain ⟨t,e,q⟩:=wpx hv
  refine ⟨t,b0n I1.sub (.inl r1) e,?_⟩
  cases t with
  | false=>exact ⟨c,L1,S1,Q0,I1,q,fun v L' q x S' H' r I' s'=>k v L' q x S' H' r I' (s1.trans s')⟩
  | true=>exact k v L1 q x S1 H1 r1 I1 s1⟩
theorem fe_if (hc:FB X C d ba) (ha:FE X C a ea) (hb:FE X C b eb):FE X C (.IfExp d a b pos) (eIf ba ea eb):=PE.imp (c0d hc ha hb) fun σ H Q ⟨c,L,S,Q0,I,h,k⟩ =>
 ⟨c,L,S,_,I,h,fun t L1 hv S1 H1 I1 s1=>by
  cases t with
  | true=>exact ⟨c,L1,S1,Q0,I1,hv,fun v L' q x S' H' r I' s'=>k v L' q x S' H' r I' (s1.trans s')⟩
  | false=>exact ⟨c,L1,S1,Q0,I1,hv,fun v L' q x S' H' r I' s'=>k v L' q x S' H' r I' (s1.trans s')⟩⟩
theorem fb_val (hp:c2h a=true) (ha:FR X C a ea):FB X C a (a1j ea):=PT.imp (b9y ha (a8y hp)) fun σ H Q ⟨c,L,S,Q0,I,h,k⟩ =>
 ⟨c,L,S,_,I,h,fun v L1 hv x S1 H1 r1 I1 s1=>by
  obtain ⟨t,e,q⟩:=wpx hv
  exact ⟨t,b0n I1.sub r1 e,k t L1 q S1 H1 I1 s1⟩⟩
theorem fb_not (ha:FB X C a ba):FB X C (.UnaryOp .Not a pos) (b3j ba):=PT.imp (c7x ha) fun σ H Q ⟨c,L,S,Q0,I,h,k⟩=>⟨c,L,S,_,I,h,fun t L1 hv S1 H1 I1 s1=>k _ L1 hv S1 H1 I1 s1⟩
theorem d5u (ha:FB X C a ba):FW X C (.BoolOp .And [a] pos) ba:=c3m ha
theorem fw_or1 (ha:FB X C a ba):FW X C (.BoolOp .Or [a] pos) ba:=c7u ha
theorem fw_and {rest:List Expr} (ha:FB X C a ba) (hb:FW X C (.BoolOp .And (b :: rest) pos) bb):FW X C (.BoolOp .And (a :: b :: rest) pos) (c1t ba bb):=PW.imp (c7v ha hb) fun σ H Q ⟨c,L,S,Q0,I,h,k⟩ =>
 ⟨c,L,S,_,I,h,fun t L1 hv S1 H1 I1 s1=>by
  cases t with
  | true=>exact ⟨c,L1,S1,Q0,I1,hv,fun v L' q S' H' I' s'=>k v L' q S' H' I' (s1.trans s')⟩
  | false=>exact k _ L1 hv S1 H1 I1 s1⟩
theorem fw_or {rest:List Expr} (ha:FB X C a ba) (hb:FW X C (.BoolOp .Or (b :: rest) pos) bb):FW X C (.BoolOp .Or (a :: b :: rest) pos) (bOr ba bb):=PW.imp (d4m ha hb) fun σ H Q ⟨c,L,S,Q0,I,h,k⟩ =>
 ⟨c,L,S,_,I,h,fun t L1 hv S1 H1 I1 s1=>by
  cases t with
  | false=>exact ⟨c,L1,S1,Q0,I1,hv,fun v L' q S' H' I' s'=>k v L' q S' H' I' (s1.trans s')⟩
  | true=>exact k _ L1 hv S1 H1 I1 s1⟩
theorem fb_w (h:FW X C a ba):FB X C a ba:=PW.pt h
theorem fa_nil:FA X C [] a1a:=PA.imp a2n fun σ H Q ⟨c,L,S,Q0,I,h,k⟩=>k [] L h [] S H rfl I (Same.refl S)
theorem d7n {xs:List Expr} {as:AW} (hs:a0h a=false) (ha:FE X C a ea) (hr:FA X C xs as):FA X C (a :: xs) (a0b ea as):=PA.imp (a0t ha hr (a0f hs)) fun σ H Q ⟨c,L,S,Q0,I,h,k⟩ =>
 ⟨c,L,S,_,I,h,fun v L1 hv x S1 H1 r1 I1 s1=>⟨c,L1,S1,_,I1,hv,fun vs L2 hvs us S2 H2 r2 I2 s2=>k _ L2 hvs _ S2 H2 ⟨x,us,rfl,r1.mono s2,r2⟩ I2 (s1.trans s2)⟩⟩
theorem fe_tup {xs:List Expr} {as:AW} {m:Nat} (h:FA X C xs as):FE X C (.Tuple xs m pos) (a6m as):=PE.imp (c8c h) fun σ H Q ⟨c,L,S,Q0,I,h,k⟩ =>
 ⟨c,L,S,_,I,h,fun vs L1 hv us S1 H1 r1 I1 s1=>⟨by have:=a0m; rw [← r1.length]; exact Nat.le_trans hv.1 this,fun p hp=>(b0z I1 fun x S' H' r I' s'=>k _ L1 hv.2 x S' H' r I' (s1.trans s')).tup _ _ p rfl r1 hp⟩⟩
theorem fe_lst {xs:List Expr} {as:AW} (h:FA X C xs as):FE X C (.List xs pos) (a8i as):=PE.imp (c2j h) fun σ H Q ⟨c,L,S,Q0,I,h,k⟩ =>
 ⟨c,L,S,_,I,h,fun vs L1 hv us S1 H1 r1 I1 s1=>⟨by have:=a0m; rw [← r1.length]; exact Nat.le_trans hv.1 this,fun p hp=>(b0z I1 fun x S' H' r I' s'=>k _ L1 hv.2 x S' H' r I' (s1.trans s')).lst _ _ p rfl r1 hp⟩⟩
theorem ff_lst {xs:List Expr} {as:AW} (h:FA X C xs as):FF X C (.List xs pos) (a8i as):=PE.imp (c2j h) fun σ H Q ⟨c,L,S,Q0,I,h,k⟩ =>
 ⟨c,L,S,_,I,h,fun vs L1 hv us S1 H1 r1 I1 s1=>⟨by have:=a0m; rw [← r1.length]; exact Nat.le_trans hv.1 this,fun p hp=>(c8v I1 ⟨vs,rfl⟩ fun a S' H' o fr I' s'=>k _ L1 hv.2 a S' H' o fr I' (s1.trans s')).lst _ _ p rfl r1 hp⟩⟩
theorem fe_ix (hs:a1t b=false) (ha:FE X C a ea) (hb:FR X C b eb):FE X C (.Subscript a b pos) (eOp ixF ea eb):=PE.imp (c3y q_ix ha hb (a4d hs)) fun σ H Q ⟨c,L,S,Q0,I,h,k⟩ =>
 go2 ⟨c,L,S,fun x y L2=>wp (ixF x y) fun z=>Q0 z L2,I,h,fun v w L' S' H' x y q r1 r2 I' s'=>by
  obtain ⟨z,e,q⟩:=wpx q
  exact ⟨S',v,w,z,I'.sub,.inl r1,r2,e,fun u r=>k z L' q u S' H' r I' s'⟩⟩
theorem fe_ixN (G:Good X C n sp) {i:Nat} {nx:Str} (hs:a1t b=false) (h:C.nm i nx=true) (hb:FR X C b eb):FE X C (.Subscript (.Name nx p) b pos) (a8g ixF i eb):=PE.imp (c3y q_ix (a1d G h) hb (a4d hs)) fun σ H Q ⟨c,L,S,Q0,I,h,k⟩ =>
 go2N ⟨c,L,S,fun x y L2=>wp (ixF x y) fun z=>Q0 z L2,I,h,fun v w L' S' H' x y q r1 r2 I' s'=>by
  obtain ⟨z,e,q⟩:=wpx q
  exact ⟨S',v,w,z,I'.sub,r1,r2,e,fun u r=>k z L' q u S' H' r I' s'⟩⟩
theorem d6g:FO X C none b6e:=PO.imp c3u fun σ H Q ⟨c,L,S,Q0,I,h,k⟩=>k none L h S H I (Same.refl S)
theorem d6f (h:FE X C a ea):FO X C (some a) (b0y ea):=PO.imp (c3t h) fun σ H Q ⟨c,L,S,Q0,I,h,k⟩ =>
 ⟨c,L,S,_,I,h,fun v L1 hv x S1 H1 r1 I1 s1=>by
  obtain ⟨i,e,q⟩:=wpx hv
  cases a1e e
  exact ⟨i,r1,k _ L1 q S1 H1 I1 s1⟩⟩
variable {xl xh:Option Expr} {wl wh:OW} {p2:Pos}
theorem fe_sl (ha:FE X C a ea) (hl:FO X C xl wl) (hh:FO X C xh wh):FE X C (.Subscript a (.Slice xl xh none p2) pos) (eSl ea wl wh):=PE.imp (b2g q_sl ha hl hh) fun σ H Q ⟨c,L,S,Q0,I,h,k⟩ =>
 ⟨c,L,S,_,I,h,fun v L1 hv x S1 H1 r1 I1 s1=>⟨c,L1,S1,_,I1,hv,fun o1 L2 h1 S2 H2 I2 s2=>⟨c,L2,S2,_,I2,h1,fun o2 L3 h2 S3 H3 I3 s3=>by
  obtain ⟨z,e,q⟩:=wpx h2
  exact ⟨S3,v,z,I3.sub,.inl (r1.mono (s2.trans s3)),e,b0z I3 fun x S' H' r I' s'=>k z L3 q x S' H' r I' (s1.trans (s2.trans (s3.trans s')))⟩⟩⟩⟩
end
section
variable {X:Cx} {C:CC} {n:Nat} {sp:Γd→Nat→Sp} {a b d x y z:Expr} {ea eb ec:EW} {ba bb:BW} {pos p:Pos}
variable {K:Γd} {c:Cn} {md:Md} {L:a0a} {σ:L2.St} {S H:Hp} {i:Nat} {nx:Str}
variable {xl xh:Option Expr} {wl wh:OW} {p2:Pos}
noncomputable def sliceL (k:Nat) (l h:OW):EW:=fun L Q=>eSlN k l h L fun z L'=>isL z=true∧(∃ ps,z=.lst ps)∧Q z L'
theorem d0i {f:FV→Option FV} {Q:VK} (hh:lv K md (eUn f ea) σ H Q):tCB (Rc K f) (b9h (lr K md ea) tNil) σ H Q:=by
 obtain ⟨c,L,S,Q0,I,h,k⟩:=hh
 refine ⟨c,L,S,_,I,h,fun v L1 hv x S1 H1 r1 I1 s1=>?_⟩
 obtain ⟨z,e,q⟩:=wpx hv
 exact ⟨S1,v,x,z,rfl,I1.sub,r1,e,b0z I1 fun x S' H' r I' s'=>k z L1 q x S' H' r I' (s1.trans s')⟩
theorem b1k {id nm:String} {f:FV→Option FV} (hc:a1l X.nox (.builtin id) (Rc X.K f)) (G:Good X C n sp) (hb:nm∈bltNames) (hv:bootBuiltins (Γe nm)=some (.builtin id)) (h1:Γe nm≠"__name__") (h2:(Γe nm == ("__debug__":Str))=false) (hg:C.gl (Γe nm)=true) (hs:a0h a=false) (ha:FR X C a ea) :
  FE X C (.Call (.Name (Γe nm) p) [a] [] pos) (eUn f ea):=PE.imp (a5b hc (G.gl hg) (G.blt nm hb) hv (a0t ha a2n (a0f hs)) h1 h2 (a0f hs) rfl) fun σ H Q h=>d0i h
theorem c1f {T nm:String} {f:FV→Option FV} (hc:a1l X.nox (.type T) (Rc X.K f)) (G:Good X C n sp) (hb:nm∈bltNames) (hv:bootBuiltins (Γe nm)=some (.type T)) (h1:Γe nm≠"__name__") (h2:(Γe nm == ("__debug__":Str))=false) (hg:C.gl (Γe nm)=true) (hs:a0h a=false) (ha:FR X C a ea) :
  FE X C (.Call (.Name (Γe nm) p) [a] [] pos) (eUn f ea):=PE.imp (a5n hc (G.gl hg) (G.blt nm hb) hv (a0t ha a2n (a0f hs)) h1 h2 (a0f hs) rfl) fun σ H Q h=>d0i h
theorem fe_len (G:Good X C n sp) (hg:C.gl (Γe "len")=true) (hs:a0h a=false) (ha:FR X C a ea):FE X C (.Call (.Name (Γe "len") p) [a] [] pos) (eUn b0k ea):=b1k d8j G (by decide) (by nofun) (by nofun) (by nofun) hg hs ha
theorem fe_abs (G:Good X C n sp) (hg:C.gl (Γe "abs")=true) (hs:a0h a=false) (ha:FR X C a ea):FE X C (.Call (.Name (Γe "abs") p) [a] [] pos) (eUn d0w ea):=b1k d8n G (by decide) (by nofun) (by nofun) (by nofun) hg hs ha
theorem fe_sum (G:Good X C n sp) (hg:C.gl (Γe "sum")=true) (hs:a0h a=false) (ha:FR X C a ea):FE X C (.Call (.Name (Γe "sum") p) [a] [] pos) (eUn c6h ea):=b1k (d8h G.calm) G (by decide) (by nofun) (by nofun) (by nofun) hg hs ha
theorem fe_all (G:Good X C n sp) (hg:C.gl (Γe "all")=true) (hs:a0h a=false) (ha:FR X C a ea):FE X C (.Call (.Name (Γe "all") p) [a] [] pos) (eUn c6m ea):=b1k (d8m G.calm) G (by decide) (by nofun) (by nofun) (by nofun) hg hs ha
theorem fe_any (G:Good X C n sp) (hg:C.gl (Γe "any")=true) (hs:a0h a=false) (ha:FR X C a ea):FE X C (.Call (.Name (Γe "any") p) [a] [] pos) (eUn d0v ea):=b1k (d8l G.calm) G (by decide) (by nofun) (by nofun) (by nofun) hg hs ha
theorem d6s (G:Good X C n sp) (hg:C.gl (Γe "min")=true) (hs:a0h a=false) (ha:FR X C a ea):FE X C (.Call (.Name (Γe "min") p) [a] [] pos) (eUn b6j ea):=b1k (d0j G.calm) G (by decide) (by nofun) (by nofun) (by nofun) hg hs ha
theorem d1z (G:Good X C n sp) (hg:C.gl (Γe "int")=true) (hs:a0h a=false) (ha:FR X C a ea):FE X C (.Call (.Name (Γe "int") p) [a] [] pos) (eUn b1z ea):=c1f d8k G (by decide) (by nofun) (by nofun) (by nofun) hg hs ha
theorem d1x (G:Good X C n sp) (hg:C.gl (Γe "tuple")=true) (hs:a0h a=false) (ha:FR X C a ea):FE X C (.Call (.Name (Γe "tuple") p) [a] [] pos) (eUn a5i ea):=c1f c5w G (by decide) (by nofun) (by nofun) (by nofun) hg hs ha
theorem d6u (G:Good X C n sp) (hg:C.gl (Γe "list")=true) (hs:a0h a=false) (ha:FR X C a ea):FE X C (.Call (.Name (Γe "list") p) [a] [] pos) (eUn a3u ea):=c1f c3c G (by decide) (by nofun) (by nofun) (by nofun) hg hs ha
theorem d1y (G:Good X C n sp) (hg:C.gl (Γe "str")=true) (hs:a0h a=false) (ha:FR X C a ea):FE X C (.Call (.Name (Γe "str") p) [a] [] pos) (eUn b9l ea):=c1f (d8i G.room.units G.room.gd) G (by decide) (by nofun) (by nofun) (by nofun) hg hs ha
theorem d6o (G:Good X C n sp) (hg:C.gl (Γe "list")=true) (hs:a0h a=false) (ha:FR X C a ea):FF X C (.Call (.Name (Γe "list") p) [a] [] pos) (eUn a3u ea) :=
 PE.imp (a5n c3c (G.gl hg) (G.blt "list" (by decide)) (by nofun) (a0t ha a2n (a0f hs)) (by nofun) (by nofun) (a0f hs) rfl) fun σ H Q ⟨c,L,S,Q0,I,h,k⟩ =>
 ⟨c,L,S,_,I,h,fun v L1 hv x S1 H1 r1 I1 s1=>by
  obtain ⟨z,e,q⟩:=wpx hv
  obtain ⟨ps,e1,rfl⟩:=mpd e
  exact ⟨S1,v,x,_,rfl,I1.sub,r1,e,c8v I1 ⟨ps,rfl⟩ fun a S' H' o fr I' s'=>k _ L1 q a S' H' o fr I' (s1.trans s')⟩⟩
theorem d7c {id nm:String} {f:FV→FV→Option FV} (hc:a1l X.nox (.builtin id) (Rc2 X.K f)) (G:Good X C n sp) (hb:nm∈bltNames) (hv:bootBuiltins (Γe nm)=some (.builtin id)) (h1:Γe nm≠"__name__") (h2:(Γe nm == ("__debug__":Str))=false) (hg:C.gl (Γe nm)=true) (hs:a0h a=false) (hs2:a0h b=false) (ha:FE X C a ea) (hb':FR X C b eb) :
  FE X C (.Call (.Name (Γe nm) p) [a,b] [] pos) (eOp f ea eb):=PE.imp (a5b hc (G.gl hg) (G.blt nm hb) hv (a0t ha (a0t hb' a2n (a0f hs2)) (a0f hs)) h1 h2 (a0f hs) (by rw [a0f hs2]; rfl)) fun σ H Q ⟨c,L,S,Q0,I,h,k⟩ =>
 ⟨c,L,S,_,I,h,fun v L1 hv x S1 H1 r1 I1 s1=>⟨c,L1,S1,_,I1,hv,fun w L2 hw y S2 H2 r2 I2 s2=>by
  obtain ⟨z,e,q⟩:=wpx hw
  exact ⟨S2,v,w,x,y,z,rfl,I2.sub,.inl (r1.mono s2),r2,e,b0z I2 fun x S' H' r I' s'=>k z L2 q x S' H' r I' (s1.trans (s2.trans s'))⟩⟩⟩
theorem d6t (G:Good X C n sp) (hg:C.gl (Γe "max")=true) (hs:a0h a=false) (hs2:a0h b=false) (ha:FE X C a ea) (hb':FR X C b eb):FE X C (.Call (.Name (Γe "max") p) [a,b] [] pos) (eOp c0m ea eb):=d7c (d0k G.calm) G (by decide) (by nofun) (by nofun) (by nofun) hg hs hs2 ha hb'
noncomputable def b1x:Ty→String | .int=>"int" | .bool=>"bool" | .str=>"str" | .list=>"list" | .tuple=>"tuple"
theorem b9c {v:FV} {u:V} {t:Ty} {r:Bool} (s:Same S H) (rv:RH K S H v u) (e:a9m v t=some r):∃ T,TyOf K H u (.type T)∧PySem.W.kitOne K (.type T) (.type (b1x t))=some r:=by
 cases v with
 | non=>cases (show u=V.non from rv.val rfl); exact ⟨_,.non,by cases e; cases t <;> rfl⟩
 | bl c=>cases rv.bl; exact ⟨_,.bl _,by cases e; cases t <;> rfl⟩
 | int c=>cases rv.int; exact ⟨_,.int _,by cases e; cases t <;> rfl⟩
 | str c=>cases (show u=V.str _ from rv.val rfl); exact ⟨_,.str _,by cases e; cases t <;> rfl⟩
 | tup ps =>
  obtain ⟨a,xs,rfl,h1,h2⟩:=rv.tup s
  exact ⟨_,.tup h1,by cases e; cases t <;> rfl⟩
 | lst l =>
  obtain ⟨a,xs,rfl,h1,h2⟩:=rv.lst s
  exact ⟨_,.lst h1,by cases e; cases t <;> rfl⟩
 | scr ns=>cases e
 | dct _ _=>cases e
 | dci _ _=>cases e
 | dcz _ _ _=>cases e
 | obj _ _ _ _=>cases e
 | dcn _ _ _=>cases e
 | shn d=>cases (show u=V.str _ from rv.val rfl); exact ⟨_,.str _,by cases e; cases t <;> rfl⟩
theorem fe_isi {t:Ty} {tn:Str} (G:Good X C n sp) (hg:C.gl (Γe "isinstance")=true) (ht:tn=Γe (b1x t)) (hg2:C.gl tn=true) (hs:a0h a=false) (ha:FR X C a ea) :
  FE X C (.Call (.Name (Γe "isinstance") p) [a,.Name tn p2] [] pos) (eUn (c0w t) ea):=by
 subst ht
 have cc:a1l X.nox (.builtin "isinstance") (fun xs H Q=>∃ v c b T,xs=[v,.ty c]∧TyOf X.K H v (.type T)∧PySem.W.kitOne X.K (.type T) (.type c)=some b∧Q (.bl b) H):=by
  rintro pins s σ H xs us Q I r ⟨v,c,b,T,rfl,h1,h2,q⟩
  obtain ⟨u,u',rfl,ru,ru'⟩:=c6p r
  obtain rfl:u'=.type c:=ru'
  exact b7b I ru h1 h2 fun tk=>⟨.bl b,H,I.tok _,rfl,q⟩
 have tt:PE X.nox (.Name (Γe (b1x t)) p2) (tC (.ty (b1x t))):=by
  cases t <;> exact c4b (G.gl hg2) (G.blt _ (by decide)) (by nofun) rfl (by nofun) (by nofun)
 refine PE.imp (a5b cc (G.gl hg) (G.blt "isinstance" (by decide)) (by nofun) (a0t ha (a0t tt a2n rfl) (a0f hs)) (by nofun) (by nofun) (a0f hs) rfl) fun σ H Q ⟨c,L,S,Q0,I,h,k⟩ =>
  ⟨c,L,S,_,I,h,fun v L1 hv x S1 H1 r1 I1 s1=>?_⟩
 obtain ⟨z,e,q⟩:=wpx hv
 obtain ⟨r,e1,rfl⟩:=mpd e
 obtain ⟨T,t1,t2⟩:=b9c I1.sub r1 e1
 exact ⟨x,_,_,T,rfl,t1,t2,k _ L1 q _ S1 H1 rfl I1 s1⟩
noncomputable def d0o (apos cpos:Pos):Bool:=apos.endLine == cpos.line
theorem fe_app (G:Good X C n sp) {apos cpos:Pos} (h:C.nm i nx=true) (m:a0g C.md i=.own) (hl:d0o apos cpos=true) (hs:a0h a=false) (ha:FE X C a ea):FE X C (.Call (.Attribute (.Name nx p) (Γe "append") apos) [a] [] cpos) (a8h c6c i ea):=by
 refine PE.imp (c0g PySem.F.plainAttrs_list PySem.F.slot_list_append PySem.F.type_list_append a4e (a1d G h) (a0t ha a2n (a0f hs)) rfl (by rw [a0f hs]; rfl) hl (a0f hs) rfl) fun σ H Q ⟨c,L,S,Q0,I,h,k⟩=>?_
 obtain ⟨v,e,h⟩:=wpx h
 obtain ⟨v9,e9,h⟩:=wpx h
 cases a3e e9
 have e':=(a1n _ _ _).mp e
 have mi:a0g C.md i≠.imm:=fun z=>by rw [m] at z; cases z
 obtain ⟨l,e1,⟨_,ps,xs,e8,h1,_⟩,_⟩:=I.own i _ mi e'
 refine ⟨_,e1,.inl ⟨rfl,xs,SqL.of h1⟩,c,L,S,_,I,h,fun w L1 hw y S1 H1 r1 I1 s1=>?_⟩
 obtain ⟨v1,e2,hw⟩:=wpx hw
 obtain ⟨z,e3,q⟩:=wpx hw
 have e2':=(a1n _ _ _).mp e2
 obtain ⟨qs,e4,e5⟩:=bnd e3
 cases a3e e4
 obtain ⟨hb,rfl⟩:=itd e5
 obtain ⟨l',f1,⟨f2,rs,zs,f3,f4,f5⟩,_⟩:=I1.own i _ mi e2'
 rw [e1] at f1; cases f1
 cases f3
 have:=a0m
 exact ⟨l,zs,y,rfl,rfl,f4,by rw [← f5.length]; lia,k _ _ q .non S1 _ rfl (I1.write m e2' e1 (f5.append (RVs.one r1))) s1⟩
theorem fe_ext (G:Good X C n sp) {apos cpos:Pos} (h:C.nm i nx=true) (m:a0g C.md i=.own) (hl:d0o apos cpos=true) (hs:a0h a=false) (ha:FR X C a ea):FE X C (.Call (.Attribute (.Name nx p) (Γe "extend") apos) [a] [] cpos) (a8h d7p i ea):=by
 have mt:MtR X.nox "list.extend" (fun x xs H Q=>b5c x xs H Q ∨ c7m X.K x xs H Q):=fun pins s σ H x xs v us Q I rx rv h=>h.elim (b6h pins s σ H x xs v us Q I rx rv) (c4k pins s σ H x xs v us Q I rx rv)
 refine PE.imp (c0g PySem.F.plainAttrs_list PySem.F.slot_list_extend PySem.F.type_list_extend mt (a1d G h) (a0t ha a2n (a0f hs)) rfl (by rw [a0f hs]; rfl) hl (a0f hs) rfl) fun σ H Q ⟨c,L,S,Q0,I,h,k⟩=>?_
 obtain ⟨v,e,h⟩:=wpx h
 obtain ⟨v9,e9,h⟩:=wpx h
 cases a3e e9
 have e':=(a1n _ _ _).mp e
 have mi:a0g C.md i≠.imm:=fun z=>by rw [m] at z; cases z
 obtain ⟨l,e1,⟨_,ps,xs,e8,h1,_⟩,_⟩:=I.own i _ mi e'
 refine ⟨_,e1,.inl ⟨rfl,xs,SqL.of h1⟩,c,L,S,_,I,h,fun w L1 hw y S1 H1 r1 I1 s1=>?_⟩
 obtain ⟨v1,e2,hw⟩:=wpx hw
 obtain ⟨z,e3,q⟩:=wpx hw
 have e2':=(a1n _ _ _).mp e2
 obtain ⟨qs,e4,e5⟩:=bnd e3
 obtain ⟨ys,e6,e7⟩:=bnd e5
 cases a3e e4
 obtain ⟨hb,rfl⟩:=itd e7
 obtain ⟨l',f1,⟨f2,rs,zs,f3,f4,f5⟩,_⟩:=I1.own i _ mi e2'
 rw [e1] at f1; cases f1
 cases f3
 have hbl:=a0m
 have l5:=f5.length
 have fin:∀ us,RVs X.K S1 ys us→Q .non (upd H1 l (.lst (zs++us))):=fun us ru=>k _ _ q .non S1 _ rfl (I1.write m e2' e1 (f5.append ru)) s1
 cases w with
 | tup ws =>
  cases e6
  obtain ⟨b,us,rfl,g1,g2⟩:=r1.tup I1.sub
  have l6:=g2.length
  exact .inr ⟨l,b,zs,us,rfl,rfl,f4,SqT.of g1,by lia,fin us g2⟩
 | lst ws =>
  cases e6
  obtain ⟨b,us,rfl,g1,g2⟩:=r1.lst I1.sub
  have l6:=g2.length
  exact .inl ⟨l,b,zs,us,rfl,rfl,f4,g1,by lia,fin us g2⟩
 | _=>cases e6
end
noncomputable def ArgsOk (K:Γd) (S H:Hp) (args:List FV) (vs:List V):Bool→Prop
 | false=>RVs K S args vs
 | true=>∃ v r a us,args=v :: r∧vs=.ref a :: us∧a2u K S H a v∧RVs K S r us
noncomputable def c6e (K:Γd) (S' H' H:Hp) (v:FV) (x:V):Bool→Prop
 | false=>RV K S' v x
 | true=>∃ a,x=.ref a∧a2u K S' H' a v∧H a=none
noncomputable def b2p (vs:List V):Bool→Option Addr
 | false=>none
 | true=>match vs with
  | .ref a :: _=>some a
  | _=>none
structure Kept (K:Γd) (S H S' H':Hp) (P:Option Addr) (w:FV):Prop where
 same:Same S S'
 sub:Same S' H'
 grow:∀ a o,S' a=some o→S a=some o ∨ H a=none ∨ a5s o=true
 keep:∀ a o,H a=some o→P≠some a→H' a=some o
 back:∀ a,P=some a→a2u K S' H' a w
noncomputable def spQ (K:Γd) (call:CW) (io fr:Bool) (f:Nat):Sp:=fun vs H Q E=>∃ S args Q0,Same S H∧ArgsOk K S H args vs io∧call f args Q0∧∀ z,Q0 z→∀ x S' H',Kept K S H S' H' (b2p vs io) z.2→c6e K S' H' H z.1 x fr→Q x H'
section
variable {X:Cx} {C:CC} {n:Nat} {sp:Γd→Nat→Sp} {a b d x y z:Expr} {ea eb ec:EW} {pos p:Pos} {call:CW}
variable {K:Γd} {c:Cn} {md:Md} {L:a0a} {σ:L2.St} {S H S' H':Hp} {i f:Nat} {nx:Str} {xs:List Expr} {as:AW}
noncomputable def a2i (xs:List Expr):Bool:=xs.all fun x=>!a0h x
theorem b2b:∀ {xs:List Expr} {env:Env},a2i xs=true→(backTo pos (starEach xs env)).any (·.1)=false
 | [],_,_=>rfl
 | x :: xs,env,h=>by
  have h:=b2 (show (!a0h x && a2i xs)=true from h)
  rw [a0f (nb h.1)]
  show (false || (backTo pos (starEach xs env)).any (·.1))=false
  rw [b2b h.2]; rfl
theorem Kept.iv (I:Iv K c md L σ S H) {w:FV} (k:Kept K S H S' H' none w):Iv K c md L σ S' H':=I.go3 k.same k.sub k.grow fun a o e=>k.keep a o e (by simp)
theorem a6a (G:Good X C n sp) {t:TA} (hf:C.fns[f]?=some nx) (hg:C.gl nx=true) (hd:(nx == ("__debug__":Str))=false) (hs:a2i (a :: xs)=true) (ha:PA X.nox (a :: xs) t):PE X.nox (.Call (.Name nx p) (a :: xs) [] pos) (fun σ H Q=>t σ H fun vs H1=>sp X.K f vs H1 Q E0):=by
 obtain ⟨fa,fd,ps,h1,h2,h3,h4⟩:=G.fns f nx hf
 have h:=b2 (show (!a0h a && a2i xs)=true from hs)
 refine PE.imp (c4a (X:=X.nox) h4 G.room.toRoom (G.gl hg) h1 h2 h3 .nil d4t ha hd (a0f (nb h.1)) (b2b h.2)) fun σ H Q q=>?_
 show t σ H fun vs H1=>sp X.K f (vs++[]) H1 Q E0
 have e:(fun vs H1=>sp X.K f (vs++[]) H1 Q E0)=fun vs H1=>sp X.K f vs H1 Q E0:=by funext vs H1; rw [List.append_nil]
 rw [e]; exact q
theorem d7a (G:Good X C n sp) (e:sp X.K f=spQ X.K call false false f) (hf:C.fns[f]?=some nx) (hg:C.gl nx=true) (hd:(nx == ("__debug__":Str))=false) (hs:a2i (a :: xs)=true) (ha:FA X C (a :: xs) as):FE X C (.Call (.Name nx p) (a :: xs) [] pos) (a2e call f as) :=
 PE.imp (a6a G hf hg hd hs ha) fun σ H Q ⟨c,L,S,Q0,I,h,k⟩=>⟨c,L,S,_,I,h,fun vs L1 hv us S1 H1 r1 I1 s1=>by
  rw [e]
  exact ⟨S1,vs,_,I1.sub,r1,hv,fun z q x S' H' kp r=>k _ L1 q x S' H' r (kp.iv I1) (s1.trans kp.same)⟩⟩
theorem d6p (G:Good X C n sp) (e:sp X.K f=spQ X.K call false true f) (hf:C.fns[f]?=some nx) (hg:C.gl nx=true) (hd:(nx == ("__debug__":Str))=false) (hs:a2i (a :: xs)=true) (ha:FA X C (a :: xs) as):FF X C (.Call (.Name nx p) (a :: xs) [] pos) (a2e call f as) :=
 PE.imp (a6a G hf hg hd hs ha) fun σ H Q ⟨c,L,S,Q0,I,h,k⟩=>⟨c,L,S,_,I,h,fun vs L1 hv us S1 H1 r1 I1 s1=>by
  rw [e]
  refine ⟨S1,vs,_,I1.sub,r1,hv,fun z q x S' H' kp r=>?_⟩
  obtain ⟨a,rfl,o,hn⟩:=r
  exact k _ L1 q a S' H' o (I1.fresh hn) (kp.iv I1) (s1.trans kp.same)⟩
theorem b6f {v:FV} {q:Addr} (I:Iv K c md L σ S H) (o:a2u K S H q v) (fr:a6n c md L σ q):∃ u,H q=some u∧Iv K c md L σ (upd S q u) H∧RV K (upd S q u) v (.ref q):=by
 obtain ⟨h1,ps,us,e0,h2,h3⟩:=o
 have s:=a0i (o:=c4e v us) h1
 refine ⟨_,h2,⟨I.len,fun i v h e=>let ⟨x,e1,r⟩:=I.imm i v h e; ⟨x,e1,r.mono s⟩,fun i v h e=>?_,I.dis,fun a u e=>?_,I.frame,I.s0.trans s,fun a u e=>?_,I.lent,I.fzs,I.fzm,I.fzp,fun p hp=>let ⟨g1,g2,g3⟩:=I.prs p hp; ⟨g1,by rw [a0d (fr.2.1 p hp)]; exact g2,g3⟩,I.ntp,I.lnt1,I.tie⟩,?_⟩
 ·obtain ⟨b,e1,⟨g1,rs,zs,g2,g3,g4⟩,g5⟩:=I.own i v h e
  have hb:b≠q:=fun z=>by subst z; exact fr.2.2 i v h e e1
  exact ⟨b,e1,⟨by rw [a0d hb]; exact g1,rs,zs,g2,g3,g4.mono s⟩,g5⟩
 ·by_cases z:a=q
  ·subst z; rw [a0e] at e; cases e; exact h2
  ·rw [a0d z] at e; exact I.sub a u e
 ·by_cases z:a=q
  ·subst z; exact .inr (.inl fr.1)
  ·rw [a0d z] at e; exact I.grow a u e
 ·cases v with
  | lst qs=>cases e0; exact ⟨q,us,rfl,a0e,h3.mono s⟩
  | dct ks vs=>obtain ⟨hl,rfl⟩:=itd e0; exact ⟨q,us,rfl,hl,a0e,h3.mono s⟩
  | dci ks vs=>obtain ⟨hl,rfl⟩:=itd e0; exact ⟨q,us,rfl,hl,a0e,h3.mono s⟩
  | dcz o ks vs=>obtain ⟨hl,rfl⟩:=itd e0; exact ⟨q,us,rfl,hl,a0e,h3.mono s⟩
  | obj C dx fs gs=>cases e0; exact ⟨q,rfl,a0e⟩
  | dcn z ks vs=>obtain ⟨hl,rfl⟩:=itd e0; exact ⟨q,us,rfl,hl,a0e,h3.mono s⟩
  | _=>cases e0
theorem a2t (h:FF X C a ea):FE X C a ea:=PE.imp h fun σ H Q ⟨c,L,S,Q0,I,h,k⟩=>⟨c,L,S,Q0,I,h,fun v L' q a S' H' o fr I' s'=>by
 obtain ⟨u,hu,I2,r⟩:=b6f I' o fr
 exact k v L' q _ _ H' r I2 (s'.trans (a0i o.1))⟩
theorem b5w (G:Good X C n sp) {t:TA} (h:C.nm i nx=true) (hr:PA X.nox xs t):PA X.nox (.Name nx p :: xs) (b9h (c6w i) t):=a0t (a1d G h) hr rfl
theorem b3i {Q:VK} {fr:Bool} {Q1:FV→a0a→Prop} (I:Iv K c md L σ S H) (m:a0g md i=.own) (h:a1g call f i as L Q1)
  (k:∀ v L' x H1 S' H',Q1 v L'→c6e K S' H' H1 v x fr→Iv K c md L' σ S' H'→Same S S'→(∀ a,H1 a=none→a6n c md L' σ a)→Q x H'):b9h (c6w i) (la K md as) σ H fun vs H1=>spQ K call true fr f vs H1 Q E0:=by
 obtain ⟨v0,e,h⟩:=wpx h
 have mi:a0g md i≠.imm:=fun z=>by rw [m] at z; cases z
 obtain ⟨l,e1,_⟩:=I.own i v0 mi ((a1n _ _ _).mp e)
 refine ⟨_,e1,c,L,S,_,I,h,fun vs L1 hv us S1 H1 r1 I1 s1=>?_⟩
 obtain ⟨v1,e2,q⟩:=wpx hv
 have e2:=(a1n _ _ _).mp e2
 obtain ⟨l',f1,o,_⟩:=I1.own i v1 mi e2
 rw [e1] at f1; cases f1
 refine ⟨S1,v1 :: vs,_,I1.sub,⟨v1,vs,l,us,rfl,rfl,o,r1⟩,q,fun z q x S' H' kp r=>?_⟩
 have I2:=I1.back3 m e2 e1 kp.same kp.sub kp.grow (fun b o e n=>kp.keep b o e fun z=>n (by cases z; rfl)) (kp.back l rfl)
 refine k _ _ x H1 S' H' q r I2 (s1.trans kp.same) fun a ha=>⟨I1.h0 ha,(I1.fresh ha).2.1,fun j w mj ej z=>?_⟩
 obtain ⟨_,_,g2⟩:=I1.fresh ha
 by_cases hj:j=i
 ·subst hj; exact g2 j v1 mj e2 z
 ·rw [List.getElem?_set_ne (Ne.symm hj)] at ej; exact g2 j w mj ej z
theorem d2b (G:Good X C n sp) {np:Str} {pp:Pos} (e:sp X.K f=spQ X.K call true false f) (hf:C.fns[f]?=some np) (hg:C.gl np=true) (hd:(np == ("__debug__":Str))=false) (h:C.nm i nx=true) (m:a0g C.md i=.own) (hs:a2i xs=true) (ha:FA X C xs as):FE X C (.Call (.Name np pp) (.Name nx p :: xs) [] pos) (a1g call f i as) :=
 PE.imp (a6a G hf hg hd (show (true && a2i xs)=true by rw [hs]; rfl) (b5w G h ha)) fun σ H Q ⟨c,L,S,Q0,I,h,k⟩=>by
  rw [e]
  exact b3i I m h fun v L' x H1 S' H' q r I' s' _=>k v L' q x S' H' r I' s'
theorem d1w (G:Good X C n sp) {np:Str} {pp:Pos} (e:sp X.K f=spQ X.K call true true f) (hf:C.fns[f]?=some np) (hg:C.gl np=true) (hd:(np == ("__debug__":Str))=false) (h:C.nm i nx=true) (m:a0g C.md i=.own) (hs:a2i xs=true) (ha:FA X C xs as):FF X C (.Call (.Name np pp) (.Name nx p :: xs) [] pos) (a1g call f i as) :=
 PE.imp (a6a G hf hg hd (show (true && a2i xs)=true by rw [hs]; rfl) (b5w G h ha)) fun σ H Q ⟨c,L,S,Q0,I,h,k⟩=>by
  rw [e]
  refine b3i I m h fun v L' x H1 S' H' q r I' s' fr=>?_
  obtain ⟨a,rfl,o,hn⟩:=r
  exact k v L' q a S' H' o (fr a hn) I' s'
end
section
variable {K:Γd} {c:Cn} {md:Md} {L:a0a} {σ:L2.St} {S H:Hp} {i:Nat} {v:FV} {x:V} {a:Addr}
theorem Iv.setI (I:Iv K c md L σ S H) (m:a0g md i=.imm) (r:RV K S v x):Iv K c md (L.set i (some v)) (σ.set i (some x)) S H :=
 I.set (fun a h z=>by subst z; exact (I.lent a h).1 m) (fun z=>by rw [m] at z; cases z) (.inl ⟨m,r⟩)
theorem Iv.prot (I:Iv K c md L σ S H) {o:HO} (h:H a=some o) (hs:S a=none) (ho:∀ i v,(a0g md i).w=true→L[i]?=some (some v)→σ[i]?≠some (some (.ref a))) (nt:a5s o=false:=by first | rfl | exact a4o _ _):Iv K { c with pr:=(a,o) :: c.pr } md L σ S H :=
 ⟨I.len,I.imm,I.own,I.dis,I.sub,I.frame,I.s0,I.grow,I.lent,I.fzs,I.fzm,fun p hp=>let ⟨xs,h⟩:=I.fzp p hp; ⟨xs,Γh _ h⟩,fun p hp=>(List.mem_cons.mp hp).elim (fun e=>e ▸ ⟨h,hs,ho⟩) (I.prs p),fun p hp=>(List.mem_cons.mp hp).elim (fun e=>e ▸ nt) (I.ntp p),I.lnt1,I.tie⟩
theorem b2n:∀ {md:Md} {i j:Nat} {m:Mo},i < md.length→a0g (md.set i m) j=if j=i then m else a0g md j
 | [],i,j,m,h=>absurd h (Nat.not_lt_zero _)
 | a :: md,0,0,m,h=>rfl
 | a :: md,0,j + 1,m,h=>by simp [a0g]
 | a :: md,i + 1,0,m,h=>by simp [a0g]
 | a :: md,i + 1,j + 1,m,h=>by
  have:=b2n (md:=md) (i:=i) (j:=j) (m:=m) (by simpa using h)
  simpa [a0g] using this
theorem c2p:∀ {md:Md} {i:Nat},a0g md i=.own→i < md.length
 | [],i,h=>by simp [a0g] at h
 | a :: md,0,h=>by simp
 | a :: md,i + 1,h=>by simpa using c2p (md:=md) (i:=i) h
theorem Iv.frz (I:Iv K c md L σ S H) {ob:HO} (m:a0g md i=.own) (e:L[i]?=some (some v)) (e1:σ[i]?=some (some (.ref a))) (h:H a=some ob) :
  Iv K { c with fz:=(i,a) :: c.fz,pr:=(a,ob) :: c.pr } (md.set i .frz) L σ S H∧∀ L σ S H,Iv K { c with fz:=(i,a) :: c.fz,pr:=(a,ob) :: c.pr } (md.set i .frz) L σ S H→Iv K c md L σ S H:=by
 have hl:=c2p m
 have mi:a0g md i≠.imm:=fun z=>by rw [m] at z; cases z
 have M:∀ j,a0g (md.set i .frz) j=if j=i then .frz else a0g md j:=fun j=>b2n hl
 have im:∀ {j},a0g (md.set i .frz) j=.imm↔a0g md j=.imm:=fun {j}=>by
  rw [M]
  by_cases q:j=i
  ·subst q; rw [if_pos rfl,m]; simp
  ·rw [if_neg q]
 have gm:∀ {j},(a0g md j).g=true→a0g (md.set i .frz) j=a0g md j:=fun {j} h=>by
  rw [M,if_neg fun q=>by rw [q,m] at h; cases h]
 have gm':∀ {j k x},a0g (md.set i .frz) j=.gst k x→a0g md j=.gst k x:=fun {j k x} h=>by
  rw [M] at h
  split at h
  ·cases h
  ·exact h
 have om:∀ {j},a0g (md.set i .frz) j=.ob→a0g md j=.ob:=fun {j} h=>by
  rw [M] at h
  split at h
  ·cases h
  ·exact h
 have nfz:∀ p∈c.fz,p.1≠i:=fun p hp z=>by have:=(I.fzs p hp).1; rw [z,m] at this; cases this
 have npr:∀ p∈c.pr,p.1≠a:=fun p hp z=>(I.prs p hp).2.2 i v (Mo.w_own m) e (by rw [z]; exact e1)
 obtain ⟨a',f1,o,_⟩:=I.own i v mi e
 rw [e1] at f1; cases f1
 have nt:a5s ob=false:=by
  obtain ⟨_,_,_,_,h5,_⟩:=o
  rw [h] at h5; rw [Option.some.inj h5,a4o]
 constructor
 ·refine ⟨I.len,fun j w h=>I.imm j w (im.mp h),fun j w h=>I.own j w (fun z=>h (im.mpr z)),fun j k w u b h1 h2=>I.dis j k w u b (fun z=>h1 (im.mpr z)) (fun z=>h2 (im.mpr z)),I.sub,I.frame,I.s0,I.grow,fun b hb=>let ⟨g1,g2⟩:=I.lent b hb; ⟨fun z=>g1 (im.mp z),g2⟩,fun p hp=>?_,fun j w hm hj=>?_,fun p hp=>?_,fun p hp=>?_,fun p hp=>(List.mem_cons.mp hp).elim (fun z=>by rw [z]; exact nt) (I.ntp p),fun q hq=>let ⟨g1,g2⟩:=I.lnt1 q hq; ⟨by rw [gm g1]; exact g1,g2⟩,fun j k x C dx fs w h1 h2=>I.tie j k x C dx fs w (gm' h1) (om h2)⟩
  ·rcases List.mem_cons.mp hp with rfl | hp
   ·exact ⟨by rw [M,if_pos rfl],e1,v,e⟩
   ·obtain ⟨g1,g2⟩:=I.fzs p hp
    exact ⟨by rw [M,if_neg (nfz p hp)]; exact g1,g2⟩
  ·by_cases q:j=i
   ·subst q; exact ⟨a,Γn⟩
   ·rw [M,if_neg q] at hm
    obtain ⟨b,g1⟩:=I.fzm j w hm hj
    exact ⟨b,Γh _ g1⟩
  ·rcases List.mem_cons.mp hp with rfl | hp
   ·exact ⟨_,Γn⟩
   ·obtain ⟨ys,g⟩:=I.fzp p hp
    exact ⟨ys,Γh _ g⟩
  ·have own':∀ {j},(a0g (md.set i .frz) j).w=true→j≠i∧(a0g md j).w=true:=fun {j} z=>by
    by_cases q:j=i
    ·subst q; rw [M,if_pos rfl] at z; cases z
    ·rw [M,if_neg q] at z; exact ⟨q,z⟩
   rcases List.mem_cons.mp hp with rfl | hp
   ·exact ⟨h,o.1,fun j w hm hj hz=>(own' hm).1 (I.dis j i w v a (Mo.w_imm (own' hm).2) mi hj e hz e1)⟩
   ·obtain ⟨g1,g2,g3⟩:=I.prs p hp
    exact ⟨g1,g2,fun j w hm=>g3 j w (own' hm).2⟩
 ·intro L σ S H J
  obtain ⟨_,j1,_⟩:=J.fzs (i,a) Γn
  refine ⟨J.len,fun j w h=>J.imm j w (im.mpr h),fun j w h=>J.own j w (fun z=>h (im.mp z)),fun j k w u b h1 h2=>J.dis j k w u b (fun z=>h1 (im.mp z)) (fun z=>h2 (im.mp z)),J.sub,J.frame,J.s0,J.grow,fun b hb=>let ⟨g1,g2⟩:=J.lent b hb; ⟨fun z=>g1 (im.mpr z),g2⟩,fun p hp=>?_,fun j w hm hj=>?_,I.fzp,fun p hp=>?_,I.ntp,fun q hq=>?_,fun j k x C dx fs w h1 h2=>?_⟩
  ·obtain ⟨g1,g2⟩:=J.fzs p (Γh _ hp)
   rw [M,if_neg (nfz p hp)] at g1
   exact ⟨g1,g2⟩
  ·have q:j≠i:=fun z=>by rw [z,m] at hm; cases hm
   obtain ⟨b,g1⟩:=J.fzm j w (by rw [M,if_neg q]; exact hm) hj
   rcases List.mem_cons.mp g1 with z | g1
   ·exact absurd (Prod.mk.inj z).1 q
   ·exact ⟨b,g1⟩
  ·obtain ⟨g1,g2,g3⟩:=J.prs p (Γh _ hp)
   refine ⟨g1,g2,fun j w hm hj=>?_⟩
   by_cases q:j=i
   ·subst q; rw [j1]; exact fun z=>npr p hp (by cases z; rfl)
   ·exact g3 j w (by rw [M,if_neg q]; exact hm) hj
  ·obtain ⟨g1,g2⟩:=J.lnt1 q hq
   refine ⟨?_,g2⟩
   rw [M] at g1
   split at g1
   ·cases g1
   ·exact g1
  ·have n1:j≠i:=fun z=>by rw [z,m] at h1; cases h1
   have n2:k≠i:=fun z=>by rw [z,m] at h2; cases h2
   exact J.tie j k x C dx fs w (by rw [M,if_neg n1]; exact h1) (by rw [M,if_neg n2]; exact h2)
end
noncomputable def ItR (K:Γd) (c:Cn) (md:Md) (J:It) (xs:List FV) (S1:Hp):Prop :=
 ∀ (i:Nat) (L:a0a) (σ:L2.St) (S H:Hp),Iv K c md L σ S H→Same S1 S→(xs[i]?=none→J.stop i H)∧∀ p,xs[i]?=some p→J.go i H∧∀ v H',J.yld i H v H'→∃ S',Same S S'∧(∀ c md L σ,Iv K c md L σ S H→Iv K c md L σ S' H')∧RV K S' p v
noncomputable def li (K:Γd) (md md':Md) (it:AW):TI:=fun σ H R=>∃ c L S Q0,Iv K c md L σ S H∧it L Q0∧∀ xs L',Q0 xs L'→∀ J c' S' H',Iv K c' md' L' σ S' H'→(∀ L σ S H,Iv K c' md' L σ S H→Iv K c md L σ S H)→c'.H0=c.H0→ItR K c' md' J xs S'→Same S S'→R J H'
noncomputable def FI (X:Cx) (C:CC) (md':Md) (tg iter:Expr) (it:AW):Prop:=PI X.nox tg iter (li X.K C.md md' it)
section
variable {X:Cx} {C:CC} {n:Nat} {sp:Γd→Nat→Sp} {a b d x y z tg:Expr} {ea eb ec:EW} {pos p:Pos}
variable {K:Γd} {c:Cn} {md:Md} {L:a0a} {σ:L2.St} {S H:Hp} {i:Nat} {nx:Str}
theorem PI.imp {X:Cx} {tg it:Expr} {t u:TI} (h:PI X tg it t) (f:∀ σ H R,u σ H R→t σ H R):PI X tg it u:=fun pins s σ H R I hu=>h pins s σ H R I (f σ H R hu)
noncomputable def Its (K:Γd):Bool→Addr→It
 | true,a=>Itl K a
 | false,a=>Itt K a
theorem b5o {X:Cx} {tg it:Expr} {te:TE} (h:PE X it te):PI X tg it (fun σ H R=>te σ H fun v H1=>∃ b a xs,v=.ref a∧SqB b X.K H1 a xs∧R (Its X.K b a) H1):=by
 intro pins s σ H R I hh
 refine thn (h pins s σ H _ I hh) fun v s1 ⟨x,H1,I1,r1,b,a,xs,e,hq,q⟩=>?_
 subst e
 cases r1
 cases b with
 | true =>
  obtain ⟨its,rv,p,hz⟩:=I1.list hq
  refine wpAny_pyIter_list p.isList ?_
  refine ⟨s1.heap.objs.size,[s1.heap.objs.size],_,_,H1,rfl,I1.kept (t':=s1.toks) fun b o e=>Γc _ e,b4n a _,⟨_,Γm _ rfl,rfl,rfl⟩,fun b hb=>?_,q⟩
  have e:b=s1.heap.objs.size:=by simpa using hb
  subst e
  exact I1.fpOk (Γi _) (I1.hok.fresh (Γi _))
 | false =>
  obtain ⟨its,rv,p,hz⟩:=I1.tuple hq
  refine wpAny_pyIter_tuple p ?_
  refine ⟨s1.heap.objs.size,[s1.heap.objs.size],_,_,H1,rfl,I1.kept (t':=s1.toks) fun b o e=>Γc _ e,b3k a _,⟨_,Γm _ rfl,rfl,rfl⟩,fun b hb=>?_,q⟩
  have e:b=s1.heap.objs.size:=by simpa using hb
  subst e
  exact I1.fpOk (Γi _) (I1.hok.fresh (Γi _))
theorem b7a {t:Bool} {q:Addr} {ps:List FV} {S1:Hp} (h:∀ L σ S H,Iv K c md L σ S H→Same S1 S→∃ vs,SqB t K H q vs∧RVs K S ps vs):ItR K c md (Its K t q) ps S1:=by
 intro i L σ S H I s
 obtain ⟨vs,h1,h2⟩:=h L σ S H I s
 cases t with
 | true =>
  refine ⟨fun e=>⟨vs,h1,by rw [← h2.length]; exact List.getElem?_eq_none_iff.mp e⟩,fun p ep=>?_⟩
  obtain ⟨v,e1,r1⟩:=h2.get ep
  refine ⟨⟨vs,v,h1,e1⟩,fun w H' ⟨eh,y⟩=>?_⟩
  have:=y vs h1
  rw [e1] at this; cases this
  subst eh
  exact ⟨S,Same.refl S,fun _ _ _ _ I=>I,r1⟩
 | false =>
  refine ⟨fun e=>⟨vs,h1,by rw [← h2.length]; exact List.getElem?_eq_none_iff.mp e⟩,fun p ep=>?_⟩
  obtain ⟨v,e1,r1⟩:=h2.get ep
  refine ⟨⟨vs,v,h1,e1⟩,fun w H' ⟨eh,y⟩=>?_⟩
  have:=y vs h1
  rw [e1] at this; cases this
  subst eh
  exact ⟨S,Same.refl S,fun _ _ _ _ I=>I,r1⟩
theorem RV.stays {v:FV} {ps:List FV} {u:V} {S1:Hp} (r:RV K S1 v u) (e:a4w v=some ps):∃ q,u=.ref q∧∀ S H,Same S1 S→Same S H→∃ vs,SqB (isL v) K H q vs∧RVs K S ps vs:=by
 cases v with
 | tup qs=>cases e; obtain ⟨q,vs,rfl,h1,h2⟩:=r; exact ⟨q,rfl,fun S H s s'=>⟨vs,SqT.of (s' _ _ (s _ _ h1)),h2.mono s⟩⟩
 | lst qs=>cases e; obtain ⟨q,vs,rfl,h1,h2⟩:=r; exact ⟨q,rfl,fun S H s s'=>⟨vs,SqL.of (s' _ _ (s _ _ h1)),h2.mono s⟩⟩
 | scr ns=>cases e; obtain ⟨q,rfl,h⟩:=r; exact ⟨q,rfl,fun S H s s'=>⟨_,h.sq (s.trans s'),RVs.ns ns⟩⟩
 | _=>cases e
theorem fi_seq (ha:FE X C a ea):FI X C C.md tg a (a4y ea):=PI.imp (b5o ha) fun σ H R ⟨c,L,S,Q0,I,h,k⟩ =>
 ⟨c,L,S,_,I,h,fun v L1 hv x S1 H1 r1 I1 s1=>by
  obtain ⟨ps,e,q⟩:=wpx hv
  obtain ⟨l,rfl,st⟩:=r1.stays e
  obtain ⟨vs,h1,h2⟩:=st S1 H1 (Same.refl _) I1.sub
  exact ⟨isL v,l,vs,rfl,h1,k ps L1 q _ c S1 H1 I1 (fun _ _ _ _ I=>I) rfl (b7a fun L σ S H I s=>st S H s I.sub) s1⟩⟩
theorem c4d {v:FV} {qs ps:List FV} (e2:c6j v=some qs) (e0:a4w v=some ps):v=.lst ps∧qs=ps:=by
 cases v <;> first | (cases e2; cases e0; exact ⟨rfl,rfl⟩) | (cases e0; done) | (cases e2; done)
theorem fi_own (G:Good X C n sp) (h:C.nm i nx=true) (m:a0g C.md i=.own):FI X C (C.md.set i .frz) tg (.Name nx p) (a4y (a0c i)):=PI.imp (b5o (a1d G h)) fun σ H R ⟨c,L,S,Q0,I,h,k⟩=>by
 obtain ⟨v,e,h⟩:=wpx h
 obtain ⟨ps,e0,q⟩:=wpx h
 have e:=(a1n _ _ _).mp e
 obtain ⟨l,e1,⟨o1,qs,vs,e2,o2,o3⟩,o4⟩:=I.own i v (fun z=>by rw [m] at z; cases z) e
 obtain ⟨e3,e4⟩:=c4d e2 e0
 subst e3 e4
 obtain ⟨I',un⟩:=I.frz m e e1 o2
 exact ⟨_,e1,true,l,vs,rfl,SqL.of o2,k _ L q _ _ S H I' un rfl (b7a (t:=true) fun L σ S' H I s=>⟨vs,SqL.of (I.prs (l,.lst vs) Γn).1,o3.mono s⟩) (Same.refl S)⟩
theorem b0l:∀ (n:Nat) (lo:Int) (i:Nat),(upF lo n)[i]?=if i < n then some (.int (lo + i)) else none
 | 0,lo,i=>by simp [upF]
 | n + 1,lo,0=>by simp [upF]
 | n + 1,lo,i + 1=>by
  show (upF (lo + 1) n)[i]?=_
  rw [b0l n (lo + 1) i]
  have e:lo + 1 + (i:Int)=lo + ((i + 1:Nat):Int):=by lia
  rw [e]
  simp
theorem c9g {lo:Int} {m:Nat} {S1:Hp}:ItR K c md (Itr lo m) (upF lo m) S1:=by
 intro i L σ S H I s
 rw [b0l]
 by_cases h:i < m
 ·rw [if_pos h]
  refine ⟨fun e=>(nomatch e),fun p e=>?_⟩
  cases e
  exact ⟨h,fun v H' ⟨e1,e2⟩=>⟨S,Same.refl S,by rw [e1]; exact fun _ _ _ _ I=>I,e2⟩⟩
 ·rw [if_neg h]
  exact ⟨fun _=>show m≤i by lia,fun p e=>(nomatch e)⟩
theorem fi_rng (G:Good X C n sp) (hg:C.gl (Γe "range")=true) (hs:a0h a=false) (ha:FE X C a ea):FI X C C.md tg (.Call (.Name (Γe "range") p) [a] [] pos) (b4i ea):=PI.imp (b5p (G.gl hg) (G.blt "range" (by decide)) (a0t ha a2n (a0f hs)) (a0f hs)) fun σ H R ⟨c,L,S,Q0,I,h,k⟩ =>
 ⟨c,L,S,_,I,h,fun v L1 hv x S1 H1 r1 I1 s1=>by
  obtain ⟨j,e,hb,q⟩:=wpx hv
  cases a1e e
  have hb:=de hb
  exact ⟨j,by rw [show x=.int j from r1],hb.1,hb.2,k _ L1 q _ c S1 H1 I1 (fun _ _ _ _ I=>I) rfl c9g s1⟩⟩
theorem c0k {P Q:FV} {u w:V} {pp:Addr} (I:Iv K c md L σ S H) (hp:H pp=none) (r1:RV K S P u) (r2:RV K S Q w):∃ S',Same S S'∧(∀ c md L σ,Iv K c md L σ S H→Iv K c md L σ S' (upd H pp (.tup [u,w])))∧RV K S' (.tup [P,Q]) (.ref pp) :=
 ⟨upd S pp (.tup [u,w]),a0i (I.sn hp),fun _ _ _ _ I=>I.new hp _,pp,[u,w],rfl,a0e,u,[w],rfl,r1.mono (a0i (I.sn hp)),w,[],rfl,r2.mono (a0i (I.sn hp)),rfl⟩
theorem c4x {t:Bool} {q:Addr} {ps:List FV} {S1:Hp} (h:∀ L σ S H,Iv K c md L σ S H→Same S1 S→∃ vs,SqB t K H q vs∧RVs K S ps vs):ItR K c md (Ien K t q) (a2y (upF 0 ps.length) ps) S1:=by
 intro i L σ S H I s
 obtain ⟨vs,h1,h2⟩:=h L σ S H I s
 unfold a2y
 rw [List.getElem?_zipWith,b0l]
 refine ⟨fun z=>⟨vs,h1,?_⟩,fun y ey=>?_⟩
 ·rw [← h2.length]
  by_cases hi:i < ps.length
  ·rw [if_pos hi,List.getElem?_eq_getElem hi] at z; cases z
  ·lia
 ·by_cases hi:i < ps.length
  ·rw [if_pos hi,List.getElem?_eq_getElem hi] at ey
   cases ey
   obtain ⟨v,f1,f2⟩:=h2.get (List.getElem?_eq_getElem hi)
   refine ⟨⟨vs,v,h1,f1⟩,fun z H' ⟨pp,hp,ez,yy⟩=>?_⟩
   have:=yy vs v h1 f1
   subst this ez
   exact c0k I hp (show RV K S (.int (0 + i)) (.int i) by show V.int i=V.int (0 + i); rw [Int.zero_add]) f2
  ·rw [if_neg hi] at ey; cases ey
variable {elts:List Expr} {kk:Nat} {tp:Pos}
theorem d6k (G:Good X C n sp) (hg:C.gl (Γe "enumerate")=true) (hs:a0h a=false) (ha:FE X C a ea):FI X C C.md (.Tuple elts kk tp) (.Call (.Name (Γe "enumerate") p) [a] [] pos) (b1i ea) :=
 PI.imp (d4p (G.gl hg) (G.blt "enumerate" (by decide)) (a0t ha a2n (a0f hs)) (a0f hs)) fun σ H R ⟨c,L,S,Q0,I,h,k⟩ =>
 ⟨c,L,S,_,I,h,fun v L1 hv x S1 H1 r1 I1 s1=>by
  obtain ⟨ps,e,q⟩:=wpx hv
  obtain ⟨l,rfl,st⟩:=r1.stays e
  obtain ⟨vs,h1,_⟩:=st S1 H1 (Same.refl _) I1.sub
  exact ⟨_,l,rfl,⟨vs,h1⟩,k _ L1 q _ c S1 H1 I1 (fun _ _ _ _ I=>I) rfl (c4x fun L σ S H I s=>st S H s I.sub) s1⟩⟩
end
noncomputable def gTs:List Nat→TGs
 | []=>d5s
 | i :: is=>c1c (a4i i) (gTs is)
noncomputable def gT (K:Γd):Tg→TG
 | .nm i=>a4i i
 | .tp is=>d1q K is.length (gTs is)
 | .tn i is=>d1q K 2 (c1c (a4i i) (c1c (d1q K is.length (gTs is)) d5s))
noncomputable def a2v (md:Md):Tg→Bool
 | .nm i=>decide (a0g md i=.imm)
 | .tp is=>is.all fun i=>decide (a0g md i=.imm)
 | .tn i is=>decide (a0g md i=.imm) && is.all fun i=>decide (a0g md i=.imm)
noncomputable def a4n (n:Nat):Tg→Bool
 | .nm i=>decide (n≤i)
 | .tp is=>is.all fun i=>decide (n≤i)
 | .tn i is=>decide (n≤i) && is.all fun i=>decide (n≤i)
noncomputable def FG (X:Cx) (t:Expr) (tg:Tg):Prop:=PG X.nox t (gT X.K tg)
section
variable {K:Γd} {c:Cn} {md:Md} {L:a0a} {σ:L2.St} {S H:Hp}
theorem a7l:∀ {is:List Nat} {ps:List FV} {vs:List V} {L L':a0a} {σ:L2.St},(is.all fun i=>decide (a0g md i=.imm))=true→Iv K c md L σ S H→RVs K S ps vs→a7m L is ps=some L' →
  ∃ σ',(∀ Q:L2.St→Hp→Prop,Q σ' H→gTs is vs σ H Q)∧Iv K c md L' σ' S H∧σ'.length=σ.length∧is.length=vs.length∧∀ n,(is.all fun i=>decide (n≤i))=true→∀ j,j < n→σ'[j]?=σ[j]?
 | [],[],vs,L,L',σ,_,I,r,e=>by cases (show vs=[] from r); cases e; exact ⟨σ,fun Q q=>⟨rfl,q⟩,I,rfl,rfl,fun _ _ _ _=>rfl⟩
 | i :: is,p :: ps,vs,L,L',σ,hm,I,r,e=>by
  obtain ⟨v,q,rfl,h1,h2⟩:=r
  have hm:=b2 (show (decide (a0g md i=.imm) && is.all fun i=>decide (a0g md i=.imm))=true from hm)
  obtain ⟨σ',g,I',l1,l2,far⟩:=a7l (is:=is) (ps:=ps) (vs:=q) hm.2 (I.setI (de hm.1) h1) h2 e
  refine ⟨σ',fun Q q'=>⟨v,q,rfl,g Q q'⟩,I',by rw [l1,List.length_set],by rw [List.length_cons,List.length_cons,l2],fun n hn j hj=>?_⟩
  have hn:=b2 (show (decide (n≤i) && is.all fun i=>decide (n≤i))=true from hn)
  have:=de hn.1
  rw [far n hn.2 j hj,List.getElem?_set_ne (by lia)]
 | [],p :: ps,_,_,_,_,_,_,_,e=>by cases e
 | i :: is,[],_,_,_,_,_,_,_,e=>by cases e
theorem a4t {tg:Tg} {v:FV} {x:V} {Q:a0a→Prop} (hm:a2v md tg=true) (I:Iv K c md L σ S H) (r:RV K S v x) (h:gW tg v L Q) :
  ∃ σ' L',(∀ Q':L2.St→Hp→Prop,Q' σ' H→gT K tg x σ H Q')∧Q L'∧Iv K c md L' σ' S H∧σ'.length=σ.length∧∀ n,a4n n tg=true→∀ j,j < n→σ'[j]?=σ[j]?:=by
 cases tg with
 | nm i =>
  refine ⟨σ.set i (some x),L.set i (some v),fun Q q=>q,h,I.setI (de hm) r,List.length_set ..,fun n hn j hj=>?_⟩
  have:n≤i:=de hn
  exact List.getElem?_set_ne (by lia)
 | tp is =>
  obtain ⟨ps,e,h⟩:=wpx h
  obtain ⟨L',e1,q⟩:=wpx h
  cases a1m e
  obtain ⟨a,vs,rfl,h1,h2⟩:=r
  obtain ⟨σ',g,I',l1,l2,far⟩:=a7l hm I h2 e1
  exact ⟨σ',L',fun Q q=>⟨a,vs,rfl,SqT.of (I.sub _ _ h1),l2.symm,g Q q⟩,q,I',l1,far⟩
 | tn i is =>
  have hm:=b2 hm
  obtain ⟨ps,e,h⟩:=wpx h
  obtain ⟨p,e1,h⟩:=wpx h
  obtain ⟨qs,e2,h⟩:=wpx h
  obtain ⟨L',e3,q⟩:=wpx h
  cases a1m e
  obtain ⟨p1,p2⟩:=p
  obtain rfl:ps=[p1,p2]:=by
   rcases ps with _ | ⟨a,_ | ⟨b,_ | ⟨c,r⟩⟩⟩ <;> first | (cases e1; done) | (cases e1; rfl)
  obtain ⟨a,vs,rfl,h1,h2⟩:=r
  obtain ⟨u,w,rfl,r1,r2⟩:=h2.two_of
  cases a1m e2
  obtain ⟨b,ws,rfl,h3,h4⟩:=r2
  obtain ⟨σ',g,I',l1,l2,far⟩:=a7l hm.2 (I.setI (de hm.1) r1) h4 e3
  refine ⟨σ',L',fun Q q=>⟨a,_,rfl,SqT.of (I.sub _ _ h1),rfl,_,_,rfl,_,_,rfl,b,ws,rfl,SqT.of (I.sub _ _ h3),l2.symm,g _ ⟨rfl,q⟩⟩,q,I',by rw [l1,List.length_set],fun n hn j hj=>?_⟩
  have hn:=b2 hn
  have:=de hn.1
  rw [far n hn.2 j hj,List.getElem?_set_ne (by lia)]
theorem Iv.regrow {a:Addr} {o o':HO} (I:Iv K { c with pr:=(a,o) :: c.pr } md L σ S H) (h0:c.H0 a=none) (hp:∀ p∈c.pr,p.1≠a) (hz:∀ p∈c.fz,∃ o,(p.2,o)∈c.pr) (nt:a5s o'=false:=by first | rfl | exact a4o _ _):Iv K { c with pr:=(a,o') :: c.pr } md L σ S (upd H a o'):=by
 obtain ⟨_,sa,na⟩:=I.prs (a,o) Γn
 have oa:∀ j w b,a0g md j≠.imm→L[j]?=some (some w)→σ[j]?=some (some (.ref b))→b≠a:=fun j w b hm hj hs z=>by
  subst z
  by_cases m:(a0g md j).w=true
  ·exact na j w m hj hs
  ·have m:a0g md j=.frz:=by cases q:a0g md j with | imm=>exact absurd q hm | frz=>rfl | _=>rw [q] at m; exact absurd rfl m
   obtain ⟨b',g1⟩:=I.fzm j w m hj
   obtain ⟨_,g2,_⟩:=I.fzs _ g1
   rw [hs] at g2; cases g2
   obtain ⟨xs,g3⟩:=hz _ g1
   exact hp _ g3 rfl
 refine ⟨I.len,I.imm,fun j w hm hj=>?_,I.dis,fun b u e=>?_,fun b u e n n1=>?_,I.s0,I.grow,I.lent,I.fzs,I.fzm,fun p hpz=>let ⟨xs,g⟩:=hz p hpz; ⟨xs,Γh _ g⟩,fun p hpr=>?_,fun p hpr=>(List.mem_cons.mp hpr).elim (fun z=>by rw [z]; exact nt) fun z=>I.ntp p (Γh _ z),I.lnt1,I.tie⟩
 ·obtain ⟨b,e1,⟨g1,ps,xs,g2,g3,g4⟩,g5⟩:=I.own j w hm hj
  exact ⟨b,e1,⟨g1,ps,xs,g2,by rw [a0d (oa j w b hm hj e1)]; exact g3,g4⟩,g5⟩
 ·rw [a0d fun z=>by subst z; rw [sa] at e; cases e]; exact I.sub b u e
 ·rw [a0d fun z=>by subst z; rw [h0] at e; cases e]; exact I.frame b u e n n1
 ·rcases List.mem_cons.mp hpr with rfl | hpr
  ·exact ⟨a0e,sa,na⟩
  ·obtain ⟨g1,g2,g3⟩:=I.prs p (Γh _ hpr)
   exact ⟨by rw [a0d (hp p hpr)]; exact g1,g2,g3⟩
theorem Iv.unprot {a:Addr} {o:HO} (I:Iv K { c with pr:=(a,o) :: c.pr } md L σ S H) (hz:∀ p∈c.fz,∃ o,(p.2,o)∈c.pr):Iv K c md L σ S H :=
 ⟨I.len,I.imm,I.own,I.dis,I.sub,I.frame,I.s0,I.grow,I.lent,I.fzs,I.fzm,hz,fun p hp=>I.prs p (Γh _ hp),fun p hp=>I.ntp p (Γh _ hp),I.lnt1,I.tie⟩
theorem c2q:∀ {md:Md} {i:Nat},md.length≤i→a0g md i=.imm
 | [],i,_=>rfl
 | a :: md,0,h=>absurd h (by simp)
 | a :: md,i + 1,h=>c2q (md:=md) (i:=i) (by simpa using h)
theorem Iv.more (I:Iv K c md L σ S H) (m:Nat):Iv K c md (L++Γj m none) (σ++Γj m none) S H:=by
 have look:∀ j w,(L++Γj m none)[j]?=some (some w)→L[j]?=some (some w)∧(σ++Γj m none)[j]?=σ[j]?:=fun j w z=>by
  by_cases h:j < L.length
  ·rw [List.getElem?_append_left h] at z
   exact ⟨z,List.getElem?_append_left (by rw [← I.len]; exact h)⟩
  ·rw [List.getElem?_append_right (by lia),List.getElem?_replicate] at z
   split at z <;> cases z
 have up:∀ j w,L[j]?=some (some w)→(L++Γj m none)[j]?=some (some w)∧(σ++Γj m none)[j]?=σ[j]?:=fun j w z=>by
  have h:=(List.getElem?_eq_some_iff.mp z).1
  exact ⟨by rw [List.getElem?_append_left h]; exact z,List.getElem?_append_left (by rw [← I.len]; exact h)⟩
 refine ⟨by simp [I.len],fun j w hm z=>?_,fun j w hm z=>?_,fun j k w u b m1 m2 z1 z2 y1 y2=>?_,I.sub,I.frame,I.s0,I.grow,fun b hb=>?_,fun p hp=>?_,fun j w hm z=>I.fzm j w hm (look j w z).1,I.fzp,fun p hp=>?_,I.ntp,fun q hq=>?_,fun j k x C dx fs w h1 h2 h3 h4=>?_⟩
 ·obtain ⟨z,y⟩:=look j w z; rw [y]; exact I.imm j w hm z
 ·obtain ⟨z,y⟩:=look j w z; rw [y]; exact I.own j w hm z
 ·obtain ⟨z1,q1⟩:=look j w z1
  obtain ⟨z2,q2⟩:=look k u z2
  rw [q1] at y1; rw [q2] at y2
  exact I.dis j k w u b m1 m2 z1 z2 y1 y2
 ·obtain ⟨g1,g2,w,g3⟩:=I.lent b hb
  obtain ⟨f1,f2⟩:=up 0 w g3
  exact ⟨g1,by rw [f2]; exact g2,w,f1⟩
 ·obtain ⟨g1,g2,w,g3⟩:=I.fzs p hp
  obtain ⟨f1,f2⟩:=up p.1 w g3
  exact ⟨g1,by rw [f2]; exact g2,w,f1⟩
 ·obtain ⟨g1,g2,g3⟩:=I.prs p hp
  refine ⟨g1,g2,fun j w hm z=>?_⟩
  obtain ⟨z,y⟩:=look j w z
  rw [y]; exact g3 j w hm z
 ·obtain ⟨g1,g2,w,g3⟩:=I.lnt1 q hq
  obtain ⟨f1,f2⟩:=up q.1 w g3
  exact ⟨g1,by rw [f2]; exact g2,w,f1⟩
 ·obtain ⟨z4,y4⟩:=look j w h4
  rw [y4]
  exact I.tie j k x C dx fs w h1 h2 (look k _ h3).1 z4
theorem Iv.take {n:Nat} {σ2:L2.St} (I:Iv K c md L σ2 S H) (hmd:md.length≤n) (hs:σ.length=n) (hl:n≤σ2.length) (e:∀ j,j < n→σ2[j]?=σ[j]?):Iv K c md (L.take n) σ S H:=by
 have look:∀ j w,(L.take n)[j]?=some (some w)→L[j]?=some (some w)∧σ[j]?=σ2[j]?:=fun j w z=>by
  have h:=(List.getElem?_eq_some_iff.mp z).1
  rw [List.length_take] at h
  rw [List.getElem?_take_of_lt (by lia)] at z
  exact ⟨z,(e j (by lia)).symm⟩
 have up:∀ j w,a0g md j≠.imm→L[j]?=some (some w)→(L.take n)[j]?=some (some w)∧σ[j]?=σ2[j]?:=fun j w hm z=>by
  have h:j < n:=by
   by_cases h:j < n
   ·exact h
   ·exact absurd (c2q (by lia)) hm
  exact ⟨by rw [List.getElem?_take_of_lt h]; exact z,(e j h).symm⟩
 refine ⟨by rw [List.length_take,I.len,hs]; lia,fun j w hm z=>?_,fun j w hm z=>?_,fun j k w u b m1 m2 z1 z2 y1 y2=>?_,I.sub,I.frame,I.s0,I.grow,fun b hb=>?_,fun p hp=>?_,fun j w hm z=>I.fzm j w hm (look j w z).1,I.fzp,fun p hp=>?_,I.ntp,fun q hq=>?_,fun j k x C dx fs w h1 h2 h3 h4=>?_⟩
 ·obtain ⟨z,y⟩:=look j w z; rw [y]; exact I.imm j w hm z
 ·obtain ⟨z,y⟩:=look j w z; rw [y]; exact I.own j w hm z
 ·obtain ⟨z1,q1⟩:=look j w z1
  obtain ⟨z2,q2⟩:=look k u z2
  rw [q1] at y1; rw [q2] at y2
  exact I.dis j k w u b m1 m2 z1 z2 y1 y2
 ·obtain ⟨g1,g2,w,g3⟩:=I.lent b hb
  obtain ⟨f1,f2⟩:=up 0 w g1 g3
  exact ⟨g1,by rw [f2]; exact g2,w,f1⟩
 ·obtain ⟨g1,g2,w,g3⟩:=I.fzs p hp
  obtain ⟨f1,f2⟩:=up p.1 w (fun z=>by rw [g1] at z; cases z) g3
  exact ⟨g1,by rw [f2]; exact g2,w,f1⟩
 ·obtain ⟨g1,g2,g3⟩:=I.prs p hp
  refine ⟨g1,g2,fun j w hm z=>?_⟩
  obtain ⟨z,y⟩:=look j w z
  rw [y]; exact g3 j w hm z
 ·obtain ⟨g1,g2,w,g3⟩:=I.lnt1 q hq
  obtain ⟨f1,f2⟩:=up q.1 w (fun z=>by rw [z] at g1; cases g1) g3
  exact ⟨g1,by rw [f2]; exact g2,w,f1⟩
 ·obtain ⟨z4,y4⟩:=look j w h4
  rw [y4]
  exact I.tie j k x C dx fs w h1 h2 (look k _ h3).1 z4
theorem c1q {J:It} {xs:List FV} {n m:Nat} {tg:Tg} {t:BW} {e:EW} {Q:VK} {Q1:List FV→a0a→Prop} (I:Iv K c md L σ S H) (hJ:ItR K c md J xs S) (hL:L.length=n) (hmd:md.length≤n) (ht:a2v md tg=true) (hg:a4n n tg=true) (hb:xs.length≤big) (h:a3a n m tg t e xs [] L Q1)
  (k:∀ acc ps L' S' H',H acc=none→Q1 ps L'→a2u K S' H' acc (.lst ps)→a6n c md L' σ acc→Iv K c md L' σ S' H'→Same S S'→Q (.ref acc) H') :
  ∀ acc,H acc=none→∃ W:Nat→Nat→Hp→Prop,(∃ m,W 0 m (upd H acc (.lst [])))∧∀ i j H,W i j H →
   (J.stop i H∧Q (.ref acc) H) ∨ (J.go i H∧∀ x H',J.yld i H x H'→gT K tg x (σ++Γj m none) H' fun σ2 H2=>Wk (σ++Γj m none) σ2∧lb K md t σ2 H2 fun b H3 =>
    if b=true then lv K md e σ2 H3 fun v H4=>∃ ys,H4 acc=some (.lst ys)∧ys.length < sizeLine∧∃ m',m' < j∧W (i + 1) m' (upd H4 acc (.lst (ys++[v]))) else ∃ m',m' < j∧W (i + 1) m' H3):=by
 intro acc hacc
 have h0:=I.h0 hacc
 have hp:∀ p∈c.pr,p.1≠acc:=(I.fresh hacc).2.1
 have hz:=I.fzp
 have hl:σ.length=n:=by rw [← I.len]; exact hL
 have hbl:=a0m
 let W:Nat→Nat→Hp→Prop:=fun i j H1=>∃ L S1 ps us,j=(xs.drop i).length∧Iv K { c with pr:=(acc,.lst us) :: c.pr } md L σ S1 H1∧RVs K S1 ps us∧Same S S1∧L.length=n∧ps.length≤i∧a3a n m tg t e (xs.drop i) ps L Q1
 have I1:Iv K { c with pr:=(acc,.lst []) :: c.pr } md L σ S (upd H acc (.lst [])):=(I.lay hacc _).prot a0e (I.sn hacc) fun j w hm hj=>(I.fresh hacc).2.2 j w (Mo.w_imm hm) hj
 refine ⟨W,⟨_,L,S,[],[],rfl,I1,rfl,Same.refl S,hL,Γi _,by rw [List.drop_zero]; exact h⟩,?_⟩
 rintro i j H1 ⟨L,S1,ps,us,rfl,I,r,s,hL,hps,hc⟩
 have I0:=I.unprot hz
 obtain ⟨j1,j2⟩:=hJ i L σ S1 H1 I0 s
 obtain ⟨g1,g2,g3⟩:=I.prs (acc,.lst us) Γn
 cases hd:xs.drop i with
 | nil =>
  left
  rw [hd] at hc
  refine ⟨j1 (List.getElem?_eq_none_iff.mpr (List.drop_eq_nil_iff.mp hd)),k acc ps L S1 H1 hacc hc ⟨g2,ps,us,rfl,g1,r⟩ ⟨h0,hp,fun q w hm hq hs=>?_⟩ I0 s⟩
  by_cases mo:(a0g md q).w=true
  ·exact g3 q w mo hq hs
  ·have mo:a0g md q=.frz:=by cases z:a0g md q with | imm=>exact absurd z hm | frz=>rfl | _=>rw [z] at mo; exact absurd rfl mo
   obtain ⟨b,f1⟩:=I0.fzm q w mo hq
   obtain ⟨_,f2,_⟩:=I0.fzs _ f1
   rw [hs] at f2; cases f2
   obtain ⟨ys,f3⟩:=hz _ f1
   exact hp _ f3 rfl
 | cons p rest =>
  right
  rw [hd] at hc
  have hi:xs[i]?=some p:=by
   have:=congrArg (·[0]?) hd
   simpa using this
  have hd':xs.drop (i + 1)=rest:=by
   have:=congrArg List.tail hd
   simpa [List.tail_drop] using this
  have hix:i < xs.length:=(List.getElem?_eq_some_iff.mp hi).1
  obtain ⟨go,yl⟩:=j2 p hi
  refine ⟨go,fun x H2 y=>?_⟩
  obtain ⟨S2,s2,tr,rx⟩:=yl x H2 y
  have I2:=(tr _ _ _ _ I).more m
  obtain ⟨σ2,L2,gq,q2,I2,len2,far⟩:=a4t ht I2 rx hc
  have l2:n≤σ2.length:=by rw [len2,List.length_append,hl]; lia
  have far':∀ q,q < n→σ2[q]?=σ[q]?:=fun q hq=>by rw [far n hg q hq,List.getElem?_append_left (by rw [hl]; exact hq)]
  refine gq _ ⟨⟨len2,fun q v hv=>?_⟩,?_⟩
  ·have hq:q < n:=by
    by_cases h:q < σ.length
    ·rw [← hl]; exact h
    ·rw [List.getElem?_append_right (by lia),List.getElem?_replicate] at hv
     split at hv <;> cases hv
   rw [far n hg q hq]; exact hv
  ·refine ⟨_,L2,S2,_,I2,q2,fun b L3 hb3 S3 H3 I3 s3=>?_⟩
   cases b with
   | false =>
    rw [if_neg Γk] at hb3 ⊢
    exact ⟨rest.length,by simp,L3.take n,S3,ps,us,by rw [hd'],I3.take hmd hl l2 far',r.mono (s2.trans s3),s.trans (s2.trans s3),by rw [List.length_take,I3.len]; lia,by lia,by rw [hd']; exact hb3⟩
   | true =>
    rw [if_pos rfl] at hb3 ⊢
    refine ⟨_,L3,S3,_,I3,hb3,fun v L4 hv u S4 H4 r4 I4 s4=>?_⟩
    obtain ⟨k1,_⟩:=I4.prs (acc,.lst us) Γn
    have lr:=r.length
    exact ⟨us,k1,by lia,rest.length,by simp,L4.take n,S4,ps++[v],us++[u],by rw [hd'],(I4.take hmd hl l2 far').regrow h0 hp hz,(r.mono (s2.trans (s3.trans s4))).append (RVs.one r4),s.trans (s2.trans (s3.trans s4)),by rw [List.length_take,I4.len]; lia,by simp; lia,by rw [hd']; exact hv⟩
end
noncomputable def b1h:Expr→Bool
 | .Set ..=>true
 | _=>false
theorem a6z {x:Expr} {env:Env} (h:b1h x=false):∀ v,foldedSetIterable x env v=pure v:=by
 intro v
 cases x <;> first | rfl | (cases h; done)
noncomputable def CC.tn (C:CC) (i:Nat) (x:Str):Bool:=decide (C.N[i]?=some x) && C.loc x
noncomputable def d4a (outer:List (Str×NameKind)) (names:List (Str×NameKind)):List (Str×NameKind) :=
 names.map fun (n,k)=>if (k == NameKind.free && outer.lookup n == some .cell) then (n,NameKind.cell) else (n,k)
noncomputable def CC.sub (C:CC) (scope:Scope) (own:List Str) (md:Md):CC:=⟨C.N.map (a7u own)++own,d4a C.sc scope.names,C.fns,md,false,scope.names,C.ms,C.fl⟩
noncomputable def CC.scOk (C:CC) (scope:Scope) (own:List Str):Bool :=
 decide (scope.kind=.function) && scope.names.all (fun p=>decide (p.2=.cell→scope.names.lookup p.1=some .cell)) && scope.names.all (fun p=>decide (p.2=.local→scope.names.lookup p.1=some .local)) &&
 scope.names.all (fun p=>decide (p.2=.free→(C.sc.lookup p.1=some .cell ∨ C.sc.lookup p.1=some .free))) && C.N.all (fun x=>if own.contains x then decide (scope.names.lookup (d1p x)=none) else decide (scope.names.lookup x≠some .local∧scope.names.lookup x≠some .cell)) && decide ((C.N.map (a7u own)++own).Nodup)
noncomputable def c8y:Md→Md→Bool
 | [],_=>true
 | a :: md,[]=>decide (a=.imm) && c8y md []
 | a :: md,b :: md'=>(decide (a=.imm) || !decide (b=.imm)) && c8y md md'
theorem a5o:∀ {md md':Md},c8y md md'=true→∀ j,a0g md j≠.imm→a0g md' j≠.imm
 | [],_,_,j,h=>absurd rfl h
 | a :: md,[],h,0,h0=>absurd (de (b2 h).1) h0
 | a :: md,[],h,j + 1,h0=>a5o (md:=md) (md':=[]) (b2 h).2 j h0
 | a :: md,b :: md',h,0,h0=>fun z=>by
  have h:=(b2 h).1
  have h0:a≠.imm:=h0
  have z:b=.imm:=z
  simp [h0,z] at h
 | a :: md,b :: md',h,j + 1,h0=>a5o (md:=md) (md':=md') (b2 h).2 j h0
noncomputable def FGs (X:Cx) (es:List Expr) (is:List Nat):Prop:=PGs X.nox es (gTs is)∧(assignEach es X.env).length=is.length∧(assignEach es X.env).findIdx? (·.1)=none
noncomputable def FTs (X:Cx) (C:CC) (xs:List Expr) (t:BW):Prop:=PTs X.nox xs (lb X.K C.md t)
section
variable {X:Cx} {C:CC} {n:Nat} {sp:Γd→Nat→Sp} {a b x:Expr} {xs:List Expr} {pos p:Pos} {i k:Nat} {nx:Str} {is:List Nat} {t u:BW}
theorem Good.ix (G:Good X C n sp) {y:Str} (h:decide (C.N[i]?=some y)=true):X.N[i]?=some y:=by rw [G.N]; exact de h
theorem Good.nd' (G:Good X C n sp):X.N.Nodup:=by rw [G.N]; exact G.nd
theorem d6m (G:Good X C n sp) (h:C.tn i nx=true):FG X (.Name nx p) (.nm i):=by
 have h:=b2 h
 obtain ⟨l1,l2⟩:=G.loc h.2
 exact c3x (X:=X.nox) G.nd' (G.ix h.1) l1 l2
theorem d6l:FGs X [] []:=⟨c3w,rfl,rfl⟩
theorem d1u (G:Good X C n sp) (h:C.tn i nx=true) (r:FGs X xs is):FGs X (.Name nx p :: xs) (i :: is):=by
 obtain ⟨h1,h2,h3⟩:=r
 refine ⟨c0c (d6m G h) h1 rfl,?_,?_⟩
 ·show (assignEach xs X.env).length + 1=is.length + 1
  rw [h2]
 ·show ((false,assign (.Name nx p) X.env) :: assignEach xs X.env).findIdx? (·.1)=none
  rw [List.findIdx?_cons]
  simp [h3]
theorem c9o (G:Good X C n sp) (r:FGs X xs is):FG X (.Tuple xs k p) (.tp is):=c8a (X:=X.nox) G.calm r.1 r.2.1 r.2.2
theorem PTs.imp {e:List Expr} {t u:TT} (h:PTs X e t) (f:∀ σ H Q,u σ H Q→t σ H Q):PTs X e u:=fun pins s σ H Q I hu=>h pins s σ H Q I (f σ H Q hu)
theorem d5w:FTs X C [] a2r:=PTs.imp b5f fun σ H Q ⟨c,L,S,Q0,I,h,k⟩=>k true L h S H I (Same.refl S)
theorem d5v (h1:FB X C a t):FTs X C [a] t:=PTs.imp (b9x h1 (b5f (X:=X.nox))) fun σ H Q ⟨c,L,S,Q0,I,h,k⟩ =>
 ⟨c,L,S,_,I,h,fun r L1 q S1 H1 I1 s1=>by
  cases r with
  | true=>rw [if_pos rfl]; exact k true L1 q S1 H1 I1 s1
  | false=>rw [if_neg Γk]; exact k false L1 q S1 H1 I1 s1⟩
theorem Good.sub (G:Good X C n sp) {scope:Scope} {own:List Str} (h:C.scOk scope own=true) (md:Md):CScope X scope own∧∀ fp D s H,Good (cxC X scope own fp D s H) (C.sub scope own md) n sp:=by
 simp only [CC.scOk,Bool.and_eq_true,decide_eq_true_eq,List.all_eq_true] at h
 obtain ⟨⟨⟨⟨⟨h1,h2⟩,h3⟩,h4⟩,h5⟩,h6⟩:=h
 refine ⟨⟨h1,fun p hp=>by simpa using h2 p hp,fun p hp=>by simpa using h3 p hp,fun p hp hk=>?_,fun x hx hw=>?_,fun x hx hw=>?_⟩,fun fp D s H=>⟨?_,?_,h1,h6,G.calm,(fun x z=>z),G.room,G.fns,G.blt,G.mts,G.fls⟩⟩
 ·have:=h4 p hp
  show X.env.scope.names.lookup p.1=_ ∨ X.env.scope.names.lookup p.1=_
  rw [G.sc]; exact this hk
 ·have:=h5 x (by rw [← G.N]; exact hx)
  rw [if_neg (by rw [hw]; exact Γk)] at this
  exact de this
 ·have:=h5 x (by rw [← G.N]; exact hx)
  rw [if_pos hw] at this
  exact de this
 ·show X.N.map (a7u own)++own=C.N.map (a7u own)++own
  rw [G.N]
 ·show (relabel scope X.env).names=d4a C.sc scope.names
  unfold relabel d4a
  simp only
  refine List.map_congr_left fun p hp=>?_
  obtain ⟨nm,kd⟩:=p
  show (if (kd == NameKind.free && X.env.scope.kind == .function && X.env.scope.names.lookup nm == some .cell)=true then (nm,NameKind.cell) else (nm,kd))=_
  rw [G.kind,G.sc]
  simp
variable {scope:Scope} {own:List Str} {elt tgx iter:Expr} {ifs:List Expr} {it:AW} {tg:Tg} {e:EW} {nn m:Nat} {md':Md}
structure CompOk (X:Cx) (C:CC) (n:Nat) (sp:Γd→Nat→Sp) (scope:Scope) (own:List Str) (elt tgx iter:Expr) (ifs:List Expr) (nn m:Nat) (md':Md) (it:AW) (tg:Tg) (t:BW) (e:EW):Prop where
 st:(C.scOk scope own && decide (C.N.length=nn) && decide (own.length=m) && decide (md'.length≤nn) && c8y C.md md' && a2v md' tg && a4n nn tg && !b1h iter)=true
 it:FI X C md' tgx iter it
 tg:∀ X',Good X' (C.sub scope own md') n sp→FG X' tgx tg
 ts:∀ X',Good X' (C.sub scope own md') n sp→FTs X' (C.sub scope own md') ifs t
 el:∀ X',Good X' (C.sub scope own md') n sp→FE X' (C.sub scope own md') elt e
theorem CompOk.run (G:Good X C n sp) (h:CompOk X C n sp scope own elt tgx iter ifs nn m md' it tg t e) {σ:L2.St} {H:Hp} {Q:VK} (hq:lf X.K C.md (a1z nn m it tg t e) σ H Q):b9i (li X.K C.md md' it) (gT X.K tg) (lb X.K md' t) (lv X.K md' e) own.length σ H Q:=by
 have h0:=b2 h.st; have h1:=b2 h0.1; have h2:=b2 h1.1; have h3:=b2 h2.1; have h4:=b2 h3.1; have h5:=b2 h4.1; have h6:=b2 h5.1
 obtain ⟨c,L,S,Q0,I,hh,k⟩:=hq
 refine ⟨c,L,S,_,I,hh,fun xs L1 hx J c' S1 H1 I1 un e0 hJ s1=>?_⟩
 obtain ⟨hl,hb,hc⟩:=hx
 rw [de h5.2]
 refine c1q I1 hJ hl (de h4.2) h2.2 h1.2 hb hc fun acc ps L' S' H' hn q o fr I' s'=>k _ L' q acc S' H' o ⟨by rw [← e0]; exact fr.1,((un _ _ _ _ I1).fresh hn).2.1,fun j w hm=>fr.2.2 j w (a5o h3.2 j hm)⟩ (un _ _ _ _ I') (s1.trans s')
theorem CompOk.blk (G:Good X C n sp) (h:CompOk X C n sp scope own elt tgx iter ifs nn m md' it tg t e):CScope X scope own∧(∀ fp D s H,PG (cxC X scope own fp D s H) tgx (gT X.K tg)∧PTs (cxC X scope own fp D s H) ifs (lb X.K md' t)∧PE (cxC X scope own fp D s H) elt (lv X.K md' e))∧∀ v,foldedSetIterable iter X.env v=pure v:=by
 have h0:=b2 h.st; have h1:=b2 h0.1; have h2:=b2 h1.1; have h3:=b2 h2.1; have h4:=b2 h3.1; have h5:=b2 h4.1; have h6:=b2 h5.1
 obtain ⟨s1,s2⟩:=G.sub h6.1 md'
 exact ⟨s1,fun fp D s H=>⟨h.tg _ (s2 fp D s H),h.ts _ (s2 fp D s H),h.el _ (s2 fp D s H)⟩,a6z (nb h0.2)⟩
theorem a0v (G:Good X C n sp) (h:CompOk X C n sp scope own elt tgx iter ifs nn m md' it tg t e):FF X C (.ListComp elt [⟨tgx,iter,ifs,0⟩] scope pos) (a1z nn m it tg t e):=by
 obtain ⟨s1,s2,s3⟩:=h.blk G
 exact PE.imp (b0w G.calm s1 h.it s2 s3) fun σ H Q q=>h.run G q
end
noncomputable def d9d (K:Γd) (c:Cn) (S H:Hp) (v:FV) (x:V):Bool→Prop
 | false=>RV K S v x
 | true=>∃ a,x=.ref a∧a2u K S H a v∧c.H0 a=none
noncomputable def d9h (K:Γd) (c:Cn) (fr:Bool) (D:Ends) (σ:L2.St) (S H:Hp):FFl→Prop
 | .next=>D.nx σ H
 | .brk=>D.bk σ H
 | .cont=>D.ct σ H
 | .ret v=>∀ x,d9d K c S H v x fr→D.rt x H
noncomputable def ls (K:Γd) (md:Md) (fr:Bool) (s:SW):TS:=fun D σ H=>∃ c L S Q0,Iv K c md L σ S H∧s L Q0∧∀ fl L',Q0 fl L'→∀ σ' S' H',Iv K c md L' σ' S' H'→Same S S'→d9h K c fr D σ' S' H' fl
noncomputable def FS (X:Cx) (C:CC) (fr:Bool) (x:Stmt) (s:SW):Prop:=PS X.nox x (ls X.K C.md fr s)
noncomputable def FSs (X:Cx) (C:CC) (fr:Bool) (x:List Stmt) (s:SW):Prop:=PSs X.nox x (ls X.K C.md fr s)
noncomputable def CC.wmd (C:CC) (md:Md):CC:=⟨C.N,C.sc,C.fns,md,C.top,C.oc,C.ms,C.fl⟩
section
variable {X:Cx} {C:CC} {n:Nat} {sp:Γd→Nat→Sp} {fr:Bool} {a b x y:Expr} {e ea eb:EW} {pos p px py:Pos} {i j k:Nat} {nx ny:Str} {is:List Nat} {st:Stmt} {sts:List Stmt} {s r:SW}
variable {K:Γd} {c:Cn} {md:Md} {L:a0a} {σ:L2.St} {S H:Hp}
theorem Good.wmd (G:Good X C n sp) (md:Md):Good X (C.wmd md) n sp:=⟨G.N,G.sc,G.kind,G.nd,G.calm,G.fn,G.room,G.fns,G.blt,G.mts,G.fls⟩
theorem PS.imp {e:Stmt} {t u:TS} (h:PS X e t) (f:∀ D σ H,u D σ H→t D σ H):PS X e u:=fun pins s σ H D I hu=>h pins s σ H D I (f D σ H hu)
theorem PSs.imp {e:List Stmt} {t u:TS} (h:PSs X e t) (f:∀ D σ H,u D σ H→t D σ H):PSs X e u:=fun pins s σ H D I hu=>h pins s σ H D I (f D σ H hu)
theorem fs_nil:FSs X C fr [] a6e:=PSs.imp c3p fun D σ H ⟨c,L,S,Q0,I,h,k⟩=>k .next L h σ S H I (Same.refl S)
theorem b7n (h:FS X C fr st s):FSs X C fr [st] s:=b0r h
theorem a1b (h:FS X C fr st s) (h2:FSs X C fr sts r):FSs X C fr (st :: sts) (a0s s r):=PSs.imp (a5a h h2) fun D σ H ⟨c,L,S,Q0,I,h,k⟩ =>
 ⟨c,L,S,_,I,h,fun fl L1 q σ1 S1 H1 I1 s1=>by
  cases fl with
  | next=>exact ⟨c,L1,S1,_,I1,q,fun fl L2 q σ2 S2 H2 I2 s2=>k fl L2 q σ2 S2 H2 I2 (s1.trans s2)⟩
  | brk=>exact k _ L1 q σ1 S1 H1 I1 s1
  | cont=>exact k _ L1 q σ1 S1 H1 I1 s1
  | ret v=>exact k _ L1 q σ1 S1 H1 I1 s1⟩
noncomputable def a5t:Expr→Bool
 | .ListComp ..=>true
 | .SetComp ..=>true
 | .DictComp ..=>true
 | _=>false
theorem a2m {e:Expr} {t:Option Expr} {n:Nat} {env:Env} (h:a5t e=false):swapsWith e t n env=pure false:=by
 cases e <;> first | rfl | (cases h; done)
theorem d6b (hc:a5t a=false) (h:FE X C a e):FS X C fr (.Expr a pos) (c2c e):=PS.imp (b0t h (a2m hc)) fun D σ H ⟨c,L,S,Q0,I,h,k⟩ =>
 ⟨c,L,S,_,I,h,fun v L1 q x S1 H1 r I1 s1=>k .next L1 q σ S1 H1 I1 s1⟩
theorem fs_ret (h:FE X C a e):FS X C false (.Return (some a) pos) (a2s e):=PS.imp (b5g h) fun D σ H ⟨c,L,S,Q0,I,h,k⟩ =>
 ⟨c,L,S,_,I,h,fun v L1 q x S1 H1 r I1 s1=>k (.ret v) L1 q σ S1 H1 I1 s1 x r⟩
theorem d6a (h:FF X C a e):FS X C true (.Return (some a) pos) (a2s e):=PS.imp (b5g h) fun D σ H ⟨c,L,S,Q0,I,h,k⟩ =>
 ⟨c,L,S,_,I,h,fun v L1 q l S1 H1 o fr I1 s1=>k (.ret v) L1 q σ S1 H1 I1 s1 _ ⟨l,rfl,o,fr.1⟩⟩
theorem Iv.mine (I:Iv K c md L σ S H) {v:FV} {a:Addr} (hi:i≠0) (m:a0g md i≠.imm) (e:L[i]?=some (some v)) (e1:σ[i]?=some (some (.ref a))) (ng:(a0g md i).g=false:=by first | rfl | (simp only [*]; rfl)):c.H0 a=none:=by
 obtain ⟨b,e2,_,h⟩:=I.own i v m e
 rw [e1] at e2; cases e2
 rcases h with h | h | ⟨j,h⟩
 ·obtain ⟨g1,g2,w,g3⟩:=I.lent a h
  exact absurd (I.dis i 0 v w a m g1 e g3 e1 g2) hi
 ·exact h
 ·obtain ⟨g1,g2,w,g3⟩:=I.lnt1 _ h
  have:=I.dis i j v w a m (fun z=>by rw [z] at g1; cases g1) e g3 e1 g2
  subst this
  rw [ng] at g1; cases g1
theorem d5z (G:Good X C n sp) (h:C.nm i nx=true) (m:(decide (a0g C.md i=.own) && decide (i≠0))=true):FS X C true (.Return (some (.Name nx p)) pos) (a2s (a0c i)):=PS.imp (b5g (a1d G h)) fun D σ H ⟨c,L,S,Q0,I,h,k⟩=>by
 have m:=b2 m
 have mi:a0g C.md i≠.imm:=fun z=>by rw [de m.1] at z; cases z
 obtain ⟨v,e,q⟩:=wpx h
 have e:=(a1n _ _ _).mp e
 obtain ⟨l,e1,o,_⟩:=I.own i v mi e
 exact ⟨_,e1,k (.ret v) L q σ S H I (Same.refl S) _ ⟨l,rfl,o,I.mine (de m.2) mi e e1 (by rw [de m.1]; rfl)⟩⟩
theorem fs_if {t:BW} {xa xb:List Stmt} (h:FB X C a t) (ha:FSs X C fr xa s) (hb:FSs X C fr xb r):FS X C fr (.If a xa xb pos) (sIf t s r):=PS.imp (d4o h ha hb) fun D σ H ⟨c,L,S,Q0,I,h,k⟩ =>
 ⟨c,L,S,_,I,h,fun v L1 q S1 H1 I1 s1=>by
  cases v with
  | true=>rw [if_pos rfl] at q ⊢; exact ⟨c,L1,S1,_,I1,q,fun fl L2 q σ2 S2 H2 I2 s2=>k fl L2 q σ2 S2 H2 I2 (s1.trans s2)⟩
  | false=>rw [if_neg Γk] at q ⊢; exact ⟨c,L1,S1,_,I1,q,fun fl L2 q σ2 S2 H2 I2 s2=>k fl L2 q σ2 S2 H2 I2 (s1.trans s2)⟩⟩
theorem b1s {tg:Tg} {te:TE} (ht:a2v C.md tg=true) (hte:∀ σ H Q,lv X.K C.md e σ H Q→te σ H Q) (h:PS X.nox st (b8x te (gT X.K tg))):FS X C fr st (a1u e tg):=PS.imp h fun D σ H ⟨c,L,S,Q0,I,h,k⟩=>hte _ _ _
 ⟨c,L,S,_,I,h,fun v L1 q x S1 H1 r I1 s1=>by
  obtain ⟨σ',L',g,q,I2,_⟩:=a4t ht I1 r q
  exact g _ (k .next L' q σ' S1 H1 I2 s1)⟩
theorem c6b {te:TE} (m:a0g C.md i=.imm) (hte:∀ σ H Q,lf X.K C.md e σ H Q→te σ H Q) (h:PS X.nox st (b8x te (a4i i))):FS X C fr st (a1u e (.nm i)):=PS.imp h fun D σ H ⟨c,L,S,Q0,I,h,k⟩=>hte _ _ _
 ⟨c,L,S,_,I,h,fun v L1 q l S1 H1 o f I1 s1=>by
  obtain ⟨u,hu,I2,r⟩:=b6f I1 o f
  exact k .next _ q _ _ H1 (I2.setI m r) (s1.trans (a0i o.1))⟩
theorem b1t {te:TE} (m:(decide (a0g C.md i=.own) && decide (i≠0))=true) (hte:∀ σ H Q,lf X.K C.md e σ H Q→te σ H Q) (h:PS X.nox st (b8x te (a4i i))):FS X C fr st (a1u e (.nm i)):=PS.imp h fun D σ H ⟨c,L,S,Q0,I,h,k⟩=>hte _ _ _
 ⟨c,L,S,_,I,h,fun v L1 q l S1 H1 o f I1 s1=>by
  have m:=b2 m
  exact k .next _ q _ _ H1 (I1.set (fun _ _=>de m.2) (fun z=>by rw [de m.1] at z; cases z) (.inr ⟨de m.1,l,rfl,o,f.1,f.2.1,fun j w _ hm hj=>f.2.2 j w hm hj⟩)) s1⟩
theorem b5h (G:Good X C n sp) {te:TE} (ht:C.tn i nx=true) (hs:swapsWith a (some (.Name nx px)) pos.line X.env=pure false) (h:PE X.nox a te):PS X.nox (.Assign [.Name nx px] a pos) (b8x te (a4i i)):=by
 have ht:=b2 ht
 obtain ⟨l1,l2⟩:=G.loc ht.2
 exact c7y (X:=X.nox) G.nd' (G.ix ht.1) l1 h hs l2
theorem fs_set (G:Good X C n sp) (ht:C.tn i nx=true) (m:a0g C.md i=.imm) (hc:a5t a=false) (h:FE X C a e):FS X C fr (.Assign [.Name nx px] a pos) (a1u e (.nm i)) :=
 b1s (tg:=.nm i) (by simpa [a2v] using m) (fun _ _ _ z=>z) (b5h G ht (a2m hc) h)
theorem d5y (G:Good X C n sp) (ht:C.tn i nx=true) (m:(decide (a0g C.md i=.own) && decide (i≠0))=true) (hc:a5t a=false) (h:FF X C a e):FS X C fr (.Assign [.Name nx px] a pos) (a1u e (.nm i)) :=
 b1t m (fun _ _ _ z=>z) (b5h G ht (a2m hc) h)
noncomputable def swC (C:CC) (x:Str) (px:Pos) (scope:Scope) (p:Pos):Bool:=decide (C.sc.lookup x=some .local) && (px.line == p.line) && !(scope.names.any fun (n,k)=>n == x && (k == .local || k == .cell))
theorem b4s {elt:Expr} {gs:List Comprehension} {scope:Scope} {p px:Pos} {x:Str} {n:Nat} {env:Env} (hk:env.scope.kind=.function) :
  swapsWith (.ListComp elt gs scope p) (some (.Name x px)) n env=pure (decide (env.scope.names.lookup x=some .local) && (px.line == p.line) && !(scope.names.any fun (n,k)=>n == x && (k == .local || k == .cell))):=by
 have hb:env.blockKind=.function:=by unfold Env.blockKind; rw [hk]; rfl
 have:(env.kindOf x == some .local)=decide (env.scope.names.lookup x=some .local):=by
  rw [Bool.eq_iff_iff]; simp [Env.kindOf]
 unfold swapsWith
 simp only [hb,this]
 rfl
variable {scope:Scope} {own:List Str} {elt tgx iter:Expr} {ifs:List Expr} {it:AW} {tg:Tg} {t:BW} {nn m:Nat} {md':Md}
theorem c1p (G:Good X C n sp) (ht:C.tn i nx=true) (h:CompOk X C n sp scope own elt tgx iter ifs nn m md' it tg t e):∃ te:TE,(∀ σ H Q,lf X.K C.md (a1z nn m it tg t e) σ H Q→te σ H Q)∧PS X.nox (.Assign [.Name nx px] (.ListComp elt [⟨tgx,iter,ifs,0⟩] scope p) pos) (b8x te (a4i i)):=by
 have hsw:swapsWith (.ListComp elt [⟨tgx,iter,ifs,0⟩] scope p) (some (.Name nx px)) pos.line X.env=pure (swC C nx px scope p):=by rw [b4s G.kind,G.sc]; rfl
 obtain ⟨s1,s2,s3⟩:=h.blk G
 cases hb:swC C nx px scope p with
 | false =>
  rw [hb] at hsw
  exact ⟨_,fun σ H Q q=>h.run G q,b5h G ht hsw (b0w G.calm s1 h.it s2 s3)⟩
 | true =>
  rw [hb] at hsw
  have hlo:X.env.scope.names.lookup nx=some .local:=by
   rw [G.sc]
   have hb:=b2 hb
   exact de (b2 hb.1).1
  exact ⟨_,fun σ H Q q=>h.run G q,a6t G.calm s1 G.nd' (G.ix (b2 ht).1) hlo h.it s2 hsw s3⟩
theorem c5c (G:Good X C n sp) (ht:C.tn i nx=true) (hm:a0g C.md i=.imm) (h:CompOk X C n sp scope own elt tgx iter ifs nn m md' it tg t e):FS X C fr (.Assign [.Name nx px] (.ListComp elt [⟨tgx,iter,ifs,0⟩] scope p) pos) (a1u (a1z nn m it tg t e) (.nm i)) :=
 let ⟨te,h1,h2⟩:=c1p G ht h
 c6b hm h1 h2
noncomputable def tupX:Expr→Bool
 | .Tuple ..=>true
 | _=>false
theorem fs_tup (G:Good X C n sp) {ts:List Expr} (hm:a2v C.md (.tp is)=true) (hn:tupX a=false) (hg:FGs X ts is) (h:FE X C a e):FS X C fr (.Assign [.Tuple ts k p] a pos) (a1u e (.tp is)) :=
 b1s (tg:=.tp is) hm (fun _ _ _ z=>z) (b5j (X:=X.nox) h (c9o G hg) (by cases a <;> rfl) (by cases a <;> first | rfl | (cases hn; done)) rfl)
noncomputable def a9c (sc:List (Str×NameKind)) (t:Expr):Bool:=match t with
 | .Name x _=>!(decide (sc.lookup x=some .local))
 | _=>true
theorem d3b {ts vs:List Expr} {k k2:Nat} {tp tp2:Pos} {env:Env} (h:4≤ts.length ∨ ∃ t∈ts,a9c env.scope.names t=true):swappedStores [.Tuple ts k tp] (.Tuple vs k2 tp2) env=pure none:=by
 unfold swappedStores
 simp only
 split
 ·rfl
 ·rename_i h1
  split
  ·rfl
  ·have hlen:ts.length=2 ∨ ts.length=3:=by
    simp only [Bool.or_eq_true,Bool.not_eq_true',bne_iff_ne,ne_eq,not_or,Bool.not_eq_false] at h1
    simpa using h1.1.1
   obtain ⟨t,ht,hn⟩:∃ t∈ts,a9c env.scope.names t=true:=by
    rcases h with h | h
    ·lia
    ·exact h
   have lt:∀ (l:List Expr) (f:Expr→Option Str),t∈l→f t=none→(l.filterMap f).length < l.length:=by
    intro l f
    induction l with
    | nil=>intro h; cases h
    | cons a r ih =>
     intro hm hf
     have le:=List.length_filterMap_le f r
     rcases List.mem_cons.mp hm with rfl | hm
     ·rw [List.filterMap_cons,hf,List.length_cons]; show (List.filterMap f r).length < _; lia
     ·rw [List.filterMap_cons]
      have:=ih hm hf
      split <;> simp only [List.length_cons] <;> lia
   have:=lt ts (fun
    | .Name id pos=>if env.kindOf id == some .local && pos.line == (ts.head?.map (·.pos.line)).getD 0 then some id else none
    | _=>none) ht (by
     cases t with
     | Name x p =>
      have hx:¬ env.scope.names.lookup x=some .local:=by simpa [a9c] using hn
      have hk:(env.kindOf x == some NameKind.local)=false:=by
       cases hq:(env.kindOf x == some NameKind.local) with
       | false=>rfl
       | true=>exact absurd (show env.kindOf x=some .local by simpa using hq) hx
      simp only [hk,Bool.false_and,Γp,if_false]
     | _=>rfl)
   rw [if_pos]
   simp only [Bool.or_eq_true,bne_iff_ne,ne_eq]
   left
   exact Γo this
theorem d5x (G:Good X C n sp) {ts vs:List Expr} {k2:Nat} {p2:Pos} (hm:a2v C.md (.tp is)=true) (hn:(decide (4≤ts.length) || ts.any fun t=>a9c C.sc t)=true) (hg:FGs X ts is) (h:FE X C (.Tuple vs k2 p2) e):FS X C fr (.Assign [.Tuple ts k p] (.Tuple vs k2 p2) pos) (a1u e (.tp is)) :=
 b1s (tg:=.tp is) hm (fun _ _ _ z=>z) (b5j (X:=X.nox) h (c9o G hg) rfl (d3b (by
  show 4≤ts.length ∨ ∃ t∈ts,a9c X.env.scope.names t=true
  rw [G.sc]
  simpa using hn)) rfl)
theorem b9o {xo xi : Expr} {p : Pos} {env : Env} (h : a1t xi = false) : ∀ v, assign (.Subscript xo xi p) env v = (do
      let ov ← holding [v] (eval xo env)
      let iv ← holding [v, ov] (eval xi env)
      standAt p
      holding [v, ov, iv] (setItem ov iv v)
      release [v, ov, iv] []) := by
  intro v
  cases xi <;> first | rfl | (cases h; done)
theorem fs_ix (G:Good X C n sp) (hn:C.nm i nx=true) (m:a0g C.md i=.own) (hc:(!a5t a && !a1t b)=true) (ha:FE X C a ea) (hb:FE X C b eb):FS X C fr (.Assign [.Subscript (.Name nx px) b p] a pos) (c7g i eb ea):=by
 have hc:=b2 hc
 refine PS.imp (b5j (X:=X.nox) ha (c8b (a1d (pos:=px) G hn) hb b9p (b9o (nb hc.2))) (by simp only [swapsWithSole]; exact a2m (nb hc.1)) rfl rfl) fun D σ H ⟨c,L,S,Q0,I,h,k⟩=>?_
 have mi:a0g C.md i≠.imm:=fun z=>by rw [m] at z; cases z
 obtain ⟨v0,e,h⟩:=wpx h
 obtain ⟨l,e1,_⟩:=I.own i v0 mi ((a1n _ _ _).mp e)
 refine ⟨c,L,S,_,I,h,fun v L1 q x S1 H1 r1 I1 s1=>⟨_,e1,c,L1,S1,_,I1,q,fun w L2 q y S2 H2 r2 I2 s2=>?_⟩⟩
 obtain ⟨v1,e2,q2⟩:=wpx q
 obtain ⟨z,e3,q3⟩:=wpx q2
 have e2:=(a1n _ _ _).mp e2
 obtain ⟨l',f1,⟨o1,ps,us,e9,o2,o3⟩,_⟩:=I2.own i v1 mi e2
 rw [e1] at f1; cases f1
 obtain ⟨xs,g1,e3⟩:=bnd e3
 obtain ⟨nn,g2,e3⟩:=bnd e3
 obtain ⟨pp,g3,rfl⟩:=mpd e3
 cases a3e g1
 cases e9
 obtain rfl:w=.int nn:=by cases w <;> cases g2; rfl
 obtain rfl:y=.int nn:=r2
 refine ⟨l,us,nn,pp,rfl,rfl,o2,by rw [← o3.length]; exact g3,?_⟩
 exact k .next _ q3 σ S2 _ (I2.write m e2 e1 (o3.set pp (r1.mono s2))) (s1.trans s2)
noncomputable def d0t (f:Int→Int→Int):FV→FV→Option FV
 | .int a,.int b=>some (.int (f a b))
 | _,_=>none
theorem c5y {f:Int→Int→Int} {v w z:FV} (h:d0t f v w=some z):∃ a b,v=.int a∧w=.int b∧z=.int (f a b):=by
 obtain ⟨a,rfl⟩:∃ a,v=.int a:=by cases v <;> first | exact ⟨_,rfl⟩ | cases h
 cases w <;> first | (cases h; exact ⟨_,_,rfl,rfl,rfl⟩) | cases h
theorem d0r {f:Int→Int→Int} (m:a0g C.md i=.imm) (h:PS X.nox st (tAug i (lv X.K C.md e) (ipI f))):FS X C fr st (d1i (d0t f) i e):=PS.imp h fun D σ H ⟨c,L,S,Q0,I,h,k⟩=>by
 obtain ⟨v,e0,h⟩:=wpx h
 obtain ⟨x,e1,r⟩:=I.imm i v m ((a1n _ _ _).mp e0)
 refine ⟨x,e1,c,L,S,_,I,h,fun w L1 q y S1 H1 r1 I1 s1=>?_⟩
 obtain ⟨z,e2,q⟩:=wpx q
 obtain ⟨a,b,rfl,rfl,rfl⟩:=c5y e2
 exact ⟨a,b,r,r1,k .next _ q _ S1 H1 (I1.setI (v:=.int _) m rfl) s1⟩
theorem fs_add (G:Good X C n sp) (ht:C.tn i nx=true) (m:a0g C.md i=.imm) (h:FE X C a e):FS X C fr (.AugAssign (.Name nx px) .Add a pos) (d1i (d0t fun i j=>i + j) i e):=by
 have ht:=b2 ht
 obtain ⟨l1,l2⟩:=G.loc ht.2
 exact d0r m (c2f (X:=X.nox) G.nd' (G.ix ht.1) l1 h c9i l2)
theorem c5f {J:It} {xs:List FV} {D:Ends} {Q0:FFl→a0a→Prop} (I:Iv K c md L σ S H) (hJ:ItR K c md J xs S) (ht:a2v md tg=true) (h:c2w tg s xs L Q0)
  (k:∀ fl L',Q0 fl L'→∀ σ' S' H',Iv K c md L' σ' S' H'→Same S S'→d9h K c fr D σ' S' H' fl) :
  ∃ W:Nat→Nat→L2.St→Hp→Prop,(∃ m,W 0 m σ H)∧∀ i m σ H,W i m σ H →
   (J.stop i H∧D.nx σ H) ∨ (J.go i H∧∃ N:L2.St→Hp→Prop,(∀ σ' H',N σ' H'→∃ m',m' < m∧W (i + 1) m' σ' H')∧∀ x H',J.yld i H x H'→gT K tg x σ H' fun σ2 H2=>ls K md fr s { D with nx:=N,ct:=N,bk:=D.nx } σ2 H2):=by
 let W:Nat→Nat→L2.St→Hp→Prop:=fun i j σ1 H1=>∃ L S1,j=(xs.drop i).length∧Iv K c md L σ1 S1 H1∧Same S S1∧c2w tg s (xs.drop i) L Q0
 refine ⟨W,⟨_,L,S,rfl,I,Same.refl S,by rw [List.drop_zero]; exact h⟩,?_⟩
 rintro i m σ1 H1 ⟨L,S1,rfl,I,s1,h⟩
 obtain ⟨j1,j2⟩:=hJ i L σ1 S1 H1 I s1
 cases hd:xs.drop i with
 | nil =>
  rw [hd] at h
  exact .inl ⟨j1 (List.getElem?_eq_none_iff.mpr (List.drop_eq_nil_iff.mp hd)),k .next L h σ1 S1 H1 I s1⟩
 | cons p rest =>
  right
  rw [hd] at h
  have hi:xs[i]?=some p:=by
   have:=congrArg (·[0]?) hd
   simpa using this
  have hd':xs.drop (i + 1)=rest:=by
   have:=congrArg List.tail hd
   simpa [List.tail_drop] using this
  obtain ⟨go,yl⟩:=j2 p hi
  refine ⟨go,fun σ' H'=>∃ m',m' < rest.length + 1∧W (i + 1) m' σ' H',fun σ' H' h=>h,fun x H2 y=>?_⟩
  obtain ⟨S2,s2,tr,rx⟩:=yl x H2 y
  have I2:=tr _ _ _ _ I
  obtain ⟨σ2,L2,g,q,I3,_⟩:=a4t ht I2 rx h
  refine g _ ⟨c,L2,S2,_,I3,q,fun fl L3 q σ3 S3 H3 I4 s3=>?_⟩
  have ss:=s1.trans (s2.trans s3)
  cases fl with
  | next=>exact ⟨_,Nat.lt_succ_self _,L3,S3,by rw [hd'],I4,ss,by rw [hd']; exact q⟩
  | cont=>exact ⟨_,Nat.lt_succ_self _,L3,S3,by rw [hd'],I4,ss,by rw [hd']; exact q⟩
  | brk=>exact k .next L3 q σ3 S3 H3 I4 ss
  | ret v=>exact k (.ret v) L3 q σ3 S3 H3 I4 ss
theorem a2p (G:Good X C n sp) {body:List Stmt} (hc:(a2v md' tg && !b1h iter)=true) (hi:FI X C md' tgx iter it) (hg:FG X tgx tg) (hb:Good X (C.wmd md') n sp→FSs X (C.wmd md') fr body s):FS X C fr (.For tgx iter body [] pos) (b0j it tg s):=by
 have hc:=b2 hc
 refine PS.imp (c2e (X:=X.nox) PassesOwn.never G.calm hi hg (hb (G.wmd md')) (a6z (nb hc.2))) fun D σ H ⟨c,L,S,Q0,I,h,k⟩=>?_
 refine ⟨c,L,S,_,I,h,fun xs L1 q J c' S1 H1 I1 un e0 hJ s1=>?_⟩
 refine c5f I1 hJ hc.1 q fun fl L2 q σ2 S2 H2 I2 s2=>?_
 have:=k fl L2 q σ2 S2 H2 (un _ _ _ _ I2) (s1.trans s2)
 cases fl with
 | next=>exact this
 | brk=>exact this
 | cont=>exact this
 | ret v =>
  intro x r
  refine this x ?_
  cases fr with
  | false=>exact r
  | true =>
   obtain ⟨a,r1,r2,r3⟩:=r
   exact ⟨a,r1,r2,by rw [← e0]; exact r3⟩
theorem fs_whl {body:List Stmt} (hc:FB X C a t) (hb:FSs X C fr body s):FS X C fr (.While a body [] pos) (c6i t s):=by
 refine PS.imp (b9z (X:=X.nox) PassesOwn.never hc hb) fun D σ H ⟨c,L,S,Q0,I,⟨m,h⟩,k⟩=>?_
 refine ⟨fun m σ1 H1=>∃ L S1,Iv X.K c C.md L σ1 S1 H1∧Same S S1∧c6g t s m L Q0,⟨m,L,S,I,Same.refl S,h⟩,?_⟩
 rintro m σ1 H1 ⟨L,S1,I1,s1,h⟩
 cases m with
 | zero=>exact h.elim
 | succ m =>
  refine ⟨c,L,S1,_,I1,h,fun v L1 q S2 H2 I2 s2=>?_⟩
  cases v with
  | false =>
   rw [if_neg Γk] at q ⊢
   exact k .next L1 q σ1 S2 H2 I2 (s1.trans s2)
  | true =>
   rw [if_pos rfl] at q ⊢
   refine ⟨fun σ' H'=>∃ m',m' < m + 1∧∃ L S1,Iv X.K c C.md L σ' S1 H'∧Same S S1∧c6g t s m' L Q0,fun σ' H' h=>h,c,L1,S2,_,I2,q,fun fl L3 q σ3 S3 H3 I4 s3=>?_⟩
   have ss:=s1.trans (s2.trans s3)
   cases fl with
   | next=>exact ⟨m,Nat.lt_succ_self _,L3,S3,I4,ss,q⟩
   | cont=>exact ⟨m,Nat.lt_succ_self _,L3,S3,I4,ss,q⟩
   | brk=>exact k .next L3 q σ3 S3 H3 I4 ss
   | ret v=>exact k (.ret v) L3 q σ3 S3 H3 I4 ss
end
structure Df where
 name:String
 st:Stmt
 ps:List Str
 N:List Str
 md:Md
structure Fns where
 f:List Str
 ms:List (Str×Addr×Str)
 fl:List (Addr×Str)
noncomputable def Df.cc (d:Df) (fns:Fns):CC:=⟨d.N,(a0j d.st).names,fns.f,d.md,true,[],fns.ms,fns.fl⟩
noncomputable def d4u (io:Bool) (md:Md) (np:Nat):Bool:=(List.range np).all fun i=>decide (a0g md i=if (io && decide (i=0))=true then .own else .imm)
noncomputable def Df.ok (d:Df) (np ns:Nat) (io:Bool):Bool :=
 decide ((a0j d.st).kind=.function) && !(a0j d.st).isCoroutine && !(a0j d.st).isGenerator && decide (d.N.Nodup) && decide (d.N.take d.ps.length=d.ps) && d.ps.all (fun x=>decide ((a0j d.st).names.lookup x=some .local ∨ (a0j d.st).names.lookup x=some .cell)) &&
 (a0j d.st).names.all (fun p=>decide (p.2≠.free)) && decide (np=d.ps.length) && decide (ns=d.N.length) && d4u io d.md np
noncomputable def spT (K:Γd) (tb:List FD) (call:CW) (f:Nat):Sp:=match tb[f]? with
 | some fd=>spQ K call fd.io fd.fr f
 | none=>fun _ _ _ _=>False
noncomputable def spK (tb:List FD) (call:CW) (K:Γd):Nat→Sp:=spT K tb call
theorem Df.sc {d:Df} {np ns:Nat} {io:Bool} (h:d.ok np ns io=true):FnScope d.N d.ps (a0j d.st)∧np=d.ps.length∧ns=d.N.length∧∀ i,i < np→a0g d.md i=if (io && decide (i=0))=true then .own else .imm:=by
 have h0:=b2 h; have h1:=b2 h0.1; have h2:=b2 h1.1; have h3:=b2 h2.1; have h4:=b2 h3.1; have h5:=b2 h4.1; have h6:=b2 h5.1; have h7:=b2 h6.1; have h8:=b2 h7.1
 exact ⟨⟨de h8.1,nb h8.2,nb h7.2,de h6.2,de h5.2,fun x hx=>de (List.all_eq_true.mp h4.2 x hx),fun y hy=>de (List.all_eq_true.mp h3.2 y hy)⟩,de h2.2,de h1.2,fun i hi=>de (List.all_eq_true.mp h0.2 i (List.mem_range.mpr hi))⟩
section
variable {P:Program} {w:World} {K:Γd} {mg:Str→Option Value} {base:Heap} {tb:List FD} {fns:Fns}
theorem ArgsOk.len {S H:Hp} {args:List FV} {vs:List V} {io:Bool} (h:ArgsOk K S H args vs io):args.length=vs.length:=by
 cases io with
 | false=>exact RVs.length h
 | true =>
  obtain ⟨v,r,a,us,rfl,rfl,_,h⟩:=h
  rw [List.length_cons,List.length_cons,h.length]
theorem c0t {S H:Hp} {args:List FV} {vs:List V} {io:Bool} {md:Md} {N:List Str} {np ns:Nat} (h:ArgsOk K S H args vs io) (hs:Same S H) (hn:args.length=np) (hN:ns=N.length) (hm:∀ i,i < np→a0g md i=if (io && decide (i=0))=true then .own else .imm) :
  Iv K ⟨H,S,b2p vs io,[],[],[]⟩ md (args.map some++Γj (ns - np) none) (L2.start N vs) S H:=by
 have hl:=h.len
 have look:∀ i v,(args.map some++Γj (ns - np) none)[i]?=some (some v)→args[i]?=some v∧i < np:=fun i v e=>by
  by_cases hi:i < args.length
  ·rw [List.getElem?_append_left (by rw [List.length_map]; exact hi),List.getElem?_map] at e
   cases ea:args[i]? with
   | none=>rw [ea] at e; cases e
   | some q=>rw [ea] at e; cases e; exact ⟨rfl,by lia⟩
  ·rw [List.getElem?_append_right (by rw [List.length_map]; lia),List.getElem?_replicate] at e
   split at e <;> cases e
 have st:∀ i,i < np→(L2.start N vs)[i]?=vs[i]?.map some:=fun i hi=>by
  unfold L2.start
  rw [List.getElem?_append_left (by rw [List.length_map]; lia),List.getElem?_map]
 have own:∀ i v,a0g md i≠.imm→(args.map some++Γj (ns - np) none)[i]?=some (some v)→i=0∧io=true∧a0g md 0=.own:=fun i v hm' e=>by
  obtain ⟨_,hi⟩:=look i v e
  have:=hm i hi
  cases io with
  | false=>exact absurd (by simpa using this) hm'
  | true =>
   by_cases h0:i=0
   ·subst h0; exact ⟨rfl,rfl,by simpa using this⟩
   ·exact absurd (by simpa [h0] using this) hm'
 have lent:∀ a,b2p vs io=some a→io=true∧0 < np∧a0g md 0=.own∧vs[0]?=some (.ref a)∧∃ v,args[0]?=some v∧a2u K S H a v:=fun a e=>by
  cases io with
  | false=>cases e
  | true =>
   obtain ⟨v,r,a',us,rfl,rfl,o,_⟩:=h
   cases e
   have hp:0 < np:=by rw [← hn]; exact Nat.succ_pos _
   exact ⟨rfl,hp,by simpa using hm 0 hp,rfl,v,rfl,o⟩
 refine ⟨?_,fun i v hm' e=>?_,fun i v hm' e=>?_,fun i j v w a m1 m2 e1 e2 _ _=>?_,hs,fun a o e _ _=>e,Same.refl S,fun a o e=>.inl e,fun a e=>?_,fun p hp=>absurd hp List.not_mem_nil,fun i v hf e=>?_,fun p hp=>absurd hp List.not_mem_nil,fun p hp=>absurd hp List.not_mem_nil,fun p hp=>absurd hp List.not_mem_nil,fun q hq=>absurd hq List.not_mem_nil,fun j i x C dx fs v h1 h2 h3 h4=>?_⟩
 ·unfold L2.start
  rw [List.length_append,List.length_append,List.length_map,List.length_map,List.length_replicate,List.length_replicate,hN]
  lia
 ·obtain ⟨ea,hi⟩:=look i v e
  rw [st i hi]
  cases io with
  | false =>
   obtain ⟨x,e1,r⟩:=RVs.get (show RVs K S args vs from h) ea
   exact ⟨x,by rw [e1]; rfl,r⟩
  | true =>
   obtain ⟨v0,r,a',us,rfl,rfl,o,hr⟩:=h
   cases i with
   | zero=>rw [show a0g md 0=.own by simpa using hm 0 hi] at hm'; cases hm'
   | succ i =>
    obtain ⟨x,e1,r1⟩:=RVs.get hr (by simpa using ea)
    exact ⟨x,by simp [e1],r1⟩
 ·obtain ⟨rfl,rfl,m0⟩:=own i v hm' e
  obtain ⟨ea,hi⟩:=look 0 v e
  obtain ⟨v0,r,a',us,rfl,rfl,o,hr⟩:=h
  cases ea
  exact ⟨a',by rw [st 0 hi]; rfl,o,.inl rfl⟩
 ·rw [(own i v m1 e1).1,(own j w m2 e2).1]
 ·obtain ⟨rfl,hp,m0,e1,v,ea,_⟩:=lent a e
  refine ⟨fun z=>(nomatch (m0.symm.trans z)),by rw [st 0 hp,e1]; rfl,v,?_⟩
  rw [List.getElem?_append_left (by rw [List.length_map]; lia),List.getElem?_map,ea]; rfl
 ·have:=own i v (fun z=>by rw [z] at hf; cases hf) e
  rw [this.1,this.2.2] at hf; cases hf
 ·have:=own j v (fun z=>by rw [z] at h1; cases h1) h4
  rw [this.1,this.2.2] at h1; cases h1
theorem b1j {d f:Nat} {fa:Addr} {fdd:FuncData} {df:Df} {fd:FD} {nm qu:Str} (F:Fun K nm qu df.st fa fdd) (hf:tb[f]?=some fd) (hok:df.ok fd.np fd.ns fd.io=true)
  (hb:∀ X call n,Good X (df.cc fns) n (spK tb call)→FSs X (df.cc fns) fd.fr (a1p df.st) (fd.body call))
  (fnsOk:∀ (f:Nat) (x:Str),fns.f[f]?=some x→∃ fa fd ps,mg x=some (.ref fa)∧PySem.W.keepIn K (.ref fa)=true∧Binds K fd ps []∧FnOk P w K mg base CX0 d fa fd ps (spT K tb (callW tb d) f))
  (blt:∀ b∈bltNames,mg (Γe b)=none) (mtsOk:∀ (k:Nat) (c:Str) (Ca:Addr) (m:Str),fns.ms[k]?=some (c,Ca,m)→d9f P w K mg base d (spT K tb (callW tb d) (fns.f.length + k)) c Ca m) (fl:∀ p∈fns.fl,Cls K p.1∧b0i K p.1 p.2):FnOk P w K mg base CX0 (d + 1) fa fdd df.ps (spT K tb (callW tb (d + 1)) f):=by
 obtain ⟨S,hnp,hns,hmd⟩:=Df.sc hok
 have e0:spT K tb (callW tb (d + 1)) f=spQ K (callW tb (d + 1)) fd.io fd.fr f:=by unfold spT; rw [hf]
 have run:∀ {args:List FV} {Q:FV×FV→Prop},callW tb (d + 1) f args Q→args.length=fd.np∧fd.body (callW tb d) (args.map some++Γj (fd.ns - fd.np) none) (b9a fd.io fd.fr Q):=fun {args Q} h=>by
  have h:(match tb[f]? with
   | none=>False
   | some fd=>args.length=fd.np∧fd.body (callW tb d) (args.map some++Γj (fd.ns - fd.np) none) (b9a fd.io fd.fr Q)):=h
  rw [hf] at h; exact h
 rw [e0]
 refine F.ok S (fun vs H Q E h=>?_) (fun cdv A outer s H vs Q E hr h=>?_)
 ·obtain ⟨S0,args,Q0,_,ao,hc,_⟩:=h
  rw [← ao.len,(run hc).1,hnp]
 ·obtain ⟨S0,args,Q0,hs,ao,hc,k⟩:=h
  obtain ⟨hl,hc⟩:=run hc
  have G:Good (c5u CX0 P w K mg base df.N qu (a0j df.st) fa cdv A outer s H E) (df.cc fns) d (spK tb (callW tb d)) :=
   ⟨rfl,rfl,S.kind,S.nd,rfl,fun _ _=>rfl,hr,fnsOk,blt,mtsOk,fl⟩
  refine ⟨_,hb _ _ _ G,_,_,S0,_,c0t ao hs hl hns hmd,hc,fun fl L' q σ' S' H' I s'=>?_⟩
  have kp:∀ w,(fd.io=true→lk L' 0=some w)→Kept K S0 H S' H' (b2p vs fd.io) w:=fun w hw=>⟨s',I.sub,I.grow,fun a o e n=>I.frame a o e n (fun _=>List.not_mem_nil),fun a e=>by
   have hio:fd.io=true:=by
    cases z:fd.io with
    | true=>rfl
    | false=>rw [z] at e; cases e
   obtain ⟨m0,e1,v,e2⟩:=I.lent a e
   obtain ⟨b,e3,o,_⟩:=I.own 0 v m0 e2
   rw [e1] at e3; cases e3
   have:=(a1n _ _ _).mp (hw hio)
   rw [e2] at this; cases this
   exact o⟩
  have fin:∀ v x,b9a fd.io fd.fr Q0 (.ret v) L'→c6e K S' H' H v x fd.fr→Q x H':=fun v x q r=>by
   cases hio:fd.io with
   | true =>
    rw [hio] at q
    obtain ⟨w,e1,q⟩:=wpx q
    exact k _ q x S' H' (kp w fun _=>e1) r
   | false =>
    rw [hio] at q
    exact k (v,.non) q x S' H' (kp .non fun z=>by rw [hio] at z; cases z) r
  cases fl with
  | next =>
   cases hfr:fd.fr with
   | true=>rw [hfr] at q; exact q.elim
   | false=>rw [hfr] at q; exact fin .non .non (by rw [hfr]; exact q) (by rw [hfr]; exact rfl)
  | ret v =>
   intro x r
   refine fin v x q ?_
   cases hfr:fd.fr with
   | true=>rw [hfr] at r; exact r
   | false=>rw [hfr] at r; exact r
  | brk=>exact q.elim
  | cont=>exact q.elim
theorem b8t (blt:∀ b∈bltNames,mg (Γe b)=none) (fl:∀ p∈fns.fl,Cls K p.1∧b0i K p.1 p.2)
  (D:∀ (f:Nat) (x:Str),fns.f[f]?=some x→∃ df fd fa fdd,tb[f]?=some fd∧Df.ok df fd.np fd.ns fd.io=true∧(∀ X call n,Good X (df.cc fns) n (spK tb call)→FSs X (df.cc fns) fd.fr (a1p df.st) (fd.body call))∧Fun K (Γe df.name) (Γe df.name) df.st fa fdd∧mg x=some (.ref fa)∧Binds K fdd df.ps [])
  (DM:∀ (k:Nat) (c:Str) (Ca:Addr) (m:Str),fns.ms[k]?=some (c,Ca,m)→∃ df fd fa fdd nm qu,tb[fns.f.length + k]?=some fd∧Df.ok df fd.np fd.ns fd.io=true∧(∀ X call n,Good X (df.cc fns) n (spK tb call)→FSs X (df.cc fns) fd.fr (a1p df.st) (fd.body call))∧Fun K nm qu df.st fa fdd∧mg c=some (.ref Ca)∧Cls K Ca∧(m=("__init__":Str)→Mk K Ca fa)∧(m≠("__init__":Str)→Meth K Ca m fa)∧Binds K fdd df.ps []) :
  ∀ d:Nat,(∀ (f:Nat) (x:Str),fns.f[f]?=some x→∃ fa fd ps,mg x=some (.ref fa)∧PySem.W.keepIn K (.ref fa)=true∧Binds K fd ps []∧FnOk P w K mg base CX0 d fa fd ps (spT K tb (callW tb d) f))∧∀ (k:Nat) (c:Str) (Ca:Addr) (m:Str),fns.ms[k]?=some (c,Ca,m)→d9f P w K mg base d (spT K tb (callW tb d) (fns.f.length + k)) c Ca m
 | 0=>by
  have no:∀ {f fd} vs H Q E,tb[f]?=some fd→¬ spT K tb (callW tb 0) f vs H Q E:=fun vs H Q E h1 z=>by
   unfold spT at z
   rw [h1] at z
   obtain ⟨_,_,_,_,_,k,_⟩:=z
   exact k
  refine ⟨fun f x h=>?_,fun k c Ca m h=>?_⟩
  ·obtain ⟨df,fd,fa,fdd,h1,h2,h6,h3,h4,h5⟩:=D f x h
   exact ⟨fa,fdd,df.ps,h4,h3.kp,h5,fun vs H Q E z=>absurd z (no vs H Q E h1),fun A outer s H args us vs Q E _ _ _ _ z=>absurd z (no vs H Q E h1)⟩
  ·obtain ⟨df,fd,fa,fdd,nm,qu,h1,h2,h6,h3,h4,h5,h7,h8,h9⟩:=DM k c Ca m h
   exact ⟨fa,fdd,df.ps,h4,h5,h7,h8,h9,fun vs H Q E z=>absurd z (no vs H Q E h1),fun A outer s H args us vs Q E _ _ _ _ z=>absurd z (no vs H Q E h1)⟩
 | d + 1=>by
  obtain ⟨r1,r2⟩:=b8t blt fl D DM d
  refine ⟨fun f x h=>?_,fun k c Ca m h=>?_⟩
  ·obtain ⟨df,fd,fa,fdd,h1,h2,h6,h3,h4,h5⟩:=D f x h
   exact ⟨fa,fdd,df.ps,h4,h3.kp,h5,b1j h3 h1 h2 h6 r1 blt r2 fl⟩
  ·obtain ⟨df,fd,fa,fdd,nm,qu,h1,h2,h6,h3,h4,h5,h7,h8,h9⟩:=DM k c Ca m h
   exact ⟨fa,fdd,df.ps,h4,h5,h7,h8,h9,b1j h3 h1 h2 h6 r1 blt r2 fl⟩
theorem law_sp {d f:Nat} {H:Hp} {a:Addr} {ns:List Int} {fd:FD} (hf:tb[f]?=some fd) (hio:fd.io=false) (hfr:fd.fr=false) (hO:d0z H) (hS:SqL K H a (ns.map V.int)) (h:callW tb d f [.scr ns] fun z=>z.1=.bl true) :
  spT K tb (callW tb d) f [.ref a] H (fun v _=>v=.bl true) fun _ _ _=>False:=by
 have e0:spT K tb (callW tb d) f=spQ K (callW tb d) false false f:=by unfold spT; rw [hf]; show spQ K (callW tb d) fd.io fd.fr f=_; rw [hio,hfr]
 rw [e0]
 refine ⟨H,[.scr ns],_,Same.refl H,RVs.one ⟨a,rfl,?_⟩,h,fun z e x S' H' _ r=>?_⟩
 ·rcases hS with (h | ⟨o,h⟩) | h
  ·rcases hO a with z | ⟨o,xs,z⟩
   ·rw [z] at h; cases h
   ·rw [z] at h; cases h
  ·exact .inl ⟨o,h⟩
  ·exact .inr (.inr h)
 ·have r:RV K S' z.1 x:=r
  rw [e] at r; exact r
end
noncomputable def EachI {α:Type} (P:Nat→α→Prop):Nat→List α→Prop
 | _,[]=>True
 | i,x :: xs=>P i x∧EachI P (i + 1) xs
theorem EachI.get {α:Type} {P:Nat→α→Prop}:∀ {xs:List α} {k:Nat},EachI P k xs→∀ (f:Nat) (x:α),xs[f]?=some x→P (k + f) x
 | _ :: _,_,h,0,x,e=>(Option.some.inj e) ▸ h.1
 | _ :: xs,k,h,f + 1,x,e=>by
  have:=EachI.get h.2 f x e
  rw [Nat.add_assoc,Nat.add_comm 1 f] at this
  exact this
theorem us1 {P:List Value→Prop} {us:List Value} (h:us.length=1) (H:∀ a,P [a]):P us:=match us,h with | [_],_=>H _
theorem us2 {P:List Value→Prop} {us:List Value} (h:us.length=2) (H:∀ a b,P [a,b]):P us:=match us,h with | [_,_],_=>H _ _
theorem us3 {P:List Value→Prop} {us:List Value} (h:us.length=3) (H:∀ a b c,P [a,b,c]):P us:=match us,h with | [_,_,_],_=>H _ _ _
end Kq
end
section
namespace Kq
open PySem PySem.Spec PySem.Calls PyProof.Rows L2 PySem.W
theorem a7w:∀ {K:Frag} {a:Addr} {o:Obj},K.lookup a=some o→(a,o)∈K
 | [],a,o,h=>by simp at h
 | (b,u) :: K,a,o,h=>by
  rw [List.lookup_cons] at h
  split at h
  ·rename_i e; cases h; rw [beq_iff_eq.mp e]; exact Γn
  ·exact Γh _ (a7w h)
theorem b6l {K:Frag} {a:Addr} {o:Obj} (h:(a,o)∈K):∃ u,K.lookup a=some u:=by
 induction K with
 | nil=>exact absurd h List.not_mem_nil
 | cons p K ih =>
  obtain ⟨b,u⟩:=p
  rw [List.lookup_cons]
  split
  ·exact ⟨_,rfl⟩
  ·rename_i e
   rcases List.mem_cons.mp h with z | z
   ·rw [(Prod.mk.inj z).1,beq_self_eq_true] at e; cases e
   ·exact ih z
noncomputable def AllIn (K:Frag) (h:Heap):Prop:=∀ p∈K,h.get? p.1=some p.2
theorem AllIn.to {K:Frag} {h:Heap} (x:AllIn K h):K.In h:=fun a o e=>x _ (a7w e)
theorem AllIn.look {K:Frag} {h:Heap} (x:AllIn K h) {a:Addr} {o:Obj} (m:(a,o)∈K):K.lookup a=some o:=by
 obtain ⟨u,e⟩:=b6l m
 have h1:=x _ (a7w e)
 rw [show h.get? a=some o from x _ m] at h1
 cases h1; exact e
noncomputable def CIn (K:Frag) (cd:Value) (q:Str):Prop:=∃ c oc vs t,cd=.ref c∧(c,oc)∈K∧oc.data=.fields vs∧vs[1]?=some (.str q t)
noncomputable def DIn (K:Frag) (mg:Str→Option Value) (d:DefRec):Prop:=∃ fa o pm cd doc,mg d.name=some (.ref fa)∧(fa,o)∈K∧o.data=.func (docDef d.name d.params d.body d.scope pm cd doc)∧CIn K cd d.name
theorem DIn.more {K K':Frag} {mg:Str→Option Value} {d:DefRec} (s:∀ p∈K,p∈K') (x:DIn K mg d):DIn K' mg d:=by
 obtain ⟨fa,o,pm,cd,doc,h1,h2,h3,c,oc,vs,t,h4,h5,h6⟩:=x
 exact ⟨fa,o,pm,cd,doc,h1,s _ h2,h3,c,oc,vs,t,h4,s _ h5,h6⟩
theorem b7y {q:Program} {loose:List Str} {mean:ExcName→Option Value} {mg mb:Str→Option Value} {h:Heap} (T:Top q loose mean mg mb h):∀ ds:List DefRec,(∀ d∈ds,d∈recsOf q)→∃ K:Frag,AllIn K h∧∀ d∈ds,DIn K mg d
 | [],_=>⟨[],fun _ m=>absurd m List.not_mem_nil,fun _ m=>absurd m List.not_mem_nil⟩
 | d :: ds,hm=>by
  obtain ⟨K,h1,h2⟩:=b7y T ds fun e m=>hm e (Γh _ m)
  obtain ⟨a,o,pm,cd,doc,g1,g2,g3,c,oc,vs,t,g4,g5,g6⟩:=T.fn d (hm d Γn)
  refine ⟨(a,o) :: (c,oc) :: K,fun p m=>?_,fun e m=>?_⟩
  ·rcases List.mem_cons.mp m with z | z
   ·cases z; exact g2
   ·rcases List.mem_cons.mp z with z | z
    ·cases z; exact g5
    ·exact h1 p z
  ·rcases List.mem_cons.mp m with z | z
   ·cases z
    exact ⟨a,o,pm,cd,doc,g1,Γn,g3,c,oc,vs,t,g4,Γh _ Γn,g6⟩
   ·exact (h2 e z).more fun p m=>Γh _ (Γh _ m)
theorem DIn.fn {K:Frag} {h:Heap} (A:AllIn K h) {mg:Str→Option Value} {x:Str} {st:Stmt} {pos:Pos} (D:DIn K mg ⟨x,a3w st,a1p st,a0j st,pos⟩):∃ fa fd,mg x=some (.ref fa)∧Fun K x x st fa fd:=by
 obtain ⟨fa,o,pm,cd,doc,h1,h2,h3,c,oc,vs,t,rfl,h5,h6,h7⟩:=D
 have l:=A.look h2
 have lc:=A.look h5
 obtain ⟨k1,k2,k3,k4⟩:=o
 obtain ⟨j1,j2,j3,j4⟩:=oc
 cases h3; cases h6
 refine ⟨fa,_,h1,c9n (kV:=.none) (doc:=doc) (pm:=pm) (an:=none) (cdv:=.ref c) (ct:=.none) l ?_ ?_⟩
 ·show (match K.lookup c with | some ⟨_,_,.fields vs,_⟩=>_ | _=>_)=true
  rw [lc]
  obtain ⟨l⟩:=vs
  match l,h7 with
  | [],h7=>simp at h7
  | [a],h7=>simp at h7
  | a :: b :: r,h7 =>
   simp at h7; subst h7
   exact beq_self_eq_true _
 ·show (match K.lookup fa with | some ⟨_,_,.func _,_⟩=>true | some ⟨_,_,.cls _,_⟩=>_ | _=>false)=true
  rw [l]
noncomputable def d0f:Stmt→Pos
 | .FunctionDef _ _ _ _ _ _ _ _ _ p=>p
 | _=>⟨0,0,0,0⟩
noncomputable def d5n:Stmt→Bool
 | .FunctionDef ..=>true
 | _=>false
noncomputable def c6n (p:Program):Program:={ p with main:={ p.main with body:=p.main.body.filter d5n } }
noncomputable def freeIn (q:Program) (loose:List Str) (x:Str):Bool:=!startupNames.contains x && !loose.contains x && !((recsOf q).map (·.name)).contains x && !((litsOf q).map (·.1)).contains x && !((clssOf q loose).map (·.name)).contains x
theorem c5e {q:Program} {loose:List Str} {mean:ExcName→Option Value} {mg mb:Str→Option Value} {h:Heap} (T:Top q loose mean mg mb h) {x:Str} (e:freeIn q loose x=true):mg x=none:=by
 unfold freeIn at e
 simp only [Bool.and_eq_true,Bool.not_eq_true',List.contains_eq_mem,decide_eq_false_iff_not] at e
 exact T.free x e.1.1.1.1 e.1.1.1.2 e.1.1.2 e.1.2 e.2
theorem walk2 {l:OpenLaw} {n k:Nat} {q:Program} {XP:(Str→Option Value)→Heap→Prop} {YP:World→Heap→Prop} {d:DefRec} {ds:List DefRec} {x:Str} {sp:Frag→Sp}
  (hn:l.most=some n) (hn2:n≤sizeLine) (hdf:d.params.defaults=[]) (hr:Room k callerA) (hds:ds=recsOf q) (hfree:(bltNames.all fun b=>freeIn q (looseW q []) (Γe b))=true)
  (F:∀ (w:World) (K:Frag) (mg:Str→Option Value) (fa:Addr) (h:Heap),AllIn K h→(∀ d∈ds,DIn K mg d)→(∀ b∈bltNames,mg (Γe b)=none)→mg d.name=some (.ref fa) →
   ∃ fd:FuncData,(∀ (s:Shared) (u:Value),BindsTo s fd ⟨[u],[]⟩ [(x,u)])∧∀ base:Heap,FnOk l.prog w K mg base CX0 k fa fd [x] (sp K))
  (hsp:∀ (K:Frag) (H:Hp) (a:Addr) (ns:List Int),ns.length≤n→d0z H→SqL K H a (ns.map V.int)→sp K [.ref a] H (fun v _=>v=.bl true) fun _ _ _=>False) :
  WalkO q [] XP YP l.row.toRowW d [] (fun f vs=>PySem.call f vs):=by
 refine Att.attach_call hn hdf fun w s₀ s₁ mg mb fa o pm cd doc a vs ns G Y ho hd hcd hmg hobj hints hlen hg=>?_
 obtain ⟨K,hK,hD⟩:=b7y G.T ds fun d m=>hds ▸ m
 obtain ⟨fd,hb,hF⟩:=F w K mg fa _ hK hD (fun b hb=>c5e G.T (List.all_eq_true.mp hfree b hb)) hmg
 exact b2r hK.to G.T.g G.T.b G.T.builtins G.T.nolimit hg hobj hints (Nat.le_trans hlen hn2) hr (fun base _ _=>hF base) hb (fun H hO hS=>hsp K H a ns hlen hO hS) fun H e s' z=>z
theorem row_holds {l:OpenLaw} {q:Program} {d:DefRec} {N:Nat} (said:l.wellSaid=true) (left:LeftO l.prog q [] (fun s=>xlAt q [] s && recOk (RowW.records l.row.toRowW) s) (fun _=>()) (fun _=>()) N)
  (hdef:defOf q l.name=some (d,[])) (hp:l.prog.theDef l.name=some (d.params,d.body,d.scope)) (hk:kwWritten? d.params.kwonlyargs d.params.kw_defaults=some []) (hwr:(!l.writes || l.row.records.isEmpty)=true)
  (ok:(chainsOk q && opensWell l.prog && (frees l.row.toRowW && l.row.within.isEmpty))=true) (hb:l.prog.bare) (hw:l.row.toRowW.promised)
  (call:WalkO q [] (XL q []) (fun _ _=>True) l.row.toRowW d [] fun f vs=>PySem.call f vs):l.Holds :=
 holds_law said fun k1=>holds_open (r:=l.row) left (fun _ _ _=>trivial) (fun _ _ _ _ _=>trivial) (fun s e=>xl_of s (Bool.and_eq_true_iff.mp e).1) XL.keeps hdef hp hk (fun s e=>recFacts_of (Bool.and_eq_true_iff.mp e).2) hwr k1 ok hb hw call
end Kq
end
set_option maxHeartbeats 1000000
section
namespace Kq
@[scoped simp ↓] theorem a1c {α:Type} (x:α) (Q:α→Prop):wp (some x) Q=Q x:=propext Iff.rfl
@[scoped simp ↓] theorem d2o {α:Type} (Q:α→Prop):wp (none:Option α) Q=False:=propext Iff.rfl
theorem a2g {α β:Type} (r:Option α) (f:α→Option β) (Q:β→Prop):wp (r.bind f) Q↔wp r (fun x=>wp (f x) Q):=by cases r <;> rfl
@[scoped simp ↓] theorem a1r {α β:Type} (r:Option α) (f:α→β) (Q:β→Prop):wp (r.map f) Q↔wp r (fun x=>Q (f x)):=by cases r <;> rfl
@[scoped simp ↓] theorem a3p {α:Type} (c:Prop) [Decidable c] (a:α) (Q:α→Prop):wp (if c then some a else none) Q↔c∧Q a:=by
 by_cases h:c <;> simp [h]
@[scoped simp ↓] theorem d7r (i:Nat) (L:a0a) (Q:FV→a0a→Prop):a0c i L Q=(wp (lk L i) fun x=>Q x L):=propext Iff.rfl
@[scoped simp ↓] theorem eC_eq (v:FV) (L:a0a) (Q:FV→a0a→Prop):eC v L Q=(Q v L):=propext Iff.rfl
@[scoped simp ↓] theorem eUn_eq (f:FV→Option FV) (a:EW) (L:a0a) (Q:FV→a0a→Prop):eUn f a L Q=(a L fun x L1=>wp (f x) fun z=>Q z L1):=propext Iff.rfl
@[scoped simp ↓] theorem eOp_eq (f:FV→FV→Option FV) (a b:EW) (L:a0a) (Q:FV→a0a→Prop):eOp f a b L Q=(a L fun x L1=>b L1 fun y L2=>wp (f x y) fun z=>Q z L2):=propext Iff.rfl
@[scoped simp ↓] theorem d7x (f:FV→FV→Option FV) (i:Nat) (b:EW) (L:a0a) (Q:FV→a0a→Prop):a8g f i b L Q=(wp (lk L i) fun _=>b L fun y L1=>wp (lk L1 i) fun x=>wp (f x y) fun z=>Q z L1):=propext Iff.rfl
@[scoped simp ↓] theorem d8b (a b:EW) (L:a0a) (Q:FV→a0a→Prop):c9z a b L Q=(a L fun x L1=>wp (b4h x) fun r=>if r=true then b L1 Q else Q x L1):=propext Iff.rfl
@[scoped simp ↓] theorem eOr_eq (a b:EW) (L:a0a) (Q:FV→a0a→Prop):eOr a b L Q=(a L fun x L1=>wp (b4h x) fun r=>if r=true then Q x L1 else b L1 Q):=propext Iff.rfl
@[scoped simp ↓] theorem eIf_eq (c:BW) (a b:EW) (L:a0a) (Q:FV→a0a→Prop):eIf c a b L Q=(c L fun r L1=>if r=true then a L1 Q else b L1 Q):=propext Iff.rfl
@[scoped simp ↓] theorem d8v (a:EW) (L:a0a) (Q:Bool→a0a→Prop):a1j a L Q=(a L fun x L1=>wp (b4h x) fun b=>Q b L1):=propext Iff.rfl
@[scoped simp ↓] theorem d8x (a b:BW) (L:a0a) (Q:Bool→a0a→Prop):c1t a b L Q=(a L fun r L1=>if r=true then b L1 Q else Q false L1):=propext Iff.rfl
@[scoped simp ↓] theorem bOr_eq (a b:BW) (L:a0a) (Q:Bool→a0a→Prop):bOr a b L Q=(a L fun r L1=>if r=true then Q true L1 else b L1 Q):=propext Iff.rfl
@[scoped simp ↓] theorem d8w (a:BW) (L:a0a) (Q:Bool→a0a→Prop):b3j a L Q=(a L fun r L1=>Q (!r) L1):=propext Iff.rfl
@[scoped simp ↓] theorem d2m (L:a0a) (Q:Bool→a0a→Prop):a2r  L Q=(Q true L):=propext Iff.rfl
@[scoped simp ↓] theorem d9a (L:a0a) (Q:List FV→a0a→Prop):a1a  L Q=(Q [] L):=propext Iff.rfl
@[scoped simp ↓] theorem d2n (a:EW) (r:AW) (L:a0a) (Q:List FV→a0a→Prop):a0b a r L Q=(a L fun x L1=>r L1 fun xs L2=>Q (x :: xs) L2):=propext Iff.rfl
@[scoped simp ↓] theorem d7s (a:AW) (L:a0a) (Q:FV→a0a→Prop):a6m a L Q=(a L fun xs L1=>xs.length≤big∧Q (.tup xs) L1):=propext Iff.rfl
@[scoped simp ↓] theorem d7z (a:AW) (L:a0a) (Q:FV→a0a→Prop):a8i a L Q=(a L fun xs L1=>xs.length≤big∧Q (.lst xs) L1):=propext Iff.rfl
@[scoped simp ↓] theorem d1k (L:a0a) (Q:Option Int→a0a→Prop):b6e  L Q=(Q none L):=propext Iff.rfl
@[scoped simp ↓] theorem d1j (a:EW) (L:a0a) (Q:Option Int→a0a→Prop):b0y a L Q=(a L fun x L1=>wp (a3b x) fun i=>Q (some i) L1):=propext Iff.rfl
@[scoped simp ↓] theorem eSl_eq (a:EW) (l h:OW) (L:a0a) (Q:FV→a0a→Prop):eSl a l h L Q=(a L fun x L1=>l L1 fun i L2=>h L2 fun j L3=>wp (a8u x i j) fun z=>Q z L3):=propext Iff.rfl
@[scoped simp ↓] theorem d2h (call:CW) (f:Nat) (a:AW) (L:a0a) (Q:FV→a0a→Prop):a2e call f a L Q=(a L fun xs L1=>call f xs fun z=>Q z.1 L1):=propext Iff.rfl
@[scoped simp ↓] theorem c9x (call:CW) (f i:Nat) (a:AW) (L:a0a) (Q:FV→a0a→Prop):a1g call f i a L Q=(wp (lk L i) fun _=>a L fun xs L1=>wp (lk L1 i) fun x=>call f (x :: xs) fun z=>Q z.1 (L1.set i (some z.2))):=propext Iff.rfl
@[scoped simp ↓] theorem d2f (f:FV→FV→Option FV) (i:Nat) (a:EW) (L:a0a) (Q:FV→a0a→Prop):a8h f i a L Q=(wp (lk L i) fun v=>wp (a6i v) fun _=>a L fun y L1=>wp (lk L1 i) fun x=>wp (f x y) fun z=>Q .non (L1.set i (some z))):=propext Iff.rfl
@[scoped simp ↓] theorem d5p (a:EW) (L:a0a) (Q:List FV→a0a→Prop):a4y a L Q=(a L fun x L1=>wp (a4w x) fun xs=>Q xs L1):=propext Iff.rfl
@[scoped simp ↓] theorem d5q (a:EW) (L:a0a) (Q:List FV→a0a→Prop):b4i a L Q=(a L fun x L1=>wp (a3b x) fun j=>a1x j=true∧Q (upF 0 j.toNat) L1):=propext Iff.rfl
@[scoped simp ↓] theorem d1o (a:EW) (L:a0a) (Q:List FV→a0a→Prop):b1i a L Q=(a L fun x L1=>wp (a4w x) fun xs=>Q (a2y (upF 0 xs.length) xs) L1):=propext Iff.rfl
@[scoped simp ↓] theorem d2g (n m:Nat) (it:AW) (tg:Tg) (t:BW) (e:EW) (L:a0a) (Q:FV→a0a→Prop):a1z n m it tg t e L Q=(it L fun xs L1=>L1.length=n∧xs.length≤big∧a3a n m tg t e xs [] L1 fun ys L2=>Q (.lst ys) L2):=propext Iff.rfl
@[scoped simp ↓] theorem d3r (L:a0a) (Q:FFl→a0a→Prop):a6e  L Q=(Q .next L):=propext Iff.rfl
@[scoped simp ↓] theorem d3l (s r:SW) (L:a0a) (Q:FFl→a0a→Prop):a0s s r L Q=(s L (aft (fun L1=>r L1 Q) Q)):=propext Iff.rfl
@[scoped simp ↓] theorem d3y (e:EW) (tg:Tg) (L:a0a) (Q:FFl→a0a→Prop):a1u e tg L Q=(e L fun x L1=>gW tg x L1 fun L2=>Q .next L2):=propext Iff.rfl
@[scoped simp ↓] theorem d3k (k:Nat) (i e:EW) (L:a0a) (Q:FFl→a0a→Prop):c7g k i e L Q=(wp (lk L k) fun _=>e L fun x L1=>i L1 fun j L2=>wp (lk L2 k) fun y=>wp (d3g y j x) fun z=>Q .next (L2.set k (some z))):=propext Iff.rfl
@[scoped simp ↓] theorem d3x (f:FV→FV→Option FV) (i:Nat) (e:EW) (L:a0a) (Q:FFl→a0a→Prop):d1i f i e L Q=(wp (lk L i) fun a=>e L fun x L1=>wp (f a x) fun z=>Q .next (L1.set i (some z))):=propext Iff.rfl
@[scoped simp ↓] theorem d3m (e:EW) (L:a0a) (Q:FFl→a0a→Prop):a2s e L Q=(e L fun x L1=>Q (.ret x) L1):=propext Iff.rfl
@[scoped simp ↓] theorem d3u (e:EW) (L:a0a) (Q:FFl→a0a→Prop):c2c e L Q=(e L fun _ L1=>Q .next L1):=propext Iff.rfl
@[scoped simp ↓] theorem sIf_eq (c:BW) (a b:SW) (L:a0a) (Q:FFl→a0a→Prop):sIf c a b L Q=(c L fun r L1=>if r=true then a L1 Q else b L1 Q):=propext Iff.rfl
@[scoped simp ↓] theorem d3t (it:AW) (tg:Tg) (b:SW) (L:a0a) (Q:FFl→a0a→Prop):b0j it tg b L Q=(it L fun xs L1=>c2w tg b xs L1 Q):=propext Iff.rfl
@[scoped simp ↓] theorem d3h (c:BW) (b:SW) (L:a0a) (Q:FFl→a0a→Prop):c6i c b L Q=(∃ n,c6g c b n L Q):=propext Iff.rfl
@[scoped simp ↓] theorem lk_z (x:Option FV) (L:a0a) (Q:FV→Prop):wp (lk (x :: L) 0) Q=wp x Q:=propext Iff.rfl
@[scoped simp ↓] theorem gw_nm (i:Nat) (v:FV) (L:a0a) (Q:a0a→Prop):gW (.nm i) v L Q=Q (L.set i (some v)):=propext Iff.rfl
@[scoped simp ↓] theorem gw_tp (is:List Nat) (v:FV) (L:a0a) (Q:a0a→Prop):gW (.tp is) v L Q=wp (a6d v) fun xs=>wp (a7m L is xs) Q:=propext Iff.rfl
@[scoped simp ↓] theorem sa_n (L:a0a) (Q:a0a→Prop):wp (a7m L [] []) Q=Q L:=propext Iff.rfl
@[scoped simp ↓] theorem sa_c (L:a0a) (i:Nat) (is:List Nat) (v:FV) (vs:List FV) (Q:a0a→Prop):wp (a7m L (i :: is) (v :: vs)) Q=wp (a7m (L.set i (some v)) is vs) Q:=propext Iff.rfl
section
variable (L:a0a) (k:a0a→Prop) (Q:FFl→a0a→Prop)
@[scoped simp ↓] theorem d8y:aft k Q .next L=k L:=propext Iff.rfl
@[scoped simp ↓] theorem af_ret (v:FV):aft k Q (.ret v) L=Q (.ret v) L:=propext Iff.rfl
@[scoped simp ↓] theorem tq_n:b0m k Q .next L=k L:=propext Iff.rfl
@[scoped simp ↓] theorem tq_r (v:FV):b0m k Q (.ret v) L=Q (.ret v) L:=propext Iff.rfl
end
@[scoped simp ↓] theorem en_rt (fr:Bool) (Q:FV×FV→Prop) (v:FV) (L:a0a):b9a true fr Q (.ret v) L=wp (lk L 0) fun x=>Q (v,x):=propext Iff.rfl
@[scoped simp ↓] theorem en_rf (fr:Bool) (Q:FV×FV→Prop) (v:FV) (L:a0a):b9a false fr Q (.ret v) L=Q (v,.non):=propext Iff.rfl
section
variable (Q:FV→Prop) (B:Bool→Prop) (i j:Int)
@[scoped simp ↓] theorem tr_b (b:Bool):wp (b4h (.bl b)) B=B b:=propext Iff.rfl
@[scoped simp ↓] theorem tr_t (xs:List FV):wp (b4h (.tup xs)) B=B (!xs.isEmpty):=propext Iff.rfl
@[scoped simp ↓] theorem tr_l (xs:List FV):wp (b4h (.lst xs)) B=B (!xs.isEmpty):=propext Iff.rfl
@[scoped simp ↓] theorem in_i (Q:Int→Prop):wp (a3b (.int i)) Q=Q i:=propext Iff.rfl
@[scoped simp ↓] theorem tp_t (xs:List FV) (Q:List FV→Prop):wp (a6d (.tup xs)) Q=Q xs:=propext Iff.rfl
@[scoped simp ↓] theorem ls_l (xs:List FV) (Q:List FV→Prop):wp (a6i (.lst xs)) Q=Q xs:=propext Iff.rfl
@[scoped simp ↓] theorem sq_t (xs:List FV) (Q:List FV→Prop):wp (a4w (.tup xs)) Q=Q xs:=propext Iff.rfl
@[scoped simp ↓] theorem sq_l (xs:List FV) (Q:List FV→Prop):wp (a4w (.lst xs)) Q=Q xs:=propext Iff.rfl
@[scoped simp ↓] theorem li_l (xs:List FV) (Q:List FV→Prop):wp (a1o (.lst xs)) Q=Q xs:=propext Iff.rfl
@[scoped simp ↓] theorem b_add:wp (a6h (.int i) (.int j)) Q=Q (.int (i + j)):=propext Iff.rfl
@[scoped simp ↓] theorem b_sub:wp (c6z (.int i) (.int j)) Q=Q (.int (i - j)):=propext Iff.rfl
@[scoped simp ↓] theorem b_mul:wp (b8y (.int i) (.int j)) Q↔(a2b i || a2b j)=true∧Q (.int (i * j)):=a3p _ _ _
@[scoped simp ↓] theorem b_fdiv:wp (b7o (.int i) (.int j)) Q↔(0 < j∧j < 1073741824)∧Q (.int (i / j)):=a3p _ _ _
@[scoped simp ↓] theorem b_mod:wp (b8z (.int i) (.int j)) Q↔0 < j∧Q (.int (i % j)):=a3p _ _ _
@[scoped simp ↓] theorem b_pow:wp (c7z (.int i) (.int j)) Q↔(0≤j∧j≤1000∧a2b i=true)∧Q (.int (i ^ j.toNat)):=a3p _ _ _
@[scoped simp ↓] theorem b_addt (xs ys:List FV):wp (a6h (.tup xs) (.tup ys)) Q↔xs.length + ys.length≤big∧Q (.tup (xs++ys)):=a3p _ _ _
@[scoped simp ↓] theorem b_addl (xs ys:List FV):wp (a6h (.lst xs) (.lst ys)) Q↔xs.length + ys.length≤big∧Q (.lst (xs++ys)):=a3p _ _ _
@[scoped simp ↓] theorem k_eq (a b:FV):wp (eqB a b) Q↔wp (eqF a b) fun r=>Q (.bl r):=a1r _ _ _
@[scoped simp ↓] theorem k_ne (a b:FV):wp (neB a b) Q↔wp (eqF a b) fun r=>Q (.bl (!r)):=a1r _ _ _
@[scoped simp ↓] theorem k_lt:wp (ltB (.int i) (.int j)) Q=Q (.bl (decide (i < j))):=propext Iff.rfl
@[scoped simp ↓] theorem k_gt:wp (gtB (.int i) (.int j)) Q=Q (.bl (decide (j < i))):=propext Iff.rfl
@[scoped simp ↓] theorem k_ge:wp (geB (.int i) (.int j)) Q=Q (.bl (decide (j≤i))):=propext Iff.rfl
@[scoped simp ↓] theorem e_ii:wp (eqF (.int i) (.int j)) B=B (i == j):=propext Iff.rfl
@[scoped simp ↓] theorem e_ss (a b:String):wp (eqF (.str a) (.str b)) B=B (a == b):=propext Iff.rfl
@[scoped simp ↓] theorem e_sh (d:D):wp (eqF (.shn d) (.shn d)) B=B true:=by simp [eqF]
@[scoped simp ↓] theorem ix_eq (v:FV):wp (ixF v (.int i)) Q↔wp (a4w v) fun xs=>wp (atF xs i) Q:=by
 show wp ((a4w v).bind _) Q↔_; rw [a2g]
@[scoped simp ↓] theorem f_max:wp (c0m (.int i) (.int j)) Q=Q (.int (if j > i then j else i)):=propext Iff.rfl
@[scoped simp ↓] theorem f_not (b:Bool):wp (d5c (.bl b)) Q=Q (.bl (!b)):=propext Iff.rfl
@[scoped simp ↓] theorem f_neg:wp (d5j (.int i)) Q=Q (.int (-i)):=propext Iff.rfl
@[scoped simp ↓] theorem f_len (v:FV):wp (b0k v) Q↔wp (a4w v) fun xs=>Q (.int xs.length):=a1r _ _ _
@[scoped simp ↓] theorem f_abs:wp (d0w (.int i)) Q=Q (.int (if i < 0 then -i else i)):=propext Iff.rfl
@[scoped simp ↓] theorem f_intb (b:Bool):wp (b1z (.bl b)) Q=Q (.int (if b then 1 else 0)):=propext Iff.rfl
@[scoped simp ↓] theorem f_sum (v:FV):wp (c6h v) Q↔wp (a1o v) fun xs=>wp (d1b xs) fun n=>Q (.int n):=by
 show wp ((a1o v).bind _) Q↔_; rw [a2g]; simp only [a1r]
@[scoped simp ↓] theorem f_all (v:FV):wp (c6m v) Q↔wp (a1o v) fun xs=>wp (a4j xs) fun bs=>Q (.bl (bs.all id)):=by
 show wp ((a1o v).bind _) Q↔_; rw [a2g]; simp only [a1r]
@[scoped simp ↓] theorem f_any (v:FV):wp (d0v v) Q↔wp (a1o v) fun xs=>wp (a4j xs) fun bs=>Q (.bl (bs.any id)):=by
 show wp ((a1o v).bind _) Q↔_; rw [a2g]; simp only [a1r]
@[scoped simp ↓] theorem f_minI (v:FV):wp (b6j v) Q↔wp (a1o v) fun xs=>wp (d1m xs) Q:=a2g _ _ _
@[scoped simp ↓] theorem d7o (v:FV):wp (a5i v) Q↔wp (a4w v) fun xs=>Q (.tup xs):=a1r _ _ _
@[scoped simp ↓] theorem f_list (v:FV):wp (a3u v) Q↔wp (a4w v) fun xs=>Q (.lst xs):=a1r _ _ _
@[scoped simp ↓] theorem f_isi (t:Ty) (v:FV):wp (c0w t v) Q↔wp (a9m v t) fun b=>Q (.bl b):=a1r _ _ _
@[scoped simp ↓] theorem y_int (t:Ty):wp (a9m (.int i) t) B=B (t == .int):=propext Iff.rfl
@[scoped simp ↓] theorem y_tup (b:List FV) (t:Ty):wp (a9m (.tup b) t) B=B (t == .tuple):=propext Iff.rfl
@[scoped simp ↓] theorem y_lst (b:List FV) (t:Ty):wp (a9m (.lst b) t) B=B (t == .list):=propext Iff.rfl
@[scoped simp ↓] theorem iN_n:wp (a1y .non) Q=Q (.bl true):=propext Iff.rfl
@[scoped simp ↓] theorem iN_i:wp (a1y (.int i)) Q=Q (.bl false):=propext Iff.rfl
@[scoped simp ↓] theorem nN_n:wp (a1i .non) Q=Q (.bl false):=propext Iff.rfl
@[scoped simp ↓] theorem nN_i:wp (a1i (.int i)) Q=Q (.bl true):=propext Iff.rfl
@[scoped simp ↓] theorem m_app (xs:List FV) (v:FV):wp (c6c (.lst xs) v) Q↔xs.length < big∧Q (.lst (xs++[v])):=a3p _ _ _
@[scoped simp ↓] theorem m_ext (xs ys:List FV):wp (d7p (.lst xs) (.lst ys)) Q↔xs.length + ys.length≤big∧Q (.lst (xs++ys)):=a3p _ _ _
@[scoped simp ↓] theorem s_t (xs:List FV) (lo hi:Option Int):wp (a8u (.tup xs) lo hi) Q=Q (.tup (a6g xs lo hi)):=propext Iff.rfl
@[scoped simp ↓] theorem st_l (xs:List FV) (v:FV):wp (d3g (.lst xs) (.int j) v) Q↔wp (ixN xs.length j) fun p=>Q (.lst (xs.set p v)):=a1r _ _ _
@[scoped simp ↓] theorem au_f (f:Int→Int→Int):wp (d0t f (.int i) (.int j)) Q=Q (.int (f i j)):=propext Iff.rfl
end
theorem a4k {xs:List FV} {i:Int} {n:Nat} {v:FV} {Q:FV→Prop} (h:i=n) (hv:xs[n]?=some v):wp (atF xs i) Q↔Q v:=by
 subst h
 have:=(List.getElem?_eq_some_iff.mp hv).1
 simp only [atF,ixN,Int.natCast_nonneg,if_true,Int.ofNat_lt,this,Option.bind_some,Int.toNat_natCast,hv,a1c]
@[scoped simp ↓] theorem at_0 (x:FV) (r:List FV) (Q:FV→Prop):wp (atF (x :: r) 0) Q↔Q x:=a4k (n:=0) rfl rfl
@[scoped simp ↓] theorem at_1 (x y:FV) (r:List FV) (Q:FV→Prop):wp (atF (x :: y :: r) 1) Q↔Q y:=a4k (n:=1) rfl rfl
@[scoped simp ↓] theorem at_2 (x y z:FV) (r:List FV) (Q:FV→Prop):wp (atF (x :: y :: z :: r) 2) Q↔Q z:=a4k (n:=2) rfl rfl
theorem c9f {n:Nat} {i:Int} {j:Nat} {Q:Nat→Prop} (h:i=j) (hj:j < n):wp (ixN n i) Q↔Q j:=by
 subst h; simp [ixN,hj]
theorem c3d {xs:List FV} {u:Int} {Q:FV→Prop} (h0:0≤u) (h1:u < xs.length) (h:∀ x∈xs,Q x):wp (atF xs u) Q:=by
 have hu:u.toNat < xs.length:=by lia
 rw [a4k (show u=u.toNat by lia) (List.getElem?_eq_getElem hu)]
 exact h _ (List.getElem_mem hu)
theorem a1w {α:Type} (p:α→Bool):∀ xs:List α,a4j (xs.map fun x=>.bl (p x))=some (xs.map p)
 | []=>rfl
 | x :: r=>by simp only [List.map_cons,a4j,a1w p r,Option.map_some]
theorem a8b:∀ ns:List Int,a0z (ns.map .int)=some ns
 | []=>rfl
 | x :: r=>by simp only [List.map_cons,a0z,a8b r,Option.map_some]
@[scoped simp] theorem ty_10:(Ty.bool == Ty.int)=false:=by decide
theorem a0o {tb:List FD} {d f:Nat} {args:List FV} {fd:FD} {Q:FV×FV→Prop} (h:tb[f]?=some fd) (hl:args.length=fd.np)
  (H:fd.body (callW tb d) (args.map some++Γj (fd.ns - fd.np) none) (b9a fd.io fd.fr Q)):callW tb (d + 1) f args Q:=by
 show (match tb[f]? with
  | none=>False
  | some fd=>args.length=fd.np∧fd.body (callW tb d) (args.map some++Γj (fd.ns - fd.np) none) (b9a fd.io fd.fr Q))
 rw [h]; exact ⟨hl,H⟩
theorem c1r {tb:List FD} {d f:Nat} {args:List FV} {fd:FD} {Q:FV×FV→Prop} (h:tb[f]?=some fd) (hl:args.length=fd.np) :
  callW tb (d + 1) f args Q↔fd.body (callW tb d) (args.map some++Γj (fd.ns - fd.np) none) (b9a fd.io fd.fr Q):=by
 show (match tb[f]? with
  | none=>False
  | some fd=>args.length=fd.np∧fd.body (callW tb d) (args.map some++Γj (fd.ns - fd.np) none) (b9a fd.io fd.fr Q))↔_
 rw [h]; exact ⟨fun z=>z.2,fun z=>⟨hl,z⟩⟩
theorem a2q {α:Type} {tg:Tg} {b:SW} {f:α→FV} {I:List α→a0a→Prop} {Q:FFl→a0a→Prop} (all:List α) :
  ∀ (rest done:List α) (L:a0a),all=done++rest→I done L →
  (∀ d x r L (K:a0a→Prop),all=d++x :: r→I d L→(∀ L',I (d++[x]) L'→K L')→gW tg (f x) L fun L1=>b L1 (b0m K Q)) →
  (∀ L,I all L→Q .next L)→c2w tg b (rest.map f) L Q
 | [],done,L,e,h,_,E=>by
  rw [List.append_nil] at e
  exact E L (e ▸ h)
 | x :: rest,done,L,e,h,B,E=>B done x rest L _ e h fun L' h'=>a2q all rest (done++[x]) L' (by simp [e]) h' B E
theorem a2d {tg:Tg} {b:SW} {I:Nat→a0a→Prop} {Q:FFl→a0a→Prop}:∀ (n i:Nat) (L:a0a),I i L →
  (∀ j L (K:a0a→Prop),i≤j→j < i + n→I j L→(∀ L',I (j + 1) L'→K L')→gW tg (.int (j:Int)) L fun L1=>b L1 (b0m K Q)) →
  (∀ L,I (i + n) L→Q .next L)→c2w tg b (upF (i:Int) n) L Q
 | 0,i,L,h,_,E=>E L h
 | n + 1,i,L,h,B,E=>B i L _ (Γi _) (by lia) h fun L' h'=>by
  have:=a2d n (i + 1) L' h' (fun j L K hj hj'=>B j L K (by lia) (by lia)) (fun L h=>E L (by rw [show i + (n + 1)=i + 1 + n by lia]; exact h))
  simpa using this
theorem while_by {c:BW} {b:SW} {I:Nat→a0a→Prop} {Q:FFl→a0a→Prop} (B:∀ m L (K:a0a→Prop),I m L→(∀ m' L',m' < m→I m' L'→K L')→c L fun t L1=>if t=true then b L1 (b0m K Q) else Q .next L1) {m:Nat} {L:a0a} (h:I m L):c6i c b L Q:=by
 have go:∀ n m L,m < n→I m L→c6g c b n L Q:=by
  intro n
  induction n with
  | zero=>intro m L hm; lia
  | succ n ih=>intro m L hm h; exact B m L _ h fun m' L' h1 h2=>ih m' L' (by lia) h2
 exact ⟨m + 1,go _ m L (Nat.lt_succ_self _) h⟩
theorem a9v {α:Type} {tg:Tg} {n m:Nat} {t:BW} {e:EW} {f:α→FV} {I:List α→List FV→a0a→Prop} {Q:List FV→a0a→Prop} (all:List α) :
  ∀ (rest done:List α) (acc:List FV) (L:a0a),all=done++rest→I done acc L →
  (∀ d x r acc L (K:List FV→a0a→Prop),all=d++x :: r→I d acc L→(∀ acc' L',I (d++[x]) acc' L'→K acc' L')→gW tg (f x) (L++Γj m none) fun L1=>t L1 fun b L2=>if b=true then e L2 fun v L3=>K (acc++[v]) (L3.take n) else K acc (L2.take n)) →
  (∀ ys L,I all ys L→Q ys L)→a3a n m tg t e (rest.map f) acc L Q
 | [],done,acc,L,e,h,_,E=>by
  rw [List.append_nil] at e
  exact E acc L (e ▸ h)
 | x :: rest,done,acc,L,e,h,B,E=>B done x rest acc L (fun acc' L'=>a3a _ _ _ _ _ (rest.map f) acc' L' Q) e h fun acc' L' h'=>a9v all rest (done++[x]) acc' L' (by simp [e]) h' B E
theorem a0p {α:Type} {tg:Tg} {n m:Nat} {e:EW} {f:α→FV} {g:α→FV} {Q:List FV→a0a→Prop} {L:a0a}:∀ (xs:List α) (acc:List FV),
  (∀ x∈xs,∀ K:FV→a0a→Prop,K (g x) L→gW tg (f x) (L++Γj m none) fun L1=>e L1 fun v L3=>K v (L3.take n))→Q (acc++xs.map g) L→a3a n m tg a2r e (xs.map f) acc L Q
 | [],acc,_,E=>by
  show Q acc L
  simpa using E
 | x :: xs,acc,B,E=>B x Γn (fun v L'=>a3a n m tg a2r e (xs.map f) (acc++[v]) L' Q) (a0p xs (acc++[g x]) (fun y hy=>B y (Γh _ hy)) (by simpa using E))
theorem a0w {α:Type} {tg:Tg} {n m:Nat} {t:BW} {e:EW} {f:α→FV} {g:α→FV} {p:α→Bool} {Q:List FV→a0a→Prop} {L:a0a}:∀ (xs:List α) (acc:List FV),
  (∀ x∈xs,∀ (K:FV→a0a→Prop) (N:a0a→Prop),(p x=true→K (g x) L)→(p x=false→N L)→gW tg (f x) (L++Γj m none) fun L1=>t L1 fun b L2=>if b=true then e L2 fun v L3=>K v (L3.take n) else N (L2.take n))→Q (acc++(xs.filter p).map g) L→a3a n m tg t e (xs.map f) acc L Q
 | [],acc,_,E=>by
  show Q acc L
  simpa using E
 | x :: xs,acc,B,E=>B x Γn (fun v L'=>a3a n m tg t e (xs.map f) (acc++[v]) L' Q) (fun L'=>a3a n m tg t e (xs.map f) acc L' Q)
   (fun hp=>a0w xs (acc++[g x]) (fun y hy=>B y (Γh _ hy)) (by rw [List.filter_cons_of_pos hp] at E; simpa using E))
   (fun hp=>a0w xs acc (fun y hy=>B y (Γh _ hy)) (by rw [List.filter_cons_of_neg (by simp [hp])] at E; exact E))
theorem c1w:∀ n lo:Nat,upF (lo:Int) n=(List.range' lo n).map fun i:Nat=>FV.int i
 | 0,lo=>rfl
 | n + 1,lo=>by simp only [upF,List.range'_succ,List.map_cons]; rw [← c1w n (lo + 1)]; simp
theorem a2a (n:Nat):upF 0 n=(List.range n).map fun i:Nat=>FV.int i:=by
 have:=c1w n 0
 rw [List.range_eq_range']; exact_mod_cast this
theorem ite2 {c A B:Prop} [Decidable c] (h1:c→A) (h2:¬ c→B):if c then A else B:=by
 by_cases h:c
 ·rw [if_pos h]; exact h1 h
 ·rw [if_neg h]; exact h2 h
end Kq
end
set_option maxHeartbeats 4000000
section
namespace Kq
open PySem PySem.Spec PyProof.Rows L2
section
variable {X:Cx} {C:CC} {n:Nat} {sp:Γd→Nat→Sp} {a:Expr} {ea:EW} {p p2 p3 p4 pos:Pos}
end
section
variable {X:Cx} {C:CC} {n:Nat} {sp:Γd→Nat→Sp} {fr:Bool} {a b:Expr} {ea eb:EW} {pos px py pt p2:Pos} {i j kt k2:Nat} {nx ny:Str}
end
section
variable {X:Cx} {tg:Expr}
end
noncomputable def c5n (hi:Int):Nat→List FV
 | 0=>[]
 | n + 1=>.int hi :: c5n (hi - 1) n
noncomputable def iDown (a b:EW):AW:=fun L Q=>a L fun x L1=>b L1 fun y L2=>wp (a3b x) fun i=>wp (a3b y) fun j=>(a1x i && a1x j)=true∧Q (c5n i (i - j).toNat) L2
section
variable {X:Cx} {C:CC} {n:Nat} {sp:Γd→Nat→Sp} {a b tg:Expr} {ea eb:EW} {p p3 p4 pos:Pos} {kk:Nat}
variable {K:Γd} {c:Cn} {md:Md}
end
end Kq
end
section
namespace PySem
open PySem.Spec
section
variable {prog:Program} {w:World} {A:Around} {E:Value→Shared→Prop} {s:Shared}
end
end PySem
end
section
namespace Kq
open PySem PySem.Spec PyProof.Rows L2
section
variable {X:Cx} {tg:Expr}
end
noncomputable def iRevr (a:EW):AW:=fun L Q=>a L fun x L1=>wp (a3b x) fun j=>a1x j=true∧Q (c5n ((j.toNat:Int) - 1) j.toNat) L1
section
variable {P:Program} {w:World} {A:Around} {R:Result→Shared→Prop} {it S N:Addr} {fp wr:List Addr} {n:Nat} {V:Nat→Value→Prop} {St:Nat→Heap→Prop} {bt:Nat→Nat→Bool} {h0:Heap} {kw:List (Str×Value)}
end
section
variable {P:Program} {w:World} {A:Around} {E:Value→Shared→Prop} {s:Shared}
end
section
variable {P:Program} {w:World} {A:Around} {E:Value→Shared→Prop} {s:Shared}
end
noncomputable def c4l (b:Int):List Int→Int
 | []=>b
 | x :: r=>c4l (if b < x then x else b) r
noncomputable def mostD (d:Int):List Int→Int
 | []=>d
 | n :: r=>c4l n r
section
variable {X:Cx}
variable {x:Str} {p pos kp:Pos} {e v:Expr} {t:TA} {tv:TE} {id:String} {kn:Str} {r:V→V→Hp→VK→Prop}
end
section
variable {X:Cx} {C:CC} {n:Nat} {sp:Γd→Nat→Sp} {a b:Expr} {ea eb:EW} {pos p kp:Pos}
end
section
variable (Q:FV→Prop)
end
section
variable {P:Program} {w:World} {A:Around} {E:Value→Shared→Prop}
end
section
variable {X:Cx} {pos:Pos}
end
noncomputable def sUnp (e:EW) (is:List Nat):SW:=fun L Q=>e L fun x L1=>wp (a6i x) fun xs=>wp (a7m L1 is xs) fun L2=>Q .next L2
section
variable {X:Cx} {C:CC} {n:Nat} {sp:Γd→Nat→Sp} {fr:Bool} {a:Expr} {e:EW} {pos p:Pos} {is:List Nat} {k:Nat}
end
section
variable {prog:Program} {w:World} {A:Around} {E:Value→Shared→Prop} {s:Shared}
end
section
variable {X:Cx} {S H:Hp} {Q:VK}
noncomputable def tmulF (v w:FV):Option FV:=(a6d v).bind fun xs=>(a3b w).bind fun k=>if -(2 ^ 63)≤k∧k < 2 ^ 63∧xs.length * k.toNat≤big then some (.tup (Γj k.toNat xs).flatten) else none
end
section
variable {X:Cx} {C:CC} {a b:Expr} {ea eb:EW} {pos:Pos}
end
end Kq
end
section
namespace PySem
section
variable {prog:Program} {w:World} {A:Around} {E:Value→Shared→Prop} {s:Shared}
end
end PySem
end
section
namespace Kq
open PySem PySem.Spec PyProof.Rows L2
section
variable {X:Cx}
variable {a b:Expr} {ta:TA} {p p2 pos pos2:Pos} {T:Str} {Tn:String} {ho:List V→HO}
end
noncomputable def rngF (c:List FV→FV) (v:FV):Option FV:=(a3b v).bind fun j=>if a1x j=true∧j.toNat≤big then some (c (upF 0 j.toNat)) else none
noncomputable def rng2F (c:List FV→FV) (v w:FV):Option FV:=(a3b v).bind fun i=>(a3b w).bind fun j=>if (a1x i && a1x j)=true∧(j - i).toNat≤big then some (c (upF i (j - i).toNat)) else none
section
variable {X:Cx} {C:CC} {n:Nat} {sp:Γd→Nat→Sp} {a b:Expr} {ea eb:EW} {pos p p2 pos2:Pos}
end
end Kq
end
section
namespace PySem
noncomputable def d9g (A:Around) (s:Shared) (x y:Value) (b:Bool):Prop :=
 ∀ (prog:Program) (w:World) (E:Value→Shared→Prop) (Q:Value→Shared→Prop),Q (.bool b) s→wpAny (model prog w) A (richCompare .Lt x y) Q E s
inductive LexAt (A:Around) (s:Shared):List Value→List Value→Bool→Prop
 | nn:LexAt A s [] [] false
 | nc {y ys}:LexAt A s [] (y :: ys) true
 | cn {x xs}:LexAt A s (x :: xs) [] false
 | eq {x y xs ys r}:SeqAt.EqAt A s x y true→LexAt A s xs ys r→LexAt A s (x :: xs) (y :: ys) r
 | ne {x y xs ys r}:SeqAt.EqAt A s x y false→d9g A s x y r→LexAt A s (x :: xs) (y :: ys) r
section
open PySem.SeqAt
open PySem.AutoSeq1 (wpAny_loadPart')
open PySem.MeetsSeq PySem.MeetsSeq2 PySem.MeetsSeq3
theorem a8s (l b:Addr) (items items2:Array Value) (n n2:Nat) (dd dd2:Option Addr) (sl sl2:Array (Option Value)) :
  Meets (Builtin.«tuple.__lt__» ⟨[.ref l,.ref b],[]⟩)
   (fun A R s=>s.heap.get? l=some { cls:=.type "tuple",dict:=dd,data:=.seq items n,slots:=sl }∧s.heap.get? b=some { cls:=.type "tuple",dict:=dd2,data:=.seq items2 n2,slots:=sl2 } ∧
    ∃ r,LexAt A.in1 s items.toList items2.toList r∧R (.ok (.ret (.bool r))) s) :=
 .of_wp fun prog w A R s h=>by
  obtain ⟨hp,g,d,tk,os⟩:=s; obtain ⟨hl,hb,r,hlex,h⟩:=h
  have f2:=AutoSeq1.sub_tuple_tuple
  wp_walk using wpAny_loadPart' hl,wpAny_loadPart' hb,wpAny_forIn_list _ (fun rest b s'=>b.1=none∧s'=⟨hp,g,d,tk,os⟩∧∃ (vs ws:List Value),rest=vs.zip ws ∧
   LexAt A.in1 ⟨hp,g,d,tk,os⟩ vs ws r∧vs.length + items2.size=ws.length + items.size) _
  case turn =>
   rintro ⟨y,x⟩ rest b s' ⟨hb',rfl,vs,ws,hz,hlx,hlen⟩
   cases hlx with
   | nn=>cases hz
   | nc=>cases hz
   | cn=>rw [List.zip_nil_right] at hz; cases hz
   | eq he hr =>
    rw [List.zip_cons_cons] at hz
    injection hz with hyx hrest
    injection hyx with hy hx
    subst hy hx
    simp only [List.length_cons] at hlen
    refine Γa (he prog w _ _ ?_)
    wp_walk
    exact ⟨rfl,rfl,_,_,hrest,hr,by lia⟩
   | ne he hr =>
    rw [List.zip_cons_cons] at hz
    injection hz with hyx hrest
    injection hyx with hy hx
    subst hy hx
    refine Γa (he prog w _ _ ?_)
    have hri:=hr prog w
    wp_walk using hri
    exact ⟨_,rfl,by simpa using h⟩
  case fin =>
   rintro ⟨b1,b2⟩ s' ⟨hb',rfl,vs,ws,hz,hlx,hlen⟩
   simp only at hb'
   subst hb'
   have hv:r=decide (items.size < items2.size):=by
    cases hlx with
    | nn=>simp only [List.length_nil] at hlen; exact (decide_eq_false (by lia)).symm
    | nc=>simp only [List.length_nil,List.length_cons] at hlen; exact (decide_eq_true (by lia)).symm
    | cn=>simp only [List.length_nil,List.length_cons] at hlen; exact (decide_eq_false (by lia)).symm
    | eq=>rw [List.zip_cons_cons] at hz; cases hz
    | ne=>rw [List.zip_cons_cons] at hz; cases hz
   rw [hv] at h
   wp_walk
   exact ⟨_,rfl,by simpa [Builtin.Tuple.tupleCompareSizes] using h⟩
  case h =>
   exact ⟨rfl,rfl,items.toList,items2.toList,rfl,hlex,by simp; lia⟩
end
theorem c0n {A:Around} {s:Shared} {l b:Addr} {o o2:Obj} {items items2:Array Value} {n n2:Nat} {r:Bool} (h1:s.heap.get? l=some o) (h2:o.cls=.type "tuple") (h3:o.data=.seq items n) (g1:s.heap.get? b=some o2) (g2:o2.cls=.type "tuple") (g3:o2.data=.seq items2 n2)
  (hlex:LexAt A.in1 s items.toList items2.toList r) (hu:A.units < cLine):d9g A s (.ref l) (.ref b) r:=by
 intro prog w E Q h
 obtain ⟨cls,dd,data,sl⟩:=o
 obtain ⟨cls2,dd2,data2,sl2⟩:=o2
 simp only at h2 h3 g2 g3
 subst h2 h3 g2 g3
 exact richCompare_meets_room (op:=.Lt) ⟨_,h1,rfl⟩ ⟨_,g1,rfl⟩ PySem.F.slot_tuple_lt PySem.F.entry_tuple_lt (PySem.F.args_tuple_lt_2 _ _) (a8s l b items items2 n n2 dd dd2 sl sl2)
  ⟨h1,g1,r,hlex,show Value.bool r≠Value.notImplemented∧Q (.bool r) s from ⟨(fun x=>nomatch x),h⟩⟩ hu
end PySem
namespace Kq
open PySem PySem.Spec PyProof.Rows L2
noncomputable def d3c (a b:String):Bool:=decide ((Γe a).cps.toList < (Γe b).cps.toList)
mutual
noncomputable def ltD:D→D→Option Bool
 | .int a,.int b=>some (decide (a < b))
 | .str a,.str b=>some (d3c a b)
 | .tup a,.tup b=>d1n a b
 | _,_=>none
noncomputable def d1n:List D→List D→Option Bool
 | [],[]=>some false
 | [],_ :: _=>some true
 | _ :: _,[]=>some false
 | a :: r,b :: q=>if D.eqv a b=true then d1n r q else ltD a b
end
mutual
theorem c8z:∀ (x y:D) (A:Around) (s:Shared) (v u:Value) (as bs:List Addr) (r:Bool),Reads s.heap v (dPy x) as→Reads s.heap u (dPy y) bs→ltD x y=some r→A.units + (dPy x).depth < cLine→d9g A s v u r
 | .int a,y,A,s,v,u,as,bs,r,h1,h2,e,hu=>by
  cases y with
  | int b =>
   cases e
   simp only [dPy] at h1 h2
   cases h1; cases h2
   exact fun prog w E Q h=>PyProof.Rows.lt_int h
  | _=>cases e
 | .str a,y,A,s,v,u,as,bs,r,h1,h2,e,hu=>by
  cases y with
  | str b =>
   cases e
   simp only [dPy] at h1 h2
   cases h1; cases h2
   exact fun prog w E Q h=>PySem.P.lt_str h
  | _=>cases e
 | .tup xs,y,A,s,v,u,as,bs,r,h1,h2,e,hu=>by
  cases y with
  | tup ys =>
   simp only [dPy] at h1 h2
   simp only [dPy,PyData.depth] at hu
   cases h1 with
   | tuple a1 a2 a3 a4 =>
    cases h2 with
    | tuple b1 b2 b3 b4 =>
     exact c0n a1 a2 a3 b1 b2 b3 (b6o xs ys A.in1 s _ _ _ _ r a4 b4 e (by show A.units + 1 + _ < _; lia)) (by lia)
  | _=>cases e
 | .non,y,A,s,v,u,as,bs,r,h1,h2,e,hu=>by cases y <;> cases e
 | .bl _,y,A,s,v,u,as,bs,r,h1,h2,e,hu=>by cases y <;> cases e
 | .lst _,y,A,s,v,u,as,bs,r,h1,h2,e,hu=>by cases y <;> cases e
theorem b6o:∀ (xs ys:List D) (A:Around) (s:Shared) (vs us:List Value) (as bs:List Addr) (r:Bool),ReadsAll s.heap vs (a3s xs) as→ReadsAll s.heap us (a3s ys) bs→d1n xs ys=some r→A.units + PyData.depthAll (a3s xs) < cLine→LexAt A s vs us r
 | [],[],A,s,vs,us,as,bs,r,h1,h2,e,hu=>by cases h1; cases h2; cases e; exact .nn
 | [],y :: ys,A,s,vs,us,as,bs,r,h1,h2,e,hu=>by cases h1; cases h2; cases e; exact .nc
 | x :: xs,[],A,s,vs,us,as,bs,r,h1,h2,e,hu=>by cases h1; cases h2; cases e; exact .cn
 | x :: xs,y :: ys,A,s,vs,us,as,bs,r,h1,h2,e,hu=>by
  simp only [a3s] at h1 h2
  simp only [a3s,PyData.depthAll] at hu
  cases h1 with
  | cons a1 a2 =>
   cases h2 with
   | cons b1 b2 =>
    have he:=PySem.SeqAt.eqAt_reads _ _ A s _ _ _ _ a1 b1 (a4z x) (a4z y) (by lia)
    rw [b8f] at he
    simp only [d1n] at e
    split at e
    ·rename_i hq
     rw [hq] at he
     exact .eq he (b6o xs ys A s _ _ _ _ r a2 b2 e (by lia))
    ·rename_i hq
     have hq:D.eqv x y=false:=by simpa using hq
     rw [hq] at he
     exact .ne he (c8z x y A s _ _ _ _ r a1 b1 e (by lia))
end
end Kq
end
section
namespace Kq
open PySem PySem.Spec PyProof.Rows L2
noncomputable def btD (ds:List D) (i j:Nat):Bool:=(ltD (ds.getD i .non) (ds.getD j .non)).getD false
open Classical in
noncomputable def minDF (v:FV):Option FV:=(a1o v).bind fun xs=>(a7v (fD a0n) xs).bind fun ds =>
 if 0 < ds.length∧(∀ x∈ds,∀ y∈ds,(ltD x y).isSome=true)∧∀ ps,xs[argBest (btD ds) (ds.length - 1)]?≠some (.lst ps) then xs[argBest (btD ds) (ds.length - 1)]? else none
section
variable {X:Cx}
end
section
variable {X:Cx} {C:CC} {n:Nat} {sp:Γd→Nat→Sp} {a:Expr} {ea:EW} {pos p:Pos}
end
noncomputable def a1q {κ α:Type} [DecidableEq κ] (ks:List κ) (vs:List α) (k:κ) (v:α):List κ×List α :=
 if k∈ks then (ks,List.zipWith (fun k' v'=>if k'=k then v else v') ks vs) else (ks++[k],vs++[v])
noncomputable def a2o {κ α:Type} [DecidableEq κ]:List κ→List α→κ→Option α
 | k' :: ks,v :: vs,k=>if k'=k then some v else a2o ks vs k
 | _,_,_=>none
theorem b7e {a b:List Int} (h:a.map (Sum.inl:Int→Int ⊕ Option Str)=b.map Sum.inl):a=b:=by
 induction a generalizing b with
 | nil=>cases b with | nil=>rfl | cons=>cases h
 | cons x r ih=>cases b with
  | nil=>cases h
  | cons y q =>
   simp only [List.map_cons,List.cons.injEq,Sum.inl.injEq] at h
   rw [h.1,ih h.2]
theorem a5v:∀ (ks:List (List Int)) (us:List V) (k:List Int),a8o ((a2l ks).zip us) (k.map Sum.inl)=a2o ks us k
 | [],us,k=>by cases us <;> rfl
 | k' :: ks,[],k=>rfl
 | k' :: ks,u :: us,k=>by
  show a8o ((k'.map Sum.inl,u) :: (a2l ks).zip us) (k.map Sum.inl)=if k'=k then some u else a2o ks us k
  by_cases e:k'=k
  ·subst e; rw [a3i rfl,if_pos rfl]
  ·rw [a3j fun z=>e (b7e z),if_neg e]; exact a5v ks us k
theorem a1v {κ α:Type} [DecidableEq κ]:∀ {ks:List κ} {vs:List α} (k:κ),ks.length=vs.length→((a2o ks vs k).isSome=true↔k∈ks)
 | [],vs,k,h=>by simp [a2o]
 | k' :: ks,[],k,h=>by simp at h
 | k' :: ks,v :: vs,k,h=>by
  simp only [a2o]
  by_cases e:k'=k
  ·simp [e]
  ·simp only [e,if_false,List.mem_cons,Ne.symm e,false_or]
   rw [a1v k (by simpa using h)]
theorem b5d (ks:List (List Int)) (us:List V) (k:List Int) (u:V) (hl:ks.length=us.length):a3y ((a2l ks).zip us) (k.map Sum.inl) u=(a2l (a1q ks us k u).1).zip (a1q ks us k u).2:=by
 have hany:(((a2l ks).zip us).any fun kv=>decide (kv.1=k.map Sum.inl))=true↔k∈ks:=by
  rw [a3z,a5v,a1v k hl]
 unfold a3y a1q
 by_cases e:k∈ks
 ·rw [if_pos (hany.mpr e),if_pos e]
  clear e hany
  induction ks generalizing us with
  | nil=>cases us <;> rfl
  | cons k' ks ih=>cases us with
   | nil=>rfl
   | cons u' us =>
    have:=ih us (by simpa using hl)
    show (if k'.map Sum.inl=k.map Sum.inl then (k'.map Sum.inl,u) else (k'.map Sum.inl,u')) :: ((a2l ks).zip us).map _=(k'.map Sum.inl,if k'=k then u else u') :: (a2l ks).zip _
    rw [this]
    congr 1
    by_cases e:k'=k
    ·subst e; simp
    ·rw [if_neg fun z=>e (b7e z),if_neg e]
 ·rw [if_neg fun z=>e (hany.mp z),if_neg e]
  show _=(a2l (ks++[k])).zip (us++[u])
  have:a2l (ks++[k])=a2l ks++[k.map Sum.inl]:=by simp [a2l]
  rw [this,List.zip_append (by simpa [a2l] using hl)]; rfl
theorem a3l {κ α:Type} [DecidableEq κ] (ks:List κ) (vs:List α) (k:κ) (v:α) (h:ks.length=vs.length):(a1q ks vs k v).1.length=(a1q ks vs k v).2.length∧(a1q ks vs k v).1.length≤ks.length + 1:=by
 unfold a1q
 split
 ·simp [h]
 ·simp [h]
section
variable {K:Γd} {S H:Hp}
theorem b5e {κ:Type} [DecidableEq κ] {k:κ} {v:FV} {u:V} (r2:RV K S v u):∀ {ks:List κ} {vs:List FV} {us:List V},RVs K S vs us→RVs K S (List.zipWith (fun k' v'=>if k'=k then v else v') ks vs) (List.zipWith (fun k' v'=>if k'=k then u else v') ks us)
 | [],vs,us,_=>rfl
 | k' :: ks,[],us,r=>by cases (show us=[] from r); rfl
 | k' :: ks,p :: vs,us,⟨x,q,e,h1,h2⟩=>by
  subst e
  refine ⟨_,_,rfl,?_,b5e r2 h2⟩
  by_cases e:k'=k
  ·simp only [e,if_true]; exact r2
  ·simp only [e,if_false]; exact h1
theorem a4c {κ:Type} [DecidableEq κ] {ks:List κ} {vs:List FV} {us:List V} {k:κ} {v:FV} {u:V} (r:RVs K S vs us) (r2:RV K S v u):(a1q ks vs k v).1=(a1q ks us k u).1∧RVs K S (a1q ks vs k v).2 (a1q ks us k u).2:=by
 unfold a1q
 split
 ·exact ⟨rfl,b5e r2 r⟩
 ·exact ⟨rfl,r.append (RVs.one r2)⟩
theorem a5e {κ:Type} [DecidableEq κ]:∀ {ks:List κ} {vs:List FV} {us:List V} {k:κ} {v:FV},RVs K S vs us→a2o ks vs k=some v→∃ u,a2o ks us k=some u∧RV K S v u
 | [],vs,us,k,v,r,e=>by simp [a2o] at e
 | k' :: ks,[],us,k,v,r,e=>by simp [a2o] at e
 | k' :: ks,p :: vs,us,k,v,⟨x,q,e',h1,h2⟩,e=>by
  subst e'
  simp only [a2o] at e ⊢
  by_cases e0:k'=k
  ·rw [if_pos e0] at e ⊢; cases e; exact ⟨x,rfl,h1⟩
  ·rw [if_neg e0] at e ⊢; exact a5e h2 e
theorem a9k {ps:List FV} {k:List Int} {x:V} (r:RV K S (.tup ps) x) (e:a0z ps=some k):∃ b,x=.ref b∧S b=some (.tup ((k.map (Sum.inl:Int→Int ⊕ Option Str)).map kV)):=by
 obtain ⟨b,xs,rfl,h1,h2⟩:=r
 refine ⟨b,rfl,?_⟩
 rw [h1,a2k h2 e,List.map_map]; rfl
variable {c:Cn} {md:Md} {L:a0a} {σ:L2.St}
end
noncomputable def b8m (n m:Nat) (tg:Tg) (t:BW) (ek ev:EW):List FV→List (List Int)→List FV→a0a→(List (List Int)→List FV→a0a→Prop)→Prop
 | [],ks,vs,L,Q=>Q ks vs L
 | x :: xs,ks,vs,L,Q=>gW tg x (L++Γj m none) fun L1=>t L1 fun b L2=>if b=true then ek L2 fun kx L3=>wp (a6d kx) fun ps=>wp (a0z ps) fun k=>ev L3 fun v L4=>b8m n m tg t ek ev xs (a1q ks vs k v).1 (a1q ks vs k v).2 (L4.take n) Q else b8m n m tg t ek ev xs ks vs (L2.take n) Q
noncomputable def eCompD (n m:Nat) (it:AW) (tg:Tg) (t:BW) (ek ev:EW):EW:=fun L Q=>it L fun xs L1=>L1.length=n∧xs.length≤big∧b8m n m tg t ek ev xs [] [] L1 fun ks vs L2=>Q (.dct ks vs) L2
section
variable {K:Γd} {c:Cn} {md:Md} {L:a0a} {σ:L2.St} {S H:Hp}
end
section
variable {X:Cx} {C:CC} {n:Nat} {sp:Γd→Nat→Sp} {pos:Pos} {scope:Scope} {own:List Str} {kx vx tgx iter:Expr} {ifs:List Expr} {it:AW} {tg:Tg} {t:BW} {ek ev:EW} {nn m:Nat} {md':Md}
end
noncomputable def b7h (a b:FV):Option FV:=match b with
 | .dct ks _=>(a6d a).bind fun ps=>(a0z ps).bind fun k=>some (.bl (decide (k∈ks)))
 | .dci ks _=>(a3b a).bind fun k=>some (.bl (decide (k∈ks)))
 | b=>inB a b
noncomputable def b2m (a b:FV):Option FV:=match b with
 | .dct ks _=>(a6d a).bind fun ps=>(a0z ps).bind fun k=>some (.bl (!decide (k∈ks)))
 | .dci ks _=>(a3b a).bind fun k=>some (.bl (!decide (k∈ks)))
 | b=>niB a b
noncomputable def c5r (v w:FV):Option FV:=match v with
 | .dct ks vs=>(a6d w).bind fun ps=>(a0z ps).bind fun k=>a2o ks vs k
 | _=>none
section
variable {X:Cx}
theorem RH.dct {K:Γd} {S H:Hp} {ks:List (List Int)} {vs:List FV} {y:V} (hs:Same S H) (rq:RH K S H (.dct ks vs) y):∃ a us,y=.ref a∧ks.length=vs.length∧H a=some (.dT ((a2l ks).zip us))∧RVs K S vs us:=by
 rcases rq with ⟨a,us,e,hl,h1,h2⟩ | ⟨a,e,_,ps,us,e9,h1,h2⟩
 ·exact ⟨a,us,e,hl,hs _ _ h1,h2⟩
 ·obtain ⟨hl,rfl⟩:=itd e9
  exact ⟨a,us,e,hl,h1,h2⟩
theorem a8j {S H:Hp} {ks:List (List Int)} {vs:List FV} {ps:List FV} {k:List Int} {x y:V} (hs:Same S H) (rp:RH X.K S H (.tup ps) x) (rq:RH X.K S H (.dct ks vs) y) (e:a0z ps=some k):∃ a us,y=.ref a∧ks.length=us.length∧RVs X.K S vs us∧L2.DGet H a x (a2o ks us k):=by
 obtain ⟨a,us,rfl,hl,h1,h2⟩:=rq.dct hs
 obtain ⟨b,rfl,hb⟩:=a9k (rp.val rfl) e
 refine ⟨a,us,rfl,by rw [hl,h2.length],h2,?_⟩
 rw [← a5v]
 exact .t h1 (hs _ _ hb)
theorem a5d:∀ (ks:List Int) (us:List V) (k:Int),a8o ((a2z ks).zip us) (Sum.inl k)=a2o ks us k
 | [],us,k=>by cases us <;> rfl
 | k' :: ks,[],k=>rfl
 | k' :: ks,u :: us,k=>by
  show a8o ((Sum.inl k',u) :: (a2z ks).zip us) (Sum.inl k)=if k'=k then some u else a2o ks us k
  by_cases e:k'=k
  ·subst e; rw [a3i rfl,if_pos rfl]
  ·rw [a3j fun z=>e (Sum.inl.inj z),if_neg e]; exact a5d ks us k
theorem RH.dci {K:Γd} {S H:Hp} {ks:List Int} {vs:List FV} {y:V} (hs:Same S H) (rq:RH K S H (.dci ks vs) y):∃ a us,y=.ref a∧ks.length=vs.length∧H a=some (.dK ((a2z ks).zip us))∧RVs K S vs us:=by
 rcases rq with ⟨a,us,e,hl,h1,h2⟩ | ⟨a,e,_,ps,us,e9,h1,h2⟩
 ·exact ⟨a,us,e,hl,hs _ _ h1,h2⟩
 ·obtain ⟨hl,rfl⟩:=itd e9
  exact ⟨a,us,e,hl,h1,h2⟩
theorem a9r {S H:Hp} {ks:List Int} {vs:List FV} {k:Int} {y:V} (hs:Same S H) (rq:RH X.K S H (.dci ks vs) y):∃ a us,y=.ref a∧ks.length=us.length∧RVs X.K S vs us∧L2.DGet H a (.int k) (a2o ks us k):=by
 obtain ⟨a,us,rfl,hl,h1,h2⟩:=rq.dci hs
 refine ⟨a,us,rfl,by rw [hl,h2.length],h2,?_⟩
 rw [← a5d]
 exact .k (k:=Sum.inl k) h1
theorem d4k (hu:X.A.units + 64 < cLine):OpR X (compareOp .In) (Rq X.K b7h):=by
 intro pins s σ H x y v u Q I rx ry ⟨S,p,q,z,hs,rp,rq,e,k⟩
 cases q with
 | dct ks vs =>
  obtain ⟨ps,e1,e2⟩:=bnd e
  obtain ⟨kk,e3,e4⟩:=bnd e2
  cases a1m e1
  cases e4
  obtain ⟨a,us,rfl,hl,h2,g⟩:=a8j hs rp rq e3
  cases (show u=Value.ref a from ry)
  refine d_in (by lia) I g rx fun s' I'=>⟨.bl _,H,I',rfl,?_⟩
  have:(a2o ks us kk).isSome=decide (kk∈ks):=by rw [Bool.eq_iff_iff,a1v kk hl]; simp
  rw [this]
  exact k.bl
 | dci ks vs =>
  obtain ⟨kk,e1,e4⟩:=bnd e
  cases a1e e1
  cases e4
  cases rp.int
  obtain ⟨a,us,rfl,hl,h2,g⟩:=a9r (k:=kk) hs rq
  cases (show u=Value.ref a from ry)
  refine d_in (by lia) I g rx fun s' I'=>⟨.bl _,H,I',rfl,?_⟩
  have:(a2o ks us kk).isSome=decide (kk∈ks):=by rw [Bool.eq_iff_iff,a1v kk hl]; simp
  rw [this]
  exact k.bl
 | _=>exact q_in hu pins s σ H x y v u Q I rx ry ⟨S,p,_,z,hs,rp,rq,e,k⟩
theorem c7n (hu:X.A.units + 64 < cLine):OpR X (compareOp .NotIn) (Rq X.K b2m):=by
 intro pins s σ H x y v u Q I rx ry ⟨S,p,q,z,hs,rp,rq,e,k⟩
 cases q with
 | dct ks vs =>
  obtain ⟨ps,e1,e2⟩:=bnd e
  obtain ⟨kk,e3,e4⟩:=bnd e2
  cases a1m e1
  cases e4
  obtain ⟨a,us,rfl,hl,h2,g⟩:=a8j hs rp rq e3
  cases (show u=Value.ref a from ry)
  refine b8c (by lia) I g rx fun s' I'=>⟨.bl _,H,I',rfl,?_⟩
  have:(a2o ks us kk).isSome=decide (kk∈ks):=by rw [Bool.eq_iff_iff,a1v kk hl]; simp
  rw [this]
  exact k.bl
 | dci ks vs =>
  obtain ⟨kk,e1,e4⟩:=bnd e
  cases a1e e1
  cases e4
  cases rp.int
  obtain ⟨a,us,rfl,hl,h2,g⟩:=a9r (k:=kk) hs rq
  cases (show u=Value.ref a from ry)
  refine b8c (by lia) I g rx fun s' I'=>⟨.bl _,H,I',rfl,?_⟩
  have:(a2o ks us kk).isSome=decide (kk∈ks):=by rw [Bool.eq_iff_iff,a1v kk hl]; simp
  rw [this]
  exact k.bl
 | _=>exact q_ni hu pins s σ H x y v u Q I rx ry ⟨S,p,_,z,hs,rp,rq,e,k⟩
end
theorem c6v:a6c b7h:=by
 intro v w z e
 cases w with
 | dct ks vs =>
  obtain ⟨ps,_,e⟩:=bnd e
  obtain ⟨k,_,e⟩:=bnd e
  cases e; exact ⟨_,rfl⟩
 | dci ks vs =>
  obtain ⟨k,_,e⟩:=bnd e
  cases e; exact ⟨_,rfl⟩
 | _ =>
  obtain ⟨b,_,rfl⟩:=mpd (show (inF v _).map FV.bl=some z from e)
  exact ⟨_,rfl⟩
theorem c6u:a6c b2m:=by
 intro v w z e
 cases w with
 | dct ks vs =>
  obtain ⟨ps,_,e⟩:=bnd e
  obtain ⟨k,_,e⟩:=bnd e
  cases e; exact ⟨_,rfl⟩
 | dci ks vs =>
  obtain ⟨k,_,e⟩:=bnd e
  cases e; exact ⟨_,rfl⟩
 | _ =>
  obtain ⟨b,_,rfl⟩:=mpd (show (inF v _).map (fun r=>FV.bl (!r))=some z from e)
  exact ⟨_,rfl⟩
section
variable {X:Cx} {C:CC} {n:Nat} {sp:Γd→Nat→Sp} {a b:Expr} {ea eb:EW} {pos p:Pos}
theorem fe_ni2 (G:Good X C n sp) (ha:FE X C a ea) (hb:FR X C b eb) (hm:behindInMarks .NotIn b=false):FE X C (.Compare a [.NotIn] [b] pos) (eOp b2m ea eb):=b2z (c7n G.room.units) ha hb hm
theorem fb_in2 (G:Good X C n sp) (ha:FE X C a ea) (hb:FR X C b eb) (hm:behindInMarks .In b=false):FB X C (.Compare a [.In] [b] pos) (a1j (eOp b7h ea eb)):=a7b c6v (d4k G.room.units) ha hb hm
theorem fb_ni2 (G:Good X C n sp) (ha:FE X C a ea) (hb:FR X C b eb) (hm:behindInMarks .NotIn b=false):FB X C (.Compare a [.NotIn] [b] pos) (a1j (eOp b2m ea eb)):=a7b c6u (c7n G.room.units) ha hb hm
variable {es:List Expr} {k:Nat} {p2:Pos}
theorem d6z (G:Good X C n sp) (ha:FE X C a ea) (hb:FE X C (.Tuple es k p2) eb):FE X C (.Subscript a (.Tuple es k p2) pos) (eOp c5r ea eb) :=
 PE.imp (b0v (X:=X.nox) (by have:=G.room.units; show X.A.units + 1 < cLine; lia) ha hb fun _ _=>rfl) fun σ H Q ⟨c,L,S,Q0,I,h,k⟩ =>
 ⟨c,L,S,_,I,h,fun v L1 hv x S1 H1 r1 I1 s1=>⟨c,L1,S1,_,I1,hv,fun w L2 hw y S2 H2 r2 I2 s2=>by
  obtain ⟨z,e,q⟩:=wpx hw
  cases v with
  | dct ks vs =>
   obtain ⟨ps,e1,e2⟩:=bnd e
   obtain ⟨kk,e3,e4⟩:=bnd e2
   cases a1m e1
   obtain ⟨a,us,rfl,hl,h2,g⟩:=a8j (X:=X) I2.sub (.inl r2) (.inl (r1.mono s2)) e3
   obtain ⟨u,e5,r5⟩:=a5e h2 e4
   rw [e5] at g
   exact ⟨a,u,rfl,g,k z L2 q u S2 H2 r5 I2 (s1.trans s2)⟩
  | _=>cases e⟩⟩
end
section
variable (Q:FV→Prop)
@[scoped simp ↓] theorem k_in2i (k:Int) (ks:List Int) (vs:List FV):wp (b7h (.int k) (.dci ks vs)) Q=Q (.bl (decide (k∈ks))):=propext Iff.rfl
@[scoped simp ↓] theorem k_ni2i (k:Int) (ks:List Int) (vs:List FV):wp (b2m (.int k) (.dci ks vs)) Q=Q (.bl (!decide (k∈ks))):=propext Iff.rfl
@[scoped simp ↓] theorem k_in2t (a:FV) (xs:List FV):wp (b7h a (.tup xs)) Q↔wp (inF a (.tup xs)) fun r=>Q (.bl r):=a1r _ _ _
@[scoped simp ↓] theorem k_in2l (a:FV) (xs:List FV):wp (b7h a (.lst xs)) Q↔wp (inF a (.lst xs)) fun r=>Q (.bl r):=a1r _ _ _
@[scoped simp ↓] theorem k_ni2d (ps:List FV) (ks:List (List Int)) (vs:List FV):wp (b2m (.tup ps) (.dct ks vs)) Q↔wp (a0z ps) fun k=>Q (.bl (!decide (k∈ks))):=by
 show wp ((a0z ps).bind _) Q↔_; rw [a2g]; rfl
@[scoped simp ↓] theorem k_ni2t (a:FV) (xs:List FV):wp (b2m a (.tup xs)) Q↔wp (inF a (.tup xs)) fun r=>Q (.bl (!r)):=a1r _ _ _
@[scoped simp ↓] theorem k_ni2l (a:FV) (xs:List FV):wp (b2m a (.lst xs)) Q↔wp (inF a (.lst xs)) fun r=>Q (.bl (!r)):=a1r _ _ _
@[scoped simp ↓] theorem k_dget (ps:List FV) (ks:List (List Int)) (vs:List FV):wp (c5r (.dct ks vs) (.tup ps)) Q↔wp (a0z ps) fun k=>wp (a2o ks vs k) Q:=by
 show wp ((a0z ps).bind _) Q↔_; rw [a2g]
@[scoped simp ↓] theorem ints_n (Q:List Int→Prop):wp (a0z []) Q=Q []:=propext Iff.rfl
@[scoped simp ↓] theorem ints_c (i:Int) (r:List FV) (Q:List Int→Prop):wp (a0z (.int i :: r)) Q↔wp (a0z r) fun ns=>Q (i :: ns):=by
 show wp ((a0z r).map (i :: ·)) Q↔_; rw [a1r]
end
end Kq
end
section
namespace PySem
section
variable {prog:Program} {w:World} {A:Around} {E:Value→Shared→Prop} {s:Shared}
end
end PySem
namespace Kq
open PySem PySem.Spec PyProof.Rows L2
section
variable {P:Program} {w:World} {A:Around} {E:Value→Shared→Prop} {s:Shared}
end
noncomputable def maxIF (v:FV):Option FV:=(a1o v).bind fun xs=>(a0z xs).bind fun ns=>match ns with
 | n :: r=>some (.int (c4l n r))
 | []=>none
section
variable {X:Cx}
end
section
variable {X:Cx} {C:CC} {n:Nat} {sp:Γd→Nat→Sp} {a:Expr} {ea:EW} {pos p:Pos}
end
end Kq
end
section
namespace PySem
section
variable {prog:Program} {w:World} {A:Around} {E:Value→Shared→Prop} {s:Shared}
end
end PySem
namespace Kq
open PySem PySem.Spec PyProof.Rows L2
section
variable {X:Cx} {a:Expr} {ta:TA} {p p2 pos pos2:Pos}
end
noncomputable def revTF (v:FV):Option FV:=(a1o v).map fun xs=>.tup xs.reverse
end Kq
end
section
namespace Kq
open PySem PySem.Spec PyProof.Rows L2
section
variable {P:Program} {w:World} {A:Around} {E:Value→Shared→Prop} {s:Shared}
end
section
variable {X:Cx}
end
section
variable {X:Cx} {C:CC} {n:Nat} {sp:Γd→Nat→Sp} {a:Expr} {ea:EW} {pos p:Pos}
end
noncomputable def d5o {α:Type} (xs:List α) (k:Nat) (y:α):List α:=xs.take k++y :: xs.drop k
noncomputable def insF (v:FV) (ys:List FV):Option FV:=match ys with
 | [i,y]=>(a6i v).bind fun xs=>(a3b i).bind fun k=>if 0≤k∧k < 4611686018427387904∧xs.length < big then some (.lst (d5o xs k.toNat y)) else none
 | _=>none
noncomputable def eMethA (f:FV→List FV→Option FV) (i:Nat) (as:AW):EW:=fun L Q=>wp (lk L i) fun v=>wp (a6i v) fun _=>as L fun ys L1=>wp (lk L1 i) fun x=>wp (f x ys) fun z=>Q .non (L1.set i (some z))
section
variable {X:Cx}
theorem Vals.take:∀ {xs:List V} {us:List Value} (k:Nat),Vals xs us→Vals (xs.take k) (us.take k)
 | _,_,0,_=>.nil
 | _,_,k + 1,.nil=>.nil
 | _,_,k + 1,.cons r t=>.cons r (Vals.take k t)
theorem Vals.drop:∀ {xs:List V} {us:List Value} (k:Nat),Vals xs us→Vals (xs.drop k) (us.drop k)
 | _,_,0,h=>h
 | _,_,k + 1,.nil=>.nil
 | _,_,k + 1,.cons r t=>Vals.drop k t
end
section
variable {K:Γd} {S:Hp}
theorem RVs.ins {ps:List FV} {vs:List V} {p:FV} {v:V} (k:Nat) (h:RVs K S ps vs) (hp:RV K S p v):RVs K S (d5o ps k p) (d5o vs k v) :=
 (h.take k).append (show RVs K S (p :: ps.drop k) (v :: vs.drop k) from ⟨v,_,rfl,hp,h.drop k⟩)
end
section
variable {X:Cx} {C:CC} {n:Nat} {sp:Γd→Nat→Sp} {a b:Expr} {as:AW} {nx:Str} {p:Pos} {i:Nat}
end
end Kq
end
section
namespace PySem
open Sem (wp)
theorem a6j:typeLookup (.type "list") (Γe "keys")=pure none:=by rw [typeLookup_type,builtinLookup_eq_fast]; kernel_rfl
theorem a4h {prog:Program} {w:World} {A:Around} {E:Value→Shared→Prop} {s:Shared} {a:Addr} {o:Obj} {xs:Array Value} {k:Nat} {name:Str} {Q:Option Value→Shared→Prop}
  (hx:s.heap.get? a=some o) (hc:o.cls=.type "list") (hdat:o.data=.seq xs k) (hd:o.dict=none) (hmiss:typeLookup (.type "list") name=pure none) (hname:(["__module__","__name__","__qualname__","__doc__","__annotations__"]:List Str).contains name=false) (hA:A.handled=none)
  (h:∀ h' tk e,Heap.NewExcOf s.heap h' e "AttributeError"→Q none { s with heap:=h',toks:=tk }) (hsz:name.length + 100≤sizeLine:=by size_fits) :
  wpAny (model prog w) A (getAttr? (.ref a) name) Q E s:=by
 obtain ⟨c,dct,dat,sl⟩:=o
 simp only at hc hdat hd
 subst hc hdat hd
 obtain ⟨hp,g,d,tk,os⟩:=s
 have hT:∀ tk',(⟨hp,g,d,tk',os⟩:Shared).TypeIs (.ref a) "list":=fun _=>⟨_,hx,rfl⟩
 have f1:=sub_AttributeError
 have f3:=F.slot_list_getattribute.lookup
 have f4:=F.slot_list_getattribute.bind (.ref a)
 have f5:=am_list_getattr_none
 unfold getAttr? getAttrBy? getAttrBy
 repeat (any_goals (first | assumption | exact hT _ | ((with_reducible show wpAny _ _ (call (Value.builtin "list.__getattribute__") _ _) _ _ _); refine call_meets F.slot_list_getattribute (hT _) am_entry_list_getattribute (F.args_list_getattribute_2 _ _) (meets_getattribute_miss_list a xs k sl name _ hmiss hname hsz) ⟨hx,hA,fun h' tk' e hx'=>?_⟩) | wp_step))
 obtain ⟨t',u',he⟩:=hx'.there
 show wpAny _ _ (getattributeRaised _ _ _ _ _ _ _) _ _ _
 unfold getattributeRaised
 repeat (any_goals (first | assumption | wp_step))
 exact h _ _ _ hx'.of
end PySem
namespace Kq
open PySem PySem.Spec PyProof.Rows L2
theorem F.entry_dict_update_loop:entryFor table "dict.update.loop" = some Builtin.«dict.update.loop»:=entryFor_of_tree (by kernel_rfl)
theorem F.plain_dict_update_loop:plainId "dict.update.loop" = true:=by nofun
abbrev b0h (H:Hp):List V→List (List Key×V)→Prop:=Paired fun y p=>∃ b kb:Addr,y=.ref b∧H b=some (.tup [.ref kb,p.2])∧H kb=some (.tup (p.1.map kV))
noncomputable def a8n (P:Program) (w:World) (h:Heap) (D:Addr) (xs:List (List Key×Addr×Value)):Prop :=
 ∃ o es ep,h.get? D=some o∧o.ExactDict∧o.data=.dict es ep∧es.toList=xs.map (entryOfKey (tupleKind (a0k P w)))∧(xs.map (·.1)).Nodup
section
variable {P:Program} {w:World} {A:Around} {R:Result→Shared→Prop} {H:Hp} {h0:Heap} {it l D:Addr} {items:Array Value}
theorem b6p (ok:HOk P w H h0) {h:Heap} (kp:L2.Kept h0 h h0.objs.size) {a:Addr} {ks:List Key} (e:H a=some (.tup (ks.map kV))):(tupleKind (a0k P w)).is h ks a:=by
 obtain ⟨o,its,n,h1,h2⟩:=a5r ok e
 exact ⟨o,its,n,kp a o (Γl h1) h1,h2⟩
theorem b9u (ok:HOk P w H h0) {h:Heap} (kp:L2.Kept h0 h h0.objs.size) {kvs:List (List Key×V)} {xs:List (List Key×Addr×Value)} (r:KT H kvs xs) (d:a8n P w h D xs):h.DictOfH (tupleKind (a0k P w)) D xs:=by
 obtain ⟨o,es,ep,h1,h2,h3,h4,h5⟩:=d
 refine ⟨o,es,ep,h1,h2,h3,h4,fun x hx=>?_,h5⟩
 have all:∀ {l:List (List Key×V)} {m:List (List Key×Addr×Value)},KT H l m→∀ x∈m,(tupleKind (a0k P w)).is h x.1 x.2.1:=by
  intro l m q
  induction q with
  | nil=>intro x hx; exact nomatch hx
  | @cons p q ps qs hq t ih =>
   intro x hx
   rcases List.mem_cons.mp hx with e | hx
   ·subst e
    exact b6p ok kp (by rw [← hq.1]; exact hq.2.1)
   ·exact ih x hx
 exact all r x hx
theorem c5m (ok:HOk P w H h0) (hu:A.in1.units < cLine) (hh:A.in1.handled=none) (hl:h0.IsList l items) (hit:h0.objs.size≤it) (hD:h0.objs.size≤D) (hne:D≠it) :
  ∀ (rest:List (List Key×V)) (ys:List V) (us:List Value) (i:Nat) (s:Shared) (kvs:List (List Key×V)) (xs:List (List Key×Addr×Value)),items.toList.drop i=us→i≤items.size→Vals ys us→b0h H ys rest→s.heap.IsListIter it l i→L2.Kept h0 s.heap h0.objs.size→KT H kvs xs→a8n P w s.heap D xs→kvs.length + rest.length≤sizeLine →
  (∀ h' tk xs',KT H (rest.foldl (fun k p=>a3y k p.1 p.2) kvs) xs'→a8n P w h' D xs'→L2.Kept h0 h' h0.objs.size→R (.ok (.ret .none)) { s with heap:=h',toks:=tk }) →
  codeAny (model P w) A (.builtin "dict.update.loop" ⟨[.ref D,.ref it,.int (i:Int) 0,.none],[]⟩) R s:=by
 have ll:l < h0.objs.size:=by obtain ⟨_,e,_⟩:=hl; exact Γl e
 have W:=Walks.list (prog:=P) (w:=w) (A:=A.in1) hh it l (Γo (Nat.lt_of_lt_of_le ll hit)) items
 have lst:∀ {h:Heap},L2.Kept h0 h h0.objs.size→h.IsList l items:=fun {h} kp=>hl.at fun o e=>kp l o ll e
 intro rest
 induction rest with
 | nil =>
  intro ys us i s kvs xs hd hi hv hp hst kp hk hr hz hR
  cases hp
  cases hv
  have en:i=items.size:=by
   have:=congrArg List.length hd
   simp at this
   lia
  refine codeAny_builtin F.entry_dict_update_loop ?_; rw [PySem.Around.under_plainId F.plain_dict_update_loop _]
  show wpAny _ A.in1 (pyNext (.ref it) >>= _) _ _ s
  refine Γa (W.done s _ _ (by rw [← en]; exact ⟨hst,lst kp⟩) fun g tk kk=>?_)
  show wpAny _ A.in1 (Builtin.Dict.addKeywords D [] >>= _) _ _ _
  refine Γa (Γb (Γb ?_))
  have low:∀ {b:Addr},b < h0.objs.size→b ∉ [it]:=fun {b} hb=>by simp; exact Γo (Nat.lt_of_lt_of_le hb hit)
  obtain ⟨o,es,ep,h1,h2⟩:=hr
  exact hR g tk xs hk ⟨o,es,ep,kk D o (by simp; exact hne) h1,h2⟩ fun b o hb e=>kk b o (low hb) (kp b o hb e)
 | cons p rest ih =>
  intro ys us i s kvs xs hd hi hv hp hst kp hk hr hz hR
  cases hp with
  | @cons y _ ys' _ hpq hp' =>
  obtain ⟨b,kb,rfl,hb,hkb⟩:=hpq
  cases hv with
  | @cons _ u _ us' ru hv' =>
  cases (show u=Value.ref b from ru)
  have hi':items[i]?=some (.ref b):=by
   have:=congrArg (fun l:List Value=>l[0]?) hd
   simpa using this
  have lt:i < items.size:=(Array.getElem?_eq_some_iff.mp hi').1
  have hd':items.toList.drop (i + 1)=us':=by
   have:=congrArg List.tail hd
   simpa using this
  obtain ⟨_,its,rt,o,e1,e2,n,e3⟩:=(show ObjOk P w H h0 b (.tup [.ref kb,p.2]) from ok b _ hb)
  cases rt with
  | @cons _ u1 _ t1 r1 rt =>
  cases (show u1=Value.ref kb from r1)
  cases rt with
  | @cons _ u2 _ t2 r2 rt =>
  cases rt
  have low:∀ {b:Addr},b < h0.objs.size→b ∉ [it]:=fun {b} hb=>by simp; exact Γo (Nat.lt_of_lt_of_le hb hit)
  refine codeAny_builtin F.entry_dict_update_loop ?_; rw [PySem.Around.under_plainId F.plain_dict_update_loop _]
  show wpAny _ A.in1 (pyNext (.ref it) >>= _) _ _ s
  refine Γa (W.item i s _ _ lt ⟨hst,lst kp⟩ fun v g tk vP st1 kk=>?_)
  have vP:items[i]?=some v:=vP
  rw [hi'] at vP
  cases vP
  have kp1:L2.Kept h0 g h0.objs.size:=fun b o hb e=>kk b o (low hb) (kp b o hb e)
  have hr1:a8n P w g D xs:=by
   obtain ⟨o,es,ep,h1,h2⟩:=hr
   exact ⟨o,es,ep,kk D o (by simp; exact hne) h1,h2⟩
  have eb:g.get? b=some o:=kp1 b o (Γl e1) e1
  show wpAny _ A.in1 (holding [Value.ref b] _ >>= _) _ _ _
  refine Γa (Γg (Γa (wpAny_tryCatch ?_)))
  unfold Builtin.Dict.pairItems
  refine Γa (wpAny_typeOf (show Shared.TypeIs _ (.ref b) "tuple" from ⟨o,eb,e2⟩) ?_)
  rw [if_pos (by decide)]
  refine Γa (wpAny_seqItems eb e3 (Γb ?_))
  show wpAny _ A.in1 (holding [Value.ref kb,u2] (dictSet D (.ref kb) u2)) _ _ _
  have hz1:xs.length≤sizeLine:=by
   have:=Paired.length hk
   simp only [List.length_cons] at hz
   lia
  refine Γg (wpAny_dictSet_heap (knd:=tupleKind (a0k P w)) (hsz:=hz1) hu (b6p ok kp1 hkb) (b9u ok kp1 hk hr1) fun h' dd' hs=>?_)
  obtain ⟨q,es,ep,hq,h2',h3',h4',h5',h6'⟩:=dd'
  have kp2:L2.Kept h0 h' h0.objs.size:=fun b o hb e=>(hs.2 b (fun z=>absurd hb (by rw [z]; exact Nat.not_lt.mpr hD))).trans (kp1 b o hb e)
  have hit':h'.IsListIter it l (i + 1):=by
   obtain ⟨o,x1,x2⟩:=st1.1
   exact ⟨o,(hs.2 it (Ne.symm hne)).trans x1,x2⟩
  have en:(i:Int) + 1=((i + 1:Nat):Int):=by lia
  show wpAny _ A.in1 (again (.builtin "dict.update.loop" ⟨[.ref D,.ref it,rawInt ((i:Int) + 1),.none],[]⟩)) _ _ _
  rw [en]
  refine Γb ⟨plainId_quiet F.plain_dict_update_loop _,ih ys' us' (i + 1) _ (a3y kvs p.1 p.2) _ hd' lt hv' hp' hit' kp2 (hk.put p.1 hkb r2) ⟨q,es,ep,hq,h2',h3',h4',h6'⟩ ?_ fun h'' tk' xs' x1 x2 x3=>hR h'' tk' xs' x1 x2 x3⟩
  have:=a2j kvs p.1 p.2
  simp only [List.length_cons] at hz
  lia
end
section
variable {X:Cx} {pins:List (Addr×Obj)} {σ:L2.St} {H:Hp} {s:Shared} {A:Around} {E:Value→Shared→Prop}
theorem a6b {l:Addr} {ys:List V} {ps:List (List Key×V)} {Q:Value→Shared→Prop} (hu:A.in1.in1.units < cLine) (hh:A.in1.in1.handled=none) (I:Inv X pins σ H s) (hl:SqL X.K H l ys) (hp:b0h H ys ps)
  (h:∀ p s',H p=none→Inv X pins σ (upd H p (.dT (ps.foldl (fun k q=>a3y k q.1 q.2) []))) s'→Q (.ref p) s'):wpAny (model X.prog X.w) A (call (.type "dict") [.ref l]) Q E s:=by
 obtain ⟨its,rv,pl,hz⟩:=I.list hl
 have hll:=pl.isList
 have lp:ys.length=ps.length:=Paired.length hp
 have ll:l < s.heap.objs.size:=by obtain ⟨_,e,_⟩:=hll; exact Γl e
 refine callType_codes (Q₁:=fun obj s₁=>obj=.ref s.heap.objs.size∧s₁ = { s with heap:=s.heap.push { cls:=.type "dict",data:=.dict #[] } }) PySem.F.kt_called_dict (PySem.F.kt_typeCall_dict_1 _) PySem.F.entry_dict_init (kt_code_dict_new _ ⟨rfl,rfl⟩) ?_
 rintro obj s₁ ⟨rfl,rfl⟩
 have nD:(s.heap.push { cls:=.type "dict",data:=.dict #[] }).get? s.heap.objs.size=some { cls:=.type "dict",data:=.dict #[] }:=Γm _ rfl
 have hT:Shared.TypeIs { s with heap:=s.heap.push { cls:=.type "dict",data:=.dict #[] } } (.ref s.heap.objs.size) "dict":=⟨_,nD,rfl⟩
 refine ⟨hT,PySem.F.args_dict_init_2 _ _,?_⟩
 unfold Builtin.«dict.__init__»
 refine Γa ?_
 unfold Builtin.Dict.selfAndRest
 refine Γa (wpAny_notOrdered_dict hT ?_)
 show wpAny _ _ (pure (s.heap.objs.size,[Value.ref l])) _ _ _
 refine Γb ?_
 show wpAny _ _ (Builtin.Dict.updateFrom "dict.__init__" s.heap.objs.size (.ref l) [] .none) _ _ _
 unfold Builtin.Dict.updateFrom
 have hl1:(s.heap.push { cls:=.type "dict",data:=.dict #[] }).IsList l its.toArray:=hll.push _
 refine Γa (wpAny_typeOf hl1.typeIs ?_)
 rw [if_pos (by decide)]
 obtain ⟨o,n,f1,f2,f3,f4⟩:=pl
 refine Γa (a4h (Γc _ f1) f2 f4 f3 a6j (by nofun) hh (fun h' tk e hx=>?_) (by nofun))
 rw [if_pos (show (none:Option Value).isNone=true from rfl)]
 refine Γa (wpAny_rule (Γa (wpAny_pyIter_list (hl1.at fun o e=>hx.keeps _ _ e) (Γb ⟨plainId_quiet F.plain_dict_update_loop _,?_⟩))))
 have kp:∀ b o,s.heap.get? b=some o→(h'.push { cls:=.type "list_iterator",data:=.fields #[.ref l,.int 0 0] }).get? b=some o:=fun b o e=>Γc _ (hx.keeps _ _ (Γc _ e))
 have d1:=hx.keeps _ _ nD
 have lD:s.heap.objs.size < h'.objs.size:=Γl d1
 refine c5m (P:=X.prog) (w:=X.w) (A:=A.in1) (h0:=s.heap) (H:=H) I.hok hu hh hll (Nat.le_of_lt lD) (Γi _) (Γo lD) ps ys its 0 _ [] [] (by simp) (Nat.zero_le _) rv hp ⟨_,Γm _ rfl,rfl,rfl⟩ (fun b o _ e=>kp b o e) .nil
  ⟨_,#[],0,Γc _ d1,⟨rfl,rfl,rfl⟩,rfl,rfl,List.nodup_nil⟩ (by simp; lia) fun h'' tk' xs' x1 x2 x3=>⟨rfl,h _ _ (I.hok.fresh (Γi _)) ?_⟩
 obtain ⟨q,es,ep,hq,h2',h3',h4',h6'⟩:=x2
 refine I.laid (a:=s.heap.objs.size) (t':=tk') (fun b u e=>x3 b u (Γl e) e) (Γi _) ⟨?_,beq_eq_false_iff_ne.mpr (Ne.symm (Γo I.big)),xs',x1.keeps fun c ys ec=>?_,q,es,ep,hq,h2',h3',h4',h6'⟩
 ·have:∀ (ps kvs:List (List Key×V)),(ps.foldl (fun k q=>a3y k q.1 q.2) kvs).length≤kvs.length + ps.length:=by
   intro ps
   induction ps with
   | nil=>intro kvs; exact Γi _
   | cons p r ih =>
    intro kvs
    have a:=ih (a3y kvs p.1 p.2)
    have b:=a2j kvs p.1 p.2
    simp only [List.foldl_cons,List.length_cons]
    lia
  have:=this ps []
  simp only [List.length_nil] at this
  lia
 ·have:c≠s.heap.objs.size:=fun z=>by rw [z,I.hok.fresh (Γi _)] at ec; cases ec
  rw [a0d this]; exact ec
end
end Kq
end
section
namespace Kq
open PySem PySem.Spec PyProof.Rows L2
noncomputable def b5t:FV→Option (List Int×FV)
 | .tup [.tup ks,v]=>(a0z ks).map fun k=>(k,v)
 | _=>none
noncomputable def a6u:List FV→Option (List (List Int×FV))
 | []=>some []
 | x :: r=>(b5t x).bind fun p=>(a6u r).map fun q=>p :: q
noncomputable def a1k {α:Type}:List (List Int×α)→List (List Int)→List α→List (List Int)×List α
 | [],ks,vs=>(ks,vs)
 | p :: r,ks,vs=>a1k r (a1q ks vs p.1 p.2).1 (a1q ks vs p.1 p.2).2
noncomputable def c5o (v:FV):Option FV:=(a1o v).bind fun xs=>(a6u xs).bind fun ps=>some (.dct (a1k ps [] []).1 (a1k ps [] []).2)
section
variable {K:Γd} {S:Hp}
theorem b5s {x:FV} {p:List Int×FV} (e:b5t x=some p):∃ ks,x=.tup [.tup ks,p.2]∧a0z ks=some p.1:=by
 unfold b5t at e
 split at e
 ·obtain ⟨k,e1,rfl⟩:=mpd e
  exact ⟨_,rfl,e1⟩
 ·cases e
theorem a8z:∀ {xs:List FV} {ys:List V} {ps:List (List Int×FV)},RVs K S xs ys→a6u xs=some ps→∃ qs:List (List Int×V),b0h S ys (qs.map fun q=>(q.1.map Sum.inl,q.2))∧qs.map (·.1)=ps.map (·.1)∧RVs K S (ps.map (·.2)) (qs.map (·.2))
 | [],ys,ps,r,e=>by
  cases (show ys=[] from r)
  cases e
  exact ⟨[],.nil,rfl,rfl⟩
 | x :: xs,ys,ps,⟨v,r,e0,h1,h2⟩,e=>by
  subst e0
  obtain ⟨p,e1,e2⟩:=bnd e
  obtain ⟨q,e3,rfl⟩:=mpd e2
  obtain ⟨ks,rfl,e4⟩:=b5s e1
  obtain ⟨qs,g1,g2,g3⟩:=a8z h2 e3
  obtain ⟨b,zs,rfl,hb,hz⟩:=h1
  obtain ⟨u1,u2,rfl,r1,r2⟩:=hz.two_of
  obtain ⟨kb,rfl,hk⟩:=a9k r1 e4
  exact ⟨(p.1,u2) :: qs,.cons ⟨b,kb,rfl,hb,hk⟩ g1,by simp [g2],⟨u2,_,rfl,r2,g3⟩⟩
theorem a6s {α:Type}:∀ (ps:List (List Int×α)) (ks:List (List Int)) (vs:List α),ks.length=vs.length→(a1k ps ks vs).1.length=(a1k ps ks vs).2.length
 | [],ks,vs,h=>h
 | p :: r,ks,vs,h=>a6s r _ _ (a3l ks vs p.1 p.2 h).1
theorem a6p:∀ (qs:List (List Int×V)) (ks:List (List Int)) (us:List V),ks.length=us.length→(qs.map fun q=>((q.1.map Sum.inl:List Key),q.2)).foldl (fun k q=>a3y k q.1 q.2) ((a2l ks).zip us)=(a2l (a1k qs ks us).1).zip (a1k qs ks us).2
 | [],ks,us,h=>rfl
 | q :: r,ks,us,h=>by
  rw [List.map_cons,List.foldl_cons,b5d ks us q.1 q.2 h]
  exact a6p r _ _ (a3l ks us q.1 q.2 h).1
theorem a6q:∀ {ps:List (List Int×FV)} {qs:List (List Int×V)} {ks:List (List Int)} {vs:List FV} {us:List V},qs.map (·.1)=ps.map (·.1)→RVs K S (ps.map (·.2)) (qs.map (·.2))→RVs K S vs us→(a1k ps ks vs).1=(a1k qs ks us).1∧RVs K S (a1k ps ks vs).2 (a1k qs ks us).2
 | [],[],ks,vs,us,_,_,r=>⟨rfl,r⟩
 | [],q :: qs,ks,vs,us,e,_,_=>by cases e
 | p :: ps,[],ks,vs,us,e,_,_=>by cases e
 | p :: ps,q :: qs,ks,vs,us,e,⟨v,r',e0,h1,h2⟩,r=>by
  simp only [List.map_cons,List.cons.injEq] at e e0
  obtain ⟨e1,e2⟩:=e
  obtain ⟨e3,e4⟩:=e0
  subst e3
  rw [← e4] at h2
  obtain ⟨g1,g2⟩:=a4c (ks:=ks) (k:=p.1) r h1
  have:=a6q (ks:=(a1q ks vs p.1 p.2).1) e2 h2 g2
  show (a1k ps (a1q ks vs p.1 p.2).1 (a1q ks vs p.1 p.2).2).1=(a1k qs (a1q ks us q.1 q.2).1 (a1q ks us q.1 q.2).2).1∧RVs K S (a1k ps (a1q ks vs p.1 p.2).1 (a1q ks vs p.1 p.2).2).2 (a1k qs (a1q ks us q.1 q.2).1 (a1q ks us q.1 q.2).2).2
  rw [e1,← g1]
  exact this
end
section
variable {X:Cx}
noncomputable def d4c (X:Cx):List V→Hp→VK→Prop:=fun xs H Q=>∃ (a:Addr) (ys:List V) (ps:List (List Key×V)),xs=[.ref a]∧SqL X.K H a ys∧b0h H ys ps∧∀ p,H p=none→Q (.ref p) (upd H p (.dT (ps.foldl (fun k q=>a3y k q.1 q.2) [])))
theorem d0m (hc:X.calm=true) (hu:X.A.units + 64 < cLine):a1l X (.type "dict") (d4c X):=by
 rintro pins s σ H xs us Q I r ⟨a,ys,ps,rfl,hl,hp,k⟩
 obtain ⟨u,rfl,ru⟩:=a3o r
 cases (show u=Value.ref a from ru)
 have h1:X.A.in1.handled=none:=I.ok.hd hc
 refine a6b ?_ ?_ I hl hp fun p s' hp' I'=>⟨.ref p,_,I',rfl,k p hp'⟩
 ·show X.A.units + 1 + 1 < cLine
  lia
 ·exact h1
end
section
variable {X:Cx} {C:CC} {n:Nat} {sp:Γd→Nat→Sp} {a b:Expr} {ea eb:EW} {pos p:Pos}
theorem d6x (G:Good X C n sp) (hg:C.gl (Γe "dict")=true) (hs:a0h a=false) (ha:FR X C a ea):FE X C (.Call (.Name (Γe "dict") p) [a] [] pos) (eUn c5o ea) :=
 PE.imp (a5n (d0m G.calm G.room.units) (G.gl hg) (G.blt "dict" (by decide)) (by nofun) (a0t ha a2n (a0f hs)) (by nofun) (by nofun) (a0f hs) rfl) fun σ H Q ⟨c,L,S,Q0,I,h,k⟩ =>
 ⟨c,L,S,_,I,h,fun v L1 hv x S1 H1 r1 I1 s1=>by
  obtain ⟨z,e,q⟩:=wpx hv
  obtain ⟨xs,e1,e2⟩:=bnd e
  obtain ⟨ps,e3,e4⟩:=bnd e2
  cases e4
  obtain ⟨a,ys,rfl,hq,ry⟩:=r1.list I1.sub e1
  obtain ⟨qs,g1,g2,g3⟩:=a8z ry e3
  have hp:b0h H1 ys (qs.map fun q=>(q.1.map Sum.inl,q.2)):=Paired.mapP g1 fun _ _ ⟨b,kb,f1,f2,f3⟩=>⟨b,kb,f1,I1.sub _ _ f2,I1.sub _ _ f3⟩
  refine ⟨a,ys,_,rfl,hq,hp,fun p hp0=>?_⟩
  have ev:=a6p qs [] [] rfl
  obtain ⟨h1,h2⟩:=a6q (ks:=[]) (vs:=[]) (us:=[]) g2 g3 (show RVs X.K S1 [] [] from rfl)
  rw [show (a2l []).zip ([]:List V)=[] from rfl] at ev
  rw [ev]
  refine k _ L1 q _ _ _ ?_ (I1.new hp0 _) (s1.trans (a0i (I1.sn hp0)))
  exact ⟨p,_,rfl,a6s ps [] [] rfl,by rw [h1]; exact a0e,h2.mono (a0i (I1.sn hp0))⟩⟩
end
@[scoped simp ↓] theorem f_dict (v:FV) (Q:FV→Prop):wp (c5o v) Q↔wp (a1o v) fun xs=>wp (a6u xs) fun ps=>Q (.dct (a1k ps [] []).1 (a1k ps [] []).2):=by
 show wp ((a1o v).bind _) Q↔_
 simp only [a2g]; rfl
noncomputable def iZipN (i:Nat) (eb:EW):AW:=fun L Q=>wp (lk L i) fun _=>eb L fun y L1=>wp (lk L1 i) fun x=>wp (a4w x) fun xs=>wp (a4w y) fun ys=>Q (a2y xs ys) L1
section
variable {X:Cx} {C:CC} {n:Nat} {sp:Γd→Nat→Sp} {b:Expr} {eb:EW} {pos p p2 tp:Pos} {i kk:Nat} {nx:Str} {elts:List Expr}
end
end Kq
end
section
namespace L2
open PySem PySem.Spec PyProof.Rows
noncomputable def d1a (h:Heap) (z TI TO:Addr) (f m:Value):Prop:=h.get? z=some { cls:=.type "zip",data:=.fields #[f,m,.bool false,.ref TI,.ref TO] }
section
variable {P:Program} {w:World} {A:Around} {E:Value→Shared→Prop} {s:Shared} {z TI TO:Addr} {f m:Value}
end
section
variable {P:Program} {w:World} {A:Around} {E:Value→Shared→Prop} {s:Shared} {p q:Bool} {z TI TO i1 i2 l1 l2:Addr} {k1 k2:Nat} {xs ys:Array Value} {x y a b f m:Value}
end
section
variable {X:Cx}
end
end L2
end
section
namespace Kq
open PySem PySem.Spec PyProof.Rows L2
section
variable {X:Cx} {C:CC} {n:Nat} {sp:Γd→Nat→Sp} {a b:Expr} {ea eb:EW} {pos p tp:Pos} {nt:Str}
end
noncomputable def a7r (o:HO):Prop:=∀ xs,o≠.tup xs
theorem b5u {v:FV} {xs:List V}:a7r (c4e v xs):=fun ys z=>by
 have:=a4o v xs
 rw [show c4e v xs=.tup ys from z] at this
 cases this
mutual
noncomputable def noL:FV→Bool
 | .lst _=>false
 | .scr _=>false
 | .tup xs=>b3n xs
 | .dct _ _=>false
 | .dci _ _=>false
 | .dcz _ _ _=>false
 | .obj _ _ _ _=>false | .dcn _ _ _=>false
 | _=>true
noncomputable def b3n:List FV→Bool
 | []=>true
 | x :: r=>noL x && b3n r
end
noncomputable def d0x (i:Nat) (r:AW):AW:=fun L Q=>wp (lk L i) fun _=>r L fun xs L1=>wp (lk L1 i) fun x=>Q (x :: xs) L1
noncomputable def a9q (call:CW) (f:Nat) (a:AW):EW:=fun L Q=>a L fun xs L1=>call f xs fun z=>noL z.1=true∧Q z.1 L1
noncomputable def eCallM (call:CW) (f:Nat) (a:AW):EW:=fun L Q=>a L fun xs L1=>call f xs fun z=>wp (a6i z.1) fun ps=>b3n ps=true∧Q z.1 L1
noncomputable def RHs (K:Γd) (S H:Hp) (os:List Addr):List FV→List V→Prop
 | [],vs=>vs=[]
 | p :: ps,vs=>∃ v r,vs=v :: r∧(RV K S p v ∨ ∃ a,v=.ref a∧a∈os∧a2u K S H a p)∧RHs K S H os ps r
noncomputable def lah (K:Γd) (md:Md) (e:AW):TA:=fun σ H Q=>∃ c L S Q0,Iv K c md L σ S H∧e L Q0∧∀ v L',Q0 v L'→∀ x S' H' os,RHs K S' H' os v x→(∀ a∈os,S' a=none∧∃ o,H' a=some o∧a7r o)→Iv K c md L' σ S' H'→Same S S'→Q x H'
noncomputable def FAh (X:Cx) (C:CC) (x:List Expr) (e:AW):Prop:=PA X.nox x (lah X.K C.md e)
section
variable {K:Γd} {S H S' H':Hp} {os os':List Addr}
theorem RHs.more:∀ {ps:List FV} {vs:List V},RHs K S H os ps vs→(∀ a∈os,a∈os')→RHs K S H os' ps vs
 | [],vs,h,_=>h
 | p :: ps,vs,⟨v,r,e,h1,h2⟩,k=>⟨v,r,e,h1.imp_right fun ⟨a,e,m,o⟩=>⟨a,e,k a m,o⟩,RHs.more h2 k⟩
noncomputable def a4v (S H:Hp) (os:List Addr):Hp:=fun a=>if a∈os then H a else S a
theorem a4m (h:∀ a∈os,S a=none∧∃ o,H a=some o∧a7r o):Same S (a4v S H os):=fun a o e=>by
 unfold a4v
 by_cases m:a∈os
 ·rw [(h a m).1] at e; cases e
 ·rw [if_neg m]; exact e
theorem b4k (s:Same S H):Same (a4v S H os) H:=fun a o e=>by
 unfold a4v at e
 by_cases m:a∈os
 ·rw [if_pos m] at e; exact e
 ·rw [if_neg m] at e; exact s a o e
theorem RHs.vals (h:∀ a∈os,S a=none∧∃ o,H a=some o∧a7r o):∀ {ps:List FV} {vs:List V},RHs K S H os ps vs→RVs K (a4v S H os) ps vs
 | [],vs,e=>e
 | p :: ps,vs,⟨v,r,e,h1,h2⟩=>by
  refine ⟨v,r,e,?_,RHs.vals h h2⟩
  rcases h1 with h1 | ⟨a,rfl,m,o1,qs,xs,e9,o2,o3⟩
  ·exact h1.mono (a4m h)
  ·have o4:a4v S H os a=some (c4e p xs):=by unfold a4v; rw [if_pos m]; exact o2
   have o5:=o3.mono (a4m h)
   cases p with
   | lst ps=>cases e9; exact ⟨a,xs,rfl,o4,o5⟩
   | dct ks ws=>obtain ⟨hl,rfl⟩:=itd e9; exact ⟨a,xs,rfl,hl,o4,o5⟩
   | dci ks ws=>obtain ⟨hl,rfl⟩:=itd e9; exact ⟨a,xs,rfl,hl,o4,o5⟩
   | dcz o ks ws=>obtain ⟨hl,rfl⟩:=itd e9; exact ⟨a,xs,rfl,hl,o4,o5⟩
   | obj C dx fs gs=>cases e9; exact ⟨a,rfl,o4⟩
   | dcn z ks ws=>obtain ⟨hl,rfl⟩:=itd e9; exact ⟨a,xs,rfl,hl,o4,o5⟩
   | _=>cases e9
noncomputable def a7z (S:Hp) (os:List Addr):Hp:=fun a=>if a∈os then none else S a
mutual
theorem RV.less {K:Γd} {S:Hp} {os:List Addr} (h:∀ a∈os,∃ o,S a=some o∧a7r o):∀ {p:FV} {v:V},noL p=true→RV K S p v→RV K (a7z S os) p v
 | .non,v,_,e=>e
 | .bl b,v,_,e=>e
 | .int i,v,_,e=>e
 | .str _,v,_,e=>e
 | .shn _,v,_,e=>e
 | .tup ps,v,n,⟨a,xs,e,h1,h2⟩=>⟨a,xs,e,by
   unfold a7z
   rw [if_neg fun m=>by obtain ⟨zs,z,n⟩:=h a m; rw [z] at h1; cases h1; exact n _ rfl]; exact h1,RVs.less h (by simpa [noL] using n) h2⟩
 | .dct ks vs,v,n,_=>by simp [noL] at n
 | .dci ks vs,v,n,_=>by simp [noL] at n
 | .dcz _ ks vs,v,n,_=>by simp [noL] at n
 | .obj _ _ _ _,v,n,_=>by simp [noL] at n
 | .dcn _ _ _,v,n,_=>by simp [noL] at n
 | .lst ps,v,n,_=>by simp [noL] at n
 | .scr ps,v,n,_=>by simp [noL] at n
theorem RVs.less {K:Γd} {S:Hp} {os:List Addr} (h:∀ a∈os,∃ o,S a=some o∧a7r o):∀ {ps:List FV} {vs:List V},b3n ps=true→RVs K S ps vs→RVs K (a7z S os) ps vs
 | [],vs,_,e=>e
 | p :: ps,vs,n,⟨v,r,e,h1,h2⟩=>by
  have n:noL p=true∧b3n ps=true:=by simpa [b3n] using n
  exact ⟨v,r,e,RV.less h n.1 h1,RVs.less h n.2 h2⟩
end
variable {c:Cn} {md:Md} {L:a0a} {σ:L2.St}
theorem c4o (I:Iv K c md L σ S H) (h:∀ a∈os,S a=none∧∃ o,H a=some o∧a7r o) {w:FV} (k:Kept K (a4v S H os) H S' H' none w):Iv K c md L σ (a7z S' os) H'∧Same S (a7z S' os):=by
 have s:Same S (a7z S' os):=fun a o e=>by
  unfold a7z
  by_cases m:a∈os
  ·rw [(h a m).1] at e; cases e
  ·rw [if_neg m]; exact k.same a o (a4m h a o e)
 refine ⟨I.go3 s (fun a o e=>?_) (fun a o e=>?_) fun a o e=>k.keep a o e (by simp),s⟩
 ·unfold a7z at e
  by_cases m:a∈os
  ·rw [if_pos m] at e; cases e
  ·rw [if_neg m] at e; exact k.sub a o e
 ·unfold a7z at e
  by_cases m:a∈os
  ·rw [if_pos m] at e; cases e
  ·rw [if_neg m] at e
   rcases k.grow a o e with e2 | e2
   ·unfold a4v at e2
    rw [if_neg m] at e2
    exact .inl e2
   ·exact .inr e2
theorem c4p (h:∀ a∈os,S a=none∧∃ o,H a=some o∧a7r o) {w:FV} (k:Kept K (a4v S H os) H S' H' none w):∀ a∈os,∃ o,S' a=some o∧a7r o:=fun a m=>by
 obtain ⟨o,e,n⟩:=(h a m).2
 exact ⟨o,k.same a _ (by unfold a4v; rw [if_pos m]; exact e),n⟩
end
section
variable {X:Cx} {C:CC} {n:Nat} {sp:Γd→Nat→Sp} {a:Expr} {ea:EW} {pos p:Pos} {call:CW} {f i:Nat} {nx:Str} {xs:List Expr} {as:AW}
theorem fah_of (h:FA X C xs as):FAh X C xs as:=PA.imp h fun σ H Q ⟨c,L,S,Q0,I,h,k⟩=>⟨c,L,S,Q0,I,h,fun v L' q x S' H' r I' s=>by
 have:∀ {ps:List FV} {vs:List V},RVs X.K S' ps vs→RHs X.K S' H' [] ps vs:=by
  intro ps
  induction ps with
  | nil=>intro vs h; exact h
  | cons p ps ih=>intro vs ⟨v,r,e,h1,h2⟩; exact ⟨v,r,e,.inl h1,ih h2⟩
 exact k v L' q x S' H' [] (this r) (fun a h=>by simp at h) I' s⟩
theorem d2d (hs:a0h a=false) (ha:FE X C a ea) (hr:FAh X C xs as):FAh X C (a :: xs) (a0b ea as):=PA.imp (a0t ha hr (a0f hs)) fun σ H Q ⟨c,L,S,Q0,I,h,k⟩ =>
 ⟨c,L,S,_,I,h,fun v L1 hv x S1 H1 r1 I1 s1=>⟨c,L1,S1,_,I1,hv,fun vs L2 hvs us S2 H2 os r2 ho I2 s2=>k _ L2 hvs _ S2 H2 os ⟨x,us,rfl,.inl (r1.mono s2),r2⟩ ho I2 (s1.trans s2)⟩⟩
theorem d7m (G:Good X C n sp) (h:C.nm i nx=true) (m:a0g C.md i≠.imm) (hr:FAh X C xs as):FAh X C (.Name nx p :: xs) (d0x i as):=PA.imp (a0t (a1d G h) hr (a0f rfl)) fun σ H Q ⟨c,L,S,Q0,I,h,k⟩=>by
 obtain ⟨v,e,h⟩:=wpx h
 have e:=(a1n _ _ _).mp e
 obtain ⟨l,e1,_,_⟩:=I.own i v m e
 refine ⟨_,e1,c,L,S,_,I,h,fun vs L2 hvs us S2 H2 os r2 ho I2 s2=>?_⟩
 obtain ⟨v2,e2,q⟩:=wpx hvs
 have e2:=(a1n _ _ _).mp e2
 obtain ⟨l2,f1,o,_⟩:=I2.own i v2 m e2
 rw [e1] at f1; cases f1
 refine k _ L2 q _ S2 H2 (l :: os) ⟨.ref l,us,rfl,.inr ⟨l,rfl,Γn,o⟩,r2.more fun a h=>Γh _ h⟩ (fun a ha=>?_) I2 s2
 rcases List.mem_cons.mp ha with rfl | ha
 ·obtain ⟨o1,qs,zs,_,o2,_⟩:=o
  exact ⟨o1,_,o2,b5u⟩
 ·exact ho a ha
theorem d2c (G:Good X C n sp) (e:sp X.K f=spQ X.K call false false f) (hf:C.fns[f]?=some nx) (hg:C.gl nx=true) (hd:(nx == ("__debug__":Str))=false) (hs:a2i (a :: xs)=true) (ha:FAh X C (a :: xs) as):FE X C (.Call (.Name nx p) (a :: xs) [] pos) (a9q call f as) :=
 PE.imp (a6a G hf hg hd hs ha) fun σ H Q ⟨c,L,S,Q0,I,h,k⟩=>⟨c,L,S,_,I,h,fun vs L1 hv us S1 H1 os r1 ho I1 s1=>by
  rw [e]
  refine ⟨a4v S1 H1 os,vs,_,b4k I1.sub,r1.vals ho,hv,fun z q x S' H' kp r=>?_⟩
  obtain ⟨I2,s2⟩:=c4o I1 ho kp
  exact k _ L1 q.2 x _ H' (RV.less (c4p ho kp) q.1 r) I2 (s1.trans s2)⟩
end
@[scoped simp ↓] theorem d8z (i:Nat) (r:AW) (L:a0a) (Q:List FV→a0a→Prop):d0x i r L Q=(wp (lk L i) fun _=>r L fun xs L1=>wp (lk L1 i) fun x=>Q (x :: xs) L1):=propext Iff.rfl
@[scoped simp ↓] theorem c9y (call:CW) (f:Nat) (a:AW) (L:a0a) (Q:FV→a0a→Prop):a9q call f a L Q=(a L fun xs L1=>call f xs fun z=>noL z.1=true∧Q z.1 L1):=propext Iff.rfl
@[scoped simp] theorem d5f (b:Int):noL (.int b)=true:=by simp [noL]
@[scoped simp] theorem d5e:noL .non=true:=by simp [noL]
@[scoped simp] theorem d5d (xs:List FV):noL (.tup xs)=b3n xs:=by simp [noL]
@[scoped simp] theorem d1l:b3n []=true:=by simp [b3n]
@[scoped simp] theorem c8s (x:FV) (r:List FV):b3n (x :: r)=(noL x && b3n r):=by simp [b3n]
theorem a7s {α:Type} (f:α→FV) (h:∀ x,noL (f x)=true):∀ xs:List α,b3n (xs.map f)=true
 | []=>by simp
 | x :: r=>by simp [h x,a7s f h r]
noncomputable def revF (v:FV):Option FV:=(a6i v).map fun xs=>.lst xs.reverse
noncomputable def eMeth0 (f:FV→Option FV) (i:Nat):EW:=fun L Q=>wp (lk L i) fun x=>wp (f x) fun z=>Q .non (L.set i (some z))
section
variable {X:Cx} {C:CC} {n:Nat} {sp:Γd→Nat→Sp} {pos p:Pos} {call:CW} {f i:Nat} {nx:Str}
end
end Kq
end
section
namespace Kq
open PySem PySem.Spec PyProof.Rows L2 PySem.W
noncomputable def Lv {α:Type} (n:Nat) (P:α→Prop):KasT α→Prop
 | .ret a=>P a
 | .ask i j k=>i < n∧j < n∧∀ b,Lv n P (k b)
theorem Lv.mono {α:Type} {n:Nat} {P P':α→Prop} (h:∀ a,P a→P' a):∀ {t:KasT α},Lv n P t→Lv n P' t
 | .ret a,x=>h a x
 | .ask i j k,x=>⟨x.1,x.2.1,fun b=>Lv.mono h (x.2.2 b)⟩
theorem Lv.bind {α β:Type} {n:Nat} {P:α→Prop} {P':β→Prop} {f:α→KasT β} (h:∀ a,P a→Lv n P' (f a)):∀ {t:KasT α},Lv n P t→Lv n P' (t.bind f)
 | .ret a,x=>h a x
 | .ask i j k,x=>⟨x.1,x.2.1,fun b=>Lv.bind h (x.2.2 b)⟩
section
variable {n:Nat}
end
noncomputable def IntTup (h:Heap) (v:Value):Prop:=∃ (a:Addr) (o:Obj) (us:List Value) (n:Nat) (k:Int) (ks:List Int),v=.ref a∧h.get? a=some o∧o.cls=.type "tuple"∧o.data=.seq us.toArray n∧Vals ((k :: ks).map V.int) us
theorem IntTup.keep {h h':Heap} {v:Value} (x:IntTup h v) (k:∀ b o,h.get? b=some o→h'.get? b=some o):IntTup h' v:=by
 obtain ⟨a,o,us,n,i,ks,e,h1,h2⟩:=x
 exact ⟨a,o,us,n,i,ks,e,k _ _ h1,h2⟩
section
variable {prog:Program} {w:World} {A:Around} {E:Value→Shared→Prop} {s:Shared} {vs:List Value}
end
end Kq
end
section
namespace Kq
open PySem PySem.Spec PyProof.Rows L2
noncomputable def b4p:List FV→Bool
 | []=>true
 | .tup ps :: r=>(match a0z ps with | some (_ :: _)=>true | _=>false) && b4p r
 | _=>false
noncomputable def d7t (a:EW):EW:=fun L Q=>a L fun v L1=>wp (a1o v) fun xs=>b4p xs=true∧2≤xs.length∧xs.length < 64∧∀ ys:List FV,ys.Perm xs→Q (.lst ys) L1
theorem Vals.perm {us us':List Value} (p:us'.Perm us):∀ {ys:List V},Vals ys us→∃ zs,zs.Perm ys∧Vals zs us':=by
 induction p with
 | nil=>intro ys h; exact ⟨ys,.refl _,h⟩
 | cons x p ih =>
  intro ys h
  cases h with
  | @cons y _ ys' _ r h =>
  obtain ⟨zs,e,g⟩:=ih h
  exact ⟨y :: zs,e.cons y,.cons r g⟩
 | swap x y l =>
  intro ys h
  cases h with
  | @cons a _ ys' _ r h =>
  cases h with
  | @cons b _ ys'' _ r' h =>
  exact ⟨b :: a :: ys'',.swap a b ys'',.cons r' (.cons r h)⟩
 | trans p q ih1 ih2 =>
  intro ys h
  obtain ⟨zs,e,g⟩:=ih2 h
  obtain ⟨ws,e',g'⟩:=ih1 g
  exact ⟨ws,e'.trans e,g'⟩
section
variable {K:Γd} {S:Hp}
theorem RVs.perm {vs vs':List V} (p:vs'.Perm vs):∀ {ps:List FV},RVs K S ps vs→∃ qs,qs.Perm ps∧RVs K S qs vs':=by
 induction p with
 | nil=>intro ps h; exact ⟨ps,.refl _,h⟩
 | cons x p ih =>
  intro ps h
  cases ps with
  | nil=>cases h
  | cons q ps =>
   obtain ⟨v,r,e,h1,h2⟩:=h
   cases e
   obtain ⟨zs,e,g⟩:=ih h2
   exact ⟨q :: zs,e.cons q,_,_,rfl,h1,g⟩
 | swap x y l =>
  intro ps h
  cases ps with
  | nil=>cases h
  | cons a ps =>
   obtain ⟨v,r,e,h1,h2⟩:=h
   cases e
   cases ps with
   | nil=>cases h2
   | cons b ps =>
    obtain ⟨v2,r2,e2,h3,h4⟩:=h2
    cases e2
    exact ⟨b :: a :: ps,.swap a b ps,_,_,rfl,h3,_,_,rfl,h1,h4⟩
 | trans p q ih1 ih2 =>
  intro ps h
  obtain ⟨zs,e,g⟩:=ih2 h
  obtain ⟨ws,e',g'⟩:=ih1 g
  exact ⟨ws,e'.trans e,g'⟩
end
section
variable {X:Cx}
end
section
variable {X:Cx} {C:CC} {n:Nat} {sp:Γd→Nat→Sp} {a:Expr} {ea:EW} {pos p:Pos}
end
theorem b9w (ks:List Int) (us:List V) (k:Int) (u:V) (hl:ks.length=us.length):a3y ((a2z ks).zip us) (Sum.inl k) u=(a2z (a1q ks us k u).1).zip (a1q ks us k u).2:=by
 have hany:(((a2z ks).zip us).any fun kv=>decide (kv.1=Sum.inl k))=true↔k∈ks:=by
  rw [a3z,a5d,a1v k hl]
 unfold a3y a1q
 by_cases e:k∈ks
 ·rw [if_pos (hany.mpr e),if_pos e]
  clear e hany
  induction ks generalizing us with
  | nil=>cases us <;> rfl
  | cons k' ks ih=>cases us with
   | nil=>rfl
   | cons u' us =>
    have:=ih us (by simpa using hl)
    show (if (Sum.inl k':Int ⊕ Option Str)=Sum.inl k then (Sum.inl k',u) else (Sum.inl k',u')) :: ((a2z ks).zip us).map _=(Sum.inl k',if k'=k then u else u') :: (a2z ks).zip _
    rw [this]
    congr 1
    by_cases e:k'=k
    ·subst e; simp
    ·rw [if_neg fun z=>e (Sum.inl.inj z),if_neg e]
 ·rw [if_neg fun z=>e (hany.mp z),if_neg e]
  show _=(a2z (ks++[k])).zip (us++[u])
  have:a2z (ks++[k])=a2z ks++[Sum.inl k]:=by simp [a2z]
  rw [this,List.zip_append (by simpa [a2z] using hl)]; rfl
theorem b7m {κ α β:Type} [DecidableEq κ] {ks:List κ} {vs:List α} {us:List β} {k:κ} (h1:ks.length=vs.length) (h2:ks.length=us.length) (h:a2o ks vs k=none):a2o ks us k=none:=by
 have a:=a1v (α:=α) k h1
 have b:=a1v (α:=β) k h2
 cases e:a2o ks us k with
 | none=>rfl
 | some u =>
  rw [e] at b
  have:=a.mpr (b.mp rfl)
  rw [h] at this; cases this
noncomputable def d8e (v w:FV):Option (Option FV):=match v with
 | .dct ks vs=>(a6d w).bind fun ps=>(a0z ps).bind fun k=>some (a2o ks vs k)
 | .dci ks vs=>(a3b w).bind fun k=>some (a2o ks vs k)
 | .dcz _ ks vs=>(a6d w).bind fun ps=>(a0z ps).bind fun k=>some (a2o ks vs k)
 | _=>none
noncomputable def dgF (v w:FV):Option FV:=(d8e v w).bind id
noncomputable def dget1F (v w:FV):Option FV:=(d8e v w).map fun o=>o.getD .non
noncomputable def isDF:FV→Option Unit
 | .dct _ _=>some ()
 | .dci _ _=>some ()
 | _=>none
noncomputable def c1l (v j x:FV):Option FV:=match v with
 | .dct ks vs=>(a6d j).bind fun ps=>(a0z ps).bind fun k=>if ks.length < big then some (.dct (a1q ks vs k x).1 (a1q ks vs k x).2) else none
 | .dci ks vs=>(a3b j).bind fun k=>if ks.length < big then some (.dci (a1q ks vs k x).1 (a1q ks vs k x).2) else none
 | _=>none
noncomputable def RO (K:Γd) (S:Hp):Option FV→Option V→Prop
 | none,o=>o=none
 | some p,o=>∃ u,o=some u∧RV K S p u
section
variable {X:Cx} {K:Γd} {S H:Hp}
theorem b4y {κ:Type} [DecidableEq κ] {ks:List κ} {vs:List FV} {us:List V} {k:κ} (h1:ks.length=vs.length) (r:RVs K S vs us):RO K S (a2o ks vs k) (a2o ks us k):=by
 cases e:a2o ks vs k with
 | none=>exact b7m h1 (by rw [h1,r.length]) e
 | some p=>exact a5e r e
theorem RH.dcz {o:Obj} {ks:List (List Int)} {vs:List FV} {x:V} (hs:Same S H) (r:RH K S H (.dcz o ks vs) x):∃ a us,x=.ref a∧ks.length=vs.length∧H a=some (.frz o (.dT ((a2l ks).zip us)))∧RVs K S vs us:=by
 rcases r with ⟨a,xs,e,h0,h1,h2⟩ | ⟨a,e,_,qs,xs,e2,h1,h2⟩
 ·exact ⟨a,xs,e,h0,hs _ _ h1,h2⟩
 ·obtain ⟨hl,rfl⟩:=itd e2
  exact ⟨a,xs,e,hl,h1,h2⟩
theorem c5p {v w:FV} {x y:V} {o:Option FV} (hs:Same S H) (rv:RH K S H v x) (rw':RH K S H w y) (e:d8e v w=some o):∃ a o',x=.ref a∧L2.DGet H a y o'∧RO K S o o':=by
 cases v with
 | dct ks vs =>
  obtain ⟨ps,e1,e2⟩:=bnd e
  obtain ⟨k,e3,e4⟩:=bnd e2
  cases a1m e1
  cases e4
  obtain ⟨a,us,rfl,hl,h1,h2⟩:=rv.dct hs
  obtain ⟨b,rfl,hb⟩:=a9k (rw'.val rfl) e3
  refine ⟨a,a2o ks us k,rfl,?_,b4y hl h2⟩
  rw [← a5v]
  exact .t h1 (hs _ _ hb)
 | dci ks vs =>
  obtain ⟨k,e3,e4⟩:=bnd e
  cases a1e e3
  cases e4
  cases rw'.int
  obtain ⟨a,us,rfl,hl,h1,h2⟩:=rv.dci hs
  refine ⟨a,a2o ks us k,rfl,?_,b4y hl h2⟩
  rw [← a5d]
  exact .k (k:=Sum.inl k) h1
 | dcz o ks vs =>
  obtain ⟨ps,e1,e2⟩:=bnd e
  obtain ⟨k,e3,e4⟩:=bnd e2
  cases a1m e1
  cases e4
  obtain ⟨a,us,rfl,hl,h1,h2⟩:=rv.dcz hs
  obtain ⟨b,rfl,hb⟩:=a9k (rw'.val rfl) e3
  refine ⟨a,a2o ks us k,rfl,?_,b4y hl h2⟩
  rw [← a5v]
  exact .inr ⟨_,_,b,.inr ⟨o,h1⟩,rfl,hs _ _ hb,rfl⟩
 | _=>cases e
end
noncomputable def c3i (k:Nat) (i e:EW):SW:=fun L Q=>wp (lk L k) fun _=>e L fun x L1=>i L1 fun j L2=>wp (lk L2 k) fun y=>wp (c1l y j x) fun z=>Q .next (L2.set k (some z))
section
variable {K:Γd} {c:Cn} {md:Md} {L:a0a} {σ:L2.St} {S H:Hp}
theorem Iv.writeV (I:Iv K c md L σ S H) {i:Nat} {v w:FV} {a:Addr} {ps:List FV} {xs:List V} (m:a0g md i=.own) (e:L[i]?=some (some v)) (e1:σ[i]?=some (some (.ref a))) (hw:c6j w=some ps) (r:RVs K S ps xs) :
  Iv K c md (L.set i (some w)) σ S (upd H a (c4e w xs)):=by
 obtain ⟨a',e1',⟨h1,_⟩,_⟩:=I.own i v (fun z=>by rw [m] at z; cases z) e
 rw [e1] at e1'; cases e1'
 exact I.back m e e1 (Same.refl S) (fun b o z=>by rw [a0d fun y=>by subst y; rw [h1] at z; cases z]; exact I.sub b o z) (fun b o z=>.inl z) (fun b o z n=>by rw [a0d n]; exact z) ⟨h1,ps,xs,hw,a0e,r⟩
theorem c1k {i:Nat} {v j x z:FV} {a:Addr} {y u:V} (I:Iv K c md L σ S H) (m:a0g md i=.own) (e:L[i]?=some (some v)) (e1:σ[i]?=some (some (.ref a))) (rj:RV K S j y) (rx:RV K S x u) (h:c1l v j x=some z):∃ H',L2.DPut H a y u H'∧Iv K c md (L.set i (some z)) σ S H':=by
 obtain ⟨a',f1,⟨o1,ps,us,e9,o2,o3⟩,_⟩:=I.own i v (fun z=>by rw [m] at z; cases z) e
 rw [e1] at f1; cases f1
 have hbl:=a0m
 cases v with
 | dct ks vs =>
  obtain ⟨qs,g1,h⟩:=bnd h
  obtain ⟨k,g2,h⟩:=bnd h
  obtain ⟨hb,rfl⟩:=itd h
  obtain ⟨hl,rfl⟩:=itd e9
  cases a1m g1
  obtain ⟨b,rfl,hkb⟩:=a9k rj g2
  have hu:ks.length=us.length:=by rw [hl,o3.length]
  obtain ⟨p1,p2⟩:=a4c (ks:=ks) (k:=k) o3 rx
  refine ⟨_,.t o2 (I.sub _ _ hkb) (by simp [a2l]; lia),?_⟩
  rw [b5d ks us k u hu,← p1]
  exact I.writeV (w:=.dct _ _) m e e1 (if_pos (a3l ks _ k x hl).1) p2
 | dci ks vs =>
  obtain ⟨k,g2,h⟩:=bnd h
  obtain ⟨hb,rfl⟩:=itd h
  obtain ⟨hl,rfl⟩:=itd e9
  cases a1e g2
  cases (show y=V.int k from rj)
  have hu:ks.length=us.length:=by rw [hl,o3.length]
  obtain ⟨p1,p2⟩:=a4c (ks:=ks) (k:=k) o3 rx
  refine ⟨_,.k (k:=Sum.inl k) o2 (by simp [a2z]; lia),?_⟩
  rw [b9w ks us k u hu,← p1]
  exact I.writeV (w:=.dci _ _) m e e1 (if_pos (a3l ks _ k x hl).1) p2
 | _=>cases h
end
section
variable {X:Cx} {C:CC} {n:Nat} {sp:Γd→Nat→Sp} {fr:Bool} {a b:Expr} {ea eb:EW} {pos p px:Pos} {i:Nat} {nx:Str}
theorem d1v:FF X C (.Dict [] [] pos) (eC (.dci [] [])):=PE.imp c0e fun σ H Q ⟨c,L,S,Q0,I,h,k⟩=>fun p hp=>k _ L h p S _ ⟨I.sn hp,[],[],rfl,a0e,rfl⟩ (I.fresh hp) (I.lay hp _) (Same.refl S)
theorem fe_dgN (G:Good X C n sp) (hs:a1t b=false) (h:C.nm i nx=true) (hb:FR X C b eb):FE X C (.Subscript (.Name nx p) b pos) (a8g dgF i eb):=PE.imp (b0v (X:=X.nox) (by have:=G.room.units; show X.A.units + 1 < cLine; lia) (a1d G h) hb (a4d hs)) fun σ H Q ⟨c,L,S,Q0,I,h,k⟩=>by
 obtain ⟨v0,e,h⟩:=wpx h
 obtain ⟨x,e1,_⟩:=I.rd e
 refine ⟨x,e1,c,L,S,_,I,h,fun w L2 hw y S2 H2 r2 I2 s2=>?_⟩
 obtain ⟨v,e2,q⟩:=wpx hw
 obtain ⟨x',e3,r1⟩:=I2.rd e2
 rw [e1] at e3; cases e3
 obtain ⟨z,e4,q⟩:=wpx q
 obtain ⟨o,e5,e6⟩:=bnd e4
 obtain ⟨a,o',rfl,g,ro⟩:=c5p I2.sub r1 r2 e5
 cases (show o=some z from e6)
 obtain ⟨u,rfl,r5⟩:=ro
 exact ⟨a,u,rfl,g,k z L2 q u S2 H2 r5 I2 s2⟩
theorem d6c (G:Good X C n sp) (hn:C.nm i nx=true) (m:a0g C.md i=.own) (hc:(!a5t a && !a1t b)=true) (ha:FE X C a ea) (hb:FE X C b eb):FS X C fr (.Assign [.Subscript (.Name nx px) b p] a pos) (c3i i eb ea):=by
 have hc:=b2 hc
 refine PS.imp (b5i (X:=X.nox) (by have:=G.room.units; show X.A.units + 1 < cLine; lia) (a1d (pos:=px) G hn) hb ha (a2m (nb hc.1))) fun D σ H ⟨c,L,S,Q0,I,h,k⟩=>?_
 have mi:a0g C.md i≠.imm:=fun z=>by rw [m] at z; cases z
 obtain ⟨v0,e,h⟩:=wpx h
 obtain ⟨l,e1,_⟩:=I.own i v0 mi ((a1n _ _ _).mp e)
 refine ⟨c,L,S,_,I,h,fun v L1 q x S1 H1 r1 I1 s1=>⟨_,e1,c,L1,S1,_,I1,q,fun w L2 q y S2 H2 r2 I2 s2=>?_⟩⟩
 obtain ⟨v1,e2,q2⟩:=wpx q
 obtain ⟨z,e3,q3⟩:=wpx q2
 have e2:=(a1n _ _ _).mp e2
 obtain ⟨H3,g,I3⟩:=c1k I2 m e2 e1 r2 (r1.mono s2) e3
 exact ⟨l,H3,rfl,g,k .next _ q3 σ S2 _ I3 (s1.trans s2)⟩
end
section
variable (Q:FV→Prop) (i:Nat) (L:a0a)
@[scoped simp ↓] theorem d1d (k:Nat) (i e:EW) (Q:FFl→a0a→Prop):c3i k i e L Q=(wp (lk L k) fun _=>e L fun x L1=>i L1 fun j L2=>wp (lk L2 k) fun y=>wp (c1l y j x) fun z=>Q .next (L2.set k (some z))):=propext Iff.rfl
@[scoped simp ↓] theorem k_dgi (ks:List Int) (vs:List FV) (k:Int):wp (dgF (.dci ks vs) (.int k)) Q=wp (a2o ks vs k) Q:=propext Iff.rfl
@[scoped simp ↓] theorem d5m (ks:List Int) (vs:List FV) (k:Int) (x:FV):wp (c1l (.dci ks vs) (.int k) x) Q↔ks.length < big∧Q (.dci (a1q ks vs k x).1 (a1q ks vs k x).2):=a3p _ _ _
end
section
variable {P:Program} {w:World} {A:Around} {E:Value→Shared→Prop} {s:Shared}
end
section
variable {X:Cx}
theorem c9k:∀ {ns:List Int} {us:List Value},Vals (ns.map V.int) us→IntsAre us ns
 | [],us,h=>by cases h; exact .nil
 | n :: ns,us,h=>by
  cases h with
  | cons r h=>obtain ⟨t,rfl⟩:=r; exact .cons n t (c9k h)
theorem c8p:∀ {us:List Value} {ns:List Int},IntsAre us ns→Vals (ns.map V.int) us
 | _,_,.nil=>.nil
 | _,_,.cons n t h=>.cons ⟨t,rfl⟩ (c8p h)
theorem c5x:a1l X (.builtin "sorted") (fun xs H Q=>∃ (a:Addr) (ns:List Int),xs=[.ref a]∧SqL X.K H a (ns.map V.int)∧ns.length < 64∧∀ p (ms:List Int),H p=none→ms.Perm ns→ms.Pairwise (·≤·)→Q (.ref p) (upd H p (.lst (ms.map V.int)))):=by
 rintro pins s σ H xs us Q I r ⟨a,ns,rfl,hl,h64,k⟩
 obtain ⟨u,rfl,ru⟩:=a3o r
 cases (show u=Value.ref a from ru)
 obtain ⟨its,rv,pl,hz⟩:=I.list hl
 have ll:ns.length=its.length:=by have:=rv.length; simpa using this
 refine sorted_ints pl.isList (c9k rv) (by lia) fun out ns' hI hp hs=>?_
 obtain ⟨e,he⟩:=sortedAll_at s.heap its out
 refine ⟨.ref (s.heap.objs.size + 1),_,I.laid (a:=s.heap.objs.size + 1) (o:=.lst (ns'.map V.int)) (t':=s.toks) (fun b o q=>sortedAll_old q) (Nat.le_succ _) ⟨?_,out.toList,e,c8p hI,he⟩,rfl,k _ ns' (I.hok.fresh (Nat.le_succ _)) hp hs⟩
 rw [List.length_map,hp.length_eq,sizeLine_eq]; lia
end
noncomputable def b7t (a:EW):EW:=fun L Q=>a L fun v L1=>wp (a1o v) fun xs=>wp (a0z xs) fun ns=>ns.length < 64∧∀ ms:List Int,ms.Perm ns→ms.Pairwise (·≤·)→Q (.lst (ms.map .int)) L1
section
variable {X:Cx} {C:CC} {n:Nat} {sp:Γd→Nat→Sp} {a:Expr} {ea:EW} {pos p:Pos}
theorem d2a (G:Good X C n sp) (hg:C.gl (Γe "sorted")=true) (hs:a0h a=false) (ha:FR X C a ea):FE X C (.Call (.Name (Γe "sorted") p) [a] [] pos) (b7t ea) :=
 PE.imp (a5b c5x (G.gl hg) (G.blt "sorted" (by decide)) (by nofun) (a0t ha a2n (a0f hs)) (by nofun) (by nofun) (a0f hs) rfl) fun σ H Q ⟨c,L,S,Q0,I,h,k⟩ =>
 ⟨c,L,S,_,I,h,fun v L1 hv x S1 H1 r1 I1 s1=>by
  obtain ⟨xs,e1,hv⟩:=wpx hv
  obtain ⟨ns,e2,t2,q⟩:=wpx hv
  obtain ⟨a,ys,rfl,hq,ry⟩:=r1.list I1.sub e1
  cases a2k ry e2
  refine ⟨a,ns,rfl,hq,t2,fun p ms hp hm hs=>?_⟩
  exact k _ L1 (q ms hm hs) _ _ _ ⟨p,_,rfl,a0e,RVs.ns ms⟩ (I1.new hp _) (s1.trans (a0i (I1.sn hp)))⟩
end
@[scoped simp ↓] theorem c9u (a:EW) (L:a0a) (Q:FV→a0a→Prop):b7t a L Q=(a L fun v L1=>wp (a1o v) fun xs=>wp (a0z xs) fun ns=>ns.length < 64∧∀ ms:List Int,ms.Perm ns→ms.Pairwise (·≤·)→Q (.lst (ms.map .int)) L1):=propext Iff.rfl
section
variable {X:Cx}
end
section
variable {X:Cx} {C:CC} {n:Nat} {sp:Γd→Nat→Sp} {a:Expr} {ea:EW} {pos p:Pos}
end
end Kq
end
section
namespace L2
open PySem PySem.Spec PyProof.Rows
noncomputable def ZSt (p q:Bool) (z TI TO i1 i2 a b:Addr) (i:Nat) (h:Heap):Prop:=(∃ f m,(f=.none ∨ ∃ n,f=.int n 0)∧(∃ c,m=.bool c)∧d1a h z TI TO f m)∧IsPair h TI (.ref i1) (.ref i2)∧(∃ c d,IsPair h TO c d)∧IterB p h i1 a i∧IterB q h i2 b i
theorem ZSt.keep {p q:Bool} {z TI TO i1 i2 a b:Addr} {i:Nat} {h h':Heap} (st:ZSt p q z TI TO i1 i2 a b i h) (kk:∀ c∈[z,TO,i1,i2,TI],∀ o,h.get? c=some o→h'.get? c=some o):ZSt p q z TI TO i1 i2 a b i h':=by
 obtain ⟨⟨f,m,hf0,hm0,zz⟩,zi,⟨x,y,zo⟩,t1,t2⟩:=st
 exact ⟨⟨f,m,hf0,hm0,kk z (by simp) _ zz⟩,kk TI (by simp) _ zi,⟨x,y,kk TO (by simp) _ zo⟩,t1.to fun o e=>kk i1 (by simp) o e,t2.to fun o e=>kk i2 (by simp) o e⟩
section
variable {X:Cx} {pins:List (Addr×Obj)} {σ:St} {A:Around} {R:Result→Shared→Prop}
end
end L2
end
section
namespace L2
open PySem PySem.Spec PyProof.Rows
section
variable {X:Cx} {pins:List (Addr×Obj)} {σ:St}
variable {e1 e2:Expr} {ta:TA} {pp p2 pos pos2:Pos}
end
end L2
end
section
namespace Kq
open PySem PySem.Spec PyProof.Rows L2
section
variable {X:Cx} {C:CC} {n:Nat} {sp:Γd→Nat→Sp} {a b:Expr} {ea eb:EW} {p p2 pos pos2:Pos}
end
noncomputable def inW (tg:Tg) (t:BW) (e:EW):List FV→List FV→a0a→(List FV→a0a→Prop)→Prop
 | [],acc,L,Q=>Q acc L
 | y :: r,acc,L,Q=>gW tg y L fun L1=>t L1 fun b L2=>if b=true then e L2 fun v L3=>inW tg t e r (acc++[v]) L3 Q else inW tg t e r acc L2 Q
noncomputable def a9y (n m:Nat) (tg:Tg) (t:BW) (it2:AW) (tg2:Tg) (t2:BW) (e:EW):List FV→List FV→a0a→(List FV→a0a→Prop)→Prop
 | [],acc,L,Q=>Q acc L
 | x :: xs,acc,L,Q=>gW tg x (L++Γj m none) fun L1=>t L1 fun b L2=>if b=true then it2 L2 fun ys L3=>acc.length + ys.length≤big∧inW tg2 t2 e ys acc L3 fun acc' L4=>a9y n m tg t it2 tg2 t2 e xs acc' (L4.take n) Q else a9y n m tg t it2 tg2 t2 e xs acc (L2.take n) Q
noncomputable def c9w (n m:Nat) (it:AW) (tg:Tg) (t:BW) (it2:AW) (tg2:Tg) (t2:BW) (e:EW):EW:=fun L Q=>it L fun xs L1=>L1.length=n∧a9y n m tg t it2 tg2 t2 e xs [] L1 fun ys L2=>Q (.lst ys) L2
noncomputable def liv (K:Γd) (md:Md) (it:AW):TI:=fun σ H R=>∃ c L S Q0,Iv K c md L σ S H∧it L Q0∧∀ xs L',Q0 xs L'→∀ J S' H',Iv K c md L' σ S' H'→(∀ c md,ItR K c md J xs S')→Same S S'→R J H'
noncomputable def FIv (X:Cx) (C:CC) (tg iter:Expr) (it:AW):Prop:=PI X.nox tg iter (liv X.K C.md it)
section
variable {X:Cx} {C:CC} {n:Nat} {sp:Γd→Nat→Sp} {a b tg:Expr} {ea eb:EW} {pos p:Pos}
theorem d6j (ha:FE X C a ea):FIv X C tg a (a4y ea):=PI.imp (b5o ha) fun σ H R ⟨c,L,S,Q0,I,h,k⟩ =>
 ⟨c,L,S,_,I,h,fun v L1 hv x S1 H1 r1 I1 s1=>by
  obtain ⟨ps,e,q⟩:=wpx hv
  obtain ⟨l,rfl,st⟩:=r1.stays e
  obtain ⟨vs,h1,h2⟩:=st S1 H1 (Same.refl _) I1.sub
  exact ⟨isL v,l,vs,rfl,h1,k ps L1 q _ S1 H1 I1 (fun _ _=>b7a fun L σ S H I s=>st S H s I.sub) s1⟩⟩
end
section
variable {K:Γd} {c:Cn} {md:Md} {L:a0a} {σ:L2.St} {S H:Hp}
theorem c9j {n:Nat} {it2:AW} {tg:Tg} {t:BW} {e:EW} {acc:Addr} {us:List V} {ps:List FV} {Q1:List FV→a0a→Prop} {R:L2.St→Hp→Prop} (I:Iv K { c with pr:=(acc,.lst us) :: c.pr } md L σ S H)
  (h0:c.H0 acc=none) (hp:∀ p∈c.pr,p.1≠acc) (hz:∀ p∈c.fz,∃ o,(p.2,o)∈c.pr) (r:RVs K S ps us) (ht:a2v md tg=true) (hg:a4n n tg=true)
  (hh:it2 L fun ys L1=>ps.length + ys.length≤big∧inW tg t e ys ps L1 Q1)
  (k:∀ ps' us' L' σ' S' H',Q1 ps' L'→Iv K { c with pr:=(acc,.lst us') :: c.pr } md L' σ' S' H'→RVs K S' ps' us'→Same S S'→σ'.length=σ.length→(∀ q,q < n→σ'[q]?=σ[q]?)→R σ' H') :
  tIn (liv K md it2) (gT K tg) (lb K md t) (lv K md e) acc σ H R:=by
 have hbl:=a0m
 refine ⟨_,L,S,_,I,hh,fun ys L1 hx J S1 H1 I1 hJ s1=>?_⟩
 obtain ⟨hb,hc⟩:=hx
 let W:Nat→Nat→L2.St→Hp→Prop:=fun i j σ' H'=>∃ L' S' ps' us',j=(ys.drop i).length∧Iv K { c with pr:=(acc,.lst us') :: c.pr } md L' σ' S' H'∧RVs K S' ps' us'∧Same S1 S'∧σ'.length=σ.length∧(∀ q,q < n→σ'[q]?=σ[q]?)∧ps'.length≤ps.length + i∧inW tg t e (ys.drop i) ps' L' Q1
 refine ⟨W,⟨_,L1,S1,ps,us,rfl,I1,r.mono s1,Same.refl _,rfl,fun _ _=>rfl,Γi _,by rw [List.drop_zero]; exact hc⟩,?_⟩
 rintro i j σ' H' ⟨L',S',ps',us',rfl,I',r',s',hl,far0,hps,hc⟩
 obtain ⟨j1,j2⟩:=hJ _ _ i L' σ' S' H' I' s'
 cases hd:ys.drop i with
 | nil =>
  left
  rw [hd] at hc
  exact ⟨j1 (List.getElem?_eq_none_iff.mpr (List.drop_eq_nil_iff.mp hd)),k ps' us' L' σ' S' H' hc I' r' (s1.trans s') hl far0⟩
 | cons p rest =>
  right
  rw [hd] at hc
  have hi:ys[i]?=some p:=by
   have:=congrArg (·[0]?) hd
   simpa using this
  have hd':ys.drop (i + 1)=rest:=by
   have:=congrArg List.tail hd
   simpa [List.tail_drop] using this
  have hix:i < ys.length:=(List.getElem?_eq_some_iff.mp hi).1
  obtain ⟨go,yl⟩:=j2 p hi
  refine ⟨go,fun x H2 y=>?_⟩
  obtain ⟨S2,s2,tr,rx⟩:=yl x H2 y
  have I2:=tr _ _ _ _ I'
  obtain ⟨σ2,L2,gq,q2,I2,len2,far⟩:=a4t ht I2 rx hc
  refine gq _ ?_
  refine ⟨_,L2,S2,_,I2,q2,fun b L3 hb3 S3 H3 I3 s3=>?_⟩
  cases b with
  | false =>
   rw [if_neg Γk] at hb3 ⊢
   exact ⟨rest.length,by simp,L3,S3,ps',us',by rw [hd'],I3,r'.mono (s2.trans s3),s'.trans (s2.trans s3),len2.trans hl,fun q hq=>(far n hg q hq).trans (far0 q hq),by lia,by rw [hd']; exact hb3⟩
  | true =>
   rw [if_pos rfl] at hb3 ⊢
   refine ⟨_,L3,S3,_,I3,hb3,fun v L4 hv u S4 H4 r4 I4 s4=>?_⟩
   obtain ⟨k1,_⟩:=I4.prs (acc,.lst us') Γn
   have lr:=r'.length
   exact ⟨us',k1,by lia,rest.length,by simp,L4,S4,ps'++[v],us'++[u],by rw [hd'],I4.regrow h0 hp hz,(r'.mono (s2.trans (s3.trans s4))).append (RVs.one r4),s'.trans (s2.trans (s3.trans s4)),len2.trans hl,fun q hq=>(far n hg q hq).trans (far0 q hq),by simp; lia,by rw [hd']; exact hv⟩
theorem b8l {J:It} {xs:List FV} {n m:Nat} {tg:Tg} {t:BW} {it2:AW} {tg2:Tg} {t2:BW} {e:EW} {Q:VK} {Q1:List FV→a0a→Prop} (I:Iv K c md L σ S H) (hJ:ItR K c md J xs S) (hL:L.length=n) (hmd:md.length≤n) (ht:a2v md tg=true) (hg:a4n n tg=true) (ht2:a2v md tg2=true) (hg2:a4n n tg2=true) (h:a9y n m tg t it2 tg2 t2 e xs [] L Q1)
  (k:∀ acc ps L' S' H',H acc=none→Q1 ps L'→a2u K S' H' acc (.lst ps)→a6n c md L' σ acc→Iv K c md L' σ S' H'→Same S S'→Q (.ref acc) H') :
  ∀ acc,H acc=none→∃ W:Nat→Nat→Hp→Prop,(∃ m,W 0 m (upd H acc (.lst [])))∧∀ i j H,W i j H →
   (J.stop i H∧Q (.ref acc) H) ∨ (J.go i H∧∀ x H',J.yld i H x H'→gT K tg x (σ++Γj m none) H' fun σ2 H2=>Wk (σ++Γj m none) σ2∧lb K md t σ2 H2 fun b H3 =>
    if b=true then tIn (liv K md it2) (gT K tg2) (lb K md t2) (lv K md e) acc σ2 H3 fun σ3 H4=>Wk (σ++Γj m none) σ3∧∃ m',m' < j∧W (i + 1) m' H4 else ∃ m',m' < j∧W (i + 1) m' H3):=by
 intro acc hacc
 have h0:=I.h0 hacc
 have hp:∀ p∈c.pr,p.1≠acc:=(I.fresh hacc).2.1
 have hz:=I.fzp
 have hl:σ.length=n:=by rw [← I.len]; exact hL
 let W:Nat→Nat→Hp→Prop:=fun i j H1=>∃ L S1 ps us,j=(xs.drop i).length∧Iv K { c with pr:=(acc,.lst us) :: c.pr } md L σ S1 H1∧RVs K S1 ps us∧Same S S1∧L.length=n∧a9y n m tg t it2 tg2 t2 e (xs.drop i) ps L Q1
 have I1:Iv K { c with pr:=(acc,.lst []) :: c.pr } md L σ S (upd H acc (.lst [])):=(I.lay hacc _).prot a0e (I.sn hacc) fun j w hm hj=>(I.fresh hacc).2.2 j w (Mo.w_imm hm) hj
 refine ⟨W,⟨_,L,S,[],[],rfl,I1,rfl,Same.refl S,hL,by rw [List.drop_zero]; exact h⟩,?_⟩
 rintro i j H1 ⟨L,S1,ps,us,rfl,I,r,s,hL,hc⟩
 have I0:=I.unprot hz
 obtain ⟨j1,j2⟩:=hJ i L σ S1 H1 I0 s
 obtain ⟨g1,g2,g3⟩:=I.prs (acc,.lst us) Γn
 cases hd:xs.drop i with
 | nil =>
  left
  rw [hd] at hc
  refine ⟨j1 (List.getElem?_eq_none_iff.mpr (List.drop_eq_nil_iff.mp hd)),k acc ps L S1 H1 hacc hc ⟨g2,ps,us,rfl,g1,r⟩ ⟨h0,hp,fun q w hm hq hs=>?_⟩ I0 s⟩
  by_cases mo:(a0g md q).w=true
  ·exact g3 q w mo hq hs
  ·have mo:a0g md q=.frz:=by cases z:a0g md q with | imm=>exact absurd z hm | frz=>rfl | _=>rw [z] at mo; exact absurd rfl mo
   obtain ⟨b,f1⟩:=I0.fzm q w mo hq
   obtain ⟨_,f2,_⟩:=I0.fzs _ f1
   rw [hs] at f2; cases f2
   obtain ⟨ys,f3⟩:=hz _ f1
   exact hp _ f3 rfl
 | cons p rest =>
  right
  rw [hd] at hc
  have hi:xs[i]?=some p:=by
   have:=congrArg (·[0]?) hd
   simpa using this
  have hd':xs.drop (i + 1)=rest:=by
   have:=congrArg List.tail hd
   simpa [List.tail_drop] using this
  have hix:i < xs.length:=(List.getElem?_eq_some_iff.mp hi).1
  obtain ⟨go,yl⟩:=j2 p hi
  refine ⟨go,fun x H2 y=>?_⟩
  obtain ⟨S2,s2,tr,rx⟩:=yl x H2 y
  have I2:=(tr _ _ _ _ I).more m
  obtain ⟨σ2,L2,gq,q2,I2,len2,far⟩:=a4t ht I2 rx hc
  have l2:n≤σ2.length:=by rw [len2,List.length_append,hl]; lia
  have far':∀ q,q < n→σ2[q]?=σ[q]?:=fun q hq=>by rw [far n hg q hq,List.getElem?_append_left (by rw [hl]; exact hq)]
  have wk:∀ {σ3:List (Option V)},σ3.length=(σ++Γj m none).length→(∀ q,q < n→σ3[q]?=σ[q]?)→Wk (σ++Γj m none) σ3:=fun {σ3} hl3 f3=>⟨hl3,fun q v hv=>by
   have hq:q < n:=by
    by_cases h:q < σ.length
    ·rw [← hl]; exact h
    ·rw [List.getElem?_append_right (by lia),List.getElem?_replicate] at hv
     split at hv <;> cases hv
   rw [List.getElem?_append_left (by rw [hl]; exact hq)] at hv
   rw [f3 q hq]; exact hv⟩
  refine gq _ ⟨wk len2 far',?_⟩
  refine ⟨_,L2,S2,_,I2,q2,fun b L3 hb3 S3 H3 I3 s3=>?_⟩
  cases b with
  | false =>
   rw [if_neg Γk] at hb3 ⊢
   exact ⟨rest.length,by simp,L3.take n,S3,ps,us,by rw [hd'],I3.take hmd hl l2 far',r.mono (s2.trans s3),s.trans (s2.trans s3),by rw [List.length_take,I3.len]; lia,by rw [hd']; exact hb3⟩
  | true =>
   rw [if_pos rfl] at hb3 ⊢
   refine c9j (n:=n) I3 h0 hp hz (r.mono (s2.trans s3)) ht2 hg2 hb3 fun ps' us' L' σ' S' H' q' I' r' s' hl' f'=>?_
   have f'':∀ q,q < n→σ'[q]?=σ[q]?:=fun q hq=>(f' q hq).trans (far' q hq)
   exact ⟨wk (hl'.trans len2) f'',rest.length,by simp,L'.take n,S',ps',us',by rw [hd'],I'.take hmd hl (by rw [hl']; exact l2) f'',r',s.trans (s2.trans (s3.trans s')),by rw [List.length_take,I'.len,hl']; lia,by rw [hd']; exact q'⟩
end
section
variable {X:Cx} {C:CC} {n:Nat} {sp:Γd→Nat→Sp} {pos p px:Pos} {i:Nat} {nx:Str} {fr:Bool}
variable {scope:Scope} {own:List Str} {elt tgx iter tgx2 iter2:Expr} {ifs ifs2:List Expr} {it it2:AW} {tg tg2:Tg} {t t2:BW} {e:EW} {nn m:Nat} {md':Md}
structure CompOk2 (X:Cx) (C:CC) (n:Nat) (sp:Γd→Nat→Sp) (scope:Scope) (own:List Str) (elt tgx iter:Expr) (ifs:List Expr) (tgx2 iter2:Expr) (ifs2:List Expr) (nn m:Nat) (md':Md) (it:AW) (tg:Tg) (t:BW) (it2:AW) (tg2:Tg) (t2:BW) (e:EW):Prop where
 st:(C.scOk scope own && decide (C.N.length=nn) && decide (own.length=m) && decide (md'.length≤nn) && c8y C.md md' && a2v md' tg && a4n nn tg && !b1h iter)=true
 st2:(a2v md' tg2 && a4n nn tg2 && !b1h iter2)=true
 it:FI X C md' tgx iter it
 tg:∀ X',Good X' (C.sub scope own md') n sp→FG X' tgx tg
 ts:∀ X',Good X' (C.sub scope own md') n sp→FTs X' (C.sub scope own md') ifs t
 it2:∀ X',Good X' (C.sub scope own md') n sp→FIv X' (C.sub scope own md') tgx2 iter2 it2
 tg2:∀ X',Good X' (C.sub scope own md') n sp→FG X' tgx2 tg2
 ts2:∀ X',Good X' (C.sub scope own md') n sp→FTs X' (C.sub scope own md') ifs2 t2
 el:∀ X',Good X' (C.sub scope own md') n sp→FE X' (C.sub scope own md') elt e
theorem CompOk2.run (G:Good X C n sp) (h:CompOk2 X C n sp scope own elt tgx iter ifs tgx2 iter2 ifs2 nn m md' it tg t it2 tg2 t2 e) {σ:L2.St} {H:Hp} {Q:VK} (hq:lf X.K C.md (c9w nn m it tg t it2 tg2 t2 e) σ H Q):c6y (li X.K C.md md' it) (gT X.K tg) (lb X.K md' t) (liv X.K md' it2) (gT X.K tg2) (lb X.K md' t2) (lv X.K md' e) own.length σ H Q:=by
 have h0:=b2 h.st; have h1:=b2 h0.1; have h2:=b2 h1.1; have h3:=b2 h2.1; have h4:=b2 h3.1; have h5:=b2 h4.1; have h6:=b2 h5.1
 have g0:=b2 h.st2; have g1:=b2 g0.1
 obtain ⟨c,L,S,Q0,I,hh,k⟩:=hq
 refine ⟨c,L,S,_,I,hh,fun xs L1 hx J c' S1 H1 I1 un e0 hJ s1=>?_⟩
 obtain ⟨hl,hc⟩:=hx
 rw [de h5.2]
 refine b8l I1 hJ hl (de h4.2) h2.2 h1.2 g1.1 g1.2 hc fun acc ps L' S' H' hn q o fr I' s'=>k _ L' q acc S' H' o ⟨by rw [← e0]; exact fr.1,((un _ _ _ _ I1).fresh hn).2.1,fun j w hm=>fr.2.2 j w (a5o h3.2 j hm)⟩ (un _ _ _ _ I') (s1.trans s')
end
noncomputable def ePop (i:Nat):EW:=fun L Q=>wp (lk L i) fun v=>wp (a6i v) fun xs=>wp (xs[xs.length - 1]?) fun y=>Q y (L.set i (some (.lst xs.dropLast)))
noncomputable def popI (xs:List FV) (k:Int):Option FV:=if 0≤k∧k < 4611686018427387904 then xs[k.toNat]? else none
noncomputable def ePopAt (i:Nat) (a:EW):EW:=fun L Q=>wp (lk L i) fun v=>wp (a6i v) fun _=>a L fun w L1=>wp (a3b w) fun k=>wp (lk L1 i) fun x=>wp (a6i x) fun xs=>wp (popI xs k) fun y=>Q y (L1.set i (some (.lst (xs.eraseIdx k.toNat))))
section
variable {K:Γd} {S:Hp}
end
section
variable {X:Cx} {C:CC} {n:Nat} {sp:Γd→Nat→Sp} {a:Expr} {ea:EW} {pos p:Pos} {i:Nat} {nx:Str}
end
end Kq
end
section
namespace L2
open PySem PySem.Spec PyProof.Rows
section
variable {X:Cx} {a e k:Expr} {ta te tk:TE} {pos p2:Pos}
end
end L2
namespace Kq
open PySem PySem.Spec PyProof.Rows L2
noncomputable def turnLF (v:FV):Option FV:=(a6i v).map fun xs=>.lst xs.reverse
section
variable {X:Cx} {C:CC} {a:Expr} {ea:EW} {pos:Pos}
end
end Kq
end
section
namespace L2
open PySem PySem.Spec PyProof.Rows
section
variable {X:Cx} {pos:Pos}
end
end L2
namespace Kq
open PySem PySem.Spec PyProof.Rows L2
section
variable {X:Cx} {C:CC} {n:Nat} {sp:Γd→Nat→Sp} {a b d:Expr} {ea eb ed:EW} {pos px py pz:Pos} {i j l:Nat} {nx ny nz:Str} {fr:Bool}
end
end Kq
end
section
namespace Kq
open PySem PySem.Spec PyProof.Rows L2
noncomputable def eMv (j:Nat):EW:=fun L Q=>wp (lk L j) fun v=>Q v (L.set j none)
@[scoped simp ↓] theorem eMv_eq (j:Nat) (L:a0a) (Q:FV→a0a→Prop):eMv j L Q=wp (lk L j) fun v=>Q v (L.set j none):=propext Iff.rfl
noncomputable def eCallT (call:CW) (f:Nat) (ea:EW) (as:AW):EW:=fun L Q=>ea L fun v L1=>as L1 fun vs L2=>call f (v :: vs) fun z=>Q z.1 L2
section
variable {X:Cx} {C:CC} {n:Nat} {sp:Γd→Nat→Sp} {a b:Expr} {ea eb:EW} {pos p:Pos} {call:CW}
variable {K:Γd} {c:Cn} {md:Md} {L:a0a} {σ:L2.St} {S H S' H':Hp} {i j f:Nat} {nx:Str} {xs:List Expr} {as:AW}
theorem a1h {L:a0a} {j i:Nat} {v:FV} (z:(L.set j none)[i]?=some (some v)):i≠j∧L[i]?=some (some v):=by
 by_cases q:i=j
 ·subst q
  have hj:i < L.length:=by have:=(List.getElem?_eq_some_iff.mp z).1; rwa [List.length_set] at this
  rw [List.getElem?_set_self hj] at z; cases z
 ·rw [List.getElem?_set_ne (Ne.symm q)] at z; exact ⟨q,z⟩
theorem Iv.drop (I:Iv K c md L σ S H) (hm:a0g md j=.own) (hj:j≠0):Iv K c md (L.set j none) σ S H where
 len:=by rw [List.length_set]; exact I.len
 imm:=fun i v h e=>I.imm i v h (a1h e).2
 own:=fun i v h e=>I.own i v h (a1h e).2
 dis:=fun i k v w a h1 h2 e1 e2=>I.dis i k v w a h1 h2 (a1h e1).2 (a1h e2).2
 sub:=I.sub
 frame:=I.frame
 s0:=I.s0
 grow:=I.grow
 lent:=fun a h=>by
  obtain ⟨g1,g2,g3⟩:=I.lent a h
  rw [List.getElem?_set_ne hj]; exact ⟨g1,g2,g3⟩
 fzs:=fun p hp=>by
  obtain ⟨g1,g2,g3⟩:=I.fzs p hp
  have:p.1≠j:=fun z=>by rw [z,hm] at g1; cases g1
  rw [List.getElem?_set_ne (Ne.symm this)]; exact ⟨g1,g2,g3⟩
 fzm:=fun i v h e=>I.fzm i v h (a1h e).2
 fzp:=I.fzp
 prs:=fun p hp=>let ⟨g1,g2,g3⟩:=I.prs p hp; ⟨g1,g2,fun i v h e=>g3 i v h (a1h e).2⟩
 ntp:=I.ntp
 lnt1:=fun q hq=>by
  obtain ⟨g1,g2,g3⟩:=I.lnt1 q hq
  have:q.1≠j:=fun z=>by rw [z,hm] at g1; cases g1
  rw [List.getElem?_set_ne (Ne.symm this)]; exact ⟨g1,g2,g3⟩
 tie:=fun y k x C dx fs w h1 h2 h3 h4=>I.tie y k x C dx fs w h1 h2 (a1h h3).2 (a1h h4).2
theorem d6n (G:Good X C n sp) (h:C.nm j nx=true) (m:a0g C.md j=.own) (hj:j≠0):FF X C (.Name nx p) (eMv j) :=
 PE.imp (a1d G h) fun σ H Q ⟨c,L,S,Q0,I,h,k⟩=>by
  obtain ⟨v,e,h⟩:=wpx h
  have e:=(a1n _ _ _).mp e
  have mi:a0g C.md j≠.imm:=fun z=>by rw [m] at z; cases z
  obtain ⟨l,e1,o,h0⟩:=I.own j v mi e
  refine ⟨_,e1,k v _ h l S H o ⟨?_,fun p hp z=>?_,fun y w my ey z=>?_⟩ (I.drop m hj) (Same.refl S)⟩
  ·exact I.mine hj mi e e1 (by rw [m]; rfl)
  ·obtain ⟨_,_,g3⟩:=I.prs p hp
   exact g3 j v (Mo.w_own m) e (by rw [z]; exact e1)
  ·obtain ⟨q,ey⟩:=a1h ey
   exact q (I.dis y j w v l my mi ey e z e1)
end
noncomputable def sFrz (j:Nat) (r:SW):SW:=fun L Q=>wp (lk L j) fun _=>r L fun fl L'=>Q fl (L'.set j none)
section
variable {X:Cx} {C:CC} {n:Nat} {sp:Γd→Nat→Sp} {fr:Bool} {sts:List Stmt} {r:SW}
variable {K:Γd} {c:Cn} {md md':Md} {L:a0a} {σ:L2.St} {S H:Hp} {j:Nat}
theorem a3k {L:a0a} {i j:Nat} (h:i≠j):(L.set j none)[i]?=L[i]?:=List.getElem?_set_ne (Ne.symm h)
end
end Kq
end
set_option maxHeartbeats 1000000
set_option maxHeartbeats 4000000
section
namespace Kq
open PySem PySem.Spec PyProof.Rows L2 PySem.W
noncomputable def gA (a:Array Keyed) (i:Nat):Keyed:=a.getD i (.none,.none)
theorem c5b {a:Array Keyed} {i:Nat} (h:i < a.size):a[i]?=some (gA a i):=by
 simp [gA,Array.getD_eq_getD_getElem?,getElem?_pos a i h]
structure Cmp (prog:Program) (w:World) (A:Around) (E:Value→Shared→Prop) (s:Shared) (kd:SortKind) (Ok:Keyed→Prop) (lt:Keyed→Keyed→Bool):Prop where
 run:∀ x y,Ok x→Ok y→∀ (st:SortSt) (Q:Option Bool→SortSt→Prop),kindOf st=kd→Q (some (lt x y)) st→wpS (model prog w) A E s (lt' x y) Q st
 refl:∀ x,lt x x=false
 trans:∀ x y z,lt y x=false→lt z y=false→lt z x=false
 asym:∀ x y,lt x y=true→lt y x=false
noncomputable def Srt (lt:Keyed→Keyed→Bool) (a:Array Keyed) (lo hi:Nat):Prop:=∀ i j,lo≤i→i≤j→j < hi→lt (gA a j) (gA a i)=false
noncomputable def Out (a b:Array Keyed) (lo hi:Nat):Prop:=b.Perm a∧∀ k,k < lo ∨ hi≤k→gA b k=gA a k
theorem Out.refl (a:Array Keyed) (lo hi:Nat):Out a a lo hi:=⟨Array.Perm.refl _,fun _ _=>rfl⟩
theorem Out.trans {a b c:Array Keyed} {lo hi:Nat} (h:Out a b lo hi) (g:Out b c lo hi):Out a c lo hi:=⟨g.1.trans h.1,fun k hk=>(g.2 k hk).trans (h.2 k hk)⟩
theorem Out.size {a b:Array Keyed} {lo hi:Nat} (h:Out a b lo hi):b.size=a.size:=h.1.size_eq
noncomputable def AllOk (Ok:Keyed→Prop) (a:Array Keyed):Prop:=∀ x∈a.toList,Ok x
theorem AllOk.at {Ok:Keyed→Prop} {a:Array Keyed} (h:AllOk Ok a) {i:Nat} (hi:i < a.size):Ok (gA a i):=by
 refine h _ ?_
 have:=c5b hi
 rw [← Array.getElem?_toList] at this
 exact List.mem_of_getElem? this
theorem AllOk.perm {Ok:Keyed→Prop} {a b:Array Keyed} (h:AllOk Ok a) (p:b.Perm a):AllOk Ok b:=fun x hx=>h x ((Array.perm_iff_toList_perm.mp p).mem_iff.mp hx)
theorem Srt.out {lt:Keyed→Keyed→Bool} {a b:Array Keyed} {lo hi l h:Nat} (s:Srt lt a l h) (o:Out a b lo hi) (d:h≤lo ∨ hi≤l):Srt lt b l h:=fun i j h1 h2 h3=>by
 rw [o.2 i (by lia),o.2 j (by lia)]; exact s i j h1 h2 h3
section
variable {prog:Program} {w:World} {A:Around} {E:Value→Shared→Prop} {s:Shared} {kd:SortKind} {Ok:Keyed→Prop} {lt:Keyed→Keyed→Bool}
abbrev stA (kd:SortKind) (a:Array Keyed) (p:Array (Nat×Nat×Nat)) (g:Nat):SortSt:=SortSt.mk' kd a p g none
theorem ask (C:Cmp prog w A E s kd Ok lt) {a:Array Keyed} {p:Array (Nat×Nat×Nat)} {g i j:Nat} {Q:Option Bool→SortSt→Prop} (ho:AllOk Ok a) (hi:i < a.size) (hj:j < a.size) (h:Q (some (lt (gA a i) (gA a j))) (stA kd a p g)):wpS (model prog w) A E s (ltAt' i j) Q (stA kd a p g):=by
 rw [ltAt'_eq]
 refine wpS_bind (wpS_get ?_)
 show wpS _ _ _ _ (do let x ← elem' a i; let y ← elem' a j; lt' x y) Q _
 rw [elem'_eq,elem'_eq,c5b hi,c5b hj]
 exact wpS_bind (wpS_pure (wpS_bind (wpS_pure (C.run _ _ (ho.at hi) (ho.at hj) _ _ rfl h))))
theorem turned {a:Array Keyed} {p:Array (Nat×Nat×Nat)} {g i j:Nat} {Q:Unit→SortSt→Prop} (h:Q () (stA kd (mirror a i j ((j - i) / 2)) p g)):wpS (model prog w) A E s (reverseSlice' i j) Q (stA kd a p g):=by
 rw [reverseSlice'_eq]; exact wpS_modify h
end
section
variable {prog:Program} {w:World} {A:Around} {E:Value→Shared→Prop} {s:Shared} {kd:SortKind} {Ok:Keyed→Prop} {lt:Keyed→Keyed→Bool}
end
section
variable {prog:Program} {w:World} {A:Around} {E:Value→Shared→Prop} {s:Shared} {kd:SortKind} {Ok:Keyed→Prop} {lt:Keyed→Keyed→Bool}
end
abbrev Asc {α:Type} (lt:α→α→Bool) (l:List α):Prop:=l.Pairwise fun x y=>lt y x=false
structure MI {α:Type} (lt:α→α→Bool) (X Y O:List α) (i j:Nat):Prop where
 perm:O.Perm (X.take i++Y.take j)
 srt:Asc lt O
 bef:∀ x∈O,∀ y∈X.drop i++Y.drop j,lt y x=false
section
variable {α:Type} {lt:α→α→Bool} {X Y O:List α} {i j k:Nat}
theorem MI.swap (h:MI lt X Y O i j):MI lt Y X O j i:=⟨h.perm.trans List.perm_append_comm,h.srt,fun x hx y hy=>h.bef x hx y (by simpa [or_comm] using hy)⟩
theorem MI.more (h:MI lt X Y O i j) (hX:Asc lt X) (hc:∀ x∈(X.drop i).take k,∀ y∈Y.drop j,lt y x=false):MI lt X Y (O++(X.drop i).take k) (i + k) j:=by
 have hsub:X.drop i=(X.drop i).take k++X.drop (i + k):=by rw [← List.drop_drop,List.take_append_drop]
 have hXd:Asc lt (X.drop i):=hX.sublist (List.drop_sublist _ _)
 rw [hsub] at hXd
 obtain ⟨s1,s2,s3⟩:=List.pairwise_append.mp hXd
 refine ⟨?_,?_,fun x hx y hy=>?_⟩
 ·rw [List.take_add,List.append_assoc]
  refine (h.perm.append_right _).trans ?_
  rw [List.append_assoc]
  exact List.Perm.append_left _ List.perm_append_comm
 ·refine List.pairwise_append.mpr ⟨h.srt,s1,fun x hx y hy=>h.bef x hx y (List.mem_append_left _ (List.mem_of_mem_take hy))⟩
 ·rcases List.mem_append.mp hx with hx | hx
  ·refine h.bef x hx y ?_
   rcases List.mem_append.mp hy with hy | hy
   ·rw [hsub]; exact List.mem_append_left _ (List.mem_append_right _ hy)
   ·exact List.mem_append_right _ hy
  ·rcases List.mem_append.mp hy with hy | hy
   ·exact s3 x hx y hy
   ·exact hc x hx y hy
noncomputable def Mrg (lt:α→α→Bool) (X Y R:List α):Prop:=R.Perm (X++Y)∧Asc lt R
theorem Mrg.swap {R:List α} (h:Mrg lt X Y R):Mrg lt Y X R:=⟨h.1.trans List.perm_append_comm,h.2⟩
end
section
variable {lt:Keyed→Keyed→Bool} {x y o:Array Keyed} {i j k:Nat}
abbrev MA (lt:Keyed→Keyed→Bool) (x y o:Array Keyed) (i j:Nat):Prop:=MI lt x.toList y.toList o.toList i j
theorem MA.swap (h:MA lt x y o i j):MA lt y x o j i:=MI.swap h
end
section
variable {prog:Program} {w:World} {A:Around} {E:Value→Shared→Prop} {s:Shared} {kd:SortKind} {Ok:Keyed→Prop} {lt:Keyed→Keyed→Bool}
end
abbrev rv (lt:Keyed→Keyed→Bool):Keyed→Keyed→Bool:=fun u v=>lt v u
noncomputable def MH (lt:Keyed→Keyed→Bool) (x y o:Array Keyed) (i j:Nat):Prop:=MI (rv lt) x.toList.reverse y.toList.reverse o.toList (x.size - i) (y.size - j)
section
variable {lt:Keyed→Keyed→Bool} {x y o:Array Keyed} {i j t:Nat}
theorem MH.swap (h:MH lt x y o i j):MH lt y x o j i:=MI.swap h
end
section
variable {prog:Program} {w:World} {A:Around} {E:Value→Shared→Prop} {s:Shared} {kd:SortKind} {Ok:Keyed→Prop} {lt:Keyed→Keyed→Bool}
end
noncomputable def back (r:Array Keyed) (s:Nat) (a:Array Keyed):Array Keyed:=r.toList.zipIdx.foldl (fun a q=>a.setIfInBounds (s + q.2) q.1) a
section
variable {prog:Program} {w:World} {A:Around} {E:Value→Shared→Prop} {s:Shared} {kd:SortKind} {Ok:Keyed→Prop} {lt:Keyed→Keyed→Bool}
end
noncomputable def Cov (lt:Keyed→Keyed→Bool) (a:Array Keyed):List (Nat×Nat×Nat)→Nat→Nat→Prop
 | [],s,e=>s=e
 | (u,n,_) :: r,s,e=>u=s∧1≤n∧Srt lt a s (s + n)∧Cov lt a r (s + n) e
section
variable {lt:Keyed→Keyed→Bool} {a b:Array Keyed}
theorem Cov.le:∀ {l:List (Nat×Nat×Nat)} {s e:Nat},Cov lt a l s e→s + l.length≤e
 | [],s,e,h=>by cases (show s=e from h); simp
 | (u,n,_) :: r,s,e,⟨_,h2,_,h4⟩=>by have:=h4.le; simp; lia
theorem Cov.out:∀ {l:List (Nat×Nat×Nat)} {s e lo hi:Nat},Cov lt a l s e→Out a b lo hi→e≤lo ∨ hi≤s→Cov lt b l s e
 | [],s,e,lo,hi,h,o,d=>h
 | (u,n,_) :: r,s,e,lo,hi,⟨h1,h2,h3,h4⟩,o,d=>⟨h1,h2,h3.out o (by have:=h4.le; lia),h4.out o (by lia)⟩
theorem Cov.snoc:∀ {l:List (Nat×Nat×Nat)} {s e n f:Nat},Cov lt a l s e→1≤n→Srt lt a e (e + n)→Cov lt a (l++[(e,n,f)]) s (e + n)
 | [],s,e,n,f,h,h1,h2=>by cases (show s=e from h); exact ⟨rfl,h1,h2,rfl⟩
 | (u,m,_) :: r,s,e,n,f,⟨g1,g2,g3,g4⟩,h1,h2=>⟨g1,g2,g3,g4.snoc h1 h2⟩
theorem Cov.join : ∀ {l : List (Nat × Nat × Nat)} {i s e : Nat}, Cov lt a l s e → i + 1 < l.length → ∃ u m f n f', l[i]? = some (u, m, f) ∧ l[i + 1]? = some (u + m, n, f') ∧ 1 ≤ m ∧ 1 ≤ n ∧ s ≤ u ∧ u + m + n ≤ e ∧ Srt lt a u (u + m) ∧ Srt lt a (u + m) (u + m + n) ∧
      ∀ b, Out a b u (u + m + n) → Srt lt b u (u + m + n) → Cov lt b ((l.set i (u, m + n, f)).eraseIdx (i + 1)) s e
  | [], i, s, e, h, hi => by simp at hi
  | [_], i, s, e, h, hi => by simp at hi
  | (u, m, f) :: (v, n, f') :: r, 0, s, e, ⟨g1, g2, g3, g4, g5, g6, g7⟩, hi => by
    subst g1; subst g4
    refine ⟨u, m, f, n, f', rfl, rfl, g2, g5, Γi _, by have := g7.le; lia, g3, g6, fun b o hs => ?_⟩
    refine ⟨rfl, by lia, by rw [← Nat.add_assoc]; exact hs, ?_⟩
    rw [← Nat.add_assoc]
    exact g7.out o (.inr (Γi _))
  | (u, m, f) :: q :: r, i + 1, s, e, ⟨g1, g2, g3, g4⟩, hi => by
    obtain ⟨u', m', f1, n', f2, e1, e2, h1, h2, h3, h4, h5, h6, h7⟩ := Cov.join (i := i) g4 (by simpa using hi)
    refine ⟨u', m', f1, n', f2, by simpa using e1, by simpa using e2, h1, h2, by lia, h4, h5, h6, fun b o hs => ?_⟩
    have := h7 b o hs
    rw [List.set_cons_succ, List.eraseIdx_cons_succ]
    exact ⟨g1, g2, g3.out o (.inl h3), this⟩
end
section
variable {prog:Program} {w:World} {A:Around} {E:Value→Shared→Prop} {s:Shared} {kd:SortKind} {Ok:Keyed→Prop} {lt:Keyed→Keyed→Bool}
end
section
variable {prog:Program} {w:World} {A:Around} {E:Value→Shared→Prop} {s:Shared} {vs:List Value} {kd:SortKind} {kf:Value→List Int}
end
noncomputable def numsOf (h:Heap):Value→List Int
 | .ref a=>match h.get? a with
  | some o=>match o.data with
   | .seq us _=>us.toList.map numOf
   | _=>[]
  | none=>[]
 | _=>[]
section
variable {prog:Program} {w:World} {A:Around} {E:Value→Shared→Prop} {s:Shared} {vs:List Value}
noncomputable def NumTup (h:Heap) (v:Value) (ks:List Int):Prop:=∃ (a:Addr) (o:Obj) (us:List Value) (n:Nat),v=.ref a∧h.get? a=some o∧o.cls=.type "tuple"∧o.data=.seq us.toArray n∧Vals (ks.map V.int) us∧ks≠[]
theorem NumTup.keep {h h':Heap} {v:Value} {ks:List Int} (x:NumTup h v ks) (k:∀ b o,h.get? b=some o→h'.get? b=some o):NumTup h' v ks:=by
 obtain ⟨a,o,us,n,e,h1,h2⟩:=x
 exact ⟨a,o,us,n,e,k _ _ h1,h2⟩
end
noncomputable def fkey:FV→List Int
 | .tup ps=>(a0z ps).getD []
 | _=>[]
noncomputable def eSortB (m:Nat) (a:EW):EW:=fun L Q=>a L fun v L1=>wp (a4w v) fun xs=>b4p xs=true∧xs.length≤m∧∀ ys:List FV,ys.Perm xs→(ys.Pairwise fun x y=>lexLt (fkey y) (fkey x)=false)→Q (.lst ys) L1
section
variable {K:Γd} {S:Hp}
end
section
variable {X:Cx}
end
section
variable {X:Cx} {C:CC} {n:Nat} {sp:Γd→Nat→Sp} {a:Expr} {ea:EW} {pos p:Pos}
end
noncomputable def EntAt (h:Heap) (d:Addr) (es:Array DictEntry) (ep:Nat):Prop:=∃ o,h.get? d=some o∧o.ExactDict∧o.data=.dict es ep
section
variable {prog:Program} {w:World} {A:Around} {E:Value→Shared→Prop} {s:Shared} {it d:Addr} {i n ep:Nat} {es:Array DictEntry}
theorem EntAt.ty (x:EntAt s.heap d es ep):s.TypeIs (.ref d) "dict":=by
 obtain ⟨o,ho,hc,_⟩:=x
 exact ⟨o,ho,hc.1⟩
theorem EntAt.keep {h h':Heap} (x:EntAt h d es ep) (k:∀ o,h.get? d=some o→h'.get? d=some o):EntAt h' d es ep:=by
 obtain ⟨o,ho,r⟩:=x
 exact ⟨o,k o ho,r⟩
theorem c0u {Q:Value→Shared→Prop} (hd:(d == sysModules)=false) (hm:EntAt s.heap d es ep)
  (q:Q (.ref s.heap.objs.size) { s with heap:=s.heap.push { cls:=.type "dict_keyiterator",data:=.fields #[.ref d,.int 0 0,.int es.size 0,.int ep 0] } }):wpAny (model prog w) A (pyIter (.ref d)) Q E s:=by
 have hT:=hm.ty
 obtain ⟨o,ho,hc,hdat⟩:=hm
 refine wpAny_pyIter_slot hT F.slot_dict_iter (wpAny_call_entry F.slot_dict_iter hT F.entry_dict_iter ?_ (F.args_dict_iter_1 _)); unfold Builtin.«dict.__iter__»; refine Γa ?_; unfold Builtin.Dict.dictSlotNone
 refine Γa (wpAny_notOrdered_dict hT ?_); show wpAny _ _ (pure (Value.ref d)) _ _ s; refine Γb ?_; show wpAny _ _ (Builtin.Dict.showsAll d >>= _) _ _ s; unfold Builtin.Dict.showsAll
 rw [if_neg (by rw [hd]; exact Γk)]; refine Γa (Γb (Γa (wpAny_dictEntries ho hdat (Γa (wpAny_dictEpoch ho hdat ?_)))))
 refine Γa (wpAny_newObj_type (Γb ⟨_,rfl,"dict_keyiterator",_,⟨_,Γm _ rfl,rfl⟩,F.slot_dict_keyiterator_next.lookup,?_⟩)); simpa [rawInt] using q
theorem c0j {Q:Option Value→Shared→Prop} (hit:s.heap.IsKeyIter it d i es.size ep) (hm:EntAt s.heap d es ep) (hi:i < es.size)
  (q:∀ h',h'.IsKeyIter it d (i + 1) es.size ep→Heap.SameBut it s.heap h'→Q (some es[i].key) { s with heap:=h' }):wpAny (model prog w) A (pyNext (.ref it)) Q E s:=by
 have hT:=hit.typeIs
 obtain ⟨o,ho,hc,hd⟩:=id hit
 obtain ⟨od,hod,_,hdd⟩:=hm
 have hown:Builtin.Dict_items.ownsTuple "dict_keyiterator" = false:=by decide
 unfold pyNext; refine Γa (wpAny_attempt (wpAny_callSpecial?_slot (name:=Γe "__next__") hT F.slot_dict_keyiterator_next (wpAny_call_entry F.slot_dict_keyiterator_next hT F.entry_dict_keyiterator_next ?_ (F.args_dict_keyiterator_next_1 _))))
 refine Γa (Γb (Γa (Γa ?_))); first | refine Γa (wpAny_typeNameOfWhole_keyiter hT (Γb ?_)) | refine Γa (wpAny_typeNameOf_keyiter hT (Γb ?_))
 refine Γa (wpAny_fieldsOf ho hd ?_); simp only [hown,Γp,if_false]; show wpAny _ _ (if (Value.ref d == Value.none)=true then _ else _) _ _ s; rw [if_neg (show ¬ ((Value.ref d == Value.none)=true) from Γk)]
 refine Γa (Γb (Γa (wpAny_dictEntries hod hdd ?_))); rw [if_neg (by simp)]
 refine Γa (Γb (Γa (wpAny_dictEpoch hod hdd ?_))); rw [if_neg (by simp)]; refine Γb ?_
 simp only [show ¬ ((i:Int) < 0) from by lia,if_false,Int.toNat_natCast,Array.getElem?_eq_getElem hi]; refine Γa ?_
 first | refine Γa (wpAny_typeNameOfWhole_keyiter hT (Γb (Γa (wpAny_isOneOf_keyiter hT ?_)))) | refine Γa (wpAny_typeNameOf_keyiter hT (Γb (Γa (wpAny_isOneOf_keyiter hT ?_))))
 show wpAny _ _ (setField (.ref it) 1 (rawInt ((i:Int) + 1)) >>= _) _ _ s; refine Γa (wpAny_setField ho hd (by simp) ?_)
 have hit':(s.heap.update it (Obj.mapFields (·.setIfInBounds 1 (rawInt ((i:Int) + 1))))).IsKeyIter it d (i + 1) es.size ep:=⟨_,Heap.get?_update_self _ ho (Obj.isFreed_of_fields (Obj.data_mapFields hd _)),(Obj.cls_mapFields ..).trans hc,by rw [Obj.data_mapFields hd]; simp [rawInt]⟩
 refine Γa (Γg (Γa (wpAny_isOneOf_keyiter (s:={ s with heap:=s.heap.update it (Obj.mapFields (·.setIfInBounds 1 (rawInt ((i:Int) + 1)))) }) hit'.typeIs ?_))); show wpAny _ _ (pure es[i].key) _ _ _
 exact Γb (Γb ⟨_,rfl,Γb (q _ hit' (Heap.SameBut.update ..))⟩)
theorem c5k {Q:Option Value→Shared→Prop} (hh:A.handled=none) (hit:s.heap.IsKeyIter it d i es.size ep) (hm:EntAt s.heap d es ep) (hi:es.size≤i)
  (q:∀ h',Heap.ExtBut it s.heap h'→Q none { s with heap:=h' }):wpAny (model prog w) A (pyNext (.ref it)) Q E s:=by
 have hT:=hit.typeIs
 obtain ⟨o,ho,hc,hd⟩:=id hit
 obtain ⟨od,hod,_,hdd⟩:=hm
 have hown:Builtin.Dict_items.ownsTuple "dict_keyiterator" = false:=by decide
 unfold pyNext; refine Γa (wpAny_attempt (wpAny_callSpecial?_slot (name:=Γe "__next__") hT F.slot_dict_keyiterator_next (wpAny_call_entry F.slot_dict_keyiterator_next hT F.entry_dict_keyiterator_next ?_ (F.args_dict_keyiterator_next_1 _))))
 refine Γa (Γb (Γa (Γa ?_))); first | refine Γa (wpAny_typeNameOfWhole_keyiter hT (Γb ?_)) | refine Γa (wpAny_typeNameOf_keyiter hT (Γb ?_))
 refine Γa (wpAny_fieldsOf ho hd ?_); simp only [hown,Γp,if_false]; show wpAny _ _ (if (Value.ref d == Value.none)=true then _ else _) _ _ s; rw [if_neg (show ¬ ((Value.ref d == Value.none)=true) from Γk)]
 refine Γa (Γb (Γa (wpAny_dictEntries hod hdd ?_))); rw [if_neg (by simp)]
 refine Γa (Γb (Γa (wpAny_dictEpoch hod hdd ?_))); rw [if_neg (by simp)]; refine Γb ?_
 simp only [show ¬ ((i:Int) < 0) from by lia,if_false,Int.toNat_natCast,Array.getElem?_eq_none hi]; refine Γa ?_
 first | refine Γa (wpAny_typeNameOfWhole_keyiter hT (Γb ?_)) | refine Γa (wpAny_typeNameOf_keyiter hT (Γb ?_))
 show wpAny _ _ (setField (.ref it) 0 .none >>= _) _ _ s; refine Γa (wpAny_setField ho hd (by simp) ?_); show wpAny _ _ (newExc (.type "StopIteration") [] >>= _) _ _ _; refine Γa ?_; simp only [newExc,newTuple]
 refine Γa (wpAny_newObj_type ?_ (by size_fits)); refine Γa (m:=firstArgMember _ _) (wpAny_of_eq (a:=Value.none) (by first | rfl | (simp only [firstArgMember]; rfl)) ?_); refine wpAny_newObj_type ?_ (by size_fits); simp only [raiseNew]
 refine Γa (wpAny_handled ?_); rw [show A.in1.handled=none from hh]; refine Γa (Γb (wpAny_throw ?_))
 refine Γa (wpAny_isInstance (T:="StopIteration") (b:=true) ⟨_,Γm _ rfl,rfl⟩ isSubtype_stop ?_); exact Γb (q _ (((Heap.SameBut.update ..).extBut.push _).push _))
end
section
variable {X:Cx} {pins:List (Addr×Obj)} {σ:L2.St} {H:Hp} {s:Shared} {a:Addr}
theorem b2t {kvs:List (List (Int ⊕ Option Str)×V)} {o:Obj} (I:Inv X pins σ H s) (h:H a=some (.dT kvs)) (ho:s.heap.get? a=some o):Inv X pins σ (upd H a (.frz o (.dT kvs))) s:=by
 have ne:∀ {b:Addr} {u:HO},H b=some u→u≠.dT kvs→b≠a:=fun e n z=>by subst z; rw [h] at e; exact n (Option.some.inj e).symm
 have ow:∀ b c,H b=some (.own c)→upd H a (.frz o (.dT kvs)) b=some (.own c):=fun b c e=>by rw [a0d (ne e (fun z=>nomatch z))]; exact e
 have tu:∀ b xs,H b=some (.tup xs)→upd H a (.frz o (.dT kvs)) b=some (.tup xs):=fun b xs e=>by rw [a0d (ne e (fun z=>nomatch z))]; exact e
 refine I.un (t':=s.toks) (h':=s.heap) ⟨fun b o' e _ _ _=>e,fun b o' e _ _ _=>⟨o'.slots,e⟩,fun b o' e n _=>?_,fun b o' e _=>⟨o',e⟩,tu,fun b o' u e=>?_,fun b ps e=>?_⟩ fun b u e=>?_
 ·rw [a0d (fun z=>by subst z; rw [h] at n; cases n)]; exact n
 ·rw [a0d (ne e (fun z=>nomatch z))]; exact e
 ·exact ⟨#[],by rw [a0d (ne e (fun z=>nomatch z)),Array.append_empty]; exact e⟩
 ·by_cases z:b=a
  ·subst z
   rw [a0e] at e; cases e
   exact ⟨ho,(I.hok b _ h).stay (fun _ _ _ q=>q) (fun c e=>ow c b e) tu⟩
  ·rw [a0d z] at e
   exact (I.hok b u e).stay (fun _ _ _ q=>q) (fun c e=>ow c b e) tu
end
noncomputable def Itk (a:Addr) (o:Obj) (kvs:List (List (Int ⊕ Option Str)×V)):It :=
 ⟨fun i H=>H a=some (.frz o (.dT kvs))∧i < kvs.length,fun i H v H'=>H'=H∧∃ b p,v=.ref b∧kvs[i]?=some p∧H b=some (.tup (p.1.map kV)),fun i H=>H a=some (.frz o (.dT kvs))∧kvs.length≤i⟩
theorem a9o {P:Program} {w:World} {H:Hp} {h:Heap} {a:Addr} {kvs:List (List (Int ⊕ Option Str)×V)} (x:ObjOk P w H h a (.dT kvs)):∃ o es ep,h.get? a=some o∧o.data=.dict es ep∧EntAt h a es ep∧es.size=kvs.length∧(a == sysModules)=false∧∀ (i:Nat) (hi:i < es.size) p,kvs[i]?=some p→∃ b,es[i].key=.ref b∧H b=some (.tup (p.1.map kV)):=by
 obtain ⟨_,y,xs,r,o,es,ep,h1,h2,h3,h4,_⟩:=x
 have hl:kvs.length=xs.length:=r.length
 have hs:es.size=xs.length:=by rw [← Array.length_toList,h4,List.length_map]
 refine ⟨o,es,ep,h1,h3,⟨o,h1,h2,h3⟩,by lia,y,fun i hi p hp=>?_⟩
 have hx:i < xs.length:=by lia
 have key:∀ {l:List (List (Int ⊕ Option Str)×V)} {m:List (List (Int ⊕ Option Str)×Addr×Value)},Paired (fun (p:List (Int ⊕ Option Str)×V) (q:List (Int ⊕ Option Str)×Addr×Value)=>p.1=q.1∧H q.2.1=some (.tup (p.1.map kV))∧RelV p.2 q.2.2) l m→∀ (i:Nat) p q,l[i]?=some p→m[i]?=some q→H q.2.1=some (.tup (p.1.map kV)):=by
  intro l m z
  induction z with
  | nil=>intro i p q h; simp at h
  | @cons p0 q0 ps qs hq t ih =>
   intro i p q e1 e2
   cases i with
   | zero=>simp at e1 e2; subst e1; subst e2; exact hq.2.1
   | succ i=>simp at e1 e2; exact ih i p q e1 e2
 refine ⟨xs[i].2.1,?_,key r i p xs[i] hp (by simp [hx])⟩
 have e:es.toList[i]'(by simpa using hi)=entryOfKey (tupleKind (a0k P w)) xs[i]:=by simp only [h4,List.getElem_map]
 rw [← Array.getElem_toList (h:=hi),e]; rfl
theorem b4o {P:Program} {w:World} {K:Γd} {tg:Expr} {o:Obj} {kvs:List (List (Int ⊕ Option Str)×V)} {es:Array DictEntry} {ep:Nat} (a it:Addr) (hd:o.data=.dict es ep) (hz:es.size=kvs.length):Turn P w K tg (Itk a o kvs) [it] it (fun i h=>h.IsKeyIter it a i es.size ep) where
 mem:=by simp
 obj:=fun i h st b hb=>by
  have e:b=it:=by simpa using hb
  subst e
  obtain ⟨o,e,c,d⟩:=st
  exact ⟨o,e,fun v z=>by rw [d] at z; cases z⟩
 keep:=fun i h h' st k=>st.at fun o e=>k it (by simp) o e
 item:=by
  intro X hP hw hK hc i pins s σ H E I hf st hg
  subst hP hw hK
  obtain ⟨e0,hi⟩:=hg
  obtain ⟨q1,q2⟩:=(show ObjOk X.prog X.w H s.heap a (.frz o (.dT kvs)) from I.hok a _ e0)
  obtain ⟨o',es',ep',f1,f2,f3,f4,f5,f6⟩:=a9o q2
  rw [q1] at f1; cases f1
  rw [hd] at f2; cases f2
  obtain ⟨f0,g1,g2,g3,g4,g5⟩:=hf it (by simp)
  have hi':i < es.size:=by lia
  obtain ⟨b,k1,k2⟩:=f6 i hi' kvs[i] (by simp [hi])
  refine c0j st f3 hi' fun h' st' sb=>?_
  have I1:Inv X pins σ H { s with heap:=h' }:=I.turned (t':=s.toks) (fun b o hb e=>(sb.2 b hb).trans e) f0 g1 g3 g4 g5
  obtain ⟨o2,e,c,d⟩:=id st'
  rw [k1]
  exact ⟨_,rfl,c1b (s:={ s with heap:=h' }) e c d (by decide) ⟨.ref b,H,I1,rfl,⟨rfl,b,kvs[i],rfl,by simp [hi],k2⟩,st',fun b hb=>(hf b hb).1⟩⟩
 done:=by
  intro X hP hw hK hc i pins s σ H E I hf st hg
  subst hP hw hK
  obtain ⟨e0,hi⟩:=hg
  obtain ⟨q1,q2⟩:=(show ObjOk X.prog X.w H s.heap a (.frz o (.dT kvs)) from I.hok a _ e0)
  obtain ⟨o',es',ep',f1,f2,f3,f4,f5,f6⟩:=a9o q2
  rw [q1] at f1; cases f1
  rw [hd] at f2; cases f2
  obtain ⟨f0,g1,g2,g3,g4,g5⟩:=hf it (by simp)
  exact c5k (I.ok.hd hc) st f3 (by lia) fun h' eb=>⟨rfl,I.turned (t':=s.toks) (fun b o hb e=>eb b o hb e) f0 g1 g3 g4 g5⟩
 self:=fun _ _ _ _ _ st h=>wpAny_pyIter_keyiter st h
theorem c3v {X:Cx} {tg it:Expr} {te:TE} (h:PE X it te):PI X tg it (fun σ H R=>te σ H fun v H1=>∃ a kvs,v=.ref a∧((H1 a=some (.dT kvs)∧∀ o,R (Itk a o kvs) (upd H1 a (.frz o (.dT kvs)))) ∨ ∃ o,H1 a=some (.frz o (.dT kvs))∧R (Itk a o kvs) H1)):=by
 intro pins s σ H R I hh
 refine thn (h pins s σ H _ I hh) fun v s1 ⟨x,H1,I1,r1,a,kvs,e,q⟩=>?_
 subst e
 cases r1
 have one:∀ (o:Obj) (H2:Hp),Inv X pins σ H2 s1→H2 a=some (.frz o (.dT kvs))→R (Itk a o kvs) H2→wpAny (model X.prog X.w) X.A (pyIter (.ref a)) (PIE X pins σ tg R) X.xe s1:=by
  intro o H2 I2 e2 q
  obtain ⟨q1,q2⟩:=(show ObjOk X.prog X.w H2 s1.heap a (.frz o (.dT kvs)) from I2.hok a _ e2)
  obtain ⟨o',es,ep,f1,f2,f3,f4,f5,f6⟩:=a9o q2
  rw [q1] at f1; cases f1
  refine c0u f5 f3 ?_
  refine ⟨s1.heap.objs.size,[s1.heap.objs.size],_,_,H2,rfl,I2.kept (t':=s1.toks) fun b o e=>Γc _ e,b4o a _ f2 f4,⟨_,Γm _ rfl,rfl,rfl⟩,fun b hb=>?_,q⟩
  have e:b=s1.heap.objs.size:=by simpa using hb
  subst e
  exact I2.fpOk (Γi _) (I2.hok.fresh (Γi _))
 rcases q with ⟨e1,q⟩ | ⟨o,e1,q⟩
 ·obtain ⟨o,es,ep,f1,f2,_⟩:=a9o (show ObjOk X.prog X.w H1 s1.heap a (.dT kvs) from I1.hok a _ e1)
  exact one o _ (b2t I1 e1 f1) a0e (q o)
 ·exact one o H1 I1 e1 q
noncomputable def keyF (k:List Int):FV:=.tup (k.map .int)
section
variable {X:Cx} {C:CC} {n:Nat} {sp:Γd→Nat→Sp} {tg:Expr} {p:Pos} {i:Nat} {nx:Str}
variable {K:Γd} {c:Cn} {md:Md}
end
section
variable {prog:Program} {w:World} {A:Around} {E:Value→Shared→Prop} {s:Shared} {d:Addr} {es:Array DictEntry} {ep:Nat}
end
section
variable {X:Cx}
end
noncomputable def d0d:FV→Option (List (List Int))
 | .dct ks _=>some ks
 | .dcz _ ks _=>some ks
 | _=>none
noncomputable def eSortE (m j:Nat):EW:=fun L Q=>wp (lk L j) fun v=>wp (d0d v) fun ks=>ks.length≤m∧(∀ k∈ks,k≠[])∧∀ ys:List (List Int),ys.Perm ks→(ys.Pairwise fun x y=>lexLt y x=false)→Q (.lst (ys.map keyF)) L
section
variable {X:Cx} {C:CC} {n:Nat} {sp:Γd→Nat→Sp} {pos p p':Pos} {i:Nat} {nx:Str}
theorem Iv.tups {K:Γd} {c:Cn} {md:Md} {L:a0a} {σ:L2.St} {H:Hp}:∀ {ys:List (List Int)} {zs:List V} {S:Hp},Iv K c md L σ S H→Paired (fun (k:List Int) (z:V)=>∃ b:Addr,z=V.ref b∧H b=some (.tup (k.map V.int))) ys zs→∃ S',Iv K c md L σ S' H∧Same S S'∧RVs K S' (ys.map keyF) zs
 | _,_,S,I,.nil=>⟨S,I,Same.refl S,rfl⟩
 | _,_,S,I,.cons (a:=k) (b:=z) ⟨b,e,hb⟩ t=>by
  subst e
  obtain ⟨S',I',s',r⟩:=Iv.tups I t
  obtain ⟨I2,s2⟩:=I'.tup hb
  exact ⟨_,I2,s'.trans s2,V.ref b,_,rfl,⟨b,_,rfl,a0e,RVs.ns k⟩,r.mono s2⟩
end
noncomputable def d9c (xs:Array Nat):Prop:=∀ i j (hi:i < xs.size) (hj:j < xs.size),i < j→xs[i] < xs[j]
noncomputable def TabOk (t:SetTable) (l:Bool):Prop:=t.led=l∧t.dummies = #[]∧(t.plain=true→d9c t.place)
theorem TabOk.fresh (f m:Nat) (l:Bool):TabOk (.fresh f m l) l:=⟨rfl,rfl,fun _ i j hi=>absurd hi (Nat.not_lt_zero _)⟩
noncomputable def NumEs (l:List (Int×Value)):Prop:=∀ e∈l,∃ k tk,e=(hashInt k,Value.int k tk)
theorem NumEs.perm {l l':List (Int×Value)} (h:NumEs l) (p:l'.Perm l):NumEs l':=fun e he=>h e (p.mem_iff.mp he)
noncomputable def c2x (l:List (Int×Value)):List Int:=l.map fun e=>numOf e.2
structure SetData (w:World) (o:Obj) (ns:List Int) (es:Array (Int×Value)) (ep:Nat) (t:SetTable):Prop where
 ex:o.ExactSet
 dat:o.data=.set es ep t
 num:NumEs es.toList
 perm:(c2x es.toList).Perm ns
 a2b:ns.length < scanBound
 fits:t.fits es.size=true
 tab:TabOk t (!w.params.followText "set-order")
noncomputable def SetN (w:World) (h:Heap) (a:Addr) (ns:List Int):Prop:=ns.Nodup∧∃ o es ep t,h.get? a=some o∧SetData w o ns es ep t
theorem SetData.size {w:World} {o:Obj} {ns:List Int} {es:Array (Int×Value)} {ep:Nat} {t:SetTable} (d:SetData w o ns es ep t):es.size=ns.length:=by
 have:=d.perm.length_eq
 rw [c2x,List.length_map,Array.length_toList] at this
 exact this
section
variable {prog:Program} {w:World} {A:Around} {E:Value→Shared→Prop} {s:Shared} {a:Addr}
end
theorem a7c {α:Type}:∀ {l:List α} {i:Nat} (h:i < l.length),(l[i] :: l.eraseIdx i).Perm l
 | x :: l,0,_=>by simp
 | x :: l,i + 1,h=>by
  have:=a7c (l:=l) (i:=i) (by simpa using h)
  simp only [List.getElem_cons_succ,List.eraseIdx_cons_succ]
  exact (List.Perm.swap x _ _).trans (this.cons x)
theorem b5n {α:Type} (f:Nat→Nat):∀ (n k:Nat) (l:List α) (out:Array α),n=l.length→(pickOrder.go f n k l out).toList.Perm (out.toList++l)
 | 0,k,l,out,h=>by
  cases l with
  | nil=>unfold pickOrder.go; simp
  | cons=>simp at h
 | n + 1,k,l,out,h=>by
  unfold pickOrder.go
  have hp:0 < l.length:=by lia
  have hm:f k % l.length < l.length:=Nat.mod_lt _ hp
  rw [List.getElem?_eq_getElem hm]
  dsimp only
  refine (b5n f n (k + 1) (l.eraseIdx (f k % l.length)) _ (by rw [List.length_eraseIdx_of_lt hm]; lia)).trans ?_
  rw [Array.toList_push,List.append_assoc]
  refine List.Perm.append_left _ ?_
  exact a7c hm
theorem b5m {α:Type} (f:Nat→Nat) (xs:Array α):(pickOrder f xs).toList.Perm xs.toList:=by
 unfold pickOrder
 simpa using b5n f xs.size 0 xs.toList #[] (by simp)
section
variable {prog:Program} {w:World} {A:Around} {E:Value→Shared→Prop} {s:Shared} {a:Addr}
end
section
variable {prog:Program} {w:World} {A:Around} {E:Value→Shared→Prop} {s:Shared} {a:Addr}
noncomputable def SetIt (h:Heap) (it a:Addr) (f:Value) (i n ep:Nat):Prop:=∃ o,h.get? it=some o∧o.cls=.type "set_iterator"∧o.data=.fields #[f,.int i 0,.ref a,.int n 0,.int ep 0]
theorem SetIt.keep {h h':Heap} {it a:Addr} {f:Value} {i n ep:Nat} (x:SetIt h it a f i n ep) (k:∀ o,h.get? it=some o→h'.get? it=some o):SetIt h' it a f i n ep:=let ⟨o,ho,r⟩:=x; ⟨o,k o ho,r⟩
inductive Goes (w:World) (h:Heap) (a:Addr) (es:Array (Int×Value)) (ep:Nat) (t:SetTable):List Value→Nat→Value→Prop
 | text {i:Nat} {sl:Nat}:w.params.followText "set-order" = true→Goes w h a es ep t ((pickOrder (w.params.setOrder a ep) es).toList.map (·.2)) i (.int sl 0)
 | table {i:Nat}:w.params.followText "set-order" = false→(!t.plain && decide (es.size > 1))=false→Goes w h a es ep t (es.toList.map (·.2)) i (.int ((if i=0 then 0 else t.place.getD (i - 1) 0 + 1:Nat):Int) 0)
 | drawn {i:Nat} {p:Addr} {od:List Nat}:w.params.followText "set-order" = false→h.IsTuple p (od.map fun (n:Nat)=>rawInt n).toArray→od.Perm (List.range es.size)→Goes w h a es ep t (od.map fun n=>(es.getD n (0,.none)).2) i (.ref p)
theorem Goes.keep {h h':Heap} {es:Array (Int×Value)} {ep:Nat} {t:SetTable} {vs:List Value} {i:Nat} {f:Value} (g:Goes w h a es ep t vs i f) (k:∀ p,f=.ref p→∀ o,h.get? p=some o→h'.get? p=some o):Goes w h' a es ep t vs i f:=by
 cases g with
 | text hb=>exact .text hb
 | table hb hd=>exact .table hb hd
 | @drawn _ p od hb ht pm =>
  obtain ⟨ot,o1,r⟩:=ht
  exact .drawn hb ⟨ot,k p rfl ot o1,r⟩ pm
theorem Goes.perm {ns:List Int} {o:Obj} {h:Heap} {es:Array (Int×Value)} {ep:Nat} {t:SetTable} {vs:List Value} {i:Nat} {f:Value} (d:SetData w o ns es ep t) (g:Goes w h a es ep t vs i f):vs.Perm (es.toList.map (·.2)):=by
 cases g with
 | text hb=>exact (b5m _ _).map _
 | table hb hd=>exact .refl _
 | @drawn _ p od hb ht pm =>
  refine (pm.map _).trans (.of_eq ?_)
  apply List.ext_getElem
  ·simp
  ·intro i i1 i2
   simp at i1
   simp [Array.getD_eq_getD_getElem?,i1]
end
section
variable {prog:Program} {w:World} {A:Around} {E:Value→Shared→Prop} {s:Shared} {a:Addr} {ns:List Int} {o:Obj} {es:Array (Int×Value)} {ep:Nat} {t:SetTable}
end
theorem SetN.none {w:World} {h:Heap} {a:Addr} (e:h.get? a=some { cls:=.type "set",dict:=none,data:=.set #[] 0 (.fresh 0 0 (!w.params.followText "set-order")) }):SetN w h a [] :=
 ⟨List.nodup_nil,_,#[],0,_,e,⟨⟨rfl,rfl,rfl⟩,rfl,fun e he=>by simp at he,.refl _,by decide,rfl,TabOk.fresh _ _ _⟩⟩
theorem SetN.keep {w:World} {h h':Heap} {a:Addr} {ns:List Int} (x:SetN w h a ns) (k:∀ o,h.get? a=some o→h'.get? a=some o):SetN w h' a ns:=by
 obtain ⟨nd,o,es,ep,t,ho,d⟩:=x
 exact ⟨nd,o,es,ep,t,k o ho,d⟩
section
variable {prog:Program} {w:World} {A:Around} {R:Result→Shared→Prop} {E:Value→Shared→Prop} {s:Shared} {I:Addr} {fp wr:List Addr} {G:Array GenState→Array GenState→Prop} {n:Nat} {P:Nat→Value→Prop} {St:Nat→Shared→Prop}
end
section
variable {prog:Program} {w:World} {A:Around} {E:Value→Shared→Prop} {s:Shared}
structure NumSrc (prog:Program) (w:World) (s:Shared) (l:Addr) (T:String) (ks:List Int):Prop where
 ty:s.TypeIs (.ref l) T
 su:isSubtype (.type T) (.type "set")=pure false
 sf:isSubtype (.type T) (.type "frozenset")=pure false
 nd:(Value.type T == Value.type "dict")=false
 it:∀ h:Heap,(∀ b o,s.heap.get? b=some o→h.get? b=some o)→∃ (oI:Obj) (P:Nat→Value→Prop) (St:Nat→Heap→Prop),(∀ (A':Around) (E':Value→Shared→Prop) (Q:Value→Shared→Prop),Q (.ref h.objs.size) { s with heap:=h.push oI }→wpAny (model prog w) A' (pyIter (.ref l)) Q E' { s with heap:=h })∧(∀ A':Around,A'.handled=none→Walks prog w A' h.objs.size [h.objs.size,l] [h.objs.size] ks.length P St)∧St 0 (h.push oI)∧∀ i v,P i v→∃ t,v=.int (ks.getD i 0) t
end
section
variable {X:Cx}
noncomputable def SetO (w:World) (a:Addr) (ns:List Int):HO:=.ext fun h=>SetN w h a ns
end
section
variable {X:Cx} {C:CC} {n:Nat} {sp:Γd→Nat→Sp} {a:Expr} {ea:EW} {pos pos' p p':Pos}
end
end Kq
end
section
namespace L2
open PySem PySem.Spec PyProof.Rows
section
variable {prog:Program} {w:World} {A:Around} {R:Result→Shared→Prop} {s:Shared}
end
section
variable {X:Cx} {elt tg iter tg2 iter2:Expr} {ifs ifs2:List Expr} {scope:Scope} {own:List Str} {pos:Pos} {wi wi2:TI} {g g2:TG} {tt tt2:TT} {te:TE}
end
end L2
end
section
namespace Kq
open PySem PySem.Spec PyProof.Rows L2
noncomputable def inS (tg:Tg) (t:BW) (e:EW):List FV→List Int→a0a→(List Int→a0a→Prop)→Prop
 | [],acc,L,Q=>Q acc L
 | y :: r,acc,L,Q=>gW tg y L fun L1=>t L1 fun b L2=>if b=true then e L2 fun v L3=>wp (a3b v) fun k=>inS tg t e r (acc++[k]) L3 Q else inS tg t e r acc L2 Q
noncomputable def b3f (n m:Nat) (tg:Tg) (t:BW) (it2:AW) (tg2:Tg) (t2:BW) (e:EW):List FV→List Int→a0a→(List Int→a0a→Prop)→Prop
 | [],acc,L,Q=>Q acc L
 | x :: xs,acc,L,Q=>gW tg x (L++Γj m none) fun L1=>t L1 fun b L2=>if b=true then it2 L2 fun ys L3=>acc.length + ys.length≤4000∧inS tg2 t2 e ys acc L3 fun acc' L4=>b3f n m tg t it2 tg2 t2 e xs acc' (L4.take n) Q else b3f n m tg t it2 tg2 t2 e xs acc (L2.take n) Q
noncomputable def d7v (n m:Nat) (it:AW) (tg:Tg) (t:BW) (it2:AW) (tg2:Tg) (t2:BW) (e:EW):EW:=fun L Q=>it L fun xs L1=>L1.length=n∧b3f n m tg t it2 tg2 t2 e xs [] L1 fun ns L2=>ns.length≤4000∧∀ ms:List Int,(∀ x,x∈ms↔x∈ns)→ms.Pairwise (· < ·)→Q (.lst (ms.map .int)) L2
section
variable {X:Cx} {C:CC} {n:Nat} {sp:Γd→Nat→Sp} {a b tg:Expr} {ea eb:EW} {pos p:Pos}
end
section
variable {K:Γd} {c:Cn} {md:Md} {L:a0a} {σ:L2.St} {S H:Hp}
end
section
variable {X:Cx} {C:CC} {n:Nat} {sp:Γd→Nat→Sp} {pos pos' p:Pos}
variable {scope:Scope} {own:List Str} {elt tgx iter tgx2 iter2:Expr} {ifs ifs2:List Expr} {it it2:AW} {tg tg2:Tg} {t t2:BW} {e:EW} {nn m:Nat} {md':Md}
end
noncomputable def dsF:FV→Option (List D):=fun v=>(fD a0n v).bind fun d=>match d with | .lst ys=>some ys | _=>none
noncomputable def idxD (x:D):List D→Option Nat
 | []=>none
 | y :: r=>if D.eqv y x=true then some 0 else (idxD x r).map (· + 1)
noncomputable def indexF (v w:FV):Option FV:=(dsF v).bind fun ys=>(fD a0n w).bind fun x=>(idxD x ys).bind fun j=>if j < big then some (.int (j:Int)) else none
noncomputable def countF (v w:FV):Option FV:=(dsF v).bind fun ys=>(fD a0n w).bind fun x=>some (.int ((ys.countP fun y=>D.eqv y x:Nat):Int))
noncomputable def eMRN (f:FV→FV→Option FV) (i:Nat) (b:EW):EW:=fun L Q=>wp (lk L i) fun v=>wp (a6i v) fun _=>b L fun y L1=>wp (lk L1 i) fun x=>wp (f x y) fun z=>Q z L1
section
variable {X:Cx} {pins:List (Addr×Obj)} {s:Shared} {σ:L2.St} {H S:Hp}
end
section
variable {X:Cx} {C:CC} {n:Nat} {sp:Γd→Nat→Sp} {a b:Expr} {ea eb:EW} {p:Pos} {i:Nat} {nx:Str}
end
noncomputable def d7u (n m:Nat) (it:AW) (tg:Tg) (t:BW) (it2:AW) (tg2:Tg) (t2:BW) (e:EW):EW:=fun L Q=>it L fun xs L1=>L1.length=n∧b3f n m tg t it2 tg2 t2 e xs [] L1 fun ns L2=>ns.length≤63∧∀ ms:List Int,(∀ x,x∈ms↔x∈ns)→ms.Pairwise (· < ·)→Q (.lst (ms.map .int)) L2
section
variable {X:Cx} {C:CC} {n:Nat} {sp:Γd→Nat→Sp} {pos pos' p:Pos}
variable {scope:Scope} {own:List Str} {elt tgx iter tgx2 iter2:Expr} {ifs ifs2:List Expr} {it it2:AW} {tg tg2:Tg} {t t2:BW} {e:EW} {nn m:Nat} {md':Md}
end
noncomputable def a2h:List FV→Option (List (Option Int))
 | []=>some []
 | .int i :: r=>(a2h r).map (some i :: ·)
 | .non :: r=>(a2h r).map (none :: ·)
 | _=>none
noncomputable def oV:Option Int→V
 | some i=>.int i
 | none=>.non
theorem c8q (x:Option Int):kV (oK x)=oV x:=by cases x <;> rfl
theorem c8r {a b:Option Int} (h:oK a=oK b):a=b:=by
 cases a <;> cases b <;> first | rfl | cases h
 rfl
theorem c2n {a b:List (Option Int)} (h:a.map oK=b.map oK):a=b:=by
 induction a generalizing b with
 | nil=>cases b with | nil=>rfl | cons=>cases h
 | cons x r ih=>cases b with
  | nil=>cases h
  | cons y q =>
   simp only [List.map_cons,List.cons.injEq] at h
   rw [c8r h.1,ih h.2]
theorem b5x {K:Γd} {S:Hp} {ps:List FV}:∀ {xs:List V} {k:List (Option Int)},RVs K S ps xs→a2h ps=some k→xs=k.map oV:=by
 induction ps with
 | nil=>intro xs k r e; cases e; exact r
 | cons p ps ih =>
  intro xs k r e
  obtain ⟨v,q,rfl,h1,h2⟩:=r
  cases p with
  | int i =>
   obtain ⟨k',e1,rfl⟩:=mpd (show (a2h ps).map (some i :: ·)=some k from e)
   cases (show v=.int i from h1)
   rw [ih h2 e1]; rfl
  | non =>
   obtain ⟨k',e1,rfl⟩:=mpd (show (a2h ps).map (none :: ·)=some k from e)
   cases (show v=.non from h1)
   rw [ih h2 e1]; rfl
  | _=>exact absurd (show (none:Option (List (Option Int)))=some k from e) (by simp)
theorem a8c:∀ (ks:List (List (Option Int))) (us:List V) (k:List (Option Int)),a8o ((a1s ks).zip us) (k.map oK)=a2o ks us k
 | [],us,k=>by cases us <;> rfl
 | k' :: ks,[],k=>rfl
 | k' :: ks,u :: us,k=>by
  show a8o ((k'.map oK,u) :: (a1s ks).zip us) (k.map oK)=if k'=k then some u else a2o ks us k
  by_cases e:k'=k
  ·subst e; rw [a3i rfl,if_pos rfl]
  ·rw [a3j fun z=>e (c2n z),if_neg e]; exact a8c ks us k
theorem b2f (ks:List (List (Option Int))) (us:List V) (k:List (Option Int)) (u:V) (hl:ks.length=us.length):a3y ((a1s ks).zip us) (k.map oK) u=(a1s (a1q ks us k u).1).zip (a1q ks us k u).2:=by
 have hany:(((a1s ks).zip us).any fun kv=>decide (kv.1=k.map oK))=true↔k∈ks:=by
  rw [a3z,a8c,a1v k hl]
 unfold a3y a1q
 by_cases e:k∈ks
 ·rw [if_pos (hany.mpr e),if_pos e]
  clear e hany
  induction ks generalizing us with
  | nil=>cases us <;> rfl
  | cons k' ks ih=>cases us with
   | nil=>rfl
   | cons u' us =>
    have:=ih us (by simpa using hl)
    show (if k'.map oK=k.map oK then (k'.map oK,u) else (k'.map oK,u')) :: ((a1s ks).zip us).map _=(k'.map oK,if k'=k then u else u') :: (a1s ks).zip _
    rw [this]
    congr 1
    by_cases e:k'=k
    ·subst e; simp
    ·rw [if_neg fun z=>e (c2n z),if_neg e]
 ·rw [if_neg fun z=>e (hany.mp z),if_neg e]
  show _=(a1s (ks++[k])).zip (us++[u])
  have:a1s (ks++[k])=a1s ks++[k.map oK]:=by simp [a1s]
  rw [this,List.zip_append (by simpa [a1s] using hl)]; rfl
theorem b1g {K:Γd} {S:Hp} {ps:List FV} {k:List (Option Int)} {x:V} (r:RV K S (.tup ps) x) (e:a2h ps=some k):∃ b,x=.ref b∧S b=some (.tup ((k.map oK).map kV)):=by
 obtain ⟨b,xs,rfl,h1,h2⟩:=r
 refine ⟨b,rfl,?_⟩
 rw [h1,b5x h2 e,List.map_map]
 congr 2
 exact List.map_congr_left fun x _=>(c8q x).symm
noncomputable def a4u (n m:Nat) (tg:Tg) (t:BW) (ek ev:EW):List FV→List (List (Option Int))→List FV→a0a→(List (List (Option Int))→List FV→a0a→Prop)→Prop
 | [],ks,vs,L,Q=>Q ks vs L
 | x :: xs,ks,vs,L,Q=>gW tg x (L++Γj m none) fun L1=>t L1 fun b L2=>if b=true then ek L2 fun kx L3=>wp (a6d kx) fun ps=>wp (a2h ps) fun k=>ev L3 fun v L4=>a4u n m tg t ek ev xs (a1q ks vs k v).1 (a1q ks vs k v).2 (L4.take n) Q else a4u n m tg t ek ev xs ks vs (L2.take n) Q
noncomputable def b3b (n m:Nat) (it:AW) (tg:Tg) (t:BW) (ek ev:EW):EW:=fun L Q=>it L fun xs L1=>L1.length=n∧xs.length≤big∧a4u n m tg t ek ev xs [] [] L1 fun ks vs L2=>Q (.dcn none ks vs) L2
section
variable {K:Γd} {c:Cn} {md:Md} {L:a0a} {σ:L2.St} {S H:Hp}
theorem b8j {J:It} {xs:List FV} {n m:Nat} {tg:Tg} {t:BW} {ek ev:EW} {Q:VK} {Q1:List (List (Option Int))→List FV→a0a→Prop} (I:Iv K c md L σ S H) (hJ:ItR K c md J xs S) (hL:L.length=n) (hmd:md.length≤n) (ht:a2v md tg=true) (hg:a4n n tg=true) (hb:xs.length≤big) (h:a4u n m tg t ek ev xs [] [] L Q1)
  (k:∀ acc ks vs us L' S' H',H acc=none→Q1 ks vs L'→S' acc=none→H' acc=some (.dT ((a1s ks).zip us))→ks.length=vs.length→RVs K S' vs us→a6n c md L' σ acc→Iv K c md L' σ S' H'→Same S S'→Q (.ref acc) H') :
  ∀ acc,H acc=none→∃ W:Nat→Nat→Hp→Prop,(∃ m,W 0 m (upd H acc (.dT [])))∧∀ i j H,W i j H →
   (J.stop i H∧Q (.ref acc) H) ∨ (J.go i H∧∀ x H',J.yld i H x H'→gT K tg x (σ++Γj m none) H' fun σ2 H2=>Wk (σ++Γj m none) σ2∧lb K md t σ2 H2 fun b H3 =>
    if b=true then lv K md ek σ2 H3 fun y H4=>lv K md ev σ2 H4 fun v H5=>∃ kvs k b,H5 acc=some (.dT kvs)∧y=.ref b∧H5 b=some (.tup (k.map kV))∧kvs.length < sizeLine∧∃ m',m' < j∧W (i + 1) m' (upd H5 acc (.dT (a3y kvs k v))) else ∃ m',m' < j∧W (i + 1) m' H3):=by
 intro acc hacc
 have h0:=I.h0 hacc
 have hp:∀ p∈c.pr,p.1≠acc:=(I.fresh hacc).2.1
 have hz:=I.fzp
 have hl:σ.length=n:=by rw [← I.len]; exact hL
 have hbl:=a0m
 let W:Nat→Nat→Hp→Prop:=fun i j H1=>∃ L S1 ks vs us,j=(xs.drop i).length∧Iv K { c with pr:=(acc,.dT ((a1s ks).zip us)) :: c.pr } md L σ S1 H1∧ks.length=vs.length∧RVs K S1 vs us∧Same S S1∧L.length=n∧ks.length≤i∧a4u n m tg t ek ev (xs.drop i) ks vs L Q1
 have I1:Iv K { c with pr:=(acc,.dT []) :: c.pr } md L σ S (upd H acc (.dT [])):=(I.lay hacc _).prot a0e (I.sn hacc) fun j w hm hj=>(I.fresh hacc).2.2 j w (Mo.w_imm hm) hj
 refine ⟨W,⟨_,L,S,[],[],[],rfl,I1,rfl,rfl,Same.refl S,hL,Γi _,by rw [List.drop_zero]; exact h⟩,?_⟩
 rintro i j H1 ⟨L,S1,ks,vs,us,rfl,I,hkl,r,s,hL,hps,hc⟩
 have I0:=I.unprot hz
 obtain ⟨j1,j2⟩:=hJ i L σ S1 H1 I0 s
 obtain ⟨g1,g2,g3⟩:=I.prs (acc,.dT ((a1s ks).zip us)) Γn
 cases hd:xs.drop i with
 | nil =>
  left
  rw [hd] at hc
  refine ⟨j1 (List.getElem?_eq_none_iff.mpr (List.drop_eq_nil_iff.mp hd)),k acc ks vs us L S1 H1 hacc hc g2 g1 hkl r ⟨h0,hp,fun q w hm hq hs=>?_⟩ I0 s⟩
  by_cases mo:(a0g md q).w=true
  ·exact g3 q w mo hq hs
  ·have mo:a0g md q=.frz:=by cases z:a0g md q with | imm=>exact absurd z hm | frz=>rfl | _=>rw [z] at mo; exact absurd rfl mo
   obtain ⟨b,f1⟩:=I0.fzm q w mo hq
   obtain ⟨_,f2,_⟩:=I0.fzs _ f1
   rw [hs] at f2; cases f2
   obtain ⟨ys,f3⟩:=hz _ f1
   exact hp _ f3 rfl
 | cons p rest =>
  right
  rw [hd] at hc
  have hi:xs[i]?=some p:=by
   have:=congrArg (·[0]?) hd
   simpa using this
  have hd':xs.drop (i + 1)=rest:=by
   have:=congrArg List.tail hd
   simpa [List.tail_drop] using this
  have hix:i < xs.length:=(List.getElem?_eq_some_iff.mp hi).1
  obtain ⟨go,yl⟩:=j2 p hi
  refine ⟨go,fun x H2 y=>?_⟩
  obtain ⟨S2,s2,tr,rx⟩:=yl x H2 y
  have I2:=(tr _ _ _ _ I).more m
  obtain ⟨σ2,L2,gq,q2,I2,len2,far⟩:=a4t ht I2 rx hc
  have l2:n≤σ2.length:=by rw [len2,List.length_append,hl]; lia
  have far':∀ q,q < n→σ2[q]?=σ[q]?:=fun q hq=>by rw [far n hg q hq,List.getElem?_append_left (by rw [hl]; exact hq)]
  refine gq _ ⟨⟨len2,fun q v hv=>?_⟩,?_⟩
  ·have hq:q < n:=by
    by_cases h:q < σ.length
    ·rw [← hl]; exact h
    ·rw [List.getElem?_append_right (by lia),List.getElem?_replicate] at hv
     split at hv <;> cases hv
   rw [far n hg q hq]; exact hv
  ·refine ⟨_,L2,S2,_,I2,q2,fun b L3 hb3 S3 H3 I3 s3=>?_⟩
   cases b with
   | false =>
    rw [if_neg Γk] at hb3 ⊢
    exact ⟨rest.length,by simp,L3.take n,S3,ks,vs,us,by rw [hd'],I3.take hmd hl l2 far',hkl,r.mono (s2.trans s3),s.trans (s2.trans s3),by rw [List.length_take,I3.len]; lia,by lia,by rw [hd']; exact hb3⟩
   | true =>
    rw [if_pos rfl] at hb3 ⊢
    refine ⟨_,L3,S3,_,I3,hb3,fun kx L4 hk u S4 H4 r4 I4 s4=>?_⟩
    obtain ⟨ps,e1,hk1⟩:=wpx hk
    obtain ⟨kk,e2,hk2⟩:=wpx hk1
    cases a1m e1
    obtain ⟨b,rfl,hb4⟩:=b1g r4 e2
    refine ⟨_,L4,S4,_,I4,hk2,fun v L5 hv u S5 H5 r5 I5 s5=>?_⟩
    obtain ⟨k1,_⟩:=I5.prs (acc,.dT ((a1s ks).zip us)) Γn
    have lr:=r.length
    have r':=r.mono (s2.trans (s3.trans (s4.trans s5)))
    obtain ⟨pe,pr⟩:=a4c (ks:=ks) (k:=kk) r' r5
    obtain ⟨pl1,pl2⟩:=a3l ks vs kk v hkl
    refine ⟨_,kk.map oK,b,k1,rfl,I5.sub _ _ (s5 _ _ hb4),by rw [List.length_zip,show (a1s ks).length=ks.length by simp [a1s]]; lia,rest.length,by simp,L5.take n,S5,(a1q ks vs kk v).1,(a1q ks vs kk v).2,(a1q ks us kk u).2,by rw [hd'],?_,pl1,pr,s.trans (s2.trans (s3.trans (s4.trans s5))),by rw [List.length_take,I5.len]; lia,by lia,by rw [hd']; exact hv⟩
    rw [b2f ks us kk u (by lia),pe]
    exact (I5.take hmd hl l2 far').regrow h0 hp hz
end
section
variable {X:Cx} {C:CC} {n:Nat} {sp:Γd→Nat→Sp} {pos:Pos} {scope:Scope} {own:List Str} {kx vx tgx iter:Expr} {ifs:List Expr} {it:AW} {tg:Tg} {t:BW} {ek ev:EW} {nn m:Nat} {md':Md}
end
noncomputable def c5q (v w:FV):Option FV:=match v with
 | .dcn _ ks vs=>(a6d w).bind fun ps=>(a2h ps).bind fun k=>a2o ks vs k
 | _=>none
noncomputable def c6l (v j x:FV):Option FV:=match v with
 | .dcn none ks vs=>(a6d j).bind fun ps=>(a2h ps).bind fun k=>if ks.length < big then some (.dcn none (a1q ks vs k x).1 (a1q ks vs k x).2) else none
 | _=>none
noncomputable def c3h (k:Nat) (i e:EW):SW:=fun L Q=>wp (lk L k) fun _=>e L fun x L1=>i L1 fun j L2=>wp (lk L2 k) fun y=>wp (c6l y j x) fun z=>Q .next (L2.set k (some z))
noncomputable def b9r (f:Int→Int→Int) (k:Nat) (i e:EW):SW:=fun L Q=>wp (lk L k) fun _=>i L fun j L1=>wp (lk L1 k) fun v=>wp (c5q v j) fun x0=>wp (a3b x0) fun a=>e L1 fun x L2=>wp (a3b x) fun b=>wp (lk L2 k) fun w=>wp (c6l w j (.int (f a b))) fun z=>Q .next (L2.set k (some z))
section
variable {K:Γd} {S H:Hp} {c:Cn} {md:Md} {L:a0a} {σ:L2.St}
theorem RH.dcn {z:Option Obj} {ks:List (List (Option Int))} {vs:List FV} {x:V} (hs:Same S H) (r:RH K S H (.dcn z ks vs) x):∃ a us,x=.ref a∧ks.length=vs.length∧H a=some (hoN (.dT ((a1s ks).zip us)) z)∧RVs K S vs us:=by
 rcases r with ⟨a,xs,e,h0,h1,h2⟩ | ⟨a,e,_,qs,xs,e2,h1,h2⟩
 ·exact ⟨a,xs,e,h0,hs _ _ h1,h2⟩
 ·obtain ⟨hl,rfl⟩:=itd e2
  exact ⟨a,xs,e,hl,h1,h2⟩
theorem c7l {H:Hp} {a:Addr} {u:HO} {z:Option Obj} (h:H a=some (hoN u z)):Rd H a u:=by
 cases z with
 | none=>exact .inl h
 | some o=>exact .inr ⟨o,h⟩
theorem b7x {v w z:FV} {x y:V} (hs:Same S H) (rv:RH K S H v x) (rw':RH K S H w y) (e:c5q v w=some z):∃ a u,x=.ref a∧L2.DGet H a y (some u)∧RV K S z u:=by
 cases v with
 | dcn o ks vs =>
  obtain ⟨ps,e1,e2⟩:=bnd e
  obtain ⟨k,e3,e4⟩:=bnd e2
  cases a1m e1
  obtain ⟨a,us,rfl,hl,h1,h2⟩:=rv.dcn hs
  obtain ⟨b,rfl,hb⟩:=b1g (rw'.val rfl) e3
  obtain ⟨u,g1,g2⟩:=a5e h2 e4
  refine ⟨a,u,rfl,?_,g2⟩
  rw [← g1,← a8c]
  exact .inr ⟨_,_,b,c7l h1,rfl,hs _ _ hb,rfl⟩
 | _=>cases e
theorem b7w {i:Nat} {v j x z:FV} {a:Addr} {y u:V} (I:Iv K c md L σ S H) (m:a0g md i=.own) (e:L[i]?=some (some v)) (e1:σ[i]?=some (some (.ref a))) (rj:RV K S j y) (rx:RV K S x u) (h:c6l v j x=some z):∃ H',L2.DPut H a y u H'∧Iv K c md (L.set i (some z)) σ S H':=by
 obtain ⟨a',f1,⟨o1,ps,us,e9,o2,o3⟩,_⟩:=I.own i v (fun z=>by rw [m] at z; cases z) e
 rw [e1] at f1; cases f1
 have hbl:=a0m
 cases v with
 | dcn o ks vs =>
  cases o with
  | some o=>cases h
  | none =>
   obtain ⟨qs,g1,h⟩:=bnd h
   obtain ⟨k,g2,h⟩:=bnd h
   obtain ⟨hb,rfl⟩:=itd h
   obtain ⟨hl,rfl⟩:=itd e9
   cases a1m g1
   obtain ⟨b,rfl,hkb⟩:=b1g rj g2
   have hu:ks.length=us.length:=by rw [hl,o3.length]
   obtain ⟨p1,p2⟩:=a4c (ks:=ks) (k:=k) o3 rx
   refine ⟨_,.t o2 (I.sub _ _ hkb) (by simp [a1s]; lia),?_⟩
   rw [b2f ks us k u hu,← p1]
   exact I.writeV (w:=.dcn none _ _) m e e1 (if_pos (a3l ks _ k x hl).1) p2
 | _=>cases h
end
section
variable {X:Cx} {C:CC} {n:Nat} {sp:Γd→Nat→Sp} {fr:Bool} {a b:Expr} {ea eb:EW} {pos p px:Pos} {i:Nat} {nx:Str}
theorem d6y (G:Good X C n sp) (hs:a1t b=false) (h:C.nm i nx=true) (hb:FR X C b eb):FE X C (.Subscript (.Name nx p) b pos) (a8g c5q i eb):=PE.imp (b0v (X:=X.nox) (by have:=G.room.units; show X.A.units + 1 < cLine; lia) (a1d G h) hb (a4d hs)) fun σ H Q ⟨c,L,S,Q0,I,h,k⟩=>by
 obtain ⟨v0,e,h⟩:=wpx h
 obtain ⟨x,e1,_⟩:=I.rd e
 refine ⟨x,e1,c,L,S,_,I,h,fun w L2 hw y S2 H2 r2 I2 s2=>?_⟩
 obtain ⟨v,e2,q⟩:=wpx hw
 obtain ⟨x',e3,r1⟩:=I2.rd e2
 rw [e1] at e3; cases e3
 obtain ⟨z,e4,q⟩:=wpx q
 obtain ⟨a,u,rfl,g,r5⟩:=b7x I2.sub r1 r2 e4
 exact ⟨a,u,rfl,g,k z L2 q u S2 H2 r5 I2 s2⟩
theorem d1s (G:Good X C n sp) (hn:C.nm i nx=true) (m:a0g C.md i=.own) (hc:(!a5t a && !a1t b)=true) (ha:FE X C a ea) (hb:FE X C b eb):FS X C fr (.Assign [.Subscript (.Name nx px) b p] a pos) (c3h i eb ea):=by
 have hc:=b2 hc
 refine PS.imp (b5i (X:=X.nox) (by have:=G.room.units; show X.A.units + 1 < cLine; lia) (a1d (pos:=px) G hn) hb ha (a2m (nb hc.1))) fun D σ H ⟨c,L,S,Q0,I,h,k⟩=>?_
 have mi:a0g C.md i≠.imm:=fun z=>by rw [m] at z; cases z
 obtain ⟨v0,e,h⟩:=wpx h
 obtain ⟨l,e1,_⟩:=I.own i v0 mi ((a1n _ _ _).mp e)
 refine ⟨c,L,S,_,I,h,fun v L1 q x S1 H1 r1 I1 s1=>⟨_,e1,c,L1,S1,_,I1,q,fun w L2 q y S2 H2 r2 I2 s2=>?_⟩⟩
 obtain ⟨v1,e2,q2⟩:=wpx q
 obtain ⟨z,e3,q3⟩:=wpx q2
 have e2:=(a1n _ _ _).mp e2
 obtain ⟨H3,g,I3⟩:=b7w I2 m e2 e1 r2 (r1.mono s2) e3
 exact ⟨l,H3,rfl,g,k .next _ q3 σ S2 _ I3 (s1.trans s2)⟩
theorem d0s {op:Operator} {f:Int→Int→Int} (hop:InOp X.nox op (ipI f)) (G:Good X C n sp) (hn:C.nm i nx=true) (m:a0g C.md i=.own) (hs:a1t b=false) (hb:FE X C b eb) (ha:FE X C a ea):FS X C fr (.AugAssign (.Subscript (.Name nx px) b p) op a pos) (b9r f i eb ea):=by
 refine PS.imp (c3r (X:=X.nox) (by have:=G.room.units; show X.A.units + 1 < cLine; lia) (a1d (pos:=px) G hn) hb ha hop (by cases b <;> first | (intros; rfl) | cases hs)) fun D σ H ⟨c,L,S,Q0,I,h,k⟩=>?_
 have mi:a0g C.md i≠.imm:=fun z=>by rw [m] at z; cases z
 obtain ⟨v0,e,h⟩:=wpx h
 obtain ⟨l,e1,_⟩:=I.own i v0 mi ((a1n _ _ _).mp e)
 refine ⟨_,e1,c,L,S,_,I,h,fun j L1 q y S1 H1 r1 I1 s1=>?_⟩
 obtain ⟨v1,e2,q⟩:=wpx q
 obtain ⟨x0,e3,q⟩:=wpx q
 obtain ⟨a0,e4,q⟩:=wpx q
 obtain ⟨x',f1,rv⟩:=I1.rd e2
 rw [e1] at f1; cases f1
 obtain ⟨a',u,ea',g,r3⟩:=b7x I1.sub rv (.inl r1) e3
 cases ea'
 refine ⟨_,u,rfl,g,c,L1,S1,_,I1,q,fun x L2 q y2 S2 H2 r2 I2 s2=>?_⟩
 obtain ⟨b0,e5,q5⟩:=wpx q
 obtain ⟨w,e6,q6⟩:=wpx q5
 obtain ⟨z,e7,q7⟩:=wpx q6
 clear q
 cases a1e e4
 cases a1e e5
 cases (show u=V.int a0 from r3)
 cases (show y2=V.int b0 from r2)
 refine ⟨a0,b0,rfl,rfl,?_⟩
 obtain ⟨H3,g3,I3⟩:=b7w I2 m ((a1n _ _ _).mp e6) e1 (r1.mono s2) (x:=.int (f a0 b0)) (u:=V.int (f a0 b0)) rfl e7
 exact ⟨H3,g3,k .next _ q7 σ S2 _ I3 (s1.trans s2)⟩
theorem d6d (G:Good X C n sp) (hn:C.nm i nx=true) (m:a0g C.md i=.own) (hs:a1t b=false) (hb:FE X C b eb) (ha:FE X C a ea):FS X C fr (.AugAssign (.Subscript (.Name nx px) b p) .Sub a pos) (b9r (fun i j=>i - j) i eb ea):=d0s c9h G hn m hs hb ha
end
section
variable {X:Cx} {pins pins0:List (Addr×Obj)} {σ σ0:L2.St} {H H0:Hp} {s s0:Shared} {a:Addr}
theorem c0x {kvs kvs0:List (List (Int ⊕ Option Str)×V)} {o:Obj} (I0:Inv X pins0 σ0 H0 s0) (h0:H0 a=some (.dT kvs0)) (I:Inv X pins σ H s) (h:H a=some (.frz o (.dT kvs))):Inv X pins σ (upd H a (.dT kvs)) s:=by
 have ne:∀ {b:Addr} {u:HO},H b=some u→u≠.frz o (.dT kvs)→b≠a:=fun e n z=>by subst z; rw [h] at e; exact n (Option.some.inj e).symm
 have none':∀ {b:Addr},H b=none→upd H a (.dT kvs) b=none:=fun {b} e=>by rw [a0d (fun z=>by subst z; rw [h] at e; cases e)]; exact e
 have ow:∀ b c,H b=some (.own c)→upd H a (.dT kvs) b=some (.own c):=fun b c e=>by rw [a0d (ne e (fun z=>nomatch z))]; exact e
 have tu:∀ b xs,H b=some (.tup xs)→upd H a (.dT kvs) b=some (.tup xs):=fun b xs e=>by rw [a0d (ne e (fun z=>nomatch z))]; exact e
 refine ⟨I.ok,I.os,I.bare,⟨I.base.keep,I.base.slot,fun b o e n hx=>none' (I.base.free b o e n hx),I.base.there,fun b xs e=>tu b xs (I.base.tups b xs e),fun b o' u e=>?_,fun b ps e=>?_⟩,I.loc,I.cell,none' I.free,fun x c e=>none' (I.freeC x c e),fun p hp=>?_,fun b u e=>?_,I.len⟩
 ·have g:=I.base.frzs b o' u e
  rw [a0d fun z=>by subst z; rw [I0.base.frzs b o' u e] at h0; cases h0]; exact g
 ·obtain ⟨more,g⟩:=I.base.tbls b ps e
  exact ⟨more,by rw [a0d (ne g (fun z=>nomatch z))]; exact g⟩
 ·obtain ⟨g1,g2,g3⟩:=I.pin p hp
  exact ⟨g1,none' g2,g3⟩
 ·by_cases z:b=a
  ·subst z
   rw [a0e] at e; cases e
   obtain ⟨_,q⟩:=(show ObjOk X.prog X.w H s.heap b (.frz o (.dT kvs)) from I.hok b _ h)
   exact q.stay (fun _ _ _ q=>q) (fun c e=>ow c b e) tu
  ·rw [a0d z] at e
   exact (I.hok b u e).stay (fun _ _ _ q=>q) (fun c e=>ow c b e) tu
theorem c3q {st:Stmt} {t:TS} (hs:PS X st t):PS X st (fun D σ H=>∃ a kvs,H a=some (.dT kvs)∧∀ o,t ⟨fun σ' H2=>∃ kvs2,H2 a=some (.frz o (.dT kvs2))∧D.nx σ' (upd H2 a (.dT kvs2)),fun _ _=>False,fun _ _=>False,fun _ _=>False⟩ σ (upd H a (.frz o (.dT kvs)))):=by
 intro pins s σ H D I ⟨a,kvs,h,hh⟩
 obtain ⟨o,es,ep,f1,f2,_⟩:=a9o (show ObjOk X.prog X.w H s.heap a (.dT kvs) from I.hok a _ h)
 refine wpAny_mono (hs pins s σ _ _ (b2t I h f1) (hh o)) (fun fl s1 q=>?_) fun _ _ z=>z
 cases fl with
 | next =>
  obtain ⟨σ',H2,I2,kvs2,h2,q⟩:=q
  exact ⟨σ',_,c0x I h I2 h2,q⟩
 | brk=>obtain ⟨_,_,_,z⟩:=q; exact z.elim
 | cont=>obtain ⟨_,_,_,z⟩:=q; exact z.elim
 | ret u=>obtain ⟨_,_,_,_,_,z⟩:=q; exact z.elim
end
noncomputable def d3j (j:Nat) (s:SW):SW:=fun L Q=>wp (lk L j) fun v=>match v with
 | .dcn none ks vs=>∀ o,s (L.set j (some (.dcn (some o) ks vs))) fun fl L1=>match fl with
  | .next=>wp (lk L1 j) fun w=>match w with
   | .dcn (some _) ks' vs'=>Q .next (L1.set j (some (.dcn none ks' vs')))
   | _=>False
  | _=>False
 | _=>False
noncomputable def oF:Option Int→FV
 | some i=>.int i
 | none=>.non
noncomputable def c9d (k:List (Option Int)):FV:=.tup (k.map oF)
noncomputable def b7j (j:Nat):AW:=fun L Q=>wp (lk L j) fun v=>match v with
 | .dcn (some _) ks _=>Q (ks.map c9d) L
 | _=>False
section
variable {X:Cx} {C:CC} {n:Nat} {sp:Γd→Nat→Sp} {tg:Expr} {p:Pos} {i j:Nat} {nx:Str} {fr:Bool} {st:Stmt} {s:SW}
variable {K:Γd} {c:Cn} {md:Md} {S:Hp}
theorem RVs.os:∀ (k:List (Option Int)),RVs K S (k.map oF) (k.map oV)
 | []=>rfl
 | some i :: k=>⟨_,_,rfl,rfl,RVs.os k⟩
 | none :: k=>⟨_,_,rfl,rfl,RVs.os k⟩
theorem c0v {a:Addr} {o:Obj} {ks:List (List (Option Int))} {us:List V} {S1:Hp} (hl:ks.length=us.length) (hp:(a,HO.frz o (.dT ((a1s ks).zip us)))∈c.pr):ItR K c md (Itk a o ((a1s ks).zip us)) (ks.map c9d) S1:=by
 intro i L σ S H I s
 have ha:=(I.prs _ hp).1
 have hz:((a1s ks).zip us).length=ks.length:=by rw [List.length_zip]; simp [a1s]; lia
 refine ⟨fun e=>⟨ha,?_⟩,fun p ep=>?_⟩
 ·have:=List.getElem?_eq_none_iff.mp e
  rw [List.length_map] at this; lia
 ·rw [List.getElem?_map] at ep
  obtain ⟨k,ek,rfl⟩:=Option.map_eq_some_iff.mp ep
  have hi:=(List.getElem?_eq_some_iff.mp ek).1
  refine ⟨⟨ha,by lia⟩,fun v H' ⟨eh,b,q,ev,eq,hb⟩=>?_⟩
  subst eh; subst ev
  have hq:q.1=k.map oK:=by
   obtain ⟨q1,q2⟩:=q
   have:=(List.getElem?_zip_eq_some.mp eq).1
   rw [a1s,List.getElem?_map,ek] at this
   simpa using this.symm
  rw [hq,List.map_map] at hb
  have hb:H' b=some (.tup (k.map oV)):=by rw [hb]; congr 2; exact List.map_congr_left fun x _=>c8q x
  exact ⟨_,(I.tup hb).2,fun c md L σ J=>(J.tup hb).1,b,_,rfl,a0e,RVs.os k⟩
theorem d1t (G:Good X C n sp) (h:C.nm i nx=true) (m:a0g C.md i=.frz):FI X C C.md tg (.Name nx p) (b7j i):=PI.imp (c3v (a1d G h)) fun σ H R ⟨c,L,S,Q0,I,h,k⟩=>by
 obtain ⟨v,e,h⟩:=wpx h
 have e:=(a1n _ _ _).mp e
 obtain ⟨l,e1,⟨o1,qs,us,e2,o2,o3⟩,o4⟩:=I.own i v (fun z=>by rw [m] at z; cases z) e
 obtain ⟨b,g1⟩:=I.fzm i _ m e
 obtain ⟨ys,g2⟩:=I.fzp _ g1
 obtain ⟨_,g3,_⟩:=I.fzs _ g1
 rw [e1] at g3; cases g3
 have g4:=(I.prs _ g2).1
 rw [o2] at g4; cases g4
 cases v with
 | dcn o ks vs =>
  cases o with
  | none=>exact h.elim
  | some o =>
   obtain ⟨hl,rfl⟩:=itd e2
   have hlu:=o3.length
   exact ⟨_,e1,_,_,rfl,.inr ⟨o,o2,k _ _ h _ _ S _ I (fun _ _ _ _ J=>J) rfl (c0v (by lia) g2) (Same.refl S)⟩⟩
 | _=>exact h.elim
theorem fs_thw (G:Good X C n sp) (m:a0g C.md j=.own) (hr:Good X (C.wmd (C.md.set j .frz)) n sp→FS X (C.wmd (C.md.set j .frz)) fr st s):FS X C fr st (d3j j s):=PS.imp (c3q (hr (G.wmd _))) fun D σ H ⟨c,L,S,Q0,I,hh,k⟩=>by
 obtain ⟨v,e,hh⟩:=wpx hh
 have e:=(a1n _ _ _).mp e
 have mi:a0g C.md j≠.imm:=fun z=>by rw [m] at z; cases z
 obtain ⟨l,e1,⟨o1,qs,us,e2,o2,o3⟩,o4⟩:=I.own j v mi e
 cases v with
 | dcn z ks vs =>
  cases z with
  | some o=>exact hh.elim
  | none =>
   obtain ⟨hl,rfl⟩:=itd e2
   refine ⟨l,_,o2,fun o=>?_⟩
   have I1:=I.writeV (w:=.dcn (some o) ks vs) m e e1 (if_pos hl) o3
   have hi:=(List.getElem?_eq_some_iff.mp e).1
   obtain ⟨I2,un⟩:=I1.frz m (List.getElem?_set_self hi) e1 a0e
   refine ⟨_,_,S,_,I2,hh o,fun fl L1 q σ1 S1 H1 J s1=>?_⟩
   cases fl with
   | next =>
    obtain ⟨w,e5,q⟩:=wpx q
    have e5:=(a1n _ _ _).mp e5
    have J0:=un _ _ _ _ J
    obtain ⟨_,g1,_⟩:=J.fzs (j,l) Γn
    have g2:=(J.prs (l,_) Γn).1
    obtain ⟨l',f1,⟨p1,qs',us',p2,p3,p4⟩,_⟩:=J0.own j w mi e5
    rw [g1] at f1; cases f1
    cases w with
    | dcn z ks' vs' =>
     cases z with
     | none=>exact q.elim
     | some o' =>
      rw [g2] at p3
      obtain ⟨hl',rfl⟩:=itd p2
      refine ⟨_,g2,?_⟩
      have e6:=Option.some.inj p3
      injection e6 with e7 e8
      rw [e8]
      exact k .next _ q σ1 S1 _ (J0.writeV (w:=.dcn none ks' vs') m e5 g1 (if_pos hl') p4) s1
    | _=>exact q.elim
   | _=>exact q.elim
 | _=>exact hh.elim
end
theorem b7i {M:Model} {A:Around} {E:Value→Shared→Prop} {s:Shared} {a b:Value} {T id:String} {Q:Value→Shared→Prop} (ha:s.TypeIs a T) (hb:s.TypeIs b T)
  (hyes:typeLookup (.type T) (dunderI "add")=pure (some (.builtin id))) (hq:isSeqSlot (some (.builtin id))=true) (hfill:fillsNumberSlot (.type T) "add" = pure false)
  (hc:wpAny M A (call (.builtin id) [a,b]) Q E s):wpAny M A (inplaceOp .Add a b) Q E s:=by
 unfold inplaceOp
 refine Γg ?_
 have hfi:fillsInplaceSlot (.type T) "add" (Operator.Add == .Add)=pure false:=by
  unfold fillsInplaceSlot
  show (typeLookup (.type T) (dunderI "add") >>= fun fi=>pure (fi.isSome && !isSeqSlot fi))=pure false
  rw [hyes]
  show (pure ((some (Value.builtin id)).isSome && !isSeqSlot (some (.builtin id))):Sem Bool)=_
  rw [hq]; rfl
 have hsi:seqSlot? (.type T) (dunderI "add")=pure (some (.builtin id)):=by
  unfold seqSlot?
  rw [hyes]
  show (if (!isSeqSlot (some (Value.builtin id)))=true then _ else _)=_
  rw [hq]; rfl
 refine Γa (wpAny_typeOf ha (Γa (wpAny_of_eq hfi ?_)))
 show wpAny M A (if false=true then _ else _) Q E s
 rw [if_neg Γk]
 refine Γa (wpAny_binaryOp1_none (nm:="add") ha hb hfill ?_)
 refine Γa (wpAny_of_eq hsi ?_)
 exact Γa (wpAny_rule hc)
noncomputable def ipL:TIp:=fun x y H Q=>∃ l b xs zs,x=.ref l∧y=.ref b∧H l=some (.lst xs)∧H b=some (.lst zs)∧xs.length + zs.length≤sizeLine∧Q (.ref l) (upd H l (.lst (xs++zs)))
section
variable {X:Cx}
theorem c4y:PIp X .Add ipL:=by
 intro pins s σ H x y v u Q I rx ry h
 obtain ⟨l,b,xs,zs,rfl,rfl,hH,hB,hz,q⟩:=h
 cases rx
 cases ry
 obtain ⟨z,its,n,r,hl,e⟩:=I.lstM hH
 obtain ⟨z2,its2,n2,r2,hl2,e2⟩:=I.lstM hB
 have hsz:its.toArray.size + its2.toArray.size≤sizeLine:=by rw [List.size_toArray,List.size_toArray]; lia
 have hlong:¬ (!its.toArray.isEmpty && Builtin.List.listTooLong (its.toArray.size + its2.toArray.size))=true:=by
  rw [a5c hsz,Bool.and_false]
  exact Γk
 refine b7i (T:="list") (id:="list.__iadd__") ⟨_,e,rfl⟩ ⟨_,e2,rfl⟩ F.slot_list_iadd.lookup (by nofun) noFill_list_add ?_
 refine call_meets F.slot_list_iadd ⟨_,e,rfl⟩ F.entry_list_iadd (F.args_list_iadd_2 _ _)
  (AutoSeq1.list___iadd___list_list_0 l its.toArray n b its2.toArray n2 hlong (by rw [List.size_toArray]; lia) (by lia)) ⟨e,e2,?_⟩
 refine ⟨.ref l,_,I.lset (its':=its++its2) hH e (by simp) (r.append r2) ?_,rfl,q⟩
 rw [List.length_append]
 lia
end
noncomputable def c5h (x y:FV):Option FV:=(a6i x).bind fun xs=>(a6i y).bind fun ys=>if xs.length + ys.length≤big then some (.lst (xs++ys)) else none
noncomputable def b9s (i:Nat) (e:EW):SW:=fun L Q=>wp (lk L i) fun _=>e L fun y L1=>wp (lk L1 i) fun x=>wp (c5h x y) fun z=>Q .next (L1.set i (some z))
section
variable {X:Cx} {C:CC} {n:Nat} {sp:Γd→Nat→Sp} {fr:Bool} {a:Expr} {e:EW} {pos px:Pos} {i:Nat} {nx:Str}
theorem d6e (G:Good X C n sp) (ht:C.tn i nx=true) (m:a0g C.md i=.own) (h:FE X C a e):FS X C fr (.AugAssign (.Name nx px) .Add a pos) (b9s i e):=by
 have ht:=b2 ht
 obtain ⟨l1,l2⟩:=G.loc ht.2
 refine PS.imp (c2f (X:=X.nox) G.nd' (G.ix ht.1) l1 h c4y l2) fun D σ H ⟨c,L,S,Q0,I,h,k⟩=>?_
 have mi:a0g C.md i≠.imm:=fun z=>by rw [m] at z; cases z
 obtain ⟨v0,e0,h⟩:=wpx h
 obtain ⟨l,e1,_⟩:=I.own i v0 mi ((a1n _ _ _).mp e0)
 refine ⟨_,e1,c,L,S,_,I,h,fun y L1 q u S1 H1 r1 I1 s1=>?_⟩
 obtain ⟨x,e2,q2⟩:=wpx q
 obtain ⟨z,e3,q3⟩:=wpx q2
 obtain ⟨xs,e4,e5⟩:=bnd e3
 obtain ⟨ys,e6,e7⟩:=bnd e5
 obtain ⟨hb,rfl⟩:=itd e7
 cases a3e e4
 cases a3e e6
 have e2:=(a1n _ _ _).mp e2
 obtain ⟨l',f1,⟨g1,ps,us,g2,g3,g4⟩,_⟩:=I1.own i _ mi e2
 rw [e1] at f1; cases f1
 cases g2
 obtain ⟨b,ws,rfl,h1,h2⟩:=r1
 have hbl:=a0m
 have p1:=g4.length
 have p2:=h2.length
 refine ⟨l,b,us,ws,rfl,rfl,g3,I1.sub _ _ h1,by lia,?_⟩
 have es:σ.set i (some (V.ref l))=σ:=by
  apply List.ext_getElem?
  intro j
  by_cases hj:j=i
  ·subst hj
   rw [List.getElem?_set_self (List.getElem?_eq_some_iff.mp e1).1,e1]
  ·rw [List.getElem?_set_ne (Ne.symm hj)]
 show D.nx (σ.set i (some (V.ref l))) _
 rw [es]
 exact k .next _ q3 σ S1 _ (I1.write m e2 e1 (g4.append h2)) s1
end
section
variable {X:Cx} {C:CC} {n:Nat} {sp:Γd→Nat→Sp} {fr:Bool} {a b:Expr} {ea eb:EW} {pos px py pt p2:Pos} {i j kt k2:Nat} {nx ny:Str}
end
section
variable (Q:FV→Prop) (L:a0a)
@[scoped simp ↓] theorem k_dgn (z:Option Obj) (ks:List (List (Option Int))) (vs ps:List FV):wp (c5q (.dcn z ks vs) (.tup ps)) Q↔wp (a2h ps) fun k=>wp (a2o ks vs k) Q:=by
 show wp ((a2h ps).bind _) Q↔_; rw [a2g]
@[scoped simp ↓] theorem k_dpn (ks:List (List (Option Int))) (vs ps:List FV) (x:FV):wp (c6l (.dcn none ks vs) (.tup ps) x) Q↔wp (a2h ps) fun k=>ks.length < big∧Q (.dcn none (a1q ks vs k x).1 (a1q ks vs k x).2):=by
 show wp ((a2h ps).bind _) Q↔_
 rw [a2g]
 cases a2h ps with
 | none=>exact Iff.rfl
 | some k =>
  show wp (if _ then _ else _) Q↔_
  split
  ·rename_i h; exact ⟨fun q=>⟨h,q⟩,fun q=>q.2⟩
  ·rename_i h; exact ⟨fun q=>q.elim,fun q=>absurd q.1 h⟩
@[scoped simp ↓] theorem opts_n (Q:List (Option Int)→Prop):wp (a2h []) Q=Q []:=propext Iff.rfl
@[scoped simp ↓] theorem opts_i (i:Int) (r:List FV) (Q:List (Option Int)→Prop):wp (a2h (.int i :: r)) Q↔wp (a2h r) fun ns=>Q (some i :: ns):=by
 show wp ((a2h r).map _) Q↔_; rw [a1r]
@[scoped simp ↓] theorem opts_o (r:List FV) (Q:List (Option Int)→Prop):wp (a2h (.non :: r)) Q↔wp (a2h r) fun ns=>Q (none :: ns):=by
 show wp ((a2h r).map _) Q↔_; rw [a1r]
@[scoped simp ↓] theorem d1c (k:Nat) (i e:EW) (Q:FFl→a0a→Prop):c3h k i e L Q=(wp (lk L k) fun _=>e L fun x L1=>i L1 fun j L2=>wp (lk L2 k) fun y=>wp (c6l y j x) fun z=>Q .next (L2.set k (some z))):=propext Iff.rfl
@[scoped simp ↓] theorem d1g (f:Int→Int→Int) (k:Nat) (i e:EW) (Q:FFl→a0a→Prop):b9r f k i e L Q=(wp (lk L k) fun _=>i L fun j L1=>wp (lk L1 k) fun v=>wp (c5q v j) fun x0=>wp (a3b x0) fun a=>e L1 fun x L2=>wp (a3b x) fun b=>wp (lk L2 k) fun w=>wp (c6l w j (.int (f a b))) fun z=>Q .next (L2.set k (some z))):=propext Iff.rfl
@[scoped simp ↓] theorem d1h (i:Nat) (e:EW) (Q:FFl→a0a→Prop):b9s i e L Q=(wp (lk L i) fun _=>e L fun y L1=>wp (lk L1 i) fun x=>wp (c5h x y) fun z=>Q .next (L1.set i (some z))):=propext Iff.rfl
@[scoped simp ↓] theorem k_extL (xs ys:List FV):wp (c5h (.lst xs) (.lst ys)) Q↔xs.length + ys.length≤big∧Q (.lst (xs++ys)):=by
 show wp (if _ then _ else _) Q↔_
 split
 ·rename_i h; exact ⟨fun q=>⟨h,q⟩,fun q=>q.2⟩
 ·rename_i h; exact ⟨fun q=>q.elim,fun q=>absurd q.1 h⟩
@[scoped simp ↓] theorem d3i (j:Nat) (s:SW) (Q:FFl→a0a→Prop):d3j j s L Q=(wp (lk L j) fun v=>match v with
 | .dcn none ks vs=>∀ o,s (L.set j (some (.dcn (some o) ks vs))) fun fl L1=>match fl with
  | .next=>wp (lk L1 j) fun w=>match w with
   | .dcn (some _) ks' vs'=>Q .next (L1.set j (some (.dcn none ks' vs')))
   | _=>False
  | _=>False
 | _=>False):=propext Iff.rfl
@[scoped simp ↓] theorem c9l (j:Nat) (Q:List FV→a0a→Prop):b7j j L Q=(wp (lk L j) fun v=>match v with
 | .dcn (some _) ks _=>Q (ks.map c9d) L
 | _=>False):=propext Iff.rfl
@[scoped simp ↓] theorem c9v (n m:Nat) (it:AW) (tg:Tg) (t:BW) (ek ev:EW) (Q:FV→a0a→Prop):b3b n m it tg t ek ev L Q=(it L fun xs L1=>L1.length=n∧xs.length≤big∧a4u n m tg t ek ev xs [] [] L1 fun ks vs L2=>Q (.dcn none ks vs) L2):=propext Iff.rfl
end
theorem a9x {α:Type} {tg:Tg} {n m:Nat} {ek ev:EW} {f:α→FV} {g:α→List (Option Int)} {h:α→FV} {Q:List (List (Option Int))→List FV→a0a→Prop} {L:a0a}:∀ (xs:List α) (ks:List (List (Option Int))) (vs:List FV),
  (∀ x∈xs,g x ∉ ks)→(xs.map g).Nodup →
  (∀ x∈xs,∀ K:List (Option Int)→FV→a0a→Prop,K (g x) (h x) L→gW tg (f x) (L++Γj m none) fun L1=>ek L1 fun kx L3=>wp (a6d kx) fun ps=>wp (a2h ps) fun k=>ev L3 fun v L4=>K k v (L4.take n))→Q (ks++xs.map g) (vs++xs.map h) L→a4u n m tg a2r ek ev (xs.map f) ks vs L Q
 | [],ks,vs,_,_,_,E=>by
  show Q ks vs L
  simpa using E
 | x :: xs,ks,vs,hn,hd,B,E=>by
  refine B x Γn (fun k v L'=>a4u n m tg a2r ek ev (xs.map f) (a1q ks vs k v).1 (a1q ks vs k v).2 L' Q) ?_
  have hk:=hn x Γn
  simp only [List.map_cons,List.nodup_cons] at hd
  have e:a1q ks vs (g x) (h x)=(ks++[g x],vs++[h x]):=by simp [a1q,hk]
  rw [e]
  refine a9x xs _ _ (fun y hy hm=>?_) hd.2 (fun y hy=>B y (Γh _ hy)) (by simpa using E)
  rcases List.mem_append.mp hm with hm | hm
  ·exact hn y (Γh _ hy) hm
  ·simp at hm
   exact hd.1 (by rw [← hm]; exact List.mem_map_of_mem hy)
section
variable {X:Cx} {C:CC} {n:Nat} {sp:Γd→Nat→Sp} {fr:Bool} {pos p px:Pos} {scope:Scope} {own:List Str} {kx vx tgx iter:Expr} {ifs:List Expr} {it:AW} {tg:Tg} {t:BW} {ek ev:EW} {nn m:Nat} {md':Md} {i:Nat} {nx:Str}
theorem b9j {gs:List Comprehension} {x:Str} {n:Nat} {env:Env} (hk:env.scope.kind=.function) :
  swapsWith (.DictComp kx vx gs scope p) (some (.Name x px)) n env=pure (decide (env.scope.names.lookup x=some .local) && (px.line == p.line) && !(scope.names.any fun (n,k)=>n == x && (k == .local || k == .cell))):=by
 have hb:env.blockKind=.function:=by unfold Env.blockKind; rw [hk]; rfl
 have:(env.kindOf x == some .local)=decide (env.scope.names.lookup x=some .local):=by
  rw [Bool.eq_iff_iff]; simp [Env.kindOf]
 unfold swapsWith
 simp only [hb,this]
 rfl
theorem a9w (h:CompOk X C n sp scope own kx tgx iter ifs nn m md' it tg t ek) {σ:L2.St} {H:Hp} {Q:VK}:lf X.K C.md (b3b nn m it tg t ek ev) σ H Q→b4r (li X.K C.md md' it) (gT X.K tg) (lb X.K md' t) (lv X.K md' ek) (lv X.K md' ev) own.length σ H Q:=by
 have h0:=b2 h.st; have h1:=b2 h0.1; have h2:=b2 h1.1; have h3:=b2 h2.1; have h4:=b2 h3.1; have h5:=b2 h4.1; have h6:=b2 h5.1
 rintro ⟨c,L,S,Q0,I,hh,k⟩
 refine ⟨c,L,S,_,I,hh,fun xs L1 hx J c' S1 H1 I1 un e0 hJ s1=>?_⟩
 obtain ⟨hl,hb,hc⟩:=hx
 rw [de h5.2]
 refine b8j I1 hJ hl (de h4.2) h2.2 h1.2 hb hc fun acc ks vs us L' S' H' hn q g1 g2 g3 g4 fr I' s'=>?_
 exact k _ L' q acc S' H' ⟨g1,vs,us,if_pos g3,g2,g4⟩ ⟨by rw [← e0]; exact fr.1,((un _ _ _ _ I1).fresh hn).2.1,fun j w hm=>fr.2.2 j w (a5o h3.2 j hm)⟩ (un _ _ _ _ I') (s1.trans s')
theorem c1d (G:Good X C n sp) (ht:C.tn i nx=true) (hm:(decide (a0g C.md i=.own) && decide (i≠0))=true) (h:CompOk X C n sp scope own kx tgx iter ifs nn m md' it tg t ek) (hv:∀ X',Good X' (C.sub scope own md') n sp→FE X' (C.sub scope own md') vx ev):FS X C fr (.Assign [.Name nx px] (.DictComp kx vx [⟨tgx,iter,ifs,0⟩] scope p) pos) (a1u (b3b nn m it tg t ek ev) (.nm i)):=by
 have h0:=b2 h.st; have h1:=b2 h0.1; have h2:=b2 h1.1; have h3:=b2 h2.1; have h4:=b2 h3.1; have h5:=b2 h4.1; have h6:=b2 h5.1
 obtain ⟨s1,s2⟩:=G.sub h6.1 md'
 have hu:X.A.units + 1 < cLine:=by have:=G.room.units; lia
 have blk:∀ fp D s H,PG (cxC X scope own fp D s H) tgx (gT X.K tg)∧PTs (cxC X scope own fp D s H) ifs (lb X.K md' t)∧PE (cxC X scope own fp D s H) kx (lv X.K md' ek)∧PE (cxC X scope own fp D s H) vx (lv X.K md' ev):=fun fp D s H=>⟨h.tg _ (s2 fp D s H),h.ts _ (s2 fp D s H),h.el _ (s2 fp D s H),hv _ (s2 fp D s H)⟩
 have hsw:swapsWith (.DictComp kx vx [⟨tgx,iter,ifs,0⟩] scope p) (some (.Name nx px)) pos.line X.env=pure (swC C nx px scope p):=by rw [b9j G.kind,G.sc]; rfl
 cases hb:swC C nx px scope p with
 | false =>
  rw [hb] at hsw
  exact b1t hm (fun σ H Q=>a9w h) (b5h G ht hsw (c0f (X:=X) hu G.calm s1 h.it blk (a6z (nb h0.2))))
 | true =>
  rw [hb] at hsw
  have hlo:X.env.scope.names.lookup nx=some .local:=by
   rw [G.sc]
   have hb:=b2 hb
   exact de (b2 hb.1).1
  exact b1t hm (fun σ H Q=>a9w h) (b0s hu G.calm s1 G.nd' (G.ix (b2 ht).1) hlo h.it blk hsw (a6z (nb h0.2)))
end
noncomputable def c0q (v:FV):Option FV:=match v with
 | .dci ks _=>some (.int ks.length)
 | _=>none
section
variable {X:Cx} {C:CC} {n:Nat} {sp:Γd→Nat→Sp} {a:Expr} {ea:EW} {pos p:Pos}
theorem d0l:a1l X (.builtin "len") (Rc X.K c0q):=by
 rintro pins s σ H xs us Q I r ⟨S,v,x,z,rfl,hs,rv,e,k⟩
 cases v with
 | dci ks vs =>
  cases e
  obtain ⟨a,us',rfl,hl,h1,h2⟩:=rv.dci hs
  have:=h2.length
  obtain ⟨u,rfl,ru⟩:=a3o r
  cases ru
  have e:((a2z ks).zip us').length=ks.length:=by rw [List.length_zip]; simp [a2z]; lia
  exact d8f I (.inl h1) fun t s' I'=>⟨.int _,H,I',⟨t,rfl⟩,by rw [e]; exact k.old _ (fun _ z=>nomatch z) rfl⟩
 | _=>cases e
theorem d6v (G:Good X C n sp) (hg:C.gl (Γe "len")=true) (hs:a0h a=false) (ha:FR X C a ea):FE X C (.Call (.Name (Γe "len") p) [a] [] pos) (eUn c0q ea):=b1k d0l G (by decide) (by nofun) (by nofun) (by nofun) hg hs ha
end
@[scoped simp ↓] theorem k_lenD (ks:List Int) (vs:List FV) (Q:FV→Prop):wp (c0q (.dci ks vs)) Q=Q (.int ks.length):=propext Iff.rfl
noncomputable def a7k (v:FV) (lo hi:Option Int):Option FV:=(a1o v).map fun xs=>.lst (a6g xs lo hi)
noncomputable def d2e (a:EW) (l h:OW):EW:=fun L Q=>a L fun x L1=>l L1 fun i L2=>h L2 fun j L3=>wp (a7k x i j) fun z=>Q z L3
noncomputable def RslL (K:Γd):V→Option Int→Option Int→Hp→VK→Prop:=fun x lo hi H Q=>∃ S v z,Same S H∧RH K S H v x∧a7k v lo hi=some z∧NewOr K S H Q z
section
variable {X:Cx} {C:CC} {n:Nat} {sp:Γd→Nat→Sp} {a:Expr} {ea:EW} {pos:Pos}
theorem d4f:SlR X (RslL X.K):=by
 intro pins s σ H x v vl vu lo hi sl Q I rx hsl pl pu ⟨S,p,z,hs,rp,e,k⟩
 obtain ⟨ps,e1,rfl⟩:=Option.map_eq_some_iff.mp e
 obtain ⟨a,xs,rfl,ha,ra⟩:=rp.list hs e1
 exact b4v pins s σ H _ v vl vu lo hi sl Q I rx hsl pl pu ⟨a,xs,rfl,ha,fun p hp=>k.lst _ _ p rfl (b1q ra) hp⟩
variable {xl xh:Option Expr} {wl wh:OW} {p2:Pos}
theorem fe_slL (ha:FE X C a ea) (hl:FO X C xl wl) (hh:FO X C xh wh):FE X C (.Subscript a (.Slice xl xh none p2) pos) (d2e ea wl wh):=PE.imp (b2g d4f ha hl hh) fun σ H Q ⟨c,L,S,Q0,I,h,k⟩ =>
 ⟨c,L,S,_,I,h,fun v L1 hv x S1 H1 r1 I1 s1=>⟨c,L1,S1,_,I1,hv,fun o1 L2 h1 S2 H2 I2 s2=>⟨c,L2,S2,_,I2,h1,fun o2 L3 h2 S3 H3 I3 s3=>by
  obtain ⟨z,e,q⟩:=wpx h2
  exact ⟨S3,v,z,I3.sub,.inl (r1.mono (s2.trans s3)),e,b0z I3 fun x S' H' r I' s'=>k z L3 q x S' H' r I' (s1.trans (s2.trans (s3.trans s')))⟩⟩⟩⟩
end
@[scoped simp ↓] theorem d7w (a:EW) (l h:OW) (L:a0a) (Q:FV→a0a→Prop):d2e a l h L Q=(a L fun x L1=>l L1 fun i L2=>h L2 fun j L3=>wp (a7k x i j) fun z=>Q z L3):=propext Iff.rfl
@[scoped simp ↓] theorem k_slL (v:FV) (lo hi:Option Int) (Q:FV→Prop):wp (a7k v lo hi) Q↔wp (a1o v) fun xs=>Q (.lst (a6g xs lo hi)):=a1r _ _ _
mutual
noncomputable def fla:FV→Bool
 | .non=>true
 | .bl _=>true
 | .int _=>true
 | .str _=>true
 | .shn _=>true
 | .scr _=>true
 | .tup xs=>a7a xs
 | .lst _=>false
 | .dct _ _=>false
 | .dci _ _=>false
 | .dcz _ _ _=>false
 | .dcn _ _ _=>false
 | .obj _ _ _ _=>false
noncomputable def a7a:List FV→Bool
 | []=>true
 | x :: xs=>fla x && a7a xs
end
noncomputable def b0x (v:FV):Bool:=match c6j v with
 | some ps=>a7a ps
 | none=>false
noncomputable def a8p:Md→a0a→Bool
 | _,[]=>true
 | ms,none :: L=>a8p ms.tail L
 | ms,some v :: L=>(if a0g ms 0=.imm then fla v else b0x v) && a8p ms.tail L
theorem a9f (ms:Md) (i:Nat):a0g ms.tail i=a0g ms (i + 1):=by
 cases ms with
 | nil=>rfl
 | cons=>rfl
theorem a7q:∀ {ms:Md} {L:a0a} {i:Nat} {v:FV},a8p ms L=true→L[i]?=some (some v)→(if a0g ms i=.imm then fla v else b0x v)=true
 | ms,[],i,v,_,e=>by simp at e
 | ms,none :: L,0,v,_,e=>by simp at e
 | ms,none :: L,i + 1,v,h,e=>by rw [← a9f]; exact a7q (L:=L) h (by simpa using e)
 | ms,some w :: L,0,v,h,e=>by
  have e:w=v:=by simpa using e
  subst e
  exact (b2 h).1
 | ms,some w :: L,i + 1,v,h,e=>by rw [← a9f]; exact a7q (L:=L) (b2 h).2 (by simpa using e)
noncomputable def nl (S:Hp):Hp:=fun a=>match S a with
 | some (.lst _)=>none
 | o=>o
noncomputable def c1v (S:Hp):Prop:=∀ a xs,S a≠some (.lst xs)
section
variable {K:Γd} {S S' H:Hp}
theorem a3q {a:Addr} {o:HO} (h:nl S a=some o):S a=some o∧∀ xs,o≠.lst xs:=by
 unfold nl at h
 split at h
 ·cases h
 ·rename_i z
  exact ⟨h,fun xs e=>z xs (by rw [h,e])⟩
theorem c4i {a:Addr} {o:HO} (h:S a=some o) (n:∀ xs,o≠.lst xs):nl S a=some o:=by
 unfold nl
 split
 ·rename_i xs z; rw [h] at z; exact absurd (Option.some.inj z) (n xs)
 ·exact h
theorem a7t {a:Addr} (h:S a=none):nl S a=none:=by unfold nl; rw [h]
theorem d5g:c1v (nl S):=fun a xs e=>(a3q e).2 xs rfl
mutual
theorem RV.nl:∀ {p:FV} {v:V},fla p=true→RV K S p v→RV K (nl S) p v
 | .non,v,_,h=>h
 | .bl b,v,_,h=>h
 | .int i,v,_,h=>h
 | .str _,v,_,h=>h
 | .shn _,v,_,h=>h
 | .tup ps,v,n,⟨a,xs,e,h1,h2⟩=>⟨a,xs,e,c4i h1 (fun _ z=>nomatch z),RVs.nl n h2⟩
 | .lst ps,v,n,h=>by cases n
 | .dct ks vs,v,n,h=>by cases n
 | .dci ks vs,v,n,h=>by cases n
 | .dcz o ks vs,v,n,h=>by cases n
 | .dcn z ks vs,v,n,h=>by cases n
 | .obj _ _ _ _,v,n,h=>by cases n
 | .scr ns,v,_,⟨a,e,h⟩=>⟨a,e,h.elim (fun ⟨o,h⟩=>.inl ⟨o,c4i h (fun _ z=>nomatch z)⟩) .inr⟩
theorem RVs.nl:∀ {ps:List FV} {vs:List V},a7a ps=true→RVs K S ps vs→RVs K (nl S) ps vs
 | [],vs,_,h=>h
 | p :: ps,vs,n,⟨v,r,e,h1,h2⟩=>⟨v,r,e,RV.nl (b2 n).1 h1,RVs.nl (b2 n).2 h2⟩
end
theorem b5v {a:Addr} {v:FV} (n:b0x v=true) (h:a2u K S H a v):a2u K (nl S) H a v:=by
 obtain ⟨h0,ps,xs,e,h1,h2⟩:=h
 unfold b0x at n
 rw [e] at n
 exact ⟨a7t h0,ps,xs,e,h1,h2.nl n⟩
variable {c:Cn} {md:Md} {L:a0a} {σ:L2.St} {j:Nat}
theorem b6a {i:Nat} {v:FV} (h:a8p md L=true) (m:a0g md i=.imm) (e:L[i]?=some (some v)):fla v=true:=by
 have:=a7q h e
 rwa [if_pos m] at this
theorem b5y {i:Nat} {v:FV} (h:a8p md L=true) (m:a0g md i≠.imm) (e:L[i]?=some (some v)):b0x v=true:=by
 have:=a7q h e
 rwa [if_neg m] at this
theorem Iv.shed (I:Iv K c md L σ S H) (nf:c1v c.S0) (m:a0g md j=.imm) (h:a8p md (L.set j none)=true):Iv K c md (L.set j none) σ (Kq.nl S) H:=by
 have ne:∀ {i u},(L.set j none)[i]?=some (some u)→i≠j∧L[i]?=some (some u):=fun z=>a1h z
 refine ⟨by rw [List.length_set]; exact I.len,fun i u hm z=>?_,fun i u hm z=>?_,fun i k u w a m1 m2 z1 z2 y1 y2=>I.dis i k u w a m1 m2 (ne z1).2 (ne z2).2 y1 y2,fun a o e=>I.sub a o (a3q e).1,I.frame,fun a o e=>c4i (I.s0 a o e) (fun xs z=>nf a xs (by rw [e,z])),fun a o e=>I.grow a o (a3q e).1,fun b z=>?_,fun p hp=>?_,fun i u hm z=>I.fzm i u hm (ne z).2,I.fzp,fun p hp=>?_,I.ntp,fun q hq=>?_,fun y k x C dx fs w h1 h2 h3 h4=>I.tie y k x C dx fs w h1 h2 (ne h3).2 (ne h4).2⟩
 ·obtain ⟨x,e1,r⟩:=I.imm i u hm (ne z).2
  exact ⟨x,e1,r.nl (b6a h hm z)⟩
 ·obtain ⟨a,e1,o,g⟩:=I.own i u hm (ne z).2
  exact ⟨a,e1,b5v (b5y h hm z) o,g⟩
 ·obtain ⟨g1,g2,v,g3⟩:=I.lent b z
  have:(0:Nat)≠j:=fun y=>g1 (by rw [y]; exact m)
  exact ⟨g1,g2,v,by rw [a3k this]; exact g3⟩
 ·obtain ⟨g1,g2,v,g3⟩:=I.fzs p hp
  have:p.1≠j:=fun y=>by rw [y,m] at g1; cases g1
  exact ⟨g1,g2,v,by rw [a3k this]; exact g3⟩
 ·obtain ⟨g1,g2,g3⟩:=I.prs p hp
  exact ⟨g1,a7t g2,fun i u hm z=>g3 i u hm (ne z).2⟩
 ·obtain ⟨g1,g2,v,g3⟩:=I.lnt1 q hq
  have:q.1≠j:=fun y=>by rw [y,m] at g1; cases g1
  exact ⟨g1,g2,v,by rw [a3k this]; exact g3⟩
theorem Iv.poke (I:Iv K c md L σ S H) {l:Addr} (o:HO) (hs:S l=none) (h0:c.H0 l=none) (hp:∀ p∈c.pr,p.1≠l) (ho:∀ i v,a0g md i≠.imm→L[i]?=some (some v)→σ[i]?≠some (some (.ref l))):Iv K c md L σ S (upd H l o):=by
 refine ⟨I.len,I.imm,fun i u hm z=>?_,I.dis,fun a u e=>?_,fun a u e n n1=>?_,I.s0,I.grow,I.lent,I.fzs,I.fzm,I.fzp,fun p hpp=>?_,I.ntp,I.lnt1,I.tie⟩
 ·obtain ⟨a,e1,⟨g0,ps,xs,e2,g1,g2⟩,g⟩:=I.own i u hm z
  exact ⟨a,e1,⟨g0,ps,xs,e2,by rw [a0d (fun y=>ho i u hm z (by rw [← y]; exact e1))]; exact g1,g2⟩,g⟩
 ·rw [a0d (fun y=>by subst y; rw [hs] at e; cases e)]; exact I.sub a u e
 ·rw [a0d (fun y=>by subst y; rw [h0] at e; cases e)]; exact I.frame a u e n n1
 ·obtain ⟨g1,g2,g3⟩:=I.prs p hpp
  exact ⟨by rw [a0d (hp p hpp)]; exact g1,g2,g3⟩
end
noncomputable def lz (K:Γd) (md:Md) (fr:Bool) (s:SW):TS:=fun D σ H=>∃ c L S Q0,c1v c.S0∧Iv K c md L σ S H∧s L Q0∧∀ fl L',Q0 fl L'→∀ σ' S' H',Iv K c md L' σ' S' H'→d9h K c fr D σ' S' H' fl
noncomputable def FZ (X:Cx) (C:CC) (fr:Bool) (x:Stmt) (s:SW):Prop:=PS X.nox x (lz X.K C.md fr s)
noncomputable def FZs (X:Cx) (C:CC) (fr:Bool) (x:List Stmt) (s:SW):Prop:=PSs X.nox x (lz X.K C.md fr s)
noncomputable def b2c (md:Md) (r:SW):SW:=fun L Q=>a8p md L=true∧r L fun fl L'=>a8p md L'=true∧(match fl with | .ret v=>fla v=true | _=>True)∧Q fl L'
noncomputable def b9q (md:Md) (j:Nat) (e:EW):SW:=fun L Q=>e L fun w L1=>L1=L∧(∃ ps:List FV,w=.lst ps∧ps.length < big)∧a8p md (L.set j none)=true∧Q .next (L.set j none)
@[scoped simp ↓] theorem c7h (md:Md) (r:SW) (L:a0a) (Q:FFl→a0a→Prop):b2c md r L Q=(a8p md L=true∧r L fun fl L'=>a8p md L'=true∧(match fl with | .ret v=>fla v=true | _=>True)∧Q fl L'):=propext Iff.rfl
@[scoped simp ↓] theorem d1e (md:Md) (j:Nat) (e:EW) (L:a0a) (Q:FFl→a0a→Prop):b9q md j e L Q=(e L fun w L1=>L1=L∧(∃ ps:List FV,w=.lst ps∧ps.length < big)∧a8p md (L.set j none)=true∧Q .next (L.set j none)):=propext Iff.rfl
section
variable {X:Cx} {C:CC} {n:Nat} {sp:Γd→Nat→Sp} {fr:Bool} {st:Stmt} {sts:List Stmt} {s r:SW} {o:Expr} {e:EW} {pos p:Pos} {j:Nat}
theorem d5t (h:FS X C fr st s) (h2:FZs X C fr sts r):FZs X C fr (st :: sts) (a0s s r):=PSs.imp (a5a h h2) fun D σ H ⟨c,L,S,Q0,nf,I,h,k⟩ =>
 ⟨c,L,S,_,I,h,fun fl L1 q σ1 S1 H1 I1 s1=>by
  cases fl with
  | next=>exact ⟨c,L1,S1,_,nf,I1,q,k⟩
  | brk=>exact k _ L1 q σ1 S1 H1 I1
  | cont=>exact k _ L1 q σ1 S1 H1 I1
  | ret v=>exact k _ L1 q σ1 S1 H1 I1⟩
theorem fz_one (h:FZ X C fr st s):FZs X C fr [st] s:=b0r h
theorem c3s {c:Cn} {L:a0a} {σ:L2.St} {S H:Hp} {K:Γd} {md:Md} (I:Iv K c md L σ S H) (nf:c1v c.S0) (m:a0g md j=.imm) (h:a8p md (L.set j none)=true) {l:Addr} {ys:List V} (hl:S l=some (.lst ys)) (o:HO):Iv K c md (L.set j none) σ (nl S) (upd H l o):=by
 have h0:c.H0 l=none:=by
  rcases I.grow l _ hl with z | z | z
  ·exact absurd z (nf l ys)
  ·exact z
  ·cases z
 refine (I.shed nf m h).poke o ?_ h0 (fun p hp z=>?_) fun i v hm e z=>?_
 ·unfold nl; rw [hl]
 ·rw [← z,(I.prs p hp).2.1] at hl; cases hl
 ·obtain ⟨a,e1,g,_⟩:=I.own i v hm (a1h e).2
  rw [z] at e1; cases e1
  rw [g.1] at hl; cases hl
theorem fz_app {apos cpos:Pos} {md:Md} {oa ob:Expr} {po:Pos} {k9:Nat} {p9:Pos} (hm:C.md=md) (m:a0g md j=.imm) (hl:d0o apos cpos=true) (h:FE X C (.Subscript oa ob po) e):FZ X C fr (.Expr (.Call (.Attribute (.Subscript oa ob po) (Γe "append") apos) [.Constant .none k9 p9] [] cpos) pos) (b9q md j e):=by
 subst hm
 refine PS.imp (b0t (c0g PySem.F.plainAttrs_list PySem.F.slot_list_append PySem.F.type_list_append a4e h (a0t c2i a2n (a0f rfl)) rfl (by rw [a0f rfl]; rfl) hl (a0f rfl) rfl) (a2m rfl)) fun D σ H ⟨c,L,S,Q0,nf,I,h,k⟩=>?_
 refine ⟨c,L,S,_,I,h,fun w L1 ⟨e1,⟨ps,e2,e3⟩,ok,q⟩ x S1 H1 r1 I1 s1=>?_⟩
 subst e1; subst e2
 obtain ⟨l,ys,rfl,g1,g2⟩:=r1
 have g3:=I1.sub _ _ g1
 have:=a0m
 exact ⟨.inl ⟨rfl,ys,SqL.of g3⟩,l,ys,_,rfl,rfl,g3,by rw [← g2.length]; lia,k .next _ q σ _ _ (c3s I1 nf m ok g1 _)⟩
open Classical in
theorem d1r {md:Md} (hm:C.md=md) (h:FZs X C false sts r):FSs X C false sts (b2c md r):=hm ▸ PSs.imp h fun D σ H ⟨c,L,S,Q0,I,⟨ok,hh⟩,k⟩=>by
 let ow:Addr→Prop:=fun a=>∃ i v,a0g C.md i≠.imm∧L[i]?=some (some v)∧σ[i]?=some (some (.ref a))
 have owS:∀ {a},ow a→S a=none:=fun ⟨i,v,m,e,e1⟩=>by
  obtain ⟨b,e2,g,_⟩:=I.own i v m e
  rw [e1] at e2; cases e2
  exact g.1
 have owC:∀ {a},ow a→c.P0=some a ∨ c.H0 a=none ∨ ∃ j,(j,a)∈c.P1:=fun ⟨i,v,m,e,e1⟩=>by
  obtain ⟨b,e2,_,g⟩:=I.own i v m e
  rw [e1] at e2; cases e2
  exact g
 have p0:∀ {a},c.P0=some a→ow a:=fun {a} z=>by
  obtain ⟨g1,g2,v,g3⟩:=I.lent a z
  exact ⟨0,v,g1,g3,g2⟩
 have p1:∀ {a j},(j,a)∈c.P1→ow a:=fun {a j} z=>by
  obtain ⟨g1,g2,v,g3⟩:=I.lnt1 _ z
  exact ⟨j,v,(fun y=>by rw [y] at g1; cases g1),g3,g2⟩
 let c':Cn:=⟨fun a=>if ow a then none else H a,nl S,c.P0,c.fz,c.pr,c.P1⟩
 have h0:∀ {a o},c'.H0 a=some o→¬ ow a∧H a=some o:=fun {a o} e=>by
  by_cases z:ow a
  ·rw [show c'.H0 a=none from if_pos z] at e; cases e
  ·rw [show c'.H0 a=H a from if_neg z] at e; exact ⟨z,e⟩
 have h1:∀ {a},c'.H0 a=none→ow a ∨ H a=none:=fun {a} e=>by
  by_cases z:ow a
  ·exact .inl z
  ·rw [show c'.H0 a=H a from if_neg z] at e; exact .inr e
 have J:Iv X.K c' C.md L σ (nl S) H:=by
  refine ⟨I.len,fun i u hm z=>?_,fun i u hm z=>?_,I.dis,fun a o e=>I.sub a o (a3q e).1,fun a o e _ _=>(h0 e).2,Same.refl _,fun a o e=>.inl e,I.lent,I.fzs,I.fzm,I.fzp,fun p hp=>?_,I.ntp,I.lnt1,I.tie⟩
  ·obtain ⟨x,e1,r⟩:=I.imm i u hm z
   exact ⟨x,e1,r.nl (b6a ok hm z)⟩
  ·obtain ⟨a,e1,o,g⟩:=I.own i u hm z
   exact ⟨a,e1,b5v (b5y ok hm z) o,.inr (.inl (if_pos ⟨i,u,hm,z,e1⟩))⟩
  ·obtain ⟨g1,g2,g3⟩:=I.prs p hp
   exact ⟨g1,a7t g2,g3⟩
 refine ⟨c',L,nl S,_,d5g,J,hh,fun fl L' ⟨ok',okr,q⟩ σ' S' H' I'=>?_⟩
 have SH:Same S H':=fun a o e=>I'.frame a o (by
  show (if ow a then none else H a)=some o
  rw [if_neg (fun z=>by rw [owS z] at e; cases e)]; exact I.sub a o e) (fun z=>by rw [owS (p0 z)] at e; cases e) fun j z=>by rw [owS (p1 z)] at e; cases e
 let Sf:Hp:=fun a=>match S a with
  | some o=>some o
  | none=>nl S' a
 have sf1:Same S Sf:=fun a o e=>by show (match S a with | some o=>some o | none=>nl S' a)=_; rw [e]
 have sf2:∀ {a},S a=none→Sf a=nl S' a:=fun {a} e=>by show (match S a with | some o=>some o | none=>nl S' a)=_; rw [e]
 have sf3:Same (nl S') Sf:=fun a o e=>by
  cases z:S a with
  | none=>rw [sf2 z]; exact e
  | some u =>
   rw [sf1 a u z]
   have:=SH a u z
   rw [I'.sub a o (a3q e).1] at this
   exact this.symm
 have sf4:∀ {a o},Sf a=some o→S a=some o ∨ nl S' a=some o:=fun {a o} e=>by
  cases z:S a with
  | none=>rw [sf2 z] at e; exact .inr e
  | some u=>rw [sf1 a u z] at e; exact .inl e
 have ownF:∀ {a},(c'.P0=some a ∨ c'.H0 a=none ∨ ∃ j,(j,a)∈c'.P1)→S a=none∧(c.P0=some a ∨ c.H0 a=none ∨ ∃ j,(j,a)∈c.P1):=fun {a} z=>by
  rcases z with z | z | ⟨j,z⟩
  ·exact ⟨owS (p0 z),.inl z⟩
  ·rcases h1 z with z | z
   ·exact ⟨owS z,owC z⟩
   ·exact ⟨I.sn z,.inr (.inl (I.h0 z))⟩
  ·exact ⟨owS (p1 z),.inr (.inr ⟨j,z⟩)⟩
 have F:Iv X.K c C.md L' σ' Sf H':=by
  refine ⟨I'.len,fun i u hm z=>?_,fun i u hm z=>?_,I'.dis,fun a o e=>?_,fun a o e n n1=>?_,I.s0.trans sf1,fun a o e=>?_,I'.lent,I'.fzs,I'.fzm,I'.fzp,fun p hp=>?_,I'.ntp,I'.lnt1,I'.tie⟩
  ·obtain ⟨x,e1,r⟩:=I'.imm i u hm z
   exact ⟨x,e1,(r.nl (b6a ok' hm z)).mono sf3⟩
  ·obtain ⟨a,e1,o,g⟩:=I'.own i u hm z
   obtain ⟨g0,ps,xs,e2,g1,g2⟩:=b5v (b5y ok' hm z) o
   obtain ⟨w1,w2⟩:=ownF g
   exact ⟨a,e1,⟨by rw [sf2 w1]; exact g0,ps,xs,e2,g1,g2.mono sf3⟩,w2⟩
  ·rcases sf4 e with e | e
   ·exact SH a o e
   ·exact I'.sub a o (a3q e).1
  ·have e2:=I.frame a o e n n1
   refine I'.frame a o ?_ n n1
   show (if ow a then none else H a)=some o
   rw [if_neg fun z=>?_]
   ·exact e2
   ·rcases owC z with y | y | ⟨j,y⟩
    ·exact n y
    ·rw [y] at e; cases e
    ·exact n1 j y
  ·rcases sf4 e with e | e
   ·exact I.grow a o e
   ·rcases I'.grow a o (a3q e).1 with z | z | z
    ·exact I.grow a o (a3q z).1
    ·rcases ownF (.inr (.inl z)) with ⟨_,y | y | ⟨j,y⟩⟩
     ·obtain ⟨g1,g2,v,g3⟩:=I'.lent a y
      obtain ⟨b,e2,g,_⟩:=I'.own 0 v g1 g3
      rw [g2] at e2; cases e2
      have:=(a3q e).1; rw [g.1] at this; cases this
     ·exact .inr (.inl y)
     ·obtain ⟨g1,g2,v,g3⟩:=I'.lnt1 _ y
      obtain ⟨b,e2,g,_⟩:=I'.own j v (fun w=>by rw [w] at g1; cases g1) g3
      rw [g2] at e2; cases e2
      have:=(a3q e).1; rw [g.1] at this; cases this
    ·exact .inr (.inr z)
  ·obtain ⟨g1,g2,g3⟩:=I'.prs p hp
   exact ⟨g1,by rw [sf2 (I.prs p hp).2.1]; exact a7t g2,g3⟩
 have E:=k fl L' q σ' Sf H' F sf1
 cases fl with
 | next=>exact E
 | brk=>exact E
 | cont=>exact E
 | ret v=>exact fun x rx=>E x ((RV.nl okr rx).mono sf3)
end
mutual
noncomputable def D.ns:D→Bool
 | .non=>true
 | .bl _=>true
 | .int _=>true
 | .str _=>false
 | .tup xs=>D.nss xs
 | .lst xs=>D.nss xs
noncomputable def D.nss:List D→Bool
 | []=>true
 | x :: xs=>D.ns x && D.nss xs
end
theorem a4r {a b:Str} (ha:PyData.strOk a=true) (hb:PyData.strOk b=true):PyData.strOk (a++b)=true:=by
 show Array.all (a.cps++b.cps) _=true
 rw [Array.all_append]
 exact Bool.and_eq_true_iff.mpr ⟨ha,hb⟩
theorem b5z {s:Str} (hs:PyData.strOk s=true):∀ {ts:List Str},(∀ t∈ts,PyData.strOk t=true)→PyData.strOk (Str.join s ts)=true
 | [],_=>a3c ""
 | [a],h=>h a (by simp)
 | a :: b :: r,h=>by
  simp only [Str.join]
  exact a4r (a4r (h a (by simp)) hs) (b5z hs fun t ht=>h t (by simp [List.mem_cons.mp ht]))
theorem b6b:∀ {ts:List Str} {k:Nat} {acc:Str},PyData.strOk acc=true→(∀ t∈ts,PyData.strOk t=true)→PyData.strOk (textFrom k acc ts)=true
 | [],k,acc,ha,_=>ha
 | t :: r,k,acc,ha,h=>by
  unfold textFrom
  refine b6b ?_ fun x hx=>h x (by simp [hx])
  split
  ·exact a4r (a4r ha (a3c _)) (h t (by simp))
  ·exact a4r ha (h t (by simp))
mutual
theorem c7f:∀ d:D,d.ns=true→PyData.strOk (dPy d).shown=true
 | .non,_=>by simp only [dPy,PyData.shown]; exact a3c _
 | .bl b,_=>by simp only [dPy,PyData.shown]; split <;> exact a3c _
 | .int i,_=>by simp only [dPy,PyData.shown]; exact a3c _
 | .str _,h=>by cases h
 | .tup xs,h=>by
  simp only [dPy,PyData.shown,tupleText]
  exact a4r (a4r (a3c _) (b5z (a3c _) (b0q xs h))) (a3c _)
 | .lst xs,h=>by
  simp only [dPy,PyData.shown,listText]
  exact a4r (b6b (a3c _) (b0q xs h)) (a3c _)
theorem b0q:∀ ds:List D,D.nss ds=true→∀ t∈PyData.shownAll (a3s ds),PyData.strOk t=true
 | [],_,t,ht=>by simp [a3s,PyData.shownAll] at ht
 | d :: ds,h,t,ht=>by
  simp only [a3s,PyData.shownAll] at ht
  have h:=b2 h
  rcases List.mem_cons.mp ht with rfl | ht
  ·exact c7f d h.1
  ·exact b0q ds h.2 t ht
end
open Classical in
noncomputable def nePF (a b:FV):Option FV:=if ∃ i d,a=.tup [.int i,.shn d]∧b=a∧d.ns=true then some (.bl false) else none
section
variable {X:Cx}
variable {C:CC} {n:Nat} {sp:Γd→Nat→Sp} {a b:Expr} {ea eb:EW} {pos:Pos}
end
end Kq
end
section
namespace Kq
@[scoped simp ↓ high] theorem lk_1 (a0:Option FV) (v:FV) (L:a0a) (Q:FV→Prop):wp (lk (a0 :: some v :: L) 1) Q=Q v:=propext Iff.rfl
@[scoped simp ↓ high] theorem lk_2 (a0 a1:Option FV) (v:FV) (L:a0a) (Q:FV→Prop):wp (lk (a0 :: a1 :: some v :: L) 2) Q=Q v:=propext Iff.rfl
@[scoped simp ↓ high] theorem lk_3 (a0 a1 a2:Option FV) (v:FV) (L:a0a) (Q:FV→Prop):wp (lk (a0 :: a1 :: a2 :: some v :: L) 3) Q=Q v:=propext Iff.rfl
@[scoped simp ↓ high] theorem lk_4 (a0 a1 a2 a3:Option FV) (v:FV) (L:a0a) (Q:FV→Prop):wp (lk (a0 :: a1 :: a2 :: a3 :: some v :: L) 4) Q=Q v:=propext Iff.rfl
@[scoped simp ↓ high] theorem lk_5 (a0 a1 a2 a3 a4:Option FV) (v:FV) (L:a0a) (Q:FV→Prop):wp (lk (a0 :: a1 :: a2 :: a3 :: a4 :: some v :: L) 5) Q=Q v:=propext Iff.rfl
@[scoped simp ↓ high] theorem lk_6 (a0 a1 a2 a3 a4 a5:Option FV) (v:FV) (L:a0a) (Q:FV→Prop):wp (lk (a0 :: a1 :: a2 :: a3 :: a4 :: a5 :: some v :: L) 6) Q=Q v:=propext Iff.rfl
@[scoped simp ↓ high] theorem lk_7 (a0 a1 a2 a3 a4 a5 a6:Option FV) (v:FV) (L:a0a) (Q:FV→Prop):wp (lk (a0 :: a1 :: a2 :: a3 :: a4 :: a5 :: a6 :: some v :: L) 7) Q=Q v:=propext Iff.rfl
@[scoped simp ↓ high] theorem lk_8 (a0 a1 a2 a3 a4 a5 a6 a7:Option FV) (v:FV) (L:a0a) (Q:FV→Prop):wp (lk (a0 :: a1 :: a2 :: a3 :: a4 :: a5 :: a6 :: a7 :: some v :: L) 8) Q=Q v:=propext Iff.rfl
@[scoped simp ↓ high] theorem lk_9 (a0 a1 a2 a3 a4 a5 a6 a7 a8:Option FV) (v:FV) (L:a0a) (Q:FV→Prop):wp (lk (a0 :: a1 :: a2 :: a3 :: a4 :: a5 :: a6 :: a7 :: a8 :: some v :: L) 9) Q=Q v:=propext Iff.rfl
@[scoped simp ↓ high] theorem lk_10 (a0 a1 a2 a3 a4 a5 a6 a7 a8 a9:Option FV) (v:FV) (L:a0a) (Q:FV→Prop):wp (lk (a0 :: a1 :: a2 :: a3 :: a4 :: a5 :: a6 :: a7 :: a8 :: a9 :: some v :: L) 10) Q=Q v:=propext Iff.rfl
@[scoped simp ↓ high] theorem lk_11 (a0 a1 a2 a3 a4 a5 a6 a7 a8 a9 a10:Option FV) (v:FV) (L:a0a) (Q:FV→Prop):wp (lk (a0 :: a1 :: a2 :: a3 :: a4 :: a5 :: a6 :: a7 :: a8 :: a9 :: a10 :: some v :: L) 11) Q=Q v:=propext Iff.rfl
end Kq
end
section
namespace Kq
open PySem PySem.Spec PySem.Calls PyProof.Rows L2 PySem.W
noncomputable def a7d (h:Heap):Frag:=(List.range h.objs.size).filterMap fun a=>(h.get? a).map fun o=>(a,o)
structure CSp where
 c:Str
 a:Addr
 fl:List Str
 ms:List (Str×Addr)
noncomputable def isR (r:Option (Option Value)) (f:Addr):Bool:=match r with
 | some (some (.ref g))=>g == f
 | _=>false
noncomputable def isNo (r:Option (Option Value)):Bool:=match r with
 | some none=>true
 | _=>false
noncomputable def isBt (r:Option (Option Value)) (x:String):Bool:=match r with
 | some (some (.builtin y))=>y == x
 | _=>false
noncomputable def mgR (r:Option Value) (f:Addr):Bool:=match r with
 | some (.ref g)=>g == f
 | _=>false
noncomputable def fnB (K:Frag) (f:Addr):Bool:=match K.lookup f with
 | some ⟨_,_,.func fd,_⟩=>codeIn K fd.code fd.qualname
 | _=>false
noncomputable def dB (K:Frag) (mg:Str→Option Value) (x:Str):Bool:=match mg x with
 | some (.ref a)=>match K.lookup a with
  | some ⟨_,_,.func fd,_⟩=>match fd.code with
   | .ref c=>(K.lookup c).isSome
   | _=>false
  | _=>false
 | _=>false
noncomputable def cB (K:Frag) (mg:Str→Option Value) (c:CSp):Bool:=mgR (mg c.c) c.a && (plainGet K c.a Str.empty && (hasDictIn K c.a && (plainOver K c.a && (isBt (findIn K (.ref c.a) "__setattr__") "object.__setattr__" && (c.fl.all (fun f=>isNo (findIn K (.ref c.a) f)) && (c.ms.all (fun m=>isR (findIn K (.ref c.a) m.1) m.2 && (isFn K (.ref m.2) && (keepIn K (.ref m.2) && fnB K m.2))) && (makesIn K c.a && keepIn K (.ref c.a))))))))
structure CF (K:Frag) (mg:Str→Option Value) (c:CSp):Prop where
 mg:mg c.c=some (.ref c.a)
 cl:Cls K c.a
 fl:∀ f∈c.fl,b0i K c.a f
 ms:∀ m∈c.ms,findIn K (.ref c.a) m.1=some (some (.ref m.2))∧isFn K (.ref m.2)=true∧keepIn K (.ref m.2)=true∧fnB K m.2=true
 mks:makesIn K c.a=true
 kp:keepIn K (.ref c.a)=true
noncomputable def c6o (fd:FuncData):=(fd.name,fd.qualname,fd.params,fd.body,fd.scope,fd.globals,fd.closure,fd.defaults,fd.builtins)
structure Vw where
 f:Addr
 m:Str
 q:Str
 st:Stmt
noncomputable def Vw.due (p:Vw):=c6o (fnOf p.m p.q (a3w p.st) (a1p p.st) (a0j p.st) .none .none .none .none none .none .none)
noncomputable def d2p (o:Obj):=match o.data with
 | .func fd=>some (c6o fd)
 | _=>none
noncomputable def YPC (vw:List Vw) (w:World) (h:Heap):Prop:=∀ p∈vw,∃ o,h.get? p.f=some o∧d2p o=some p.due
theorem YPC.keeps {vw:List Vw} {w:World} {h h':Heap} (y:YPC vw w h) (k:∀ (b:Addr) (o:Obj),h.get? b=some o→h'.get? b=some o):YPC vw w h':=fun p hp=>let ⟨o,e1,e2⟩:=y p hp; ⟨o,k _ _ e1,e2⟩
noncomputable def allB (cs:List CSp) (xs:List Str) (K:Frag) (mg:Str→Option Value):Bool:=xs.all (dB K mg) && cs.all (cB K mg)
noncomputable def XPC (q:Program) (cs:List CSp) (mg:Str→Option Value) (h:Heap):Prop:=XL q [] mg h∧∃ K,AllIn K h∧allB cs ((recsOf q).map (·.name)) K mg=true
theorem XPC.keeps {q:Program} {cs:List CSp} (mg:Str→Option Value) (h h':Heap) (x:XPC q cs mg h) (k:∀ (b:Addr) (o:Obj),h.get? b=some o→h'.get? b=some o):XPC q cs mg h':=let ⟨x1,K,x2,x3⟩:=x; ⟨XL.keeps mg h h' x1 k,K,fun p hp=>k _ _ (x2 p hp),x3⟩
end Kq
end
section
namespace Kq
open PySem PySem.Spec PyProof.Rows L2
structure Big (H:Hp) (a C dx:Addr) (fs:List (Str×V)) (gs:List (Addr×List V)):Prop where
 at_:H a=some (.big C dx fs gs)
 dxo:H dx=some (.own a)
 gso:∀ g∈gs,H g.1=some (.own a)
 nd:(a :: dx :: gs.map (·.1)).Nodup
section
variable {X:Cx} {pins:List (Addr×Obj)} {σ:L2.St} {H:Hp} {s:Shared} {a C dx:Addr} {fs:List (Str×V)} {gs:List (Addr×List V)}
noncomputable def putG (gs:List (Addr×List V)) (l:Addr) (ys:List V):List (Addr×List V):=gs.map fun g=>if g.1=l then (l,ys) else g
end
section
variable {X:Cx} {pins:List (Addr×Obj)} {σ:L2.St} {H:Hp} {s:Shared} {a Ca dx:Addr} {fs:List (Str×V)} {gs:List (Addr×List V)}
variable {i:Nat} {nx:Str} {p pos:Pos} {f:Str}
variable {CX:CXT} {k:Nat} {g:Addr} {fd:FuncData} {ps:List Str} {sp:Sp} {m:Str} {apos:Pos} {e:Expr} {es:List Expr} {t:TA} {E:XK}
variable {x:Str}
end
noncomputable def vF:V→Option FV
 | .int i=>some (.int i)
 | .non=>some .non
 | _=>none
noncomputable def vI:FV→Option V
 | .int i=>some (.int i)
 | .non=>some .non
 | _=>none
noncomputable def fldF (Ca:Addr) (f:Str):FV→Option FV
 | .obj C _ fs _=>if C=Ca then (fs.lookup f).bind vF else none
 | _=>none
noncomputable def lsA (fs:List (Str×V)) (gs:List (Addr×List V)) (f:Str):Option (Addr×List V):=match fs.lookup f with
 | some (.ref l)=>(gs.lookup l).map fun ys=>(l,ys)
 | _=>none
noncomputable def lsF (Ca:Addr) (f:Str):FV→Option (List FV)
 | .obj C _ fs gs=>if C=Ca then (lsA fs gs f).bind fun p=>a7v vF p.2 else none
 | _=>none
noncomputable def appO (Ca:Addr) (f:Str) (u:V):FV→Option FV
 | .obj C dx fs gs=>if C=Ca then (lsA fs gs f).bind fun p=>if p.2.length < big then some (.obj C dx fs (putG gs p.1 (p.2++[u]))) else none else none
 | _=>none
noncomputable def setO (Ca:Addr) (f:Str) (k:Int) (u:V):FV→Option FV
 | .obj C dx fs gs=>if C=Ca then (lsA fs gs f).bind fun p=>(ixN p.2.length k).map fun j=>.obj C dx fs (putG gs p.1 (p.2.set j u)) else none
 | _=>none
noncomputable def putO (Ca:Addr) (f:Str) (u:V):FV→Option FV
 | .obj C dx fs gs=>if C=Ca∧fs.length < 1000 then some (.obj C dx (d4n f u fs) gs) else none
 | _=>none
noncomputable def eFld (i:Nat) (Ca:Addr) (f:Str):EW:=fun L Q=>wp (lk L i) fun o=>wp (fldF Ca f o) fun z=>Q z L
noncomputable def eObjL (i:Nat) (Ca:Addr) (f:Str) (F:FV→Option FV):EW:=fun L Q=>wp (lk L i) fun o=>wp (lsF Ca f o) fun xs=>wp (F (.lst xs)) fun z=>(∀ ps,z≠.lst ps)∧Q z L
noncomputable def d7y (i:Nat) (Ca:Addr) (f:Str) (e:EW):EW:=fun L Q=>wp (lk L i) fun o=>wp (lsF Ca f o) fun _=>e L fun v L1=>wp (vI v) fun u=>wp (lk L1 i) fun o1=>o1=o∧wp (appO Ca f u o1) fun o2=>Q .non (L1.set i (some o2))
noncomputable def d3n (i:Nat) (Ca:Addr) (f:Str) (ek ev:EW):SW:=fun L Q=>wp (lk L i) fun o=>ev L fun v L1=>wp (vI v) fun u=>wp (lk L1 i) fun o1=>o1=o∧wp (lsF Ca f o1) fun _=>ek L1 fun w L2=>wp (a3b w) fun k=>wp (lk L2 i) fun o2=>o2=o∧wp (setO Ca f k u o2) fun o3=>Q .next (L2.set i (some o3))
noncomputable def d3p (i:Nat) (Ca:Addr) (f:Str) (e:EW):SW:=fun L Q=>e L fun v L1=>wp (vI v) fun u=>wp (lk L1 i) fun o=>wp (putO Ca f u o) fun o1=>Q .next (L1.set i (some o1))
noncomputable def d3q (i:Nat) (Ca:Addr) (f:Str) (g:Int→Int→Int) (e:EW):SW:=fun L Q=>wp (lk L i) fun o=>wp (fldF Ca f o) fun z=>e L fun w L1=>wp (lk L1 i) fun o1=>o1=o∧wp (a3b z) fun a=>wp (a3b w) fun b=>wp (putO Ca f (.int (g a b)) o1) fun o2=>Q .next (L1.set i (some o2))
noncomputable def newO (Ca:Addr) (f:Str) (Q:FV→Prop):FV→Prop
 | .obj C dx fs gs=>C=Ca∧fs.length < 1000∧∀ p,(∀ g∈gs,g.1≠p)→Q (.obj C dx (d4n f (.ref p) fs) ((p,[]) :: gs))
 | _=>False
noncomputable def d3o (i:Nat) (Ca:Addr) (f:Str):SW:=fun L Q=>wp (lk L i) fun o=>newO Ca f (fun o1=>Q .next (L.set i (some o1))) o
noncomputable def isO (Ca:Addr) (m:Str):FV→Prop
 | .obj C _ fs _=>C=Ca∧fs.lookup m=none
 | _=>False
noncomputable def eMethO (call:CW) (f i:Nat) (Ca:Addr) (m:Str) (as:AW):EW:=fun L Q=>wp (lk L i) fun o=>isO Ca m o∧a1g call f i as L Q
noncomputable def eMake (call:CW) (f:Nat) (Ca:Addr) (as:AW):EW:=fun L Q=>as L fun xs L1=>∀ dx,call f (.obj Ca dx [] [] :: xs) fun z=>z.1=.non∧Q z.2 L1
section
end
section
variable {X:Cx} {C:CC} {n:Nat} {sp:Γd→Nat→Sp} {fr:Bool} {a b:Expr} {e ea eb:EW} {pos p px p2 apos:Pos} {i f:Nat} {nx fl:Str} {Ca:Addr}
variable {K:Γd} {c:Cn} {md:Md} {L:a0a} {σ:L2.St} {S H:Hp}
end
section
variable {X:Cx} {C:CC} {n:Nat} {sp:Γd→Nat→Sp} {fr:Bool} {a b:Expr} {e ea eb:EW} {pos p px p2 apos cpos:Pos} {i k:Nat} {nx fl:Str} {Ca:Addr} {xs:List Expr} {as:AW} {call:CW} {m cn:Str}
variable {K:Γd} {c:Cn} {md:Md} {L:a0a} {σ:L2.St} {S H:Hp}
end
section
variable {X:Cx} {C:CC} {n:Nat} {sp:Γd→Nat→Sp} {pos p apos:Pos} {i f:Nat} {nx:Str} {Ca:Addr} {a:Expr} {xs:List Expr} {as:AW} {call:CW} {m cn:Str}
end
noncomputable def sNev:SW:=fun _ _=>False
noncomputable def bFldL (i:Nat) (Ca:Addr) (f:Str):BW:=fun L Q=>wp (lk L i) fun o=>wp (lsF Ca f o) fun xs=>Q (!xs.isEmpty) L
@[scoped simp ↓] theorem d3s (L:a0a) (Q:FFl→a0a→Prop):sNev L Q=False:=rfl
section
variable {X:Cx} {C:CC} {n:Nat} {sp:Γd→Nat→Sp} {fr:Bool} {i:Nat} {nx fl:Str} {p pos:Pos} {Ca:Addr} {a:Expr} {ta:TE}
end
abbrev NG:=Addr×List V×List FV
noncomputable def a4x (gs:List NG):List V:=gs.map fun g=>V.ref g.1
noncomputable def prG (gs:List NG):List (Addr×HO):=gs.map fun g=>(g.1,HO.lst g.2.1)
noncomputable def cN (c:Cn) (acc:Addr) (gs:List NG):Cn:={ c with pr:=(acc,.lst (a4x gs)) :: (prG gs++c.pr) }
section
variable {K:Γd} {c:Cn} {md:Md} {L:a0a} {σ:L2.St} {S H:Hp} {j:Nat} {acc:Addr} {gs:List NG}
theorem Iv.pr_of {pr pr':List (Addr×HO)} (I:Iv K { c with pr:=pr } md L σ S H) (h:∀ p∈pr',p∈pr) (hz:∀ p∈c.fz,∃ o,(p.2,o)∈pr'):Iv K { c with pr:=pr' } md L σ S H :=
 ⟨I.len,I.imm,I.own,I.dis,I.sub,I.frame,I.s0,I.grow,I.lent,I.fzs,I.fzm,hz,fun p hp=>I.prs p (h p hp),fun p hp=>I.ntp p (h p hp),I.lnt1,I.tie⟩
theorem Iv.rewr {pr rest:List (Addr×HO)} {b:Addr} {o o':HO} (I:Iv K { c with pr:=pr } md L σ S H) (hb:(b,o)∈pr) (hr:∀ p∈rest,p∈pr) (hp:∀ p∈rest,p.1≠b) (h0:c.H0 b=none) (hz:∀ p∈c.fz,∃ o,(p.2,o)∈rest) (nt:a5s o'=false):Iv K { c with pr:=(b,o') :: rest } md L σ S (upd H b o'):=by
 have I1:Iv K { c with pr:=(b,o) :: rest } md L σ S H:=I.pr_of (fun p hp=>(List.mem_cons.mp hp).elim (fun z=>z ▸ hb) (hr p)) fun p h=>let ⟨o,h⟩:=hz p h; ⟨o,Γh _ h⟩
 exact Iv.regrow (c:={ c with pr:=rest }) I1 h0 hp hz nt
theorem Iv.settle {b:Addr} {o:HO} (I:Iv K { c with pr:=(b,o) :: c.pr } md L σ S H) (h0:c.H0 b=none) (hp:∀ p∈c.pr,p.1≠b) (hz:∀ p∈c.fz,∃ o,(p.2,o)∈c.pr):Iv K c md L σ (upd S b o) H:=by
 obtain ⟨hb,sb,nb⟩:=I.prs (b,o) Γn
 have I0:=I.unprot hz
 have s:Same S (upd S b o):=a0i sb
 refine ⟨I.len,fun i v h e=>let ⟨x,e1,r⟩:=I.imm i v h e; ⟨x,e1,r.mono s⟩,fun i v h e=>?_,I.dis,fun a u e=>?_,I.frame,I.s0.trans s,fun a u e=>?_,I.lent,I.fzs,I.fzm,hz,fun p hpp=>?_,I0.ntp,I.lnt1,I.tie⟩
 ·obtain ⟨a,e1,⟨g1,ps,xs,g2,g3,g4⟩,g5⟩:=I.own i v h e
  have na:a≠b:=fun z=>by
   subst z
   by_cases m:(a0g md i).w=true
   ·exact nb i v m e e1
   ·have m:a0g md i=.frz:=by cases q:a0g md i with | imm=>exact absurd q h | frz=>rfl | _=>rw [q] at m; exact absurd rfl m
    obtain ⟨b',f1⟩:=I0.fzm i v m e
    obtain ⟨_,f2,_⟩:=I0.fzs _ f1
    rw [e1] at f2; cases f2
    obtain ⟨ys,f3⟩:=hz _ f1
    exact hp _ f3 rfl
  exact ⟨a,e1,⟨by rw [a0d na]; exact g1,ps,xs,g2,g3,g4.mono s⟩,g5⟩
 ·by_cases z:a=b
  ·subst z; rw [a0e] at e; cases e; exact hb
  ·rw [a0d z] at e; exact I.sub a u e
 ·by_cases z:a=b
  ·subst z; exact .inr (.inl h0)
  ·rw [a0d z] at e; exact I.grow a u e
 ·obtain ⟨g1,g2,g3⟩:=I0.prs p hpp
  exact ⟨g1,by rw [a0d (hp p hpp)]; exact g2,g3⟩
theorem b4w:∀ {gs:List NG} {S:Hp},Iv K { c with pr:=prG gs++c.pr } md L σ S H→(gs.map (·.1)).Nodup→(∀ b∈gs.map (·.1),c.H0 b=none∧∀ p∈c.pr,p.1≠b)→(∀ p∈c.fz,∃ o,(p.2,o)∈c.pr) →
  ∃ S',Same S S'∧Iv K c md L σ S' H∧∀ g∈gs,S' g.1=some (.lst g.2.1)
 | [],S,I,_,_,_=>⟨S,Same.refl S,I,fun g h=>absurd h List.not_mem_nil⟩
 | g :: gs,S,I,nd,h0,hz=>by
  obtain ⟨n1,n2⟩:=List.nodup_cons.mp nd
  have I1:=Iv.settle (c:={ c with pr:=prG gs++c.pr }) (b:=g.1) (o:=.lst g.2.1) I (h0 g.1 Γn).1 (fun p hp=>by
   rcases List.mem_append.mp hp with hp | hp
   ·obtain ⟨g',hg,rfl⟩:=List.mem_map.mp hp
    exact fun z=>n1 (List.mem_map.mpr ⟨g',hg,z⟩)
   ·exact (h0 g.1 Γn).2 p hp) fun p hp=>let ⟨o,h⟩:=hz p hp; ⟨o,List.mem_append_right _ h⟩
  obtain ⟨S',s,I',k⟩:=b4w I1 n2 (fun b hb=>h0 b (Γh _ hb)) hz
  have sg:S g.1=none:=(I.prs (g.1,.lst g.2.1) Γn).2.1
  exact ⟨S',(a0i sg).trans s,I',fun g' hg=>(List.mem_cons.mp hg).elim (fun z=>by rw [z]; exact s _ _ a0e) (k g')⟩
structure NI (K:Γd) (c:Cn) (md:Md) (acc:Addr) (gs:List NG) (L:a0a) (σ:L2.St) (S H:Hp):Prop where
 I:Iv K (cN c acc gs) md L σ S H
 r:∀ g∈gs,RVs K S g.2.2 g.2.1
 nd:(acc :: gs.map (·.1)).Nodup
 h0:∀ b∈acc :: gs.map (·.1),c.H0 b=none∧∀ p∈c.pr,p.1≠b
 hz:∀ p∈c.fz,∃ o,(p.2,o)∈c.pr
theorem NI.I0 (N:NI K c md acc gs L σ S H):Iv K c md L σ S H:=Iv.pr_of (c:=c) (pr':=c.pr) N.I (fun p hp=>Γh _ (List.mem_append_right _ hp)) N.hz
theorem NI.go {L':a0a} {σ':L2.St} {S' H':Hp} (N:NI K c md acc gs L σ S H) (I:Iv K (cN c acc gs) md L' σ' S' H') (s:Same S S'):NI K c md acc gs L' σ' S' H' :=
 ⟨I,fun g hg=>(N.r g hg).mono s,N.nd,N.h0,N.hz⟩
theorem NI.start (I:Iv K c md L σ S H) (ha:H acc=none):NI K c md acc [] L σ S (upd H acc (.lst [])) :=
 ⟨(I.lay ha _).prot a0e (I.sn ha) fun j w hm hj=>(I.fresh ha).2.2 j w (Mo.w_imm hm) hj,fun g h=>absurd h List.not_mem_nil,by simp,fun b hb=>by
  rw [List.mem_singleton.mp hb]; exact ⟨(I.fresh ha).1,(I.fresh ha).2.1⟩,I.fzp⟩
theorem NI.out (N:NI K c md acc gs L σ S H):H acc=some (.lst (a4x gs)):=(N.I.prs (acc,.lst (a4x gs)) Γn).1
theorem NI.inn (N:NI K c md acc gs L σ S H) {g:NG} (hg:g∈gs):H g.1=some (.lst g.2.1):=(N.I.prs (g.1,.lst g.2.1) (Γh _ (List.mem_append_left _ (List.mem_map.mpr ⟨g,hg,rfl⟩)))).1
theorem NI.add (N:NI K c md acc gs L σ S H) {b:Addr} {ps:List FV} (o:a2u K S H b (.lst ps)) (f:a6n (cN c acc gs) md L σ b):∃ us,NI K c md acc (gs++[(b,us,ps)]) L σ S (upd H acc (.lst (a4x gs++[V.ref b]))):=by
 obtain ⟨hs,ps',us,e,hb,rr⟩:=o
 cases e
 have I1:=N.I.prot (a:=b) hb hs fun i v hm hi=>f.2.2 i v (Mo.w_imm hm) hi
 have na:b≠acc:=fun z=>f.2.1 (acc,.lst (a4x gs)) Γn z.symm
 have nb:∀ g∈gs,g.1≠b:=fun g hg=>f.2.1 (g.1,.lst g.2.1) (Γh _ (List.mem_append_left _ (List.mem_map.mpr ⟨g,hg,rfl⟩)))
 obtain ⟨n1,n2⟩:=List.nodup_cons.mp N.nd
 have I2:=Iv.rewr (c:=c) (pr:=(b,.lst us) :: (acc,.lst (a4x gs)) :: (prG gs++c.pr)) (rest:=(b,.lst us) :: (prG gs++c.pr)) (b:=acc) (o:=.lst (a4x gs)) (o':=.lst (a4x gs++[V.ref b])) I1 (Γh _ Γn) (fun p hp=>by
   rcases List.mem_cons.mp hp with z | z
   ·rw [z]; exact Γn
   ·exact Γh _ (Γh _ z)) (fun p hp=>by
   rcases List.mem_cons.mp hp with z | z
   ·rw [z]; exact na
   ·rcases List.mem_append.mp z with z | z
    ·obtain ⟨g,hg,rfl⟩:=List.mem_map.mp z
     exact fun y=>n1 (List.mem_map.mpr ⟨g,hg,y⟩)
    ·exact (N.h0 acc Γn).2 p z) (N.h0 acc Γn).1 (fun p hp=>let ⟨o,h⟩:=N.hz p hp; ⟨o,Γh _ (List.mem_append_right _ h)⟩) rfl
 refine ⟨us,?_,fun g hg=>?_,?_,fun d hd=>?_,N.hz⟩
 ·have:a4x (gs++[(b,us,ps)])=a4x gs++[V.ref b]:=by simp [a4x]
  unfold cN
  rw [this]
  refine Iv.pr_of (c:=c) I2 (fun p hp=>?_) fun p hp=>let ⟨o,h⟩:=N.hz p hp; ⟨o,Γh _ (List.mem_append_right _ h)⟩
  simp only [prG,List.map_append,List.map_cons,List.map_nil,List.mem_cons,List.mem_append,List.not_mem_nil,or_false] at hp ⊢
  rcases hp with z | (z | z) | z
  ·exact .inl z
  ·exact .inr (.inr (.inl z))
  ·exact .inr (.inl z)
  ·exact .inr (.inr (.inr z))
 ·rcases List.mem_append.mp hg with z | z
  ·exact N.r g z
  ·rw [List.mem_singleton.mp z]; exact rr
 ·rw [List.map_append]
  refine List.nodup_cons.mpr ⟨fun z=>?_,List.nodup_append.mpr ⟨n2,by simp,fun x hx y hy=>?_⟩⟩
  ·rcases List.mem_append.mp z with z | z
   ·exact n1 z
   ·exact na (List.mem_singleton.mp z).symm
  ·obtain ⟨g,hg,rfl⟩:=List.mem_map.mp hx
   rw [List.mem_singleton.mp hy]
   exact nb g hg
 ·rw [List.map_append] at hd
  rcases List.mem_cons.mp hd with z | z
  ·exact N.h0 d (by rw [z]; exact Γn)
  ·rcases List.mem_append.mp z with z | z
   ·exact N.h0 d (Γh _ z)
   ·rw [List.mem_singleton.mp z]
    exact ⟨f.1,fun p hp=>f.2.1 p (Γh _ (List.mem_append_right _ hp))⟩
theorem NI.put {l r:List NG} {b:Addr} {us:List V} {ps:List FV} {u:V} {p:FV} (N:NI K c md acc (l++(b,us,ps) :: r) L σ S H) (hu:RV K S p u):NI K c md acc (l++(b,us++[u],ps++[p]) :: r) L σ S (upd H b (.lst (us++[u]))):=by
 have er:a4x (l++(b,us++[u],ps++[p]) :: r)=a4x (l++(b,us,ps) :: r):=by simp [a4x]
 have en:(l++(b,us++[u],ps++[p]) :: r).map (·.1)=(l++(b,us,ps) :: r).map (·.1):=by simp
 have nd:=N.nd
 have mb:b∈acc :: (l++(b,us,ps) :: r).map (·.1):=by simp
 have ne:∀ g,g∈l ∨ g∈r→g.1≠b:=fun g hg z=>by
  have n2:=(List.nodup_cons.mp nd).2
  rw [List.map_append,List.map_cons] at n2
  obtain ⟨_,n3,n4⟩:=List.nodup_append.mp n2
  rcases hg with hg | hg
  ·exact n4 g.1 (List.mem_map.mpr ⟨g,hg,rfl⟩) b Γn z
  ·exact (List.nodup_cons.mp n3).1 (by rw [← z]; exact List.mem_map.mpr ⟨g,hg,rfl⟩)
 have na:acc≠b:=fun z=>(List.nodup_cons.mp nd).1 (by rw [z]; simp)
 have I2:=Iv.rewr (c:=c) (pr:=(acc,.lst (a4x (l++(b,us,ps) :: r))) :: (prG (l++(b,us,ps) :: r)++c.pr)) (rest:=(acc,.lst (a4x (l++(b,us,ps) :: r))) :: (prG l++(prG r++c.pr))) (b:=b) (o:=.lst us) (o':=.lst (us++[u])) N.I (by simp [prG]) (fun q hq=>by
   simp only [prG,List.map_append,List.map_cons,List.mem_cons,List.mem_append] at hq ⊢
   rcases hq with z | z | z | z
   ·exact .inl z
   ·exact .inr (.inl (.inl z))
   ·exact .inr (.inl (.inr (.inr z)))
   ·exact .inr (.inr z)) (fun q hq=>by
   rcases List.mem_cons.mp hq with z | z
   ·rw [z]; exact na
   ·rcases List.mem_append.mp z with z | z
    ·obtain ⟨g,hg,rfl⟩:=List.mem_map.mp z
     exact ne g (.inl hg)
    ·rcases List.mem_append.mp z with z | z
     ·obtain ⟨g,hg,rfl⟩:=List.mem_map.mp z
      exact ne g (.inr hg)
     ·exact (N.h0 b mb).2 q z) (N.h0 b mb).1 (fun q hq=>let ⟨o,h⟩:=N.hz q hq; ⟨o,Γh _ (List.mem_append_right _ (List.mem_append_right _ h))⟩) rfl
 refine ⟨?_,fun g hg=>?_,by rw [en]; exact N.nd,fun d hd=>N.h0 d (by rw [← en]; exact hd),N.hz⟩
 ·unfold cN
  rw [er]
  refine Iv.pr_of (c:=c) I2 (fun q hq=>?_) fun q hq=>let ⟨o,h⟩:=N.hz q hq; ⟨o,Γh _ (List.mem_append_right _ h)⟩
  simp only [prG,List.map_append,List.map_cons,List.mem_cons,List.mem_append] at hq ⊢
  rcases hq with z | (z | z | z) | z
  ·exact .inr (.inl z)
  ·exact .inr (.inr (.inl z))
  ·exact .inl z
  ·exact .inr (.inr (.inr (.inl z)))
  ·exact .inr (.inr (.inr (.inr z)))
 ·rcases List.mem_append.mp hg with z | z
  ·exact N.r g (List.mem_append_left _ z)
  ·rcases List.mem_cons.mp z with z | z
   ·rw [z]; exact (N.r (b,us,ps) (by simp)).append (RVs.one hu)
   ·exact N.r g (List.mem_append_right _ (Γh _ z))
theorem b2e {S:Hp}:∀ {gs:List NG},(∀ g∈gs,S g.1=some (.lst g.2.1)∧RVs K S g.2.2 g.2.1)→RVs K S (gs.map fun g=>.lst g.2.2) (a4x gs)
 | [],_=>rfl
 | g :: gs,h=>⟨_,_,rfl,⟨g.1,g.2.1,rfl,(h g Γn).1,(h g Γn).2⟩,b2e fun g' hg=>h g' (Γh _ hg)⟩
theorem NI.fin (N:NI K c md acc gs L σ S H):∃ S',Same S S'∧Iv K c md L σ S' H∧RV K S' (.lst (gs.map fun g=>.lst g.2.2)) (.ref acc):=by
 obtain ⟨S',s,I,k⟩:=b4w (gs:=(acc,a4x gs,[]) :: gs) (c:=c) N.I N.nd N.h0 N.hz
 exact ⟨S',s,I,acc,a4x gs,rfl,k (acc,a4x gs,[]) Γn,b2e fun g hg=>⟨k g (Γh _ hg),(N.r g hg).mono s⟩⟩
end
noncomputable def c6k (e:EW):EW:=fun L Q=>e L fun v L1=>∃ ps,v=.lst ps∧Q v L1
noncomputable def b1d:List FV→List (List FV)
 | []=>[]
 | .lst ps :: r=>ps :: b1d r
 | _ :: r=>[] :: b1d r
noncomputable def a9d (tg:Tg) (ix a:EW):List FV→List (List FV)→a0a→(List (List FV)→a0a→Prop)→Prop
 | [],pss,L,Q=>Q pss L
 | z :: zs,pss,L,Q=>gW tg z L fun L1=>ix L1 fun i L2=>∃ (k:Nat) (ps:List FV),i=.int k∧pss[k]?=some ps∧ps.length < big∧a L2 fun v L3=>a9d tg ix a zs (pss.set k (ps++[v])) L3 Q
noncomputable def c3j (j n m:Nat) (it:AW) (tg:Tg) (t:BW) (e:EW) (it2:AW) (tg2:Tg) (ix a:EW):SW:=fun L Q=>it L fun xs L1=>L1.length=n∧xs.length≤big∧a3a n m tg t (c6k e) xs [] L1 fun ys L2 =>
 it2 (L2.set j none) fun zs L3=>a9d tg2 ix a zs (b1d ys) L3 fun pss L4=>Q .next (L4.set j (some (.lst (pss.map .lst))))
theorem a5p:∀ pss:List (List FV),b1d (pss.map .lst)=pss
 | []=>rfl
 | p :: r=>by rw [List.map_cons,b1d,a5p r]
section
variable {K:Γd} {c:Cn} {md:Md} {L:a0a} {σ:L2.St} {S H:Hp} {j:Nat} {acc:Addr} {gs:List NG}
theorem Iv.blank (I:Iv K c md L σ S H) (m:a0g md j=.imm) (x:V):Iv K c md (L.set j none) (σ.set j (some x)) S H:=by
 have ne:∀ {i u},(L.set j none)[i]?=some (some u)→i≠j∧L[i]?=some (some u):=fun z=>a1h z
 have sg:∀ {i},i≠j→(σ.set j (some x))[i]?=σ[i]?:=fun h=>List.getElem?_set_ne (Ne.symm h)
 refine ⟨by rw [List.length_set,List.length_set]; exact I.len,fun i u hm z=>?_,fun i u hm z=>?_,fun i k u w a m1 m2 z1 z2 y1 y2=>?_,I.sub,I.frame,I.s0,I.grow,fun b z=>?_,fun p hp=>?_,fun i u hm z=>I.fzm i u hm (ne z).2,I.fzp,fun p hp=>?_,I.ntp,fun q hq=>?_,fun y k x C dx fs w h1 h2 h3 h4=>?_⟩
 ·rw [sg (ne z).1]; exact I.imm i u hm (ne z).2
 ·rw [sg (ne z).1]; exact I.own i u hm (ne z).2
 ·rw [sg (ne z1).1] at y1; rw [sg (ne z2).1] at y2
  exact I.dis i k u w a m1 m2 (ne z1).2 (ne z2).2 y1 y2
 ·obtain ⟨g1,g2,v,g3⟩:=I.lent b z
  have:(0:Nat)≠j:=fun y=>g1 (by rw [y]; exact m)
  exact ⟨g1,by rw [sg this]; exact g2,v,by rw [a3k this]; exact g3⟩
 ·obtain ⟨g1,g2,v,g3⟩:=I.fzs p hp
  have:p.1≠j:=fun y=>by rw [y,m] at g1; cases g1
  exact ⟨g1,by rw [sg this]; exact g2,v,by rw [a3k this]; exact g3⟩
 ·obtain ⟨g1,g2,g3⟩:=I.prs p hp
  exact ⟨g1,g2,fun i u hm z=>by rw [sg (ne z).1]; exact g3 i u hm (ne z).2⟩
 ·obtain ⟨g1,g2,v,g3⟩:=I.lnt1 q hq
  have:q.1≠j:=fun y=>by rw [y,m] at g1; cases g1
  exact ⟨g1,by rw [sg this]; exact g2,v,by rw [a3k this]; exact g3⟩
 ·rw [sg (ne h4).1]; exact I.tie y k x C dx fs w h1 h2 (ne h3).2 (ne h4).2
theorem Iv.named (I:Iv K c md L σ S H) (m:a0g md j=.imm) {v:FV} {x:V} (e:σ[j]?=some (some x)) (r:RV K S v x):Iv K c md (L.set j (some v)) σ S H:=by
 have:=I.setI m r
 have e2:σ.set j (some x)=σ:=by
  apply List.ext_getElem?
  intro i
  by_cases h:i=j
  ·subst h; rw [List.getElem?_set_self (List.getElem?_eq_some_iff.mp e).1,e]
  ·rw [List.getElem?_set_ne (Ne.symm h)]
 rwa [e2] at this
theorem b8k {J:It} {xs:List FV} {n m:Nat} {tg:Tg} {t:BW} {e:EW} {Q:VK} {Q1:List FV→a0a→Prop} (I:Iv K c md L σ S H) (hJ:ItR K c md J xs S) (hL:L.length=n) (hmd:md.length≤n) (ht:a2v md tg=true) (hg:a4n n tg=true) (hb:xs.length≤big) (h:a3a n m tg t (c6k e) xs [] L Q1)
  (k:∀ acc gs L' S' H',Q1 (gs.map fun g=>.lst g.2.2) L'→NI K c md acc gs L' σ S' H'→Same S S'→Q (.ref acc) H') :
  ∀ acc,H acc=none→∃ W:Nat→Nat→Hp→Prop,(∃ m,W 0 m (upd H acc (.lst [])))∧∀ i j H,W i j H →
   (J.stop i H∧Q (.ref acc) H) ∨ (J.go i H∧∀ x H',J.yld i H x H'→gT K tg x (σ++Γj m none) H' fun σ2 H2=>Wk (σ++Γj m none) σ2∧lb K md t σ2 H2 fun b H3 =>
    if b=true then lf K md e σ2 H3 fun v H4=>∃ ys,H4 acc=some (.lst ys)∧ys.length < sizeLine∧∃ m',m' < j∧W (i + 1) m' (upd H4 acc (.lst (ys++[v]))) else ∃ m',m' < j∧W (i + 1) m' H3):=by
 intro acc hacc
 have hl:σ.length=n:=by rw [← I.len]; exact hL
 have hbl:=a0m
 let W:Nat→Nat→Hp→Prop:=fun i j H1=>∃ L S1 gs,j=(xs.drop i).length∧NI K c md acc gs L σ S1 H1∧Same S S1∧L.length=n∧gs.length≤i∧a3a n m tg t (c6k e) (xs.drop i) (gs.map fun g=>.lst g.2.2) L Q1
 refine ⟨W,⟨_,L,S,[],rfl,NI.start I hacc,Same.refl S,hL,Γi _,by rw [List.drop_zero]; exact h⟩,?_⟩
 rintro i j H1 ⟨L,S1,gs,rfl,N,s,hL,hps,hc⟩
 obtain ⟨j1,j2⟩:=hJ i L σ S1 H1 N.I0 s
 cases hd:xs.drop i with
 | nil =>
  left
  rw [hd] at hc
  exact ⟨j1 (List.getElem?_eq_none_iff.mpr (List.drop_eq_nil_iff.mp hd)),k acc gs L S1 H1 hc N s⟩
 | cons p rest =>
  right
  rw [hd] at hc
  have hi:xs[i]?=some p:=by
   have:=congrArg (·[0]?) hd
   simpa using this
  have hd':xs.drop (i + 1)=rest:=by
   have:=congrArg List.tail hd
   simpa [List.tail_drop] using this
  have hix:i < xs.length:=(List.getElem?_eq_some_iff.mp hi).1
  obtain ⟨go,yl⟩:=j2 p hi
  refine ⟨go,fun x H2 y=>?_⟩
  obtain ⟨S2,s2,tr,rx⟩:=yl x H2 y
  have I2:=(tr _ _ _ _ N.I).more m
  obtain ⟨σ2,L2,gq,q2,I2,len2,far⟩:=a4t ht I2 rx hc
  have l2:n≤σ2.length:=by rw [len2,List.length_append,hl]; lia
  have far':∀ q,q < n→σ2[q]?=σ[q]?:=fun q hq=>by rw [far n hg q hq,List.getElem?_append_left (by rw [hl]; exact hq)]
  refine gq _ ⟨⟨len2,fun q v hv=>?_⟩,?_⟩
  ·have hq:q < n:=by
    by_cases h:q < σ.length
    ·rw [← hl]; exact h
    ·rw [List.getElem?_append_right (by lia),List.getElem?_replicate] at hv
     split at hv <;> cases hv
   rw [far n hg q hq]; exact hv
  ·refine ⟨_,L2,S2,_,I2,q2,fun b L3 hb3 S3 H3 I3 s3=>?_⟩
   cases b with
   | false =>
    rw [if_neg Γk] at hb3 ⊢
    exact ⟨rest.length,by simp,L3.take n,S3,gs,by rw [hd'],N.go (I3.take hmd hl l2 far') (s2.trans s3),s.trans (s2.trans s3),by rw [List.length_take,I3.len]; lia,by lia,by rw [hd']; exact hb3⟩
   | true =>
    rw [if_pos rfl] at hb3 ⊢
    refine ⟨_,L3,S3,_,I3,hb3,fun v L4 ⟨ps,ev,hv⟩ u S4 H4 o4 f4 I4 s4=>?_⟩
    subst ev
    have N4:NI K c md acc gs (L4.take n) σ S4 H4:=N.go (I4.take hmd hl l2 far') (s2.trans (s3.trans s4))
    have f5:a6n (cN c acc gs) md (L4.take n) σ u:=⟨f4.1,f4.2.1,fun q w hm hq hs=>by
     have hqn:q < n:=by have:=(List.getElem?_eq_some_iff.mp hq).1; rw [List.length_take] at this; lia
     rw [List.getElem?_take_of_lt hqn] at hq
     exact f4.2.2 q w hm hq (by rw [far' q hqn]; exact hs)⟩
    obtain ⟨us,N5⟩:=N4.add o4 f5
    refine ⟨a4x gs,N4.out,by simp only [a4x,List.length_map]; lia,rest.length,by simp,L4.take n,S4,_,by rw [hd'],N5,s.trans (s2.trans (s3.trans s4)),by rw [List.length_take,I4.len]; lia,by simp; lia,?_⟩
    rw [hd',List.map_append]
    exact hv
end
noncomputable def lG (K:Γd) (md:Md) (nn m:Nat) (it:AW) (tg:Tg) (t:BW) (e:EW):TE:=fun σ H Q=>∃ c L S Q1,Iv K c md L σ S H∧(it L fun xs L1=>L1.length=nn∧xs.length≤big∧a3a nn m tg t (c6k e) xs [] L1 Q1) ∧
 ∀ acc gs L' S' H',σ.length=nn→Q1 (gs.map fun g=>.lst g.2.2) L'→NI K c md acc gs L' σ S' H'→Same S S'→Q (.ref acc) H'
section
variable {X:Cx} {C:CC} {n:Nat} {sp:Γd→Nat→Sp} {fr:Bool} {scope:Scope} {own:List Str} {elt tgx iter:Expr} {ifs:List Expr} {nn m:Nat} {it it2:AW} {tg tg2:Tg} {t:BW} {e ix a:EW} {i j:Nat} {nx:Str} {p px pos:Pos}
structure CompOkG (X:Cx) (C:CC) (n:Nat) (sp:Γd→Nat→Sp) (scope:Scope) (own:List Str) (elt tgx iter:Expr) (ifs:List Expr) (nn m:Nat) (it:AW) (tg:Tg) (t:BW) (e:EW):Prop where
 st:(C.scOk scope own && decide (C.N.length=nn) && decide (own.length=m) && decide (C.md.length≤nn) && a2v C.md tg && a4n nn tg && !b1h iter)=true
 it:FIv X C tgx iter it
 tg:∀ X',Good X' (C.sub scope own C.md) n sp→FG X' tgx tg
 ts:∀ X',Good X' (C.sub scope own C.md) n sp→FTs X' (C.sub scope own C.md) ifs t
 el:∀ X',Good X' (C.sub scope own C.md) n sp→FF X' (C.sub scope own C.md) elt e
theorem CompOkG.run (G:Good X C n sp) (h:CompOkG X C n sp scope own elt tgx iter ifs nn m it tg t e) {σ:L2.St} {H:Hp} {Q:VK} (hq:lG X.K C.md nn m it tg t e σ H Q):b9i (liv X.K C.md it) (gT X.K tg) (lb X.K C.md t) (lf X.K C.md e) own.length σ H Q:=by
 have h0:=b2 h.st; have h1:=b2 h0.1; have h2:=b2 h1.1; have h4:=b2 h2.1; have h5:=b2 h4.1; have h6:=b2 h5.1
 obtain ⟨c,L,S,Q1,I,hh,k⟩:=hq
 refine ⟨c,L,S,_,I,hh,fun xs L1 hx J S1 H1 I1 hJ s1=>?_⟩
 obtain ⟨hl,hb,hc⟩:=hx
 rw [de h5.2]
 exact b8k I1 (hJ _ _) hl (de h4.2) h2.2 h1.2 hb hc fun acc gs L' S' H' q N s'=>k acc gs L' S' H' (by rw [← I1.len]; exact hl) q N (s1.trans s')
theorem CompOkG.blk (G:Good X C n sp) (h:CompOkG X C n sp scope own elt tgx iter ifs nn m it tg t e):CScope X scope own∧(∀ fp D s H,PG (cxC X scope own fp D s H) tgx (gT X.K tg)∧PTs (cxC X scope own fp D s H) ifs (lb X.K C.md t)∧PE (cxC X scope own fp D s H) elt (lf X.K C.md e))∧∀ v,foldedSetIterable iter X.env v=pure v:=by
 have h0:=b2 h.st; have h1:=b2 h0.1; have h2:=b2 h1.1; have h4:=b2 h2.1; have h5:=b2 h4.1; have h6:=b2 h5.1
 obtain ⟨s1,s2⟩:=G.sub h6.1 C.md
 exact ⟨s1,fun fp D s H=>⟨h.tg _ (s2 fp D s H),h.ts _ (s2 fp D s H),h.el _ (s2 fp D s H)⟩,a6z (nb h0.2)⟩
theorem b8n (G:Good X C n sp) (ht:C.tn i nx=true) (h:CompOkG X C n sp scope own elt tgx iter ifs nn m it tg t e):∃ te:TE,(∀ σ H Q,lG X.K C.md nn m it tg t e σ H Q→te σ H Q)∧PS X.nox (.Assign [.Name nx px] (.ListComp elt [⟨tgx,iter,ifs,0⟩] scope p) pos) (b8x te (a4i i)):=by
 have hsw:swapsWith (.ListComp elt [⟨tgx,iter,ifs,0⟩] scope p) (some (.Name nx px)) pos.line X.env=pure (swC C nx px scope p):=by rw [b4s G.kind,G.sc]; rfl
 obtain ⟨s1,s2,s3⟩:=h.blk G
 cases hb:swC C nx px scope p with
 | false =>
  rw [hb] at hsw
  exact ⟨_,fun σ H Q q=>h.run G q,b5h G ht hsw (b0w G.calm s1 h.it s2 s3)⟩
 | true =>
  rw [hb] at hsw
  have hlo:X.env.scope.names.lookup nx=some .local:=by
   rw [G.sc]
   have hb:=b2 hb
   exact de (b2 hb.1).1
  exact ⟨_,fun σ H Q q=>h.run G q,a6t G.calm s1 G.nd' (G.ix (b2 ht).1) hlo h.it s2 hsw s3⟩
theorem c0a (G:Good X C n sp) {apos cpos:Pos} {ixx ax:Expr} {po p2:Pos} (h:C.nm j nx=true) (hl:d0o apos cpos=true) (hsl:a1t ixx=false) (hs:a0h ax=false) (hi:FE X C ixx ix) (ha:FE X C ax a) :
  ∃ tb:TS,PSs X.nox [.Expr (.Call (.Attribute (.Subscript (.Name nx p) ixx po) (Γe "append") apos) [ax] [] cpos) p2] tb ∧
   ∀ {c:Cn} {acc:Addr} {gs:List NG} {L:a0a} {σ:L2.St} {S H:Hp} {D:Ends} {Q0:List (List FV)→a0a→Prop},NI X.K c C.md acc gs L σ S H→σ[j]?=some (some (.ref acc)) →
    (ix L fun i L2=>∃ (k:Nat) (ps:List FV),i=.int k∧(gs.map (·.2.2))[k]?=some ps∧ps.length < big∧a L2 fun v L3=>Q0 ((gs.map (·.2.2)).set k (ps++[v])) L3) →
    (∀ gs' L' S' H',Q0 (gs'.map (·.2.2)) L'→NI X.K c C.md acc gs' L' σ S' H'→Same S S'→D.nx σ H')→tb D σ H:=by
 refine ⟨_,b0r (b0t (c0g PySem.F.plainAttrs_list PySem.F.slot_list_append PySem.F.type_list_append a4e (c3y b6t (a1d G h) hi (a4d hsl)) (a0t ha a2n (a0f hs)) rfl (by rw [a0f hs]; rfl) hl (a0f hs) rfl) (a2m rfl)),?_⟩
 intro c acc gs L σ S H D Q0 N e hh k
 refine ⟨_,e,_,L,S,_,N.I,hh,fun iv L1 hw y S1 H1 r1 I1 s1=>?_⟩
 obtain ⟨kk,ps,rfl,hk,hlen,hw⟩:=hw
 cases r1
 have N1:=N.go I1 s1
 have hb:=a0m
 obtain ⟨g,hg,eg⟩:∃ g,gs[kk]?=some g∧g.2.2=ps:=by rw [List.getElem?_map] at hk; exact Option.map_eq_some_iff.mp hk
 obtain ⟨b,us,ps'⟩:=g
 cases eg
 have gl:kk < gs.length:=(List.getElem?_eq_some_iff.mp hg).1
 have sp:gs=gs.take kk++(b,us,ps') :: gs.drop (kk + 1):=by
  have:=(List.getElem?_eq_some_iff.mp hg).2
  rw [← this,List.getElem_cons_drop,List.take_append_drop]
 have mg:(b,us,ps')∈gs:=List.mem_of_getElem? hg
 have hr:(a4x gs)[kk]?=some (V.ref b):=by simp [a4x,List.getElem?_map,hg]
 refine ⟨acc,a4x gs,_,V.ref b,rfl,rfl,SqL.of N1.out,c5z hr,.inl ⟨rfl,us,SqL.of (N1.inn mg)⟩,_,L1,S1,_,I1,hw,fun v L3 q y S3 H3 r3 I3 s3=>?_⟩
 have N3:=N1.go I3 s3
 have lr:=(N3.r _ mg).length
 refine ⟨b,us,y,rfl,rfl,N3.inn mg,by rw [← lr]; lia,?_⟩
 rw [sp] at N3
 refine k _ L3 S3 _ ?_ (N3.put r3) (s1.trans s3)
 have e3:(gs.map (·.2.2)).set kk (ps'++[v])=(gs.take kk++(b,us++[y],ps'++[v]) :: gs.drop (kk + 1)).map (·.2.2):=by
  conv=>lhs; rw [sp]
  rw [List.map_append,List.map_append,List.set_append_right _ _ (by simp [List.length_take]; lia)]
  simp [List.length_take,Nat.min_eq_left (Nat.le_of_lt gl)]
 rw [← e3]; exact q
theorem c0l {K:Γd} {md:Md} {tb:TS} {c:Cn} {acc:Addr} {gs:List NG} {L:a0a} {σ:L2.St} {S H:Hp} {D:Ends} {Q0:List (List FV)→a0a→Prop} (ht:a2v md tg2=true) (hg:a4n (j + 1) tg2=true) (N:NI K c md acc gs L σ S H) (e:σ[j]?=some (some (.ref acc)))
  (htb:∀ {gs:List NG} {L:a0a} {σ:L2.St} {S H:Hp} {D:Ends} {Q0:List (List FV)→a0a→Prop},NI K c md acc gs L σ S H→σ[j]?=some (some (.ref acc)) →
    (ix L fun i L2=>∃ (k:Nat) (ps:List FV),i=.int k∧(gs.map (·.2.2))[k]?=some ps∧ps.length < big∧a L2 fun v L3=>Q0 ((gs.map (·.2.2)).set k (ps++[v])) L3) →
    (∀ gs' L' S' H',Q0 (gs'.map (·.2.2)) L'→NI K c md acc gs' L' σ S' H'→Same S S'→D.nx σ H')→tb D σ H)
  (h:it2 L fun zs L3=>a9d tg2 ix a zs (gs.map (·.2.2)) L3 Q0)
  (k:∀ gs' L' σ' S' H',Q0 (gs'.map (·.2.2)) L'→NI K c md acc gs' L' σ' S' H'→σ'[j]?=some (some (.ref acc))→Same S S'→D.nx σ' H'):tFor (liv K md it2) (gT K tg2) tb D σ H:=by
 refine ⟨_,L,S,_,N.I,h,fun zs L1 hx J S1 H1 I1 hJ s1=>?_⟩
 let W:Nat→Nat→L2.St→Hp→Prop:=fun i q σ1 H1=>∃ gs L S2,q=(zs.drop i).length∧NI K c md acc gs L σ1 S2 H1∧σ1[j]?=some (some (.ref acc))∧Same S1 S2∧a9d tg2 ix a (zs.drop i) (gs.map (·.2.2)) L Q0
 refine ⟨W,⟨_,gs,L1,S1,rfl,N.go I1 s1,e,Same.refl _,by rw [List.drop_zero]; exact hx⟩,?_⟩
 rintro i q σ1 H1 ⟨gs,L,S2,rfl,N,e,s2,h⟩
 obtain ⟨j1,j2⟩:=hJ _ _ i L σ1 S2 H1 N.I s2
 cases hd:zs.drop i with
 | nil =>
  rw [hd] at h
  exact .inl ⟨j1 (List.getElem?_eq_none_iff.mpr (List.drop_eq_nil_iff.mp hd)),k gs L σ1 S2 H1 h N e (s1.trans s2)⟩
 | cons p rest =>
  right
  rw [hd] at h
  have hi:zs[i]?=some p:=by
   have:=congrArg (·[0]?) hd
   simpa using this
  have hd':zs.drop (i + 1)=rest:=by
   have:=congrArg List.tail hd
   simpa [List.tail_drop] using this
  obtain ⟨go,yl⟩:=j2 p hi
  refine ⟨go,fun σ' H'=>∃ m',m' < rest.length + 1∧W (i + 1) m' σ' H',fun σ' H' h=>h,fun x H2 y=>?_⟩
  obtain ⟨S3,s3,tr,rx⟩:=yl x H2 y
  have N2:=N.go (tr _ _ _ _ N.I) s3
  obtain ⟨σ2,L2,g,q,I3,_,far⟩:=a4t ht N2.I rx h
  have e2:σ2[j]?=some (some (.ref acc)):=by rw [far (j + 1) hg j (Nat.lt_succ_self j)]; exact e
  refine g _ (htb (Q0:=fun pss L=>a9d tg2 ix a rest pss L Q0) (N2.go I3 (Same.refl _)) e2 q fun gs' L' S' H' q' N' s'=>?_)
  exact ⟨rest.length,Nat.lt_succ_self _,gs',L',S',by rw [hd'],N',e2,s2.trans (s3.trans s'),by rw [hd']; exact q'⟩
theorem c5d (G:Good X C n sp) {tgx2 iter2:Expr} {apos cpos:Pos} {ixx ax:Expr} {po p2 p3 p4:Pos} {sts:List Stmt} {r:SW} (ht:C.tn j nx=true) (hm:(decide (a0g C.md j=.imm) && (a2v C.md tg2 && a4n (j + 1) tg2 && !b1h iter2))=true) (h:CompOkG X C n sp scope own elt tgx iter ifs nn m it tg t e)
  (hi2:FIv X C tgx2 iter2 it2) (hg:FG X tgx2 tg2) (h2:C.nm j nx=true) (hl:d0o apos cpos=true) (hsl:a1t ixx=false) (hs:a0h ax=false) (hix:FE X C ixx ix) (ha:FE X C ax a) (hr:FSs X C fr sts r) :
  FSs X C fr (.Assign [.Name nx px] (.ListComp elt [⟨tgx,iter,ifs,0⟩] scope p) pos :: .For tgx2 iter2 [.Expr (.Call (.Attribute (.Subscript (.Name nx p4) ixx po) (Γe "append") apos) [ax] [] cpos) p2] [] p3 :: sts) (a0s (c3j j nn m it tg t e it2 tg2 ix a) r):=by
 have hm:=b2 hm; have hm2:=b2 hm.2; have hm3:=b2 hm2.1
 have mi:=de hm.1
 obtain ⟨te,h3,h4⟩:=b8n (px:=px) (p:=p) (pos:=pos) G ht h
 obtain ⟨tb,h5,h6⟩:=c0a (p:=p4) (po:=po) (p2:=p2) G h2 hl hsl hs hix ha
 refine PSs.imp (a5a h4 (a5a (c2e (X:=X.nox) PassesOwn.never G.calm hi2 hg h5 (a6z (nb hm2.2))) hr)) fun D σ H ⟨c,L,S,Q0,I,hh,k⟩=>?_
 refine h3 _ _ _ ⟨c,L,S,_,I,hh,fun acc gs L' S' H' ln q N s'=>?_⟩
 have jl:j < σ.length:=by
  have h9:=(List.getElem?_eq_some_iff.mp (G.ix (b2 ht).1)).1
  have h0:=b2 h.st; have h1:=b2 h0.1; have h2:=b2 h1.1; have h4:=b2 h2.1; have h5:=b2 h4.1; have h6:=b2 h5.1
  rw [G.N,de h6.2] at h9
  rw [ln]; exact h9
 have e1:(σ.set j (some (.ref acc)))[j]?=some (some (.ref acc)):=List.getElem?_set_self jl
 have eq:b1d (gs.map fun g=>.lst g.2.2)=gs.map (·.2.2):=by
  have:=a5p (gs.map (·.2.2))
  rwa [List.map_map] at this
 rw [eq] at q
 refine c0l hm3.1 hm3.2 (N.go (N.I.blank mi _) (Same.refl _)) e1 h6 q fun gs' L4 σ4 S4 H4 q4 N4 e4 s4=>?_
 obtain ⟨S5,s5,I5,r5⟩:=N4.fin
 have I6:=I5.named mi e4 r5
 have eq2:(gs'.map fun g=>FV.lst g.2.2)=(gs'.map (·.2.2)).map .lst:=by rw [List.map_map]; rfl
 rw [eq2] at I6
 exact ⟨c,_,S5,_,I6,q4,fun fl L7 q7 σ7 S7 H7 I7 s7=>k fl L7 q7 σ7 S7 H7 I7 (s'.trans (s4.trans (s5.trans s7)))⟩
end
@[scoped simp ↓] theorem d8a (e:EW) (L:a0a) (Q:FV→a0a→Prop):c6k e L Q=(e L fun v L1=>∃ ps,v=.lst ps∧Q v L1):=propext Iff.rfl
@[scoped simp ↓] theorem d1f (j n m:Nat) (it:AW) (tg:Tg) (t:BW) (e:EW) (it2:AW) (tg2:Tg) (ix a:EW) (L:a0a) (Q:FFl→a0a→Prop):c3j j n m it tg t e it2 tg2 ix a L Q=(it L fun xs L1=>L1.length=n∧xs.length≤big∧a3a n m tg t (c6k e) xs [] L1 fun ys L2 =>
 it2 (L2.set j none) fun zs L3=>a9d tg2 ix a zs (b1d ys) L3 fun pss L4=>Q .next (L4.set j (some (.lst (pss.map .lst))))):=propext Iff.rfl
theorem b6g {α:Type} {f:α→FV} {tg:Tg} {ix a:EW} {P:List α→List (List FV)→a0a→Prop} {Q:List (List FV)→a0a→Prop} (all:List α):∀ (xs done:List α) (pss:List (List FV)) (L:a0a),all=done++xs→P done pss L →
  (∀ d x r pss L (K:List (List FV)→a0a→Prop),all=d++x :: r→P d pss L→(∀ pss' L',P (d++[x]) pss' L'→K pss' L')→gW tg (f x) L fun L1=>ix L1 fun i L2=>∃ (k:Nat) (ps:List FV),i=.int k∧pss[k]?=some ps∧ps.length < big∧a L2 fun v L3=>K (pss.set k (ps++[v])) L3) →
  (∀ pss L,P all pss L→Q pss L)→a9d tg ix a (xs.map f) pss L Q
 | [],done,pss,L,e,h,_,E=>by
  rw [List.append_nil] at e
  exact E pss L (e ▸ h)
 | x :: xs,done,pss,L,e,h,B,E=>B done x xs pss L (fun pss' L'=>a9d tg ix a (xs.map f) pss' L' Q) e h fun pss' L' h'=>b6g all xs (done++[x]) pss' L' (by simp [e]) h' B E
end Kq
end
set_option maxRecDepth 10000
set_option maxHeartbeats 1000000
section
namespace Kq
noncomputable def bd0 (call:CW):SW:=a0s (a1u (eUn b0k (eOp ixF (a0c 0) (eC (.int 0)))) (.nm 1)) (a0s (a1u (a2e call 1 (a0b (a0c 0) a1a)) (.nm 2)) (a0s (a1u (a8i a1a) (.nm 3)) (a0s (a1u (a8i a1a) (.nm 4)) (a0s (a1u (a9q call 2 (a0b (a0c 1) (d0x 3 a1a))) (.nm 5)) (a0s (c6i (a1j (a0c 5)) (a0s (d3j 2 (a1u (a1z 9 2 (b7j 2) (.tp [9,10]) (c1t (a1j (eOp b7h (a0c 10) (a0c 5))) (a1j (eOp b2m (a0c 9) (a0c 5)))) (a6m (a0b (a0c 9) (a0b (a0c 10) a1a)))) (.nm 6))) (a0s (a1u (eUn b6j (a1z 9 1 (a4y (a0c 6)) (.nm 9) a2r (a8g c5q 2 (a0c 9)))) (.nm 7)) (a0s (c2c (a8h c6c 4 (a6m (a0b (a0c 5) (a0b (a0c 7) a1a))))) (a0s (b0j (a4y (a0c 6)) (.nm 8) (b9r (fun i j=>i - j) 2 (a0c 8) (a0c 7))) (a0s (b9s 3 (a1z 9 1 (a4y (a0c 6)) (.nm 9) (a1j (eOp eqB (a8g c5q 2 (a0c 9)) (eC (.int 0)))) (a0c 9))) (a1u (a9q call 2 (a0b (a0c 1) (d0x 3 a1a))) (.nm 5)))))))) (a2s (a6m (a0b (eUn c6h (a1z 9 1 (a4y (a0c 4)) (.nm 9) a2r (eOp ixF (a0c 9) (eC (.int 1))))) (a0b (a9q call 4 (a0b (a0c 1) (d0x 3 a1a))) (a0b (eMv 4) a1a))))))))))
noncomputable def bd1 (call:CW):SW:=a0s (a1u (b3b 5 2 (b1i (eOp ixF (a0c 0) (eC (.int 0)))) (.tp [5,6]) a2r (a6m (a0b (eC .non) (a0b (a0c 5) a1a))) (a0c 6)) (.nm 1)) (a0s (b0j (a4y (eOp ixF (a0c 0) (eC (.int 1)))) (.tp [2,3,4]) (c3h 1 (a6m (a0b (a0c 2) (a0b (a0c 3) a1a))) (a0c 4))) (a2s (a0c 1)))
noncomputable def bd2 (call:CW):SW:=a0s (a1u (a8i a1a) (.nm 2)) (a0s (b0j (b4i (a0c 0)) (.nm 3) (a0s (a1u (a2e call 3 (a0b (a0c 1) (a0b (a0c 3) a1a))) (.nm 4)) (sIf (c1t (a1j (eOp b2m (eC .non) (a0c 4))) (bOr (b3j (a1j (a0c 2))) (a1j (eOp ltB (eUn b0k (a0c 4)) (eUn b0k (a0c 2)))))) (a1u (a0c 4) (.nm 2)) a6e))) (a2s (eUn a5i (b7t (a0c 2)))))
noncomputable def bd3 (call:CW):SW:=a0s (a1u (a8i (a0b (a0c 1) a1a)) (.nm 2)) (a0s (a1u (eC (.int 0)) (.nm 3)) (a0s (c6i (a1j (eOp ltB (a0c 3) (eUn b0k (a0c 2)))) (a0s (b9s 2 (a1z 4 2 (a4y (a0c 0)) (.tp [4,5]) (c1t (a1j (eOp eqB (a0c 5) (a8g ixF 2 (a0c 3)))) (a1j (eOp b2m (a0c 4) (a0c 2)))) (a0c 4))) (d1i (d0t fun i j=>i + j) 3 (eC (.int 1))))) (a2s (a0c 2))))
noncomputable def bd4 (call:CW):SW:=a0s (a1u (eC (.dci [] [])) (.nm 2)) (a0s (c6i (a1j (eOp ltB (eUn c0q (a0c 2)) (a0c 0))) (a0s (a1u (eOp ixF (a1z 5 1 (a4y (a0c 1)) (.nm 5) (c1t (a1j (eOp b2m (eOp ixF (a0c 5) (eC (.int 1))) (a0c 2))) (bOr (a1j (eUn a1y (eOp ixF (a0c 5) (eC (.int 0))))) (a1j (eOp b7h (eOp ixF (a0c 5) (eC (.int 0))) (a0c 2))))) (a0c 5)) (eC (.int 0))) (.tp [3,4])) (c3i 2 (a0c 4) (a0c 3)))) (a2s (eUn a5i (a1z 5 1 (b4i (a0c 0)) (.nm 5) a2r (a8g dgF 2 (a0c 5))))))
noncomputable def bd5 (call:CW):SW:=a0s (a1u (eOp b8z (eOp b8y (eOp a6h (eOp a6h (eOp b8z (a0c 0) (eC (.int 2147483629))) (eOp b8y (eOp b8y (a0c 1) (a0c 1)) (eC (.int 7919)))) (eC (.int 11))) (eC (.int 48271))) (eC (.int 2147483647))) (.nm 2)) (a2s (eOp b8z (eOp b8y (a0c 2) (a0c 2)) (eC (.int 1999999973))))
noncomputable def bd6 (call:CW):SW:=a0s (a1u (eIf (a1j (eOp ltB (a0c 1) (eUn b0k (a0c 0)))) (a8g ixF 0 (a0c 1)) (eC (.int 0))) (.nm 2)) (a2s (a8i (a0b (eOp b8y (eUn d0w (a0c 2)) (eUn b1z (eOp geB (eUn d0w (a0c 2)) (eOp c7z (eC (.int 10)) (eC (.int 18)))))) (a0b (eOp a6h (a0c 2) (eOp b8y (eC (.int 1000003)) (a0c 1))) (a0b (eC (.int 0)) a1a)))))
noncomputable def bd7 (call:CW):SW:=a0s (c7g 0 (eC (.int 2)) (eOp a6h (a8g ixF 0 (eC (.int 2))) (eC (.int 1)))) (a0s (sIf (a1j (eOp gtB (a8g ixF 0 (eC (.int 0))) (eC (.int 0)))) (a0s (a1u (eOp b8z (a8g ixF 0 (eC (.int 0))) (a0c 1)) (.nm 2)) (a0s (c7g 0 (eC (.int 0)) (eOp b7o (a8g ixF 0 (eC (.int 0))) (a0c 1))) (a2s (a0c 2)))) a6e) (a2s (eOp b8z (eOp b7o (a2e call 5 (a0b (a2e call 5 (a0b (a8g ixF 0 (eC (.int 1))) (a0b (a8g ixF 0 (eC (.int 2))) a1a))) (a0b (eOp a6h (a8g ixF 0 (eC (.int 2))) (eC (.int 64))) a1a))) (eC (.int 64))) (a0c 1))))
noncomputable def bd8 (call:CW):SW:=a0s (a1u (eUn a3u (d2e (a0c 0) b6e (b0y (a0c 1)))) (.nm 2)) (a0s (b0j (b1i (d2e (a0c 0) (b0y (a0c 1)) (b0y (eC (.int 63))))) (.tp [3,4]) (c7g 2 (eOp b8z (a0c 3) (a0c 1)) (eOp a6h (a8g ixF 2 (eOp b8z (a0c 3) (a0c 1))) (eOp b8y (a0c 4) (eOp a6h (a0c 3) (eC (.int 2))))))) (a2s (a0c 2)))
noncomputable def bd9 (call:CW):SW:=a0s (a1u (a1g call 7 0 (a0b (eC (.int 4)) a1a)) (.nm 2)) (a0s (sIf (c1t (a1j (eOp eqB (a0c 2) (eC (.int 3)))) (a1j (eOp eqB (a0c 1) (eC (.int 0))))) (a2s (eOp a6h (eC (.int 1)) (a1g call 7 0 (a0b (eOp c6z (eOp c7z (eC (.int 10)) (eC (.int 9))) (eC (.int 20))) a1a)))) a6e) (a2s (eOp a6h (eC (.int 1)) (a1g call 7 0 (a0b (eOp ixF (a8i (a0b (eC (.int 9)) (a0b (eC (.int 9)) (a0b (eC (.int 40)) (a0b (eC (.int 3)) a1a))))) (a0c 2)) a1a)))))
noncomputable def bd10 (call:CW):SW:=a0s (sIf (a1j (eOp eqB (a1g call 7 0 (a0b (eC (.int 8)) a1a)) (eC (.int 0)))) (a2s (eOp a6h (eC (.int 7)) (a1g call 7 0 (a0b (eOp c6z (a0c 1) (eC (.int 6))) a1a)))) a6e) (a2s (eOp ixF (a8i (a0b (eC (.int 0)) (a0b (eC (.int 1)) (a0b (eC (.int 2)) (a0b (eC (.int 3)) (a0b (eC (.int 4)) (a0b (eC (.int 5)) (a0b (eC (.int 6)) (a0b (eC (.int 4)) (a0b (eC (.int 5)) (a0b (eC (.int 3)) a1a))))))))))) (a1g call 7 0 (a0b (eC (.int 10)) a1a))))
noncomputable def d8u (call:CW):SW:=a0s (a1u (a6m (a0b (a1g call 7 0 (a0b (eC (.int 4)) a1a)) (a0b (eOp a6h (eC (.int 1)) (a1g call 7 0 (a0b (eC (.int 4)) a1a))) a1a))) (.tp [2,3])) (a0s (a1u (eUn a5i (a1z 8 1 (b4i (a0c 1)) (.nm 8) a2r (eOp a6h (a1g call 9 0 (a0b (a0c 2) a1a)) (eOp ixF (a8i (a0b (eC (.int 0)) (a0b (eC (.int 12)) a1a))) (a1g call 7 0 (a0b (eC (.int 2)) a1a)))))) (.nm 4)) (a0s (a1u (a8i a1a) (.nm 5)) (a0s (b0j (b4i (a0c 1)) (.nm 6) (b0j (b4i (a0c 1)) (.nm 7) (sIf (c1t (a1j (eOp neB (a0c 6) (a0c 7))) (a1j (eOp eqB (a1g call 7 0 (a0b (a0c 3) a1a)) (eC (.int 0))))) (c2c (a8h c6c 5 (a6m (a0b (a0c 6) (a0b (a0c 7) (a0b (a1g call 9 0 (a0b (a0c 2) a1a)) a1a)))))) a6e))) (a2s (a6m (a0b (a0c 4) (a0b (eUn a5i (a0c 5)) a1a)))))))
noncomputable def d0q (call:CW):SW:=a2s (eUn c6m (a1z 1 1 (a4y (a0c 0)) (.nm 1) a2r (c9z (eUn (c0w .int) (a0c 1)) (eUn d5c (eUn (c0w .bool) (a0c 1))))))
noncomputable def d2l (call:CW):SW:=a2s (eUn c5o (a1z 1 3 (a4y (eOp ixF (a0c 0) (eC (.int 1)))) (.tp [1,2,3]) a2r (a6m (a0b (a6m (a0b (a0c 1) (a0b (a0c 2) a1a))) (a0b (a0c 3) a1a)))))
noncomputable def d8t (call:CW):SW:=a0s (a1u (a2e call 13 (a0b (a0c 0) a1a)) (.nm 2)) (a0s (a1u (eC (.int 0)) (.nm 3)) (a0s (b0j (b1i (a0c 1)) (.tp [4,5]) (a1u (eOp a6h (a0c 3) (eIf (a1j (eUn a1y (a0c 5))) (eOp ixF (eOp ixF (a0c 0) (eC (.int 0))) (a0c 4)) (eOp c5r (a0c 2) (a6m (a0b (a0c 5) (a0b (a0c 4) a1a)))))) (.nm 3))) (a2s (a0c 3))))
noncomputable def d2k (call:CW):SW:=a0s (a1u (a2e call 13 (a0b (a0c 0) a1a)) (.nm 2)) (a0s (sIf (a1j (eUn d0v (a1z 6 2 (b1i (a0c 1)) (.tp [6,7]) a2r (c9z (eUn a1i (a0c 7)) (eOp b2m (a6m (a0b (a0c 7) (a0b (a0c 6) a1a))) (a0c 2)))))) (a2s (eC (.bl false))) a6e) (a0s (b0j (b4i (eUn b0k (a0c 1))) (.nm 3) (a0s (a1u (a0c 3) (.nm 4)) (a0s (b0j (b4i (eUn b0k (a0c 1))) (.nm 5) (sIf (a1j (eUn a1i (a0c 4))) (a1u (eOp ixF (a0c 1) (a0c 4)) (.nm 4)) a6e)) (sIf (a1j (eUn a1i (a0c 4))) (a2s (eC (.bl false))) a6e)))) (a2s (eC (.bl true)))))
noncomputable def d8s (call:CW):SW:=a0s (c3j 1 10 1 (a4y (eOp ixF (a0c 0) (eC (.int 0)))) (.nm 10) a2r (a8i (a0b (a6m (a0b (eC .non) (a0b (a0c 10) a1a))) a1a)) (a4y (eOp ixF (a0c 0) (eC (.int 1)))) (.tp [2,3,4]) (a0c 3) (a6m (a0b (a0c 2) (a0b (a0c 4) a1a)))) (a0s (a1u (a8i (a0b (a6m (a0b (a6m a1a) (a0b (eC (.int 0)) a1a))) a1a)) (.nm 5)) (a0s (b0j (a4y (a0c 1)) (.nm 6) (a0s (a1u (a8i a1a) (.nm 7)) (a0s (b0j (a4y (a0c 5)) (.tp [8,9]) (c2c (a8h d7p 7 (a1z 10 2 (a4y (a0c 6)) (.tp [10,11]) a2r (a6m (a0b (eOp a6h (a0c 8) (a6m (a0b (a0c 10) a1a))) (a0b (eOp a6h (a0c 9) (a0c 11)) a1a))))))) (a1u (eMv 7) (.nm 5))))) (a2s (a1z 10 1 (a4y (a0c 5)) (.nm 10) (a1j (a2e call 15 (a0b (a0c 0) (a0b (eOp ixF (a0c 10) (eC (.int 0))) a1a)))) (a0c 10)))))
noncomputable def d2j (call:CW):SW:=a2s (eUn c6h (a1z 3 2 (a4y (a0c 0)) (.tp [3,4]) (c1t (a1j (eOp b7h (a0c 2) (a0c 3))) (a1j (eOp b2m (a0c 1) (a0c 3)))) (a0c 4)))
noncomputable def d8r (call:CW):SW:=a0s (sIf (b3j (a1j (eUn (c0w .list) (a0c 1)))) (a2s (eC (.bl false))) a6e) (a0s (a1u (a8i a1a) (.nm 2)) (a0s (b0j (a4y (a0c 1)) (.nm 3) (a0s (sIf (bOr (b3j (a1j (eUn (c0w .tuple) (a0c 3)))) (bOr (a1j (eOp neB (eUn b0k (a0c 3)) (eC (.int 2)))) (bOr (b3j (a1j (eUn (c0w .tuple) (eOp ixF (a0c 3) (eC (.int 0)))))) (a1j (eOp eqB (eOp ixF (a0c 3) (eC (.int 0))) (a6m a1a)))))) (a2s (eC (.bl false))) a6e) (a0s (a1u (a0c 3) (.tp [4,5])) (a0s (sIf (bOr (b3j (a1j (a2e call 12 (a0b (eOp a6h (eUn a3u (a0c 4)) (a8i (a0b (a0c 5) a1a))) a1a)))) (bOr (a1j (eOp ltB (a0c 5) (eC (.int 1)))) (a1j (eOp b7h (a0c 4) (a0c 2))))) (a2s (eC (.bl false))) a6e) (a0s (sIf (a1j (eOp neB (eUn a3u (a0c 4)) (a1z 6 1 (b4i (eUn b0k (eOp ixF (a0c 0) (eC (.int 0))))) (.nm 6) (a1j (eOp b7h (a0c 6) (a0c 4))) (a0c 6)))) (a2s (eC (.bl false))) a6e) (c2c (a8h c6c 2 (a0c 4)))))))) (a0s (sIf (a1j (eUn d0v (a1z 6 2 (b1i (eOp ixF (a0c 0) (eC (.int 0)))) (.tp [6,7]) a2r (eOp ltB (a0c 7) (a2e call 17 (a0b (a0c 1) (a0b (eUn d5j (eC (.int 1))) (a0b (a0c 6) a1a)))))))) (a2s (eC (.bl false))) a6e) (a2s (eUn c6m (a1z 6 3 (a4y (eOp ixF (a0c 0) (eC (.int 1)))) (.tp [6,7,8]) a2r (eOp geB (a0c 8) (a2e call 17 (a0b (a0c 1) (a0b (a0c 6) (a0b (a0c 7) a1a)))))))))))
noncomputable def d8q (call:CW):SW:=a0s (sIf (bOr (b3j (a1j (eUn (c0w .tuple) (a0c 1)))) (bOr (a1j (eOp neB (eUn b0k (a0c 1)) (eC (.int 3)))) (bOr (b3j (a1j (a2e call 12 (a0b (eSl (a0c 1) b6e (b0y (eC (.int 1)))) a1a)))) (a1j (eOp neB (eOp ixF (a0c 1) (eC (.int 0))) (a0c 2)))))) (a2s (eC (.bl false))) a6e) (a0s (a1u (eSl (a0c 1) (b0y (eC (.int 1))) b6e) (.tp [3,4])) (a0s (sIf (bOr (b3j (a1j (eUn (c0w .tuple) (a0c 3)))) (a1j (eOp neB (eUn b0k (a0c 3)) (eUn b0k (eOp ixF (a0c 0) (eC (.int 0))))))) (a2s (eC (.bl false))) a6e) (a0s (sIf (b3j (a1j (eUn c6m (a1z 5 1 (a4y (a0c 3)) (.nm 5) a2r (eOr (eUn a1y (a0c 5)) (a2e call 12 (a0b (a8i (a0b (a0c 5) a1a)) a1a))))))) (a2s (eC (.bl false))) a6e) (a0s (sIf (bOr (b3j (a1j (a2e call 15 (a0b (a0c 0) (a0b (a0c 3) a1a))))) (a1j (eOp neB (a2e call 14 (a0b (a0c 0) (a0b (a0c 3) a1a))) (a0c 2)))) (a2s (eC (.bl false))) a6e) (a2s (c9z (a2e call 18 (a0b (a0c 0) (a0b (a0c 4) a1a))) (eOp eqB (eUn c6h (a1z 5 2 (a4y (a0c 4)) (.tp [5,6]) a2r (a0c 6))) (a0c 2))))))))
noncomputable def d8p (call:CW):SW:=a0s (a1u (a2e call 8 (a0b (a0c 0) (a0b (eC (.int 4)) a1a))) (.nm 1)) (a0s (b0j (b4i (eOp c0m (eC (.int 2)) (eUn b0k (a0c 1)))) (.nm 2) (a0s (a1u (a1g call 6 1 (a0b (a0c 2) a1a)) (.nm 3)) (a0s (a1u (a1g call 11 3 (a0b (eIf (a1j (eOp eqB (a1g call 7 3 (a0b (eC (.int 4)) a1a)) (eC (.int 0)))) (eC (.int 5)) (a1g call 7 3 (a0b (eC (.int 5)) a1a))) a1a)) (.nm 4)) (a0s (a1u (eUn b9l (a0c 4)) (.nm 5)) (a0s (a1u (eUn b6j (a1z 10 2 (a4y (a2e call 16 (a0b (a0c 4) a1a))) (.tp [10,11]) a2r (a0c 11))) (.nm 6)) (a0s (a1u (a8i a1a) (.nm 7)) (a0s (b0j (b4i (eC (.int 2))) (.nm 8) (b2c [.imm,.own,.imm,.own,.imm,.imm,.imm,.own] (a0s (a1u (a2e call 0 (a0b (a0c 4) a1a)) (.nm 9)) (a0s (sIf (b3j (a1j (a2e call 19 (a0b (a0c 4) (a0b (a0c 9) (a0b (a0c 6) a1a)))))) (a2s (eC (.bl false))) a6e) (a0s (c2c (a8h c6c 7 (eUn b9l (a0c 9)))) (b9q [.imm,.own,.imm,.own,.imm,.imm,.imm,.own] 9 (eOp ixF (a0c 9) (eC (.int 2))))))))) (sIf (bOr (a1j (eOp neB (eUn b9l (a0c 4)) (a0c 5))) (a1j (eOp neB (a8g ixF 7 (eC (.int 0))) (a8g ixF 7 (eC (.int 1)))))) (a2s (eC (.bl false))) a6e)))))))) (a2s (eC (.bl true))))
noncomputable def fd0:FD:=⟨1,9,bd0,false,false⟩
noncomputable def fd1:FD:=⟨1,5,bd1,false,true⟩
noncomputable def fd2:FD:=⟨2,5,bd2,false,false⟩
noncomputable def fd3:FD:=⟨2,4,bd3,false,true⟩
noncomputable def fd4:FD:=⟨2,5,bd4,false,false⟩
noncomputable def fd5:FD:=⟨2,3,bd5,false,false⟩
noncomputable def fd6:FD:=⟨2,3,bd6,true,true⟩
noncomputable def fd7:FD:=⟨2,3,bd7,true,false⟩
noncomputable def fd8:FD:=⟨2,5,bd8,false,true⟩
noncomputable def fd9:FD:=⟨2,3,bd9,true,false⟩
noncomputable def fd10:FD:=⟨2,2,bd10,true,false⟩
noncomputable def d7k:FD:=⟨2,8,d8u,true,false⟩
noncomputable def c9q:FD:=⟨1,1,d0q,false,false⟩
noncomputable def d7j:FD:=⟨1,1,d2l,false,false⟩
noncomputable def d7i:FD:=⟨2,6,d8t,false,false⟩
noncomputable def c9p:FD:=⟨2,6,d2k,false,false⟩
noncomputable def d7h:FD:=⟨1,10,d8s,false,false⟩
noncomputable def d7g:FD:=⟨3,3,d2j,false,false⟩
noncomputable def d7f:FD:=⟨2,6,d8r,false,false⟩
noncomputable def d7e:FD:=⟨3,5,d8q,false,false⟩
noncomputable def d7d:FD:=⟨1,10,d8p,false,false⟩
noncomputable def tb:List FD:=[fd0,fd1,fd2,fd3,fd4,fd5,fd6,fd7,fd8,fd9,fd10,d7k,c9q,d7j,d7i,c9p,d7h,d7g,d7f,d7e,d7d]
noncomputable def mixV (a k:Int):Int:=((a % 2147483629 + k * k * 7919 + 11) * 48271 % 2147483647) * ((a % 2147483629 + k * k * 7919 + 11) * 48271 % 2147483647) % 1999999973
theorem b4u (x:Int):a2b (x % 2147483647)=true:=by
 have:=Int.emod_nonneg x (show (2147483647:Int)≠0 by decide)
 have:=Int.emod_lt_of_pos x (show (0:Int) < 2147483647 by decide)
 simp only [a2b,decide_eq_true_eq]; lia
theorem a7i {i:Int} (h:0≤i) (h':i < 2 ^ 60):a2b i=true:=by
 simp only [a2b,decide_eq_true_eq]; lia
theorem a0q {i:Int} (h:0≤i) (h':i < 2 ^ 60):a1x i=true:=by
 simp only [a1x,decide_eq_true_eq]; lia
theorem c8x (d:Nat) (a k:Int) (hk:a2b k=true) (Q:FV×FV→Prop):callW tb (d + 1) 5 [.int a,.int k] Q↔Q (.int (mixV a k),.non):=by
 have h2:a2b 48271=true:=by decide
 have h3:a2b 7919=true:=by decide
 rw [c1r (fd:=fd5) rfl rfl]
 simp [fd5,bd5,h2,h3,hk,b4u,mixV]
noncomputable def Lf (n:Int) (v:FV):Prop:=∃ a b c,v=.lst [.int a,.int b,.int c]∧0≤c∧c≤n
theorem Lf.mono {n m:Int} {v:FV} (h:Lf n v) (k:n≤m):Lf m v:=by
 obtain ⟨a,b,c,h,h1,h2⟩:=h
 exact ⟨a,b,c,h,h1,by lia⟩
theorem a2w (d:Nat) {many n:Int} {v:FV} {Q:FV×FV→Prop} (hs:Lf n v) (hn:n < 1000000) (h1:0 < many) (h2:many < 1073741824)
  (q:∀ u v',0≤u→u < many→Lf (n + 1) v'→Q (.int u,v')):callW tb (d + 2) 7 [v,.int many] Q:=by
 obtain ⟨a,b,c,rfl,h3,h4⟩:=hs
 refine a0o (fd:=fd7) rfl rfl ?_
 have s1:a2b (c + 1)=true:=a7i (by lia) (by lia)
 have s2:a2b (c + 1 + 64)=true:=a7i (by lia) (by lia)
 by_cases ha:0 < a
 ·simp [fd7,bd7,ixN,ha,h1,h2]
  exact q _ _ (Int.emod_nonneg _ (by lia)) (Int.emod_lt_of_pos _ h1) ⟨_,_,_,rfl,by lia,by lia⟩
 ·simp [fd7,bd7,ixN,ha,h1,h2,c8x,s1,s2]
  exact q _ _ (Int.emod_nonneg _ (by lia)) (Int.emod_lt_of_pos _ h1) ⟨_,_,_,rfl,by lia,by lia⟩
mutual
noncomputable def dF:D→FV
 | .non=>.non
 | .bl b=>.bl b
 | .int i=>.int i
 | .str x=>.str x
 | .tup xs=>.tup (dFs xs)
 | .lst xs=>.lst (dFs xs)
noncomputable def dFs:List D→List FV
 | []=>[]
 | x :: r=>dF x :: dFs r
end
mutual
noncomputable def dep:D→Nat
 | .tup xs=>c1o xs + 1
 | .lst xs=>c1o xs + 1
 | .non=>0 | .bl _=>0 | .int _=>0 | .str _=>0
noncomputable def c1o:List D→Nat
 | []=>0
 | x :: r=>max (dep x) (c1o r)
end
mutual
theorem c9r:∀ (x:D) (n:Nat),dep x < n→fD n (dF x)=some x
 | .non,0,h=>by lia
 | .non,n + 1,h=>rfl
 | .bl _,0,h=>by lia
 | .bl _,n + 1,h=>rfl
 | .int _,0,h=>by lia
 | .int _,n + 1,h=>rfl
 | .str _,0,h=>by lia
 | .str _,n + 1,h=>rfl
 | .tup xs,0,h=>by lia
 | .tup xs,n + 1,h=>by simp only [dF,fD]; rw [b7p xs n (by simp only [dep] at h; lia)]; rfl
 | .lst xs,0,h=>by lia
 | .lst xs,n + 1,h=>by simp only [dF,fD]; rw [b7p xs n (by simp only [dep] at h; lia)]; rfl
theorem b7p:∀ (xs:List D) (n:Nat),c1o xs < n→a7v (fD n) (dFs xs)=some xs
 | [],n,h=>rfl
 | x :: r,n,h=>by
  simp only [c1o] at h
  simp only [dFs,a7v,c9r x n (by lia),b7p r n (by lia),Option.bind_some,Option.map_some]
end
noncomputable def Vl (k p:Nat) (x:FV):Prop:=∃ d,x=dF d∧dep d≤p∧d.fit=true∧d.wt≤k
theorem Vl.mono {k k' p p':Nat} {x:FV} (h:Vl k p x) (hk:k≤k') (hp:p≤p'):Vl k' p' x:=by
 obtain ⟨d,e,h1,h2,h3⟩:=h
 exact ⟨d,e,by lia,h2,by lia⟩
theorem Vl.all {k p:Nat}:∀ {xs:List FV},(∀ x∈xs,Vl k p x)→∃ ds:List D,xs=dFs ds∧c1o ds≤p∧D.fits ds=true∧D.wts ds≤ds.length * (k + 1)∧ds.length=xs.length
 | [],_=>⟨[],rfl,Nat.zero_le _,rfl,by simp [D.wts],rfl⟩
 | x :: r,h=>by
  obtain ⟨d,e,h1,h2,h3⟩:=h x (Γn ..)
  obtain ⟨ds,e',h1',h2',h3',h4'⟩:=Vl.all (xs:=r) fun y hy=>h y (Γh _ hy)
  refine ⟨d :: ds,by rw [e,e']; rfl,by simp only [c1o]; lia,by simp only [D.fits,h2,h2',Bool.and_self],?_,by simp [h4']⟩
  simp only [D.wts,List.length_cons,Nat.add_mul,Nat.one_mul]; lia
theorem Vl.tup {k p m:Nat} {xs:List FV} (h:∀ x∈xs,Vl k p x) (hl:xs.length≤m):Vl (m * (k + 1)) (p + 1) (.tup xs):=by
 obtain ⟨ds,e,h1,h2,h3,h4⟩:=Vl.all h
 refine ⟨.tup ds,by rw [e]; rfl,by simp only [dep]; lia,by simp only [D.fit,h2],?_⟩
 simp only [D.wt]
 exact Nat.le_trans h3 (Nat.mul_le_mul_right _ (by lia))
theorem Vl.lst {k p m:Nat} {xs:List FV} (h:∀ x∈xs,Vl k p x) (hl:xs.length≤m):Vl (m * (k + 1)) (p + 1) (.lst xs):=by
 obtain ⟨ds,e,h1,h2,h3,h4⟩:=Vl.all h
 refine ⟨.lst ds,by rw [e]; rfl,by simp only [dep]; lia,by simp only [D.fit,h2],?_⟩
 simp only [D.wt]
 exact Nat.le_trans h3 (Nat.mul_le_mul_right _ (by lia))
theorem Vl.int {i:Int} (h:-(2 ^ 40) < i) (h':i < 2 ^ 40):Vl 41 0 (.int i):=⟨.int i,rfl,Γi _,by simp only [D.fit,decide_eq_true_eq]; lia,by simp only [D.wt]; rw [if_pos ⟨h,h'⟩]; exact Γi _⟩
theorem Vl.bl {b:Bool}:Vl 0 0 (.bl b):=⟨.bl b,rfl,Γi _,rfl,Γi _⟩
theorem Vl.non:Vl 0 0 .non:=⟨.non,rfl,Γi _,rfl,Γi _⟩
theorem c7a {k p:Nat} {x:FV} (h:Vl k p x) (hk:k≤big) (hp:p < 40):∃ y,b9l x=some y∧∀ R:Bool→Prop,wp (eqF y y) R=R true:=by
 obtain ⟨d,rfl,h1,h2,h3⟩:=h
 have big':∀ e:D,dep e < 40→e.fit=true→e.wt≤big→(fD a0n (dF e)).bind (fun d=>if d.fit=true∧d.wt≤big then some (FV.shn d) else none)=some (.shn e):=fun e h1 h2 h3=>by
  rw [c9r e a0n h1]
  show (if e.fit=true∧e.wt≤big then some (FV.shn e) else none)=_
  rw [if_pos ⟨h2,h3⟩]
 cases d with
 | non=>exact ⟨_,rfl,fun R=>by simp⟩
 | bl b=>exact ⟨_,rfl,fun R=>by simp⟩
 | str x=>exact ⟨_,rfl,fun R=>by simp⟩
 | int i =>
  simp only [D.fit,decide_eq_true_eq] at h2
  exact ⟨_,(show (if -(2 ^ 150) < i∧i < 2 ^ 150 then some (FV.str (toString i)) else none)=some (.str (toString i)) by rw [if_pos h2]),fun R=>by simp⟩
 | tup xs=>exact ⟨_,big' (.tup xs) (by lia) h2 (by lia),fun R=>by simp⟩
 | lst xs=>exact ⟨_,big' (.lst xs) (by lia) h2 (by lia),fun R=>by simp⟩
theorem b2h {α β:Type} (f:α→FV) (g:β→FV):∀ (xs:List α) (ys:List β),a2y (xs.map f) (ys.map g)=(xs.zip ys).map fun p=>.tup [f p.1,g p.2]
 | [],ys=>rfl
 | x :: xs,[]=>rfl
 | x :: xs,y :: ys=>by
  show FV.tup [f x,g y] :: a2y (xs.map f) (ys.map g)=_
  rw [b2h f g xs ys]; rfl
abbrev Chg:=Nat×Nat×Int
noncomputable def a9p (c:Chg):FV:=.tup [.int c.1,.int c.2.1,.int c.2.2]
structure Gst (ws:List Int) (cs:List Chg):Prop where
 w:∀ x∈ws,1≤x
 c:∀ x∈cs,x.1 < ws.length∧x.2.1 < ws.length∧x.1≠x.2.1∧1≤x.2.2
 s:∀ x∈cs.zip (cs.drop 1),lexLt [(x.1.1:Int),x.1.2.1] [(x.2.1:Int),x.2.2.1]=true
noncomputable def a3g (ws:List Int) (cs:List Chg):FV:=.tup [.tup (ws.map .int),.tup (cs.map a9p)]
noncomputable def keyH (c:Chg):List Int:=[c.1,c.2.1]
noncomputable def a0y:Option Nat→FV | none=>.non | some a=>.int a
theorem a5q:∀ (xs:List Int) (b:Int),a1f b xs∈b :: xs
 | [],b=>by simp [a1f]
 | x :: r,b=>by
  have:=a5q r (if x < b then x else b)
  show a1f (if x < b then x else b) r∈_
  split at this <;> rename_i h
  ·rw [if_pos h]; exact Γh _ this
  ·rw [if_neg h]
   rcases List.mem_cons.mp this with e | e
   ·rw [e]; simp
   ·exact Γh _ (Γh _ e)
theorem a4g:∀ (xs:List Int) (b:Int),a1f b xs≤b∧∀ x∈xs,a1f b xs≤x
 | [],b=>⟨Int.le_refl _,by simp⟩
 | x :: r,b=>by
  have:=a4g r (if x < b then x else b)
  show a1f (if x < b then x else b) r≤b∧∀ y∈x :: r,a1f (if x < b then x else b) r≤y
  refine ⟨by have:=this.1; split at this <;> lia,fun y hy=>?_⟩
  rcases List.mem_cons.mp hy with rfl | hy
  ·have:=this.1; split at this <;> lia
  ·exact this.2 y hy
theorem a6r {α:Type}:∀ (ps:List (List Int×α)) (ks:List (List Int)) (vs:List α),(ks++ps.map (·.1)).Nodup→a1k ps ks vs=(ks++ps.map (·.1),vs++ps.map (·.2))
 | [],ks,vs,_=>by simp [a1k]
 | p :: r,ks,vs,h=>by
  have hp:p.1 ∉ ks:=fun z=>by
   rw [List.nodup_append] at h
   exact h.2.2 p.1 z p.1 (by simp) rfl
  have e:a1q ks vs p.1 p.2=(ks++[p.1],vs++[p.2]):=by rw [a1q,if_neg hp]
  rw [a1k,e,a6r r _ _ (by simpa using h)]
  simp
theorem a9a:∀ cs:List Chg,a6u (cs.map fun c=>FV.tup [.tup [.int c.1,.int c.2.1],.int c.2.2])=some (cs.map fun c=>(keyH c,FV.int c.2.2))
 | []=>rfl
 | c :: r=>by
  rw [List.map_cons,a6u,a9a r]; rfl
theorem b8i {α β:Type} (f:α→β) (xs:List α) (lo hi:Option Int):a6g (xs.map f) lo hi=(a6g xs lo hi).map f:=by simp [a6g,List.map_drop,List.map_take]
theorem c5v {α:Type} (xs:List α) (i t:Nat):a6g xs (some (i:Int)) (some ((i:Int) + (t:Int)))=(xs.drop i).take t:=by
 have h1:sIx xs.length 0 (some (i:Int))=min i xs.length:=by simp only [sIx]; rw [if_neg (by lia)]; simp
 have h2:sIx xs.length xs.length (some ((i:Int) + (t:Int)))=min (i + t) xs.length:=by simp only [sIx]; rw [if_neg (by lia)]; congr 1
 unfold a6g
 rw [h1,h2]
 by_cases hi:i≤xs.length
 ·rw [Nat.min_eq_left hi,List.take_eq_take_iff,List.length_drop]; lia
 ·rw [Nat.min_eq_right (show xs.length≤i by lia),List.drop_of_length_le (Γi _),List.drop_of_length_le (by lia)]; simp
theorem b8h {α:Type} (xs:List α) {i j:Nat} (h:i≤j):a6g xs (some (i:Int)) (some (j:Int))=(xs.drop i).take (j - i):=by
 obtain ⟨t,rfl⟩:∃ t,j=i + t:=⟨j - i,by lia⟩
 rw [Nat.add_sub_cancel_left,← c5v]; simp
theorem b6i {xs:List Int} {x:Int} {r:List Int} (h:xs=x :: r) (Q:FV→Prop):wp (d1m (xs.map .int)) Q↔Q (.int (a1f x r)):=by
 subst h
 simp only [d1m,a8b,Option.bind_some]; rfl
theorem b0o {xs:List Int} (hl:xs.length≤1000) (h:∀ x∈xs,0≤x∧x≤100000000000) {Q:Int→Prop} (q:Q xs.sum):wp (d1b (xs.map .int)) Q:=by
 simp only [d1b,a2g,a8b,a1c]
 rw [a3p]
 refine ⟨⟨by simp only [big]; lia,?_⟩,q⟩
 rw [List.all_eq_true]
 intro x hx
 have:=h x hx
 simp only [b0p,decide_eq_true_eq]; lia
abbrev Ent:=Option Nat×Nat
inductive Anc (fr:List Ent) (m:Nat):Option Nat→Prop
 | refl:Anc fr m (some m)
 | step {on:Option Nat} {t:Nat}:Anc fr m (some t)→(on,t)∈fr→Anc fr m on
noncomputable def ent (S:List Nat) (e:Ent):Bool:=decide (e.2∈S) && (match e.1 with
 | none=>true
 | some a=>!decide (a∈S))
theorem ent_iff {S:List Nat} {on:Option Nat} {t:Nat}:ent S (on,t)=true↔t∈S∧∀ a,on=some a→a ∉ S:=by
 cases on with
 | none=>simp [ent]
 | some a=>simp [ent]
structure Prc where
 S:List Nat
 p:Int
 t:Nat
noncomputable def due (ps:List Prc) (e:Ent):Int:=((ps.filter fun q=>ent q.S e).map (·.p)).sum
structure Lrm (n:Nat) (E:List Ent) (sz:Ent→Int) (fr:List Ent) (ps:List Prc):Prop where
 sub:∀ e∈fr,e∈E
 nd:fr.Nodup
 low:∀ e∈E,due ps e≤sz e
 free:∀ e∈E,e∈fr↔due ps e=sz e
 pos:∀ q∈ps,0 < q.p
 ne:∀ q∈ps,q.S≠[]
 up:∀ q∈ps,q.S.Pairwise (· < ·)
 lt:∀ q∈ps,∀ m∈q.S,m < n
 tl:∀ q∈ps,q.t≤fr.length
 shut:∀ q∈ps,∀ e∈fr.take q.t,ent q.S e=false
 cut:∀ q∈ps,∀ A:Nat→Prop,(∃ a∈q.S,A a)→(∃ b∈q.S,¬ A b)→∃ a b,(some a,b)∈fr.take q.t∧a∈q.S∧b∈q.S∧A a∧¬ A b
 hit:∀ q∈ps,∃ e∈fr,ent q.S e=true
 dst:(ps.map (·.S)).Nodup
structure Src (n:Nat) (fr:List Ent) (S:List Nat):Prop where
 ne:S≠[]
 up:S.Pairwise (· < ·)
 lt:∀ m∈S,m < n
 all:∀ m∈S,∀ x,Anc fr m x↔∃ a∈S,x=some a
theorem Src.shut {n:Nat} {fr:List Ent} {S:List Nat} (h:Src n fr S) {e:Ent} (he:e∈fr):ent S e=false:=by
 obtain ⟨on,t⟩:=e
 cases z:ent S (on,t) with
 | false=>rfl
 | true =>
  obtain ⟨ht,hn⟩:=ent_iff.mp z
  obtain ⟨a,ha,e⟩:=(h.all t ht on).mp (.step .refl he)
  exact absurd ha (hn a e)
theorem b8s {fr:List Ent} {m:Nat} {A:Nat→Prop} (hm:¬ A m):∀ {x:Option Nat},Anc fr m x→∀ a,x=some a→A a→∃ a b,(some a,b)∈fr∧Anc fr m (some a)∧Anc fr m (some b)∧A a∧¬ A b:=by
 intro x h
 induction h with
 | refl=>intro a e ha; cases e; exact absurd ha hm
 | @step on t h1 h2 ih =>
  intro a e ha
  subst e
  by_cases ht:A t
  ·exact ih t rfl ht
  ·exact ⟨a,t,h2,.step h1 h2,h1,ha,ht⟩
theorem Src.cut {n:Nat} {fr:List Ent} {S:List Nat} (h:Src n fr S) (A:Nat→Prop) (h1:∃ a∈S,A a) (h2:∃ b∈S,¬ A b):∃ a b,(some a,b)∈fr∧a∈S∧b∈S∧A a∧¬ A b:=by
 obtain ⟨a,ha,pa⟩:=h1
 obtain ⟨b,hb,pb⟩:=h2
 obtain ⟨c,d,g1,g2,g3,g4,g5⟩:=b8s pb ((h.all b hb (some a)).mpr ⟨a,ha,rfl⟩) a rfl pa
 obtain ⟨c',hc,e1⟩:=(h.all b hb _).mp g2
 obtain ⟨d',hd,e2⟩:=(h.all b hb _).mp g3
 cases e1; cases e2
 exact ⟨c,d,g1,hc,hd,g4,g5⟩
theorem a5h (ps:List Prc) (S:List Nat) (p:Int) (t:Nat) (e:Ent):due (ps++[⟨S,p,t⟩]) e=due ps e + if ent S e=true then p else 0:=by
 unfold due
 rw [List.filter_append,List.map_append,List.sum_append]
 by_cases h:ent S e=true <;> simp [h]
theorem Lrm.start {n:Nat} {E:List Ent} {sz:Ent→Int} (h:∀ e∈E,0 < sz e):Lrm n E sz [] [] where
 sub:=by simp
 nd:=List.nodup_nil
 low:=fun e he=>by have:=h e he; simp [due]; lia
 free:=fun e he=>by have:=h e he; simp [due]; lia
 pos:=by simp
 ne:=by simp
 up:=by simp
 lt:=by simp
 tl:=by simp
 shut:=by simp
 cut:=by simp
 hit:=by simp
 dst:=by simp
theorem Lrm.step {n:Nat} {E:List Ent} {sz:Ent→Int} {fr:List Ent} {ps:List Prc} {S:List Nat} {p:Int} (h:Lrm n E sz fr ps) (hS:Src n fr S) (hE:E.Nodup)
  (h1:∀ e∈E,ent S e=true→p≤sz e - due ps e) (h2:∃ e∈E,ent S e=true∧sz e - due ps e=p) :
  0 < p∧Lrm n E sz (fr++E.filter fun e=>ent S e && decide (sz e - due ps e=p)) (ps++[⟨S,p,fr.length⟩]):=by
 have nf:∀ e∈E,ent S e=true→e ∉ fr:=fun e _ he z=>by rw [hS.shut z] at he; cases he
 have hp:0 < p:=by
  obtain ⟨e,he,g1,g2⟩:=h2
  have:=h.low e he
  have n1:due ps e≠sz e:=fun z=>nf e he g1 ((h.free e he).mpr z)
  lia
 refine ⟨hp,?_⟩
 have tk:∀ t,t≤fr.length→∀ l:List Ent,(fr++l).take t=fr.take t:=fun t ht l=>by rw [List.take_append_of_le_length ht]
 refine ⟨fun e he=>?_,?_,fun e he=>?_,fun e he=>?_,fun q hq=>?_,fun q hq=>?_,fun q hq=>?_,fun q hq=>?_,fun q hq=>?_,fun q hq e he=>?_,fun q hq=>?_,fun q hq=>?_,?_⟩
 ·rcases List.mem_append.mp he with he | he
  ·exact h.sub e he
  ·exact (List.mem_filter.mp he).1
 ·refine List.nodup_append.mpr ⟨h.nd,hE.filter _,fun a ha b hb e=>?_⟩
  subst e
  obtain ⟨g1,g2⟩:=List.mem_filter.mp hb
  simp only [Bool.and_eq_true] at g2
  exact nf a g1 g2.1 ha
 ·rw [a5h]
  have:=h.low e he
  split
  ·rename_i g
   have:=h1 e he g
   lia
  ·lia
 ·rw [a5h]
  constructor
  ·intro z
   rcases List.mem_append.mp z with z | z
   ·rw [if_neg (by rw [hS.shut z]; exact Γk)]
    have:=(h.free e he).mp z
    lia
   ·obtain ⟨_,g⟩:=List.mem_filter.mp z
    simp only [Bool.and_eq_true,decide_eq_true_eq] at g
    rw [if_pos g.1]
    lia
  ·intro z
   by_cases g:ent S e=true
   ·rw [if_pos g] at z
    refine List.mem_append_right _ (List.mem_filter.mpr ⟨he,?_⟩)
    simp only [Bool.and_eq_true,decide_eq_true_eq]
    exact ⟨g,by lia⟩
   ·rw [if_neg g] at z
    exact List.mem_append_left _ ((h.free e he).mpr (by lia))
 all_goals first | skip
 ·rcases List.mem_append.mp hq with hq | hq
  ·exact h.pos q hq
  ·simp at hq; subst hq; exact hp
 ·rcases List.mem_append.mp hq with hq | hq
  ·exact h.ne q hq
  ·simp at hq; subst hq; exact hS.ne
 ·rcases List.mem_append.mp hq with hq | hq
  ·exact h.up q hq
  ·simp at hq; subst hq; exact hS.up
 ·rcases List.mem_append.mp hq with hq | hq
  ·exact h.lt q hq
  ·simp at hq; subst hq; exact hS.lt
 ·rcases List.mem_append.mp hq with hq | hq
  ·have:=h.tl q hq
   simp; lia
  ·simp at hq; subst hq; simp
 ·rcases List.mem_append.mp hq with hq | hq
  ·rw [tk _ (h.tl q hq)] at he
   exact h.shut q hq e he
  ·simp at hq; subst hq
   rw [show (⟨S,p,fr.length⟩:Prc).t=fr.length from rfl,tk _ (Γi _),List.take_length] at he
   exact hS.shut he
 ·rcases List.mem_append.mp hq with hq | hq
  ·rw [tk _ (h.tl q hq)]
   exact h.cut q hq
  ·simp at hq; subst hq
   dsimp only
   rw [tk _ (Γi _),List.take_length]
   exact hS.cut
 ·rcases List.mem_append.mp hq with hq | hq
  ·obtain ⟨e,g1,g2⟩:=h.hit q hq
   exact ⟨e,List.mem_append_left _ g1,g2⟩
  ·simp at hq; subst hq
   obtain ⟨e,he,g1,g2⟩:=h2
   refine ⟨e,List.mem_append_right _ (List.mem_filter.mpr ⟨he,?_⟩),g1⟩
   simp only [Bool.and_eq_true,decide_eq_true_eq]
   exact ⟨g1,g2⟩
 ·rw [List.map_append]
  refine List.nodup_append.mpr ⟨h.dst,by simp,fun a ha b hb e=>?_⟩
  simp at hb
  subst hb e
  obtain ⟨q,hq,e⟩:=List.mem_map.mp ha
  obtain ⟨e',g1,g2⟩:=h.hit q hq
  rw [e,hS.shut g1] at g2; cases g2
noncomputable def may (D:List Nat) (e:Ent):Bool:=!decide (e.2∈D) && (match e.1 with
 | none=>true
 | some a=>decide (a∈D))
structure Lay (fr:List Ent) (us:List Ent):Prop where
 sub:∀ e∈us,e∈fr
 nd:(us.map (·.2)).Nodup
 on:∀ l e r,us=l++e :: r→∀ a,e.1=some a→a∈l.map (·.2)
noncomputable def a7f (D:List Nat) (S:List Nat):Bool:=S.any fun m=>decide (m∈D)
structure Cnt (fr:List Ent) (ps:List Prc) (us:List Ent):Prop extends Lay fr us where
 one:∀ q∈ps,us.countP (ent q.S)=if a7f (us.map (·.2)) q.S=true then 1 else 0
theorem touch_iff {D S:List Nat}:a7f D S=true↔∃ m∈S,m∈D:=by simp [a7f]
theorem Cnt.step {n:Nat} {E:List Ent} {sz:Ent→Int} {fr:List Ent} {ps:List Prc} {us:List Ent} (h:Lrm n E sz fr ps) (c:Cnt fr ps us) {e:Ent} (he:fr.find? (may (us.map (·.2)))=some e):Cnt fr ps (us++[e]):=by
 obtain ⟨on,m⟩:=e
 have hm:=List.find?_some he
 have hin:=List.mem_of_find?_eq_some he
 have m1:m ∉ us.map (·.2):=by
  simp only [may,Bool.and_eq_true,Bool.not_eq_true',decide_eq_false_iff_not] at hm
  exact hm.1
 have m2:∀ a,on=some a→a∈us.map (·.2):=fun a z=>by
  subst z
  simp only [may,Bool.and_eq_true,decide_eq_true_eq] at hm
  exact hm.2
 refine ⟨⟨fun e' he'=>?_,?_,fun l e' r z a ea=>?_⟩,fun q hq=>?_⟩
 ·rcases List.mem_append.mp he' with z | z
  ·exact c.sub e' z
  ·simp at z; subst z; exact hin
 ·rw [List.map_append]
  refine List.nodup_append.mpr ⟨c.nd,by simp,fun a ha b hb z=>?_⟩
  simp at hb; subst hb z
  exact m1 ha
 ·rcases List.append_eq_append_iff.mp z with ⟨x,h1,h2⟩ | ⟨x,h1,h2⟩
  ·cases x with
   | nil =>
    simp at h1 h2
    obtain ⟨h2,_⟩:=h2
    subst h2 h1
    exact m2 a ea
   | cons y x =>
    have:=congrArg List.length h2
    simp at this
  ·cases x with
   | nil =>
    simp at h1 h2
    obtain ⟨h2,_⟩:=h2
    subst h2 h1
    exact m2 a ea
   | cons y x =>
    simp at h2
    obtain ⟨rfl,h2⟩:=h2
    exact c.on l e' x h1 a ea
 ·have old:=c.one q hq
  rw [List.countP_append,List.map_append]
  have tch:a7f (us.map (·.2)++[(on,m)].map (·.2)) q.S=(a7f (us.map (·.2)) q.S || decide (m∈q.S)):=by
   rw [Bool.eq_iff_iff]
   simp only [touch_iff,Bool.or_eq_true,decide_eq_true_eq,List.mem_append,List.map_cons,List.map_nil,List.mem_singleton]
   constructor
   ·rintro ⟨x,h1,h2 | rfl⟩
    ·exact .inl ⟨x,h1,h2⟩
    ·exact .inr h1
   ·rintro (⟨x,h1,h2⟩ | h1)
    ·exact ⟨x,h1,.inl h2⟩
    ·exact ⟨m,h1,.inr rfl⟩
  rw [tch]
  by_cases hmS:m∈q.S
  ·by_cases ht:a7f (us.map (·.2)) q.S=true
   ·rw [if_pos ht] at old
    have:ent q.S (on,m)=false:=by
     cases z:ent q.S (on,m) with
     | false=>rfl
     | true =>
      obtain ⟨a,b,g1,g2,g3,g4,g5⟩:=h.cut q hq (fun x=>x∈us.map (·.2)) (touch_iff.mp ht) ⟨m,hmS,m1⟩
      have hb:may (us.map (·.2)) (some a,b)=true:=by
       simp only [may,Bool.and_eq_true,Bool.not_eq_true',decide_eq_false_iff_not,decide_eq_true_eq]
       exact ⟨g5,g4⟩
      have hf:(fr.take q.t).find? (may (us.map (·.2)))=some (on,m):=by
       rw [← List.take_append_drop q.t fr,List.find?_append] at he
       cases z2:(fr.take q.t).find? (may (us.map (·.2))) with
       | none=>exact absurd hb (List.find?_eq_none.mp z2 _ g1)
       | some e2=>rw [z2] at he; simpa using he
      have:=h.shut q hq _ (List.mem_of_find?_eq_some hf)
      rw [this] at z; cases z
    simp [ht,old,this]
   ·have ht':a7f (us.map (·.2)) q.S=false:=by simpa using ht
    rw [if_neg ht] at old
    have:ent q.S (on,m)=true:=ent_iff.mpr ⟨hmS,fun a ea z=>ht (touch_iff.mpr ⟨a,z,m2 a ea⟩)⟩
    simp [ht',old,this,hmS]
  ·have:ent q.S (on,m)=false:=by simp [ent,hmS]
   simp [old,this,hmS]
theorem b3c (ps:List Prc) (e:Ent):due ps e=(ps.map fun q=>if ent q.S e=true then q.p else 0).sum:=by
 unfold due
 induction ps with
 | nil=>rfl
 | cons q r ih =>
  by_cases h:ent q.S e=true
  ·simp [List.filter_cons,h,← ih]
  ·simp [List.filter_cons,h,← ih]
theorem b4t {α:Type} (f g:α→Int):∀ l:List α,(l.map fun x=>f x + g x).sum=(l.map f).sum + (l.map g).sum
 | []=>rfl
 | x :: r=>by simp only [List.map_cons,List.sum_cons,b4t f g r]; lia
theorem b1n (ps:List Prc):∀ us:List Ent,(us.map (due ps)).sum=(ps.map fun q=>q.p * (us.countP (ent q.S):Int)).sum
 | []=>by
  have:(ps.map fun q=>q.p * (([]:List Ent).countP (ent q.S):Int))=ps.map fun _=>(0:Int):=List.map_congr_left fun q _=>by simp
  rw [this]
  induction ps with
  | nil=>rfl
  | cons q r ih=>simpa using ih (by simp)
 | e :: us=>by
  rw [List.map_cons,List.sum_cons,b1n ps us,b3c,← b4t]
  congr 1
  apply List.map_congr_left
  intro q _
  rw [List.countP_cons]
  by_cases h:ent q.S e=true
  ·simp [h,Int.mul_add]; lia
  ·simp [h]
theorem Cnt.room {n:Nat} {E:List Ent} {sz:Ent→Int} {fr:List Ent} {ps:List Prc} {us:List Ent} (h:Lrm n E sz fr ps) (c:Cnt fr ps us) (ha:∀ m,m < n→m∈us.map (·.2)):(us.map sz).sum=(ps.map (·.p)).sum:=by
 have e1:us.map sz=us.map (due ps):=List.map_congr_left fun e he=>((h.free e (h.sub e (c.sub e he))).mp (c.sub e he)).symm
 rw [e1,b1n]
 congr 1
 apply List.map_congr_left
 intro q hq
 have:a7f (us.map (·.2)) q.S=true:=by
  cases z:q.S with
  | nil=>exact absurd z (h.ne q hq)
  | cons m r=>exact touch_iff.mpr ⟨m,by simp,ha m (h.lt q hq m (by rw [z]; simp))⟩
 rw [c.one q hq,if_pos this]
 simp
theorem c0s {fr:List Ent} {D:List Nat} {m:Nat} (hm:m ∉ D) (h:Anc fr m none):∃ e,fr.find? (may D)=some e:=by
 have go:∀ {x:Option Nat},Anc fr m x→(x=none ∨ ∃ a,x=some a∧a∈D)→∃ e∈fr,may D e=true:=by
  intro x hx
  induction hx with
  | refl =>
   rintro (z | ⟨a,z,ha⟩)
   ·cases z
   ·cases z; exact absurd ha hm
  | @step on t h1 h2 ih =>
   intro z
   by_cases ht:t∈D
   ·exact ih (.inr ⟨t,rfl,ht⟩)
   ·refine ⟨_,h2,?_⟩
    rcases z with rfl | ⟨a,rfl,ha⟩ <;> simp [*,may]
 obtain ⟨e,h1,h2⟩:=go h (.inl rfl)
 cases z:fr.find? (may D) with
 | none=>exact absurd h2 (List.find?_eq_none.mp z e h1)
 | some e=>exact ⟨e,rfl⟩
theorem b5k {sz:Ent→Int} {ps:List Prc} {us:List Ent} (low:∀ e∈us,due ps e≤sz e) (pos:∀ q∈ps,0 < q.p) (he:∀ q∈ps,∃ e∈us,ent q.S e=true):(ps.map (·.p)).sum≤(us.map sz).sum:=by
 have a:(us.map (due ps)).sum≤(us.map sz).sum:=by
  clear he
  induction us with
  | nil=>exact Int.le_refl _
  | cons e r ih =>
   have:=low e (by simp)
   have:=ih fun x hx=>low x (by simp [hx])
   simp only [List.map_cons,List.sum_cons]; lia
 rw [b1n] at a
 have b:(ps.map (·.p)).sum≤(ps.map fun q=>q.p * (us.countP (ent q.S):Int)).sum:=by
  have hq:∀ q∈ps,q.p≤q.p * (us.countP (ent q.S):Int):=fun q hq=>by
   obtain ⟨e,h1,h2⟩:=he q hq
   have h3:1≤us.countP (ent q.S):=List.one_le_countP_iff.mpr ⟨e,h1,h2⟩
   have h4:=pos q hq
   have:q.p * 1≤q.p * (us.countP (ent q.S):Int):=Int.mul_le_mul_of_nonneg_left (by lia) (by lia)
   lia
  clear a low pos he
  induction ps with
  | nil=>exact Int.le_refl _
  | cons q r ih =>
   have:=hq q (by simp)
   have:=ih fun x hx=>hq x (by simp [hx])
   simp only [List.map_cons,List.sum_cons]; lia
 lia
noncomputable def ens (ls:List (Option Nat)):List Ent:=(List.range ls.length).map fun m=>(ls.getD m none,m)
structure Rk (ls:List (Option Nat)) (r:Nat→Nat):Prop where
 lt:∀ m,m < ls.length→r m < ls.length
 on:∀ m a,m < ls.length→ls.getD m none=some a→a < ls.length∧r a < r m
theorem mem_ens {ls:List (Option Nat)} {e:Ent}:e∈ens ls↔e.2 < ls.length∧ls.getD e.2 none=e.1:=by
 unfold ens
 rw [List.mem_map]
 constructor
 ·rintro ⟨m,hm,rfl⟩; exact ⟨List.mem_range.mp hm,rfl⟩
 ·rintro ⟨h1,h2⟩; exact ⟨e.2,List.mem_range.mpr h1,by rw [h2]⟩
theorem Rk.enter {ls:List (Option Nat)} {r:Nat→Nat} (h:Rk ls r) {S:List Nat} (hne:S≠[]) (hlt:∀ m∈S,m < ls.length):∃ e∈ens ls,ent S e=true:=by
 obtain ⟨m,hm⟩:=List.exists_mem_of_ne_nil S hne
 have go:∀ k m,r m < k→m∈S→∃ e∈ens ls,ent S e=true:=by
  intro k
  induction k with
  | zero=>intro m h; lia
  | succ k ih =>
   intro m hk hm
   by_cases g:∃ a,ls.getD m none=some a∧a∈S
   ·obtain ⟨a,g1,g2⟩:=g
    have:=(h.on m a (hlt m hm) g1).2
    exact ih a (by lia) g2
   ·exact ⟨(ls.getD m none,m),mem_ens.mpr ⟨hlt m hm,rfl⟩,ent_iff.mpr ⟨hm,fun a e z=>g ⟨a,e,z⟩⟩⟩
 exact go _ m (Nat.lt_succ_self _) hm
inductive Und (ls:List (Option Nat)) (m:Nat):Nat→Prop
 | refl:Und ls m m
 | step {o a:Nat}:ls.getD o none=some a→Und ls m a→Und ls m o
theorem Und.le {ls:List (Option Nat)} {r:Nat→Nat} (h:Rk ls r) {m o:Nat} (u:Und ls m o):o < ls.length→r m≤r o:=by
 induction u with
 | refl=>intro _; exact Γi _
 | step e _ ih =>
  intro ho
  have:=h.on _ _ ho e
  have:=ih this.1
  lia
theorem b9k {l l':List Int} (h:l.Perm l'):l.sum=l'.sum:=by
 induction h with
 | nil=>rfl
 | cons x _ ih=>simp only [List.sum_cons,ih]
 | swap x y l=>simp only [List.sum_cons]; lia
 | trans _ _ h1 h2=>exact h1.trans h2
theorem b7s (ls:List (Option Nat)):(ens ls).Nodup:=by
 unfold ens
 rw [List.Nodup,List.pairwise_map]
 exact List.nodup_range.imp fun h e=>h (congrArg Prod.snd e)
theorem Cnt.lay {n:Nat} {fr:List Ent} {ps:List Prc} {us:List Ent} {ls:List (Option Nat)} (c:Cnt fr ps us) (hb:∀ e∈fr,e.2 < n∧∀ a,e.1=some a→a < n) (hl:ls.length=n) (hat:∀ m,m < n→∃ e∈us,e.2=m∧ls[m]?=some e.1):(∃ r,Rk ls r)∧(ens ls).Perm us:=by
 have lt:∀ x∈us.map (·.2),x < n:=fun x hx=>by
  obtain ⟨e,he,rfl⟩:=List.mem_map.mp hx
  exact (hb e (c.sub e he)).1
 have inj:∀ {e f:Ent},e∈us→f∈us→e.2=f.2→e=f:=by
  have nd:=c.nd
  rw [List.Nodup,List.pairwise_map] at nd
  intro e f he hf z
  refine Classical.byContradiction fun w=>?_
  obtain ⟨l,r,rfl⟩:=List.append_of_mem he
  rw [List.pairwise_append] at nd
  rcases List.mem_append.mp hf with g | g
  ·exact nd.2.2 f g e (by simp) z.symm
  ·rcases List.mem_cons.mp g with g | g
   ·exact w g.symm
   ·exact (List.pairwise_cons.mp nd.2.1).1 f g z
 have at':∀ e,e∈us→ls.getD e.2 none=e.1:=fun e he=>by
  obtain ⟨f,hf,e1,e2⟩:=hat e.2 ((hb e (c.sub e he)).1)
  have:=inj hf he e1
  subst this
  rw [List.getD_eq_getElem?_getD,e2]; rfl
 have mem:∀ e,e∈ens ls↔e∈us:=fun e=>by
  rw [mem_ens]
  constructor
  ·rintro ⟨h1,h2⟩
   obtain ⟨f,hf,e1,e2⟩:=hat e.2 (by lia)
   have h3:=at' f hf
   rw [e1,h2] at h3
   have:e=f:=Prod.ext h3 e1.symm
   rw [this]; exact hf
  ·intro he
   exact ⟨by rw [hl]; exact (hb e (c.sub e he)).1,at' e he⟩
 have ndu:us.Nodup:=by
  have:=c.nd
  rw [List.Nodup,List.pairwise_map] at this
  exact this.imp fun h e=>h (congrArg Prod.snd e)
 refine ⟨⟨fun m=>(us.map (·.2)).idxOf m,fun m hm=>?_,fun m a hm e=>?_⟩,(List.perm_ext_iff_of_nodup (b7s ls) ndu).mpr mem⟩
 ·obtain ⟨f,hf,e1,_⟩:=hat m (by lia)
  have h1:(us.map (·.2)).idxOf m < (us.map (·.2)).length:=List.idxOf_lt_length_of_mem (List.mem_map.mpr ⟨f,hf,e1⟩)
  have h2:=c.nd.length_le_of_subset (l₂:=List.range n) fun x hx=>List.mem_range.mpr (lt x hx)
  rw [List.length_range] at h2
  rw [hl]; lia
 ·have hu:((some a,m):Ent)∈us:=(mem _).mp (mem_ens.mpr ⟨hm,e⟩)
  refine ⟨by rw [hl]; exact (hb _ (c.sub _ hu)).2 a rfl,?_⟩
  obtain ⟨l,r,el⟩:=List.append_of_mem hu
  have ha:=c.on l _ r el a rfl
  have nd:=c.nd
  rw [el,List.map_append] at nd ⊢
  have hm':m ∉ l.map (·.2):=fun z=>(List.nodup_append.mp nd).2.2 _ z m (by simp) rfl
  rw [List.idxOf_append,if_pos ha,List.idxOf_append,if_neg hm']
  have:=List.idxOf_lt_length_of_mem ha
  lia
noncomputable def Found (fr:List Ent) (m:Nat) (fs:List (Option Nat)):Prop:=fs.Nodup∧∀ x,x∈fs↔Anc fr m x
theorem Anc.trans {fr:List Ent} {m t:Nat} (h:Anc fr m (some t)):∀ {x:Option Nat},Anc fr t x→Anc fr m x:=by
 intro x hx
 induction hx with
 | refl=>exact h
 | step _ h2 ih=>exact .step ih h2
theorem c7c {n:Nat} {fr:List Ent} {F:Nat→List (Option Nat)} (hF:∀ m,m < n→Found fr m (F m)) (hfr:∀ a t,(some a,t)∈fr→a < n) {m:Nat} (hm:m < n) (h0:none ∉ F m) (hmin:∀ k,k < n→none ∉ F k→(F m).length≤(F k).length)
  {S:List Nat} (hup:S.Pairwise (· < ·)) (hS:∀ a,a∈S↔some a∈F m):Src n fr S:=by
 have lt:∀ {x:Option Nat},Anc fr m x→∀ a,x=some a→a < n:=by
  intro x hx
  induction hx with
  | refl=>intro a e; cases e; exact hm
  | step _ h2 _=>intro a e; subst e; exact hfr _ _ h2
 refine ⟨fun z=>?_,hup,fun a ha=>lt (((hF m hm).2 _).mp ((hS a).mp ha)) a rfl,fun b hb x=>?_⟩
 ·have:=(hS m).mpr (((hF m hm).2 _).mpr .refl)
  rw [z] at this; cases this
 ·have ab:=((hF m hm).2 _).mp ((hS b).mp hb)
  have hbn:=lt ab b rfl
  have sub:∀ y,y∈F b→y∈F m:=fun y hy=>((hF m hm).2 _).mpr (ab.trans (((hF b hbn).2 _).mp hy))
  have hlen:=hmin b hbn fun z=>h0 (sub _ z)
  have sup:∀ y,y∈F m→y∈F b:=by
   have nd:=(hF b hbn).1
   intro y hy
   refine Classical.byContradiction fun z=>?_
   have nd2:(y :: F b).Nodup:=List.nodup_cons.mpr ⟨z,nd⟩
   have:=nd2.length_le_of_subset (l₂:=F m) fun w hw=>(List.mem_cons.mp hw).elim (fun e=>e ▸ hy) (sub w)
   simp at this
   lia
  constructor
  ·intro hx
   have hx':=sub x (((hF b hbn).2 _).mpr hx)
   cases x with
   | none=>exact absurd hx' h0
   | some a=>exact ⟨a,(hS a).mpr hx',rfl⟩
  ·rintro ⟨a,ha,rfl⟩
   exact ((hF b hbn).2 _).mp (sup _ ((hS a).mp ha))
theorem a4f {α:Type} {f:α→FV} {g:α→D} {h:FV→Option D} (hf:∀ x,h (f x)=some (g x)):∀ xs:List α,a7v h (xs.map f)=some (xs.map g)
 | []=>rfl
 | x :: r=>by
  show ((h (f x)).bind fun y=>(a7v h (r.map f)).map (y :: ·))=_
  rw [hf,a4f hf r]; rfl
structure Cod {α:Type} [DecidableEq α] (f:α→FV) (g:α→D):Prop where
 d:∀ k x,fD (k + 3) (f x)=some (g x)
 e:∀ x y,D.eqv (g x) (g y)=decide (x=y)
section
variable {α:Type} [DecidableEq α] {f:α→FV} {g:α→D}
theorem Cod.any (h:Cod f g) (x:α) (xs:List α):((xs.map g).any fun y=>D.eqv y (g x))=decide (x∈xs):=by
 rw [List.any_map,Bool.eq_iff_iff]
 simp only [List.any_eq_true,Function.comp,h.e,decide_eq_true_eq]
 exact ⟨fun ⟨y,h1,h2⟩=>h2 ▸ h1,fun h1=>⟨x,h1,rfl⟩⟩
theorem Cod.inL (h:Cod f g) (x:α) (xs:List α) [i:Decidable (x∈xs)] (R:Bool→Prop):wp (inF (f x) (.lst (xs.map f))) R↔R (decide (x∈xs)):=by
 have e:inF (f x) (.lst (xs.map f))=some (decide (x∈xs)):=by
  show ((fD (37 + 3) (f x)).bind fun x=>((a7v (fD (36 + 3)) (xs.map f)).map D.lst).bind fun y=>inD x y)=_
  rw [h.d,a4f (h.d 36)]
  exact congrArg some ((h.any x xs).trans (decide_eq_decide.mpr Iff.rfl))
 rw [e]; exact Iff.rfl
theorem Cod.inT (h:Cod f g) (x:α) (xs:List α) [i:Decidable (x∈xs)] (R:Bool→Prop):wp (inF (f x) (.tup (xs.map f))) R↔R (decide (x∈xs)):=by
 have e:inF (f x) (.tup (xs.map f))=some (decide (x∈xs)):=by
  show ((fD (37 + 3) (f x)).bind fun x=>((a7v (fD (36 + 3)) (xs.map f)).map D.tup).bind fun y=>inD x y)=_
  rw [h.d,a4f (h.d 36)]
  exact congrArg some ((h.any x xs).trans (decide_eq_decide.mpr Iff.rfl))
 rw [e]; exact Iff.rfl
theorem c5i {a b:FV} {x:D} (h:fD a0n a=some x):eqF a b=eqD a b:=by
 cases a with
 | shn y=>cases h
 | _=>rfl
theorem Cod.eq (h:Cod f g) (x y:α) [i:Decidable (x=y)] (R:Bool→Prop):wp (eqF (f x) (f y)) R↔R (decide (x=y)):=by
 have e:eqF (f x) (f y)=some (decide (x=y)):=by
  rw [c5i (h.d 37 x)]
  show ((fD (37 + 3) (f x)).bind fun x=>(fD (37 + 3) (f y)).bind fun y=>some (D.eqv x y))=_
  rw [h.d,h.d]
  exact congrArg some ((h.e x y).trans (decide_eq_decide.mpr Iff.rfl))
 rw [e]; exact Iff.rfl
end
noncomputable def a3v (e:Ent):FV:=.tup [a0y e.1,.int e.2]
noncomputable def Rng (n:Nat) (fr:List Ent):Prop:=∀ e∈fr,e.2 < n∧∀ a,e.1=some a→a < n
noncomputable def inR (n:Nat) (x:Option Nat):Prop:=∀ a,x=some a→a < n
theorem b1e {n:Nat} {fs:List (Option Nat)} (nd:fs.Nodup) (h:∀ x∈fs,inR n x):fs.length≤n + 1:=by
 have:=nd.length_le_of_subset (l₂:=none :: (List.range n).map some) fun x hx=>by
  cases x with
  | none=>simp
  | some a=>simp [h _ hx a rfl]
 simpa using this
theorem b1u {n:Nat} {fr:List Ent} (hb:Rng n fr) {m:Nat} (hm:m < n) {x:Option Nat} (h:Anc fr m x):inR n x:=by
 cases h with
 | refl=>intro a e; cases e; exact hm
 | step _ h2=>exact (hb _ h2).2
structure Ldg (fr:List Ent) (m:Nat) (fs:List (Option Nat)) (at':Nat):Prop where
 nd:fs.Nodup
 me:some m∈fs
 anc:∀ x∈fs,Anc fr m x
 le:at'≤fs.length
 cl:∀ t,some t∈fs.take at'→∀ on,(on,t)∈fr→on∈fs
theorem Ldg.done {fr:List Ent} {m:Nat} {fs:List (Option Nat)} (h:Ldg fr m fs fs.length):Found fr m fs:=by
 refine ⟨h.nd,fun x=>⟨h.anc x,fun hx=>?_⟩⟩
 induction hx with
 | refl=>exact h.me
 | step _ h2 ih=>exact h.cl _ (by rw [List.take_length]; exact ih) _ h2
noncomputable def b8u (fr:List Ent) (fs:List (Option Nat)) (x:Option Nat):List (Option Nat):=(fr.filter fun e=>decide (some e.2=x) && !decide (e.1∈fs)).map (·.1)
theorem Ldg.step {fr:List Ent} (nd:fr.Nodup) {m:Nat} {fs:List (Option Nat)} {k:Nat} (h:Ldg fr m fs k) {x:Option Nat} (hx:fs[k]?=some x):Ldg fr m (fs++b8u fr fs x) (k + 1):=by
 obtain ⟨hk,ex⟩:=List.getElem?_eq_some_iff.mp hx
 have mem:∀ on,on∈b8u fr fs x↔(∃ t,x=some t∧(on,t)∈fr)∧on ∉ fs:=by
  intro on
  unfold b8u
  simp only [List.mem_map,List.mem_filter,Bool.and_eq_true,decide_eq_true_eq,Bool.not_eq_true',decide_eq_false_iff_not]
  constructor
  ·rintro ⟨⟨o,t⟩,⟨h1,h2,h3⟩,rfl⟩; exact ⟨⟨t,h2.symm,h1⟩,h3⟩
  ·rintro ⟨⟨t,h1,h2⟩,h3⟩; exact ⟨(on,t),⟨h2,h1.symm,h3⟩,rfl⟩
 refine ⟨?_,by simp [h.me],fun y hy=>?_,by simp; lia,fun t ht on ho=>?_⟩
 ·refine List.nodup_append.mpr ⟨h.nd,?_,fun a ha b hb e=>((mem b).mp hb).2 (e ▸ ha)⟩
  unfold b8u
  rw [List.Nodup,List.pairwise_map]
  refine (nd.filter _).imp_of_mem fun {a b} ha hb hne e=>hne ?_
  have h1:=(List.mem_filter.mp ha).2
  have h2:=(List.mem_filter.mp hb).2
  simp only [Bool.and_eq_true,decide_eq_true_eq] at h1 h2
  have:=h1.1.trans h2.1.symm
  exact Prod.ext e (by simpa using this)
 ·rcases List.mem_append.mp hy with hy | hy
  ·exact h.anc y hy
  ·obtain ⟨⟨t,e,h2⟩,_⟩:=(mem y).mp hy
   exact .step (h.anc _ (by rw [← e,← ex]; exact List.getElem_mem hk)) h2
 ·rw [List.take_append_of_le_length (by lia),← List.take_append_getElem hk] at ht
  by_cases hf:on∈fs
  ·exact List.mem_append_left _ hf
  ·rcases List.mem_append.mp ht with ht | ht
   ·exact List.mem_append_left _ (h.cl t ht on ho)
   ·rw [ex] at ht
    simp at ht
    exact List.mem_append_right _ ((mem on).mpr ⟨⟨t,ht.symm,ho⟩,hf⟩)
noncomputable def ldI (fr:List Ent) (m:Nat):Nat→List (Option Nat)
 | 0=>[some m]
 | k + 1=>ldI fr m k++b8u fr (ldI fr m k) ((ldI fr m k)[k]?.getD none)
noncomputable def Led (fr:List Ent) (m:Nat) (fs:List (Option Nat)):Prop:=fs=ldI fr m fs.length
theorem b2q {fr:List Ent} {m k:Nat} (h:(ldI fr m k).length≤k):∀ j,ldI fr m (k + j)=ldI fr m k
 | 0=>rfl
 | j + 1=>by
  show ldI fr m (k + j)++b8u fr (ldI fr m (k + j)) ((ldI fr m (k + j))[k + j]?.getD none)=_
  rw [b2q h j,List.getElem?_eq_none (by lia)]
  simp [b8u]
theorem Led.uniq {fr:List Ent} {m:Nat} {fs gs:List (Option Nat)} (h:Led fr m fs) (g:Led fr m gs):fs=gs:=by
 have go:∀ {fs gs:List (Option Nat)},Led fr m fs→Led fr m gs→fs.length≤gs.length→fs=gs:=fun {fs gs} h g l=>by
  have e:=b2q (fr:=fr) (m:=m) (k:=fs.length) (by rw [← h]; exact Γi _) (gs.length - fs.length)
  rw [show fs.length + (gs.length - fs.length)=gs.length by lia] at e
  exact h.trans (e.symm.trans g.symm)
 rcases Nat.le_total fs.length gs.length with l | l
 ·exact go h g l
 ·exact (go g h l).symm
noncomputable def dLo:Option Nat→D | none=>.non | some a=>.int a
theorem codL:Cod a0y dLo:=⟨fun k x=>by cases x <;> rfl,fun x y=>by
 cases x <;> cases y <;> simp [dLo,D.eqv]
 rw [Bool.eq_iff_iff]; simp; lia⟩
theorem c4r (d n:Nat) {fr:List Ent} (nd:fr.Nodup) (hl:fr.length≤1000) (hb:Rng n fr) (hn:n≤60) {m:Nat} (hm:m < n) {Q:FV×FV→Prop} (q:∀ fs,Found fr m fs→Led fr m fs→Q (.lst (fs.map a0y),.non)):callW tb (d + 1) 3 [.lst (fr.map a3v),.int m] Q:=by
 refine a0o (fd:=fd3) rfl rfl ?_
 simp [fd3,bd3]
 refine ⟨by decide,?_⟩
 refine while_by (I:=fun k L=>∃ fs at',k=n + 1 - at'∧Ldg fr m fs at'∧fs=ldI fr m at'∧L=[some (.lst (fr.map a3v)),some (.int m),some (.lst (fs.map a0y)),some (.int (at':Nat))]) (fun k L K h hK=>?_) (m:=n + 1) ⟨[some m],0,rfl,⟨by simp,by simp,by simp; exact .refl,by simp,by simp⟩,rfl,rfl⟩
 obtain ⟨fs,at',rfl,h,hI,rfl⟩:=h
 have hle:=b1e h.nd fun x hx=>b1u hb hm (h.anc x hx)
 simp
 refine ite2 (fun hk=>?_) fun hk=>?_
 ·obtain ⟨x,hx⟩:∃ x,fs[at']?=some x:=⟨_,List.getElem?_eq_getElem hk⟩
  have h2:=h.step nd hx
  have hle2:=b1e h2.nd fun x hx=>b1u hb hm (h2.anc x hx)
  refine ⟨by simp only [big]; lia,?_⟩
  refine a0w (f:=a3v) (g:=fun e=>a0y e.1) (p:=fun e=>decide (some e.2=x) && !decide (e.1∈fs)) fr [] (fun e he K N k1 k2=>?_) ?_
  ·simp [a3v]
   rw [a4k rfl (v:=a0y x) (by rw [List.getElem?_map,hx]; rfl),show FV.int (e.2:Int)=a0y (some e.2) from rfl,codL.eq]
   refine ite2 (fun g1=>?_) fun g1=>?_
   ·rw [codL.inL]
    refine ite2 (fun g2=>?_) fun g2=>?_
    ·exact k2 (by simp [of_decide_eq_true g2])
    ·exact k1 (by rw [g1]; simp [of_decide_eq_false (Bool.eq_false_iff.mpr g2)])
   ·exact k2 (by have g1:=Bool.eq_false_iff.mpr g1; rw [g1]; rfl)
  ·simp
   have el:(b8u fr fs x).length=(List.filter (fun e=>decide (some e.snd=x) && !decide (e.fst∈fs)) fr).length:=by simp [b8u]
   refine ⟨by rw [← el]; simp only [List.length_append] at hle2; simp only [big]; lia,?_⟩
   refine hK _ _ ?_ ⟨fs++b8u fr fs x,at' + 1,rfl,h2,by rw [ldI,← hI,hx]; rfl,by simp [b8u,Function.comp_def]⟩
   lia
 ·have:at'=fs.length:=by have:=h.le; lia
  subst this
  exact q fs h.done hI
structure Few (fr:List Ent) (j:Nat) (fs:List (Option Nat)) (F:Nat→List (Option Nat)):Prop where
 f:∀ k,k < j→Found fr k (F k)
 c:(fs=[]∧∀ k,k < j→none∈F k) ∨ ∃ m,m < j∧fs=F m∧none ∉ F m∧∀ k,k < j→none ∉ F k→(F m).length≤(F k).length
theorem Found.ne {fr:List Ent} {m:Nat} {fs:List (Option Nat)} (h:Found fr m fs):fs≠[]:=fun z=>by
 have:=(h.2 (some m)).mpr .refl
 rw [z] at this; cases this
theorem Few.step {fr:List Ent} {j:Nat} {fs gs:List (Option Nat)} {F:Nat→List (Option Nat)} (h:Few fr j fs F) (hg:Found fr j gs):Few fr (j + 1) (if none ∉ gs∧(fs=[] ∨ gs.length < fs.length) then gs else fs) fun k=>if k=j then gs else F k:=by
 refine ⟨fun k hk=>?_,?_⟩
 ·by_cases e:k=j
  ·subst e; simp only [if_pos]; exact hg
  ·rw [if_neg e]; exact h.f k (by lia)
 ·have gj:∀ k,k < j→(if k=j then gs else F k)=F k:=fun k hk=>if_neg (by lia)
  by_cases h0:none ∉ gs
  ·rcases h.c with ⟨e,hz⟩ | ⟨m,hm,e,hn,hl⟩
   ·rw [if_pos ⟨h0,.inl e⟩]
    refine .inr ⟨j,by lia,by simp,by simpa using h0,fun k hk hkn=>?_⟩
    by_cases ek:k=j
    ·subst ek; exact Γi _
    ·exact absurd (hz k (by lia)) (by rw [gj k (by lia)] at hkn; exact hkn)
   ·have hne:fs≠[]:=e ▸ (h.f m hm).ne
    by_cases hlt:gs.length < fs.length
    ·rw [if_pos ⟨h0,.inr hlt⟩]
     refine .inr ⟨j,by lia,by simp,by simpa using h0,fun k hk hkn=>?_⟩
     by_cases ek:k=j
     ·subst ek; exact Γi _
     ·rw [gj k (by lia)] at hkn ⊢
      have:=hl k (by lia) hkn
      rw [if_pos rfl]
      rw [e] at hlt; lia
    ·rw [if_neg (by rintro ⟨_,z | z⟩; exact hne z; exact hlt z)]
     refine .inr ⟨m,by lia,by rw [gj m hm]; exact e,by rw [gj m hm]; exact hn,fun k hk hkn=>?_⟩
     rw [gj m hm]
     by_cases ek:k=j
     ·rw [if_pos ek,← e]; lia
     ·rw [gj k (by lia)] at hkn ⊢
      exact hl k (by lia) hkn
  ·rw [if_neg fun z=>h0 z.1]
   have hin:none∈gs:=Classical.byContradiction h0
   rcases h.c with ⟨e,hz⟩ | ⟨m,hm,e,hn,hl⟩
   ·refine .inl ⟨e,fun k hk=>?_⟩
    by_cases ek:k=j
    ·rw [if_pos ek]; exact hin
    ·rw [if_neg ek]; exact hz k (by lia)
   ·refine .inr ⟨m,by lia,by rw [gj m hm]; exact e,by rw [gj m hm]; exact hn,fun k hk hkn=>?_⟩
    rw [gj m hm]
    by_cases ek:k=j
    ·rw [if_pos ek] at hkn; exact absurd hin hkn
    ·rw [gj k (by lia)] at hkn ⊢
     exact hl k (by lia) hkn
theorem b2i:∀ {fs:List (Option Nat)},none ∉ fs→∃ S:List Nat,fs=S.map some
 | [],_=>⟨[],rfl⟩
 | none :: r,h=>absurd (by simp) h
 | some a :: r,h=>let ⟨S,e⟩:=b2i (fs:=r) fun z=>h (by simp [z]); ⟨a :: S,by rw [e]; rfl⟩
theorem c0y (S:List Nat):a0z (S.map fun i:Nat=>FV.int i)=some (S.map fun i:Nat=>(i:Int))
:=by
 induction S with
 | nil=>rfl
 | cons a r ih=>show (a0z (r.map fun i:Nat=>FV.int i)).map ((a:Int) :: ·)=_; rw [ih]; rfl
theorem b9m {S:List Nat} {ms:List Int} (nd:S.Nodup) (hp:ms.Perm (S.map fun i:Nat=>(i:Int))) (hs:ms.Pairwise (·≤·)):∃ T:List Nat,ms=T.map (fun i:Nat=>(i:Int))∧T.Pairwise (· < ·)∧∀ a,a∈T↔a∈S:=by
 refine ⟨ms.map Int.toNat,?_,?_,fun a=>?_⟩
 ·rw [List.map_map]
  conv=>lhs; rw [← List.map_id ms]
  refine List.map_congr_left fun x hx=>?_
  obtain ⟨i,_,e⟩:=List.mem_map.mp (hp.mem_iff.mp hx)
  simp only [id,Function.comp]; lia
 ·rw [List.pairwise_map]
  have n2:ms.Nodup:=hp.nodup_iff.mpr (by rw [List.Nodup,List.pairwise_map]; exact nd.imp fun h e=>h (by lia))
  refine (hs.and n2).imp_of_mem fun {a b} ha hb h=>?_
  obtain ⟨i,_,e⟩:=List.mem_map.mp (hp.mem_iff.mp ha)
  obtain ⟨j,_,e2⟩:=List.mem_map.mp (hp.mem_iff.mp hb)
  have h1:=h.1
  have h2:a≠b:=h.2
  lia
 ·rw [List.mem_map]
  constructor
  ·rintro ⟨x,hx,rfl⟩
   obtain ⟨i,hi,e⟩:=List.mem_map.mp (hp.mem_iff.mp hx)
   rw [← e]; simpa using hi
  ·intro h
   exact ⟨(a:Int),hp.mem_iff.mpr (List.mem_map.mpr ⟨a,h,rfl⟩),by simp⟩
noncomputable def b3u (F:Nat→List (Option Nat)):Nat→List (Option Nat)
 | 0=>[]
 | j + 1=>if none ∉ F j∧(b3u F j=[] ∨ (F j).length < (b3u F j).length) then F j else b3u F j
theorem a4p {F G:Nat→List (Option Nat)}:∀ {j:Nat},(∀ k,k < j→F k=G k)→b3u F j=b3u G j
 | 0,_=>rfl
 | j + 1,h=>by rw [b3u,b3u,a4p fun k hk=>h k (by lia),h j (by lia)]
noncomputable def Nx (n:Nat) (fr:List Ent) (S:List Nat):Prop:=∃ F,(∀ k,k < n→Led fr k (F k))∧S.Pairwise (· < ·)∧∀ a,a∈S↔some a∈b3u F n
theorem b4l:∀ {S T:List Nat},S.Pairwise (· < ·)→T.Pairwise (· < ·)→(∀ a,a∈S↔a∈T)→S=T
 | [],[],_,_,_=>rfl
 | [],b :: T,_,_,h=>absurd ((h b).mpr (by simp)) (by simp)
 | a :: S,[],_,_,h=>absurd ((h a).mp (by simp)) (by simp)
 | a :: S,b :: T,h1,h2,h=>by
  obtain ⟨a1,a2⟩:=List.pairwise_cons.mp h1
  obtain ⟨b1,b2⟩:=List.pairwise_cons.mp h2
  have e:a=b:=by
   have x:=List.mem_cons.mp ((h a).mp (by simp))
   have y:=List.mem_cons.mp ((h b).mpr (by simp))
   rcases x with x | x
   ·exact x
   ·rcases y with y | y
    ·exact y.symm
    ·have:=a1 b y; have:=b1 a x; lia
  subst e
  rw [b4l a2 b2 fun c=>?_]
  have:=h c
  simp only [List.mem_cons] at this
  constructor
  ·intro hc
   rcases this.mp (.inr hc) with z | z
   ·subst z; exact absurd (a1 c hc) (by lia)
   ·exact z
  ·intro hc
   rcases this.mpr (.inr hc) with z | z
   ·subst z; exact absurd (b1 c hc) (by lia)
   ·exact z
theorem Nx.uniq {n:Nat} {fr:List Ent} {S T:List Nat} (h:Nx n fr S) (g:Nx n fr T):S=T:=by
 obtain ⟨F,f1,f2,f3⟩:=h
 obtain ⟨G,g1,g2,g3⟩:=g
 have e:=a4p (F:=F) (G:=G) (j:=n) fun k hk=>(f1 k hk).uniq (g1 k hk)
 exact b4l f2 g2 fun a=>by rw [f3,g3,e]
theorem d6q {fr:List Ent} {j:Nat} {fs gs:List (Option Nat)} {F:Nat→List (Option Nat)} (h:fs=b3u F j∧∀ k,k < j→Led fr k (F k)) (hg:Led fr j gs):(if none ∉ gs∧(fs=[] ∨ gs.length < fs.length) then gs else fs)=b3u (fun k=>if k=j then gs else F k) (j + 1)∧∀ k,k < j + 1→Led fr k ((fun k=>if k=j then gs else F k) k):=by
 have e:b3u (fun k=>if k=j then gs else F k) j=fs:=by
  rw [h.1]; exact a4p fun k hk=>if_neg (by lia)
 refine ⟨by rw [b3u,e,if_pos rfl],fun k hk=>?_⟩
 by_cases z:k=j
 ·subst z; simpa using hg
 ·simpa [z] using h.2 k (by lia)
theorem c4j (d n:Nat) {fr:List Ent} (nd:fr.Nodup) (hl:fr.length≤1000) (hb:Rng n fr) (hn:n≤60) {Q:FV×FV→Prop} (q0:(∀ m,m < n→Anc fr m none)→Nx n fr []→Q (.tup [],.non)) (q1:∀ S,Src n fr S→Nx n fr S→Q (.tup (S.map fun i:Nat=>.int i),.non)):callW tb (d + 2) 2 [.int n,.lst (fr.map a3v)] Q:=by
 refine a0o (fd:=fd2) rfl rfl ?_
 simp [fd2,bd2]
 refine ⟨a0q (by lia) (by lia),?_⟩
 refine a2d (I:=fun j L=>∃ fs F x y,Few fr j fs F∧(fs=b3u F j∧∀ k,k < j→Led fr k (F k))∧L=[some (FV.int n),some (FV.lst (fr.map a3v)),some (.lst (fs.map a0y)),x,y]) n 0 _ ⟨[],fun _=>[],none,none,⟨fun k hk=>by lia,.inl ⟨rfl,fun k hk=>by lia⟩⟩,⟨rfl,fun k hk=>by lia⟩,rfl⟩ (fun j L K _ hj hI hK=>?_) fun L hI=>?_
 ·obtain ⟨fs,F,x,y,hF,hX,rfl⟩:=hI
  simp
  refine c4r d n nd hl hb hn (by lia) fun gs hg hgl=>?_
  simp
  rw [show FV.non=a0y none from rfl,codL.inL]
  have hs:=hF.step hg
  have A:K [some (FV.int n),some (FV.lst (fr.map a3v)),some (.lst ((if none ∉ gs∧(fs=[] ∨ gs.length < fs.length) then gs else fs).map a0y)),some (FV.int j),some (.lst (gs.map a0y))]:=hK _ ⟨_,_,_,_,hs,d6q hX hgl,rfl⟩
  refine ite2 (fun g=>?_) fun g=>?_
  ·rw [if_neg fun z=>z.1 (of_decide_eq_true g)] at A; exact A
  ·have g:none ∉ gs:=of_decide_eq_false (Bool.eq_false_iff.mpr g)
   refine ite2 (fun g2=>?_) fun g2=>?_
   ·rw [if_pos ⟨g,.inl g2⟩] at A; exact A
   ·refine ite2 (fun g3=>?_) fun g3=>?_
    ·rw [if_pos ⟨g,.inr g3⟩] at A; exact A
    ·rw [if_neg (by rintro ⟨_,z | z⟩; exact g2 z; exact g3 z)] at A; exact A
 ·obtain ⟨fs,F,x,y,hF,hX,rfl⟩:=hI
  simp only [Nat.zero_add] at hF hX
  have hS:∃ S:List Nat,fs=S.map some:=by
   rcases hF.c with ⟨e,_⟩ | ⟨m,_,e,h0,_⟩
   ·exact ⟨[],e⟩
   ·exact b2i (e ▸ h0)
  obtain ⟨S,rfl⟩:=hS
  have ndS:S.Nodup:=by
   rcases hF.c with ⟨e,_⟩ | ⟨m,hm,e,h0,_⟩
   ·rw [List.map_eq_nil_iff.mp e]; exact List.nodup_nil
   ·have:=(hF.f m hm).1
    rw [← e,List.Nodup,List.pairwise_map] at this
    exact this.imp fun h z=>h (congrArg some z)
  have hlen:S.length≤n + 1:=by
   have:=b1e (n:=n) (fs:=S.map some) (by rw [List.Nodup,List.pairwise_map]; exact ndS.imp fun h z=>h (Option.some.inj z)) fun x hx=>by
    rcases hF.c with ⟨e,_⟩ | ⟨m,hm,e,h0,_⟩
    ·rw [e] at hx; cases hx
    ·exact b1u hb hm (((hF.f m hm).2 x).mp (e ▸ hx))
   simpa using this
  simp
  rw [show List.map (a0y ∘ some) S=S.map fun i:Nat=>FV.int i from rfl,c0y,a1c]
  refine ⟨by simp; lia,fun ms hp hs=>?_⟩
  obtain ⟨T,rfl,hup,hmem⟩:=b9m ndS hp hs
  rw [List.map_map]
  have hN:Nx n fr T:=⟨F,hX.2,hup,fun a=>by rw [hmem a,← hX.1]; simp⟩
  rcases hF.c with ⟨e,hz⟩ | ⟨m,hm,e,h0,hmin⟩
  ·have hT:T=[]:=by
    cases T with
    | nil=>rfl
    | cons a r =>
     have:=(hmem a).mp (by simp)
     rw [List.map_eq_nil_iff.mp e] at this; cases this
   rw [hT]
   exact q0 (fun k hk=>((hF.f k hk).2 none).mp (hz k hk)) (hT ▸ hN)
  ·exact q1 T (c7c hF.f (fun a t h=>(hb _ h).2 a rfl) hm h0 hmin hup fun a=>by rw [hmem a,← e]; simp) hN
noncomputable def kE (e:Ent):List (Option Int):=[e.1.map fun a:Nat=>(a:Int),some (e.2:Int)]
theorem b2s {a b:Ent} (h:kE a=kE b):a=b:=by
 obtain ⟨a1,a2⟩:=a
 obtain ⟨b1,b2⟩:=b
 simp only [kE,List.cons.injEq,Option.some.injEq,and_true] at h
 obtain ⟨h1,h2⟩:=h
 have:a2=b2:=by lia
 subst this
 cases a1 <;> cases b1 <;> simp at h1 <;> first | rfl | (have:=h1; congr 2; lia)
noncomputable def dn (z:Option PySem.Obj) (E:List Ent) (f:Ent→Int):FV:=.dcn z (E.map kE) (E.map fun e=>.int (f e))
theorem a7p (e:Ent) (Q:List (Option Int)→Prop):wp (a2h [a0y e.1,.int e.2]) Q↔Q (kE e):=by
 obtain ⟨a,b⟩:=e
 cases a <;> simp [a0y,kE]
theorem c4v (e:Ent):c9d (kE e)=a3v e:=by
 obtain ⟨a,b⟩:=e
 cases a <;> rfl
theorem b2w {f:Ent→Int} {e:Ent}:∀ {E:List Ent},e∈E→a2o (E.map kE) (E.map fun e=>FV.int (f e)) (kE e)=some (.int (f e))
 | x :: r,h=>by
  show (if kE x=kE e then some (FV.int (f x)) else a2o (r.map kE) (r.map fun e=>FV.int (f e)) (kE e))=_
  by_cases z:x=e
  ·subst z; rw [if_pos rfl]
  ·rw [if_neg fun h=>z (b2s h)]
   exact b2w ((List.mem_cons.mp h).resolve_left fun y=>z y.symm)
open Classical in
theorem c7w {f:Ent→Int} {e:Ent} {v:Int} {E:List Ent} (h:e∈E):a1q (E.map kE) (E.map fun e=>FV.int (f e)) (kE e) (.int v)=(E.map kE,E.map fun x=>FV.int (if x=e then v else f x)):=by
 unfold a1q
 rw [if_pos (List.mem_map_of_mem h)]
 congr 1
 clear h
 induction E with
 | nil=>rfl
 | cons x r ih =>
  simp only [List.map_cons,List.zipWith_cons_cons,ih]
  by_cases z:x=e
  ·subst z; simp
  ·rw [if_neg fun h=>z (b2s h),if_neg z]
theorem c3n {f:Ent→Int} {e:Ent} {E:List Ent} (h:e ∉ E):a1q (E.map kE) (E.map fun e=>FV.int (f e)) (kE e) (.int (f e))=((E++[e]).map kE,(E++[e]).map fun x=>FV.int (f x)):=by
 unfold a1q
 rw [if_neg fun z=>by obtain ⟨y,h1,h2⟩:=List.mem_map.mp z; exact h (b2s h2 ▸ h1)]
 simp
noncomputable def a3r (n:Nat) (cs:List Chg):List Ent:=(List.range n).map (fun m=>(none,m))++cs.map fun c=>(some c.1,c.2.1)
theorem c1h (d:Nat) {ws:List Int} {cs:List Chg} {sz:Ent→Int} (hn:ws.length≤60) (hc:cs.length≤500) (nd:(a3r ws.length cs).Nodup) (h1:∀ m (h:m < ws.length),sz (none,m)=ws[m]) (h2:∀ c∈cs,sz (some c.1,c.2.1)=c.2.2) {Q:FV×FV→Prop} (q:Q (dn none (a3r ws.length cs) sz,.non)):callW tb (d + 1) 1 [a3g ws cs] Q:=by
 refine a0o (fd:=fd1) rfl rfl ?_
 simp [fd1,bd1,a3g]
 have ep:a2y (upF 0 ws.length) (ws.map .int)=(List.range ws.length).map fun m:Nat=>FV.tup [.int (m:Int),.int (sz (none,m))]:=by
  rw [a2a]
  apply List.ext_getElem
  ·simp [a2y]
  ·intro i g1 g2
   simp [a2y] at g2 ⊢
   exact (h1 i g2).symm
 rw [ep]
 refine ⟨by simp [big]; lia,?_⟩
 have n1:((List.range ws.length).map fun m=>((none,m):Ent)).Nodup:=(List.nodup_append.mp nd).1
 refine a9x (f:=fun m:Nat=>FV.tup [.int (m:Int),.int (sz (none,m))]) (g:=fun m=>kE (none,m)) (h:=fun m=>FV.int (sz (none,m))) (List.range ws.length) [] [] (by simp) ?_ (fun m hm K k=>?_) ?_
 ·rw [List.Nodup,List.pairwise_map] at n1 ⊢
  exact n1.imp fun h z=>h (b2s z)
 ·simp
  exact ⟨by decide,k⟩
 ·simp
  refine a2q (f:=a9p) (I:=fun done L=>∃ x y z,L=[some (FV.tup [FV.tup (ws.map .int),FV.tup (cs.map a9p)]),some (dn none (a3r ws.length done) sz),x,y,z]) cs cs [] _ rfl ⟨none,none,none,by simp [a3r,dn,Function.comp_def]⟩ (fun dd c r L K e hI hK=>?_) fun L hI=>?_
  ·obtain ⟨x,y,z,rfl⟩:=hI
   have hin:c∈cs:=by rw [e]; simp
   have hne:((some c.1,c.2.1):Ent) ∉ a3r ws.length dd:=by
    rw [e,a3r,List.map_append,List.map_cons,← List.append_assoc] at nd
    exact fun z=>(List.nodup_append.mp nd).2.2 _ z _ (by simp) rfl
   have hl:(a3r ws.length dd).length < big:=by
    have:dd.length≤cs.length:=by rw [e]; simp
    simp [a3r,big]; lia
   have hp:=c3n (f:=sz) hne
   rw [h2 c hin] at hp
   simp [a9p,dn]
   refine ⟨by decide,by simpa using hl,?_⟩
   rw [show [some ((c.1:Nat):Int),some ((c.2.1:Nat):Int)]=kE (some c.1,c.2.1) from rfl,hp]
   exact hK _ ⟨some (FV.int c.1),some (FV.int c.2.1),some (FV.int c.2.2),by simp [a3r,dn]⟩
  ·obtain ⟨x,y,z,rfl⟩:=hI
   simp
   exact q
noncomputable def c9a (us:List Ent):FV:=.dci (us.map fun e=>(e.2:Int)) (us.map fun e=>a0y e.1)
theorem b2v {e:Ent}:∀ {us:List Ent},(us.map (·.2)).Nodup→e∈us→a2o (us.map fun e=>(e.2:Int)) (us.map fun e=>a0y e.1) (e.2:Int)=some (a0y e.1)
 | x :: r,nd,h=>by
  show (if (x.2:Int)=e.2 then some (a0y x.1) else a2o (r.map fun e=>(e.2:Int)) (r.map fun e=>a0y e.1) (e.2:Int))=_
  simp only [List.map_cons,List.nodup_cons] at nd
  rcases List.mem_cons.mp h with rfl | h
  ·rw [if_pos rfl]
  ·rw [if_neg fun z=>nd.1 (List.mem_map.mpr ⟨e,h,by lia⟩)]
   exact b2v nd.2 h
theorem a8a {n:Nat} {D:List Nat} (nd:D.Nodup) (h:∀ x∈D,x < n):D.length≤n:=by
 have:=nd.length_le_of_subset (l₂:=List.range n) fun x hx=>List.mem_range.mpr (h x hx)
 simpa using this
theorem c1u {n:Nat} {D:List Nat} (nd:D.Nodup) (h:∀ x∈D,x < n) (hl:n≤D.length) {m:Nat} (hm:m < n):m∈D:=by
 refine Classical.byContradiction fun z=>?_
 have:=a8a (n:=n) (D:=m :: D) (List.nodup_cons.mpr ⟨z,nd⟩) fun x hx=>(List.mem_cons.mp hx).elim (fun e=>e ▸ hm) (h x)
 simp at this; lia
noncomputable def c2t (fr:List Ent):Nat→List Ent
 | 0=>[]
 | k + 1=>match fr.find? (may ((c2t fr k).map (·.2))) with
  | some e=>c2t fr k++[e]
  | none=>c2t fr k
noncomputable def c4u (n:Nat) (fr:List Ent):List (Option Nat):=(List.range n).map fun m=>(((c2t fr n).find? fun e=>decide (e.2=m)).map (·.1)).getD none
theorem c4t (d n:Nat) {E:List Ent} {sz:Ent→Int} {fr:List Ent} {ps:List Prc} (H:Lrm n E sz fr ps) (hl:fr.length≤1000) (hb:Rng n fr) (hn:n≤60) (ha:∀ m,m < n→Anc fr m none) {Q:FV×FV→Prop} (q:∀ us,Cnt fr ps us→(∀ m,m < n→m∈us.map (·.2))→(∀ ls:List (Option Nat),ls.length=n→(∀ m,m < n→∃ e∈us,e.2=m∧ls[m]?=some e.1)→ls=c4u n fr→Q (.tup (ls.map a0y),.non))):callW tb (d + 1) 4 [.int n,.lst (fr.map a3v)] Q:=by
 refine a0o (fd:=fd4) rfl rfl ?_
 simp [fd4,bd4]
 refine while_by (I:=fun k L=>∃ us x y,k=n - us.length∧Cnt fr ps us∧us=c2t fr us.length∧L=[some (.int n),some (.lst (fr.map a3v)),some (c9a us),x,y]) (fun k L K h hK=>?_) (m:=n) ⟨[],none,none,rfl,⟨⟨by simp,by simp,by simp⟩,fun q hq=>by simp [a7f]⟩,rfl,rfl⟩
 obtain ⟨us,x,y,rfl,h,hu,rfl⟩:=h
 have lt:∀ x∈us.map (·.2),x < n:=fun x hx=>by
  obtain ⟨e,he,rfl⟩:=List.mem_map.mp hx
  exact (hb e (h.sub e he)).1
 have hle:=a8a h.nd lt
 simp [c9a]
 refine ite2 (fun hk=>?_) fun hk=>?_
 ·obtain ⟨m,hm,hmD⟩:∃ m,m < n∧m ∉ us.map (·.2):=by
   refine Classical.byContradiction fun z=>?_
   have:∀ m∈List.range n,m∈us.map (·.2):=fun m hm=>Classical.byContradiction fun w=>z ⟨m,List.mem_range.mp hm,w⟩
   have:=List.nodup_range.length_le_of_subset this
   simp at this; lia
  obtain ⟨e,he⟩:=c0s hmD (ha m hm)
  have hstep:=h.step H he
  have m1:e.2 ∉ us.map (·.2):=by
   have:=List.find?_some he
   simp only [may,Bool.and_eq_true,Bool.not_eq_true',decide_eq_false_iff_not] at this
   exact this.1
  have memI:∀ a:Nat,(a:Int)∈us.map (fun e=>(e.2:Int))↔a∈us.map (·.2):=fun a=>by
   simp only [List.mem_map]
   exact ⟨fun ⟨e,h1,h2⟩=>⟨e,h1,by lia⟩,fun ⟨e,h1,h2⟩=>⟨e,h1,by lia⟩⟩
  refine ⟨by simp only [big]; lia,?_⟩
  refine a0w (f:=a3v) (g:=a3v) (p:=may (us.map (·.2))) fr [] (fun c hc K N k1 k2=>?_) ?_
  ·obtain ⟨on,t⟩:=c
   cases on with
   | none =>
    show gW _ (FV.tup [.non,.int (t:Int)]) _ _
    simp
    refine ite2 (fun g=>k1 ?_) fun g=>k2 ?_
    ·simp only [Bool.not_eq_true',decide_eq_false_iff_not,memI] at g
     simp only [may,g]; simp
    ·simp only [Bool.not_eq_true',decide_eq_false_iff_not,memI,Classical.not_not] at g
     simp only [may,g]; simp
   | some a =>
    show gW _ (FV.tup [.int (a:Int),.int (t:Int)]) _ _
    simp
    refine ite2 (fun g=>ite2 (fun g'=>k1 ?_) fun g'=>k2 ?_) fun g=>k2 ?_
    ·simp only [Bool.not_eq_true',decide_eq_false_iff_not,memI] at g
     simp only [decide_eq_true_eq,memI] at g'
     simp only [may,g,g']; simp
    ·simp only [decide_eq_true_eq,memI] at g'
     simp only [may,g']; simp
    ·simp only [Bool.not_eq_true',decide_eq_false_iff_not,memI,Classical.not_not] at g
     simp only [may,g]; simp
  ·obtain ⟨r,er⟩:∃ r,fr.filter (may (us.map (·.2)))=e :: r:=by
    have:=List.head?_filter (p:=may (us.map (·.2))) (l:=fr)
    rw [he] at this
    cases z:fr.filter (may (us.map (·.2))) with
    | nil=>rw [z] at this; cases this
    | cons x r=>rw [z] at this; cases this; exact ⟨r,rfl⟩
   rw [er]
   simp [a3v]
   have hp:a1q (us.map fun e=>(e.2:Int)) (us.map fun e=>a0y e.1) (e.2:Int) (a0y e.1)=((us++[e]).map (fun e=>(e.2:Int)),(us++[e]).map fun e=>a0y e.1):=by
    unfold a1q
    rw [if_neg fun z=>m1 ((memI e.2).mp z)]
    simp
   rw [hp]
   refine ⟨by simp only [big]; lia,hK _ _ ?_ ⟨us++[e],some (a0y e.1),some (.int e.2),rfl,hstep,by rw [List.length_append]; show _=c2t fr (us.length + 1); rw [c2t,← hu,he],rfl⟩⟩
   simp; lia
 ·have hall:∀ m,m < n→m∈us.map (·.2):=fun m hm=>c1u h.nd lt (by simp; lia) hm
  refine ⟨a0q (by lia) (by lia),by simp [a2a,big]; lia,?_⟩
  rw [a2a]
  have at':∀ m,m < n→∃ e∈us,e.2=m∧(us.find? fun e=>decide (e.2=m))=some e:=fun m hm=>by
   obtain ⟨e,he,em⟩:=List.mem_map.mp (hall m hm)
   cases z:us.find? fun e=>decide (e.2=m) with
   | none=>exact absurd (decide_eq_true em) (List.find?_eq_none.mp z e he)
   | some e'=>exact ⟨e',List.mem_of_find?_eq_some z,by simpa using List.find?_some z,rfl⟩
  refine a0p (f:=fun m:Nat=>FV.int (m:Int)) (g:=fun m=>a0y (((us.find? fun e=>decide (e.2=m)).map (·.1)).getD none)) (List.range n) [] (fun m hm K k=>?_) ?_
  ·obtain ⟨e,he,em,ef⟩:=at' m (List.mem_range.mp hm)
   rw [ef] at k
   simp
   rw [← em,b2v h.nd he,a1c]
   exact k
  ·have:=q us h hall ((List.range n).map fun m=>((us.find? fun e=>decide (e.2=m)).map (·.1)).getD none) (by simp) fun m hm=>by
    obtain ⟨e,he,em,ef⟩:=at' m hm
    exact ⟨e,he,em,by simp [hm,ef]⟩
   have hun:us=c2t fr n:=by
    have e0:us.length=n:=by have:=hle; simp at this; lia
    rw [← e0]; exact hu
   have:=this (by unfold c4u; rw [← hun])
   simpa [Function.comp_def] using this
theorem codI:Cod FV.int D.int:=⟨fun k x=>rfl,fun x y=>by rw [Bool.eq_iff_iff]; simp [D.eqv]⟩
noncomputable def a6f (q:Prc):FV:=.tup [.tup (q.S.map fun i:Nat=>.int i),.int q.p]
theorem b7f {S:List Nat} {x:Option Nat} {R:Bool→Prop}:wp (inF (a0y x) (.tup (S.map fun i:Nat=>FV.int i))) R↔R (decide (x∈S.map some)):=by
 have:=codL.inT x (S.map some) R
 rw [List.map_map] at this
 exact this
theorem a8e (S:List Nat) (e:Ent):ent S e=(decide (some e.2∈S.map some) && !decide (e.1∈S.map some)):=by
 obtain ⟨on,t⟩:=e
 cases on <;> simp [ent]
noncomputable def Nxt (n:Nat) (fr:List Ent) (S:List Nat):Prop:=(S=[]∧∀ m,m < n→Anc fr m none) ∨ Src n fr S
structure Est (n:Nat) (E:List Ent) (sz:Ent→Int):Prop where
 nd:E.Nodup
 rg:Rng n E
 who:∀ m,m < n→(none,m)∈E
 pos:∀ e∈E,0 < sz e
 bd:∀ e∈E,sz e≤100000000000
 le:E.length≤560
theorem d0a {ps:List Prc} (h:∀ q∈ps,0 < q.p) (e:Ent):0≤due ps e:=by
 rw [b3c]
 induction ps with
 | nil=>simp
 | cons q r ih =>
  have:=ih fun x hx=>h x (by simp [hx])
  have:=h q (by simp)
  simp only [List.map_cons,List.sum_cons]
  split <;> lia
theorem c1m {z:Option PySem.Obj} {E:List Ent} {f g:Ent→Int} (h:∀ e∈E,f e=g e):dn z E f=dn z E g:=by
 unfold dn
 congr 1
 exact List.map_congr_left fun e he=>by rw [h e he]
theorem b7u {e:Ent} {q:Prc} (he:ent q.S e=true):∀ {ps:List Prc},(∀ q∈ps,0 < q.p)→q∈ps→q.p≤due ps e
 | r :: ps,h,hq=>by
  have e0:due (r :: ps) e=(if ent r.S e=true then r.p else 0) + due ps e:=by rw [b3c,b3c]; rfl
  have h1:=d0a (fun x hx=>h x (by simp [hx]):∀ x∈ps,0 < x.p) e
  have h2:=h r (by simp)
  rw [e0]
  rcases List.mem_cons.mp hq with rfl | hq
  ·rw [if_pos he]; lia
  ·have:=b7u he (fun x hx=>h x (by simp [hx])) hq
   split <;> lia
theorem c8u (S:List Nat):noL (.tup (S.map fun i:Nat=>.int i))=true:=by
 have:=a7s (f:=fun i:Nat=>FV.int i) (fun i=>by simp) S
 simp only [noL,this]
theorem c8t (S:List (Option Nat)):noL (.tup (S.map a0y))=true:=by
 have:=a7s (f:=a0y) (fun i=>by cases i <;> simp [a0y,noL]) S
 simp only [noL,this]
theorem c2o (d n:Nat) {fr:List Ent} (nd:fr.Nodup) (hl:fr.length≤1000) (hb:Rng n fr) (hn:n≤60) {Q:FV×FV→Prop} (q:∀ S,Nxt n fr S→Nx n fr S→Q (.tup (S.map fun i:Nat=>.int i),.non)):callW tb (d + 2) 2 [.int n,.lst (fr.map a3v)] Q:=c4j d n nd hl hb hn (fun h x=>q [] (.inl ⟨rfl,h⟩) x) fun S h x=>q S (.inr h) x
inductive Rrun (n:Nat) (E:List Ent) (sz:Ent→Int):Nat→List Ent→List Prc→Prop
 | nil:Rrun n E sz 0 [] []
 | step {k:Nat} {fr:List Ent} {ps:List Prc} {S:List Nat} {p:Int}:Rrun n E sz k fr ps→Nx n fr S→S≠[]→(∀ e∈E,ent S e=true→p≤sz e - due ps e)→(∃ e∈E,ent S e=true∧sz e - due ps e=p)→Rrun n E sz (k + 1) (fr++E.filter fun e=>ent S e && decide (sz e - due ps e=p)) (ps++[⟨S,p,fr.length⟩])
theorem Rrun.uniq {n:Nat} {E:List Ent} {sz:Ent→Int} {k:Nat} {fr:List Ent} {ps:List Prc} (h:Rrun n E sz k fr ps):∀ {fr':List Ent} {ps':List Prc},Rrun n E sz k fr' ps'→fr=fr'∧ps=ps':=by
 induction h with
 | nil=>intro fr' ps' g; cases g; exact ⟨rfl,rfl⟩
 | step h1 hx hn hl he ih =>
  intro fr' ps' g
  cases g with
  | step g1 gx gn gl ge =>
   obtain ⟨rfl,rfl⟩:=ih g1
   have e:=hx.uniq gx
   subst e
   obtain ⟨x,x1,x2,x3⟩:=he
   obtain ⟨y,y1,y2,y3⟩:=ge
   have:=hl y y1 y2
   have:=gl x x1 x2
   exact ⟨by congr 3; funext z; congr 3; lia,by congr 3; lia⟩
theorem Rrun.less {n:Nat} {E:List Ent} {sz:Ent→Int} {k:Nat} {fr:List Ent} {ps:List Prc} (h:Rrun n E sz k fr ps):∀ j,j < k→∃ fr ps S,Rrun n E sz j fr ps∧Nx n fr S∧S≠[]:=by
 induction h with
 | nil=>intro j hj; lia
 | @step k fr ps S p h1 hx hn hl he ih =>
  intro j hj
  by_cases z:j < k
  ·exact ih j z
  ·have:j=k:=by lia
   subst this
   exact ⟨fr,ps,S,h1,hx,hn⟩
noncomputable def Tx (n:Nat) (E:List Ent) (sz:Ent→Int) (ps:List Prc) (ls:List (Option Nat)):Prop:=∃ k fr,Rrun n E sz k fr ps∧Nx n fr []∧ls=c4u n fr
theorem Tx.uniq {n:Nat} {E:List Ent} {sz:Ent→Int} {ps ps':List Prc} {ls ls':List (Option Nat)} (h:Tx n E sz ps ls) (g:Tx n E sz ps' ls'):ps=ps'∧ls=ls':=by
 obtain ⟨k,fr,h1,h2,rfl⟩:=h
 obtain ⟨k',fr',g1,g2,rfl⟩:=g
 have no:∀ {a b:Nat} {fr fr':List Ent} {ps ps':List Prc},Rrun n E sz a fr ps→Nx n fr []→Rrun n E sz b fr' ps'→¬ a < b:=fun x1 x2 x3 hab=>by
  obtain ⟨fr2,ps2,S,z1,z2,z3⟩:=x3.less _ hab
  obtain ⟨rfl,rfl⟩:=x1.uniq z1
  exact z3 (z2.uniq x2)
 have:k=k':=by
  have:=no h1 h2 g1
  have:=no g1 g2 h1
  lia
 subst this
 obtain ⟨rfl,rfl⟩:=h1.uniq g1
 exact ⟨rfl,rfl⟩
theorem c3k (d:Nat) {ws:List Int} {cs:List Chg} {sz:Ent→Int} (hn:ws.length≤60) (hc:cs.length≤500) (h1:∀ m (h:m < ws.length),sz (none,m)=ws[m]) (h2:∀ c∈cs,sz (some c.1,c.2.1)=c.2.2) (G:Est ws.length (a3r ws.length cs) sz) {Q:FV×FV→Prop}
  (q:∀ (fr:List Ent) (ps:List Prc) (us:List Ent) (ls:List (Option Nat)),Lrm ws.length (a3r ws.length cs) sz fr ps→Cnt fr ps us→(∀ m,m < ws.length→m∈us.map (·.2))→ls.length=ws.length→(∀ m,m < ws.length→∃ e∈us,e.2=m∧ls[m]?=some e.1)→ps.length≤(a3r ws.length cs).length→Tx ws.length (a3r ws.length cs) sz ps ls→Q (.tup [.int (ps.map (·.p)).sum,.tup (ls.map a0y),.lst (ps.map a6f)],.non)):callW tb (d + 3) 0 [a3g ws cs] Q:=by
 refine a0o (fd:=fd0) rfl rfl ?_
 simp [fd0,bd0]
 rw [show ∀ Q:List FV→Prop,wp (a4w (a3g ws cs)) Q↔Q [.tup (ws.map .int),.tup (cs.map a9p)] from fun _=>Iff.rfl]
 simp
 refine c1h (d + 1) hn hc G.nd h1 h2 ?_
 generalize eE:a3r ws.length cs=E at G q
 generalize en:ws.length=n at hn G q
 have gle:=G.le
 simp
 refine c2o d n (fr:=[]) (by simp) (by simp) (fun e he=>nomatch he) hn fun S0 hS0 hX0=>?_
 simp
 refine ⟨c8u S0,?_⟩
 refine while_by (I:=fun k L=>∃ fr ps S x y z,k=E.length - fr.length∧Lrm n E sz fr ps∧Nxt n fr S∧ps.length≤fr.length∧(∃ j,Rrun n E sz j fr ps)∧Nx n fr S∧L=[some (a3g ws cs),some (.int n),some (dn none E fun e=>sz e - due ps e),some (.lst (fr.map a3v)),some (.lst (ps.map a6f)),some (.tup (S.map fun i:Nat=>.int i)),x,y,z]) (fun k L K h hK=>?_) (m:=E.length) ⟨[],[],S0,none,none,none,rfl,.start G.pos,hS0,by simp,⟨0,.nil⟩,hX0,by simp [due]⟩
 obtain ⟨fr,ps,S,x,y,z,rfl,h,hS,hpf,⟨jj,hRn⟩,hNx,rfl⟩:=h
 have hfl:fr.length≤E.length:=h.nd.length_le_of_subset h.sub
 simp
 refine ite2 (fun hz=>?_) fun hz=>?_
 ·have ha:∀ m,m < n→Anc fr m none:=by
   rcases hS with ⟨_,h⟩ | h
   ·exact h
   ·exact absurd hz h.ne
  refine ⟨by simp only [big]; lia,?_⟩
  refine a0p (f:=a6f) (g:=fun q=>.int q.p) ps [] (fun q hq K k=>?_) ?_
  ·simp [a6f]
   exact k
  ·rw [List.nil_append,show (ps.map fun q=>FV.int q.p)=(ps.map (·.p)).map .int by rw [List.map_map]; rfl]
   refine b0o (by simp; lia) (fun x hx=>?_) ?_
   ·obtain ⟨q,hq,rfl⟩:=List.mem_map.mp hx
    obtain ⟨e,g1,g2⟩:=h.hit q hq
    have:=b7u g2 h.pos hq
    have:=h.pos q hq
    have:=(h.free e (h.sub e g1)).mp g1
    have:=G.bd e (h.sub e g1)
    lia
   ·simp
    refine c4t (d + 1) n h (by lia) (fun e he=>G.rg e (h.sub e he)) hn ha fun us c hall ls hls hat hlx=>?_
    exact ⟨c8t ls,by decide,q fr ps us ls h c hall hls hat (by lia) ⟨jj,fr,hRn,hz ▸ hNx,hlx⟩⟩
 ·have hS:Src n fr S:=hS.resolve_left fun z=>hz z.1
  obtain ⟨m0,hm0⟩:∃ m,m∈S:=List.exists_mem_of_ne_nil S hz
  rw [show (dn none E fun e=>sz e - due ps e)=.dcn none (E.map kE) (E.map fun e=>.int (sz e - due ps e)) from rfl]
  dsimp only
  intro o
  refine ⟨by simp [big]; lia,?_⟩
  rw [List.map_map,show (c9d ∘ kE)=a3v from funext c4v]
  refine a0w (f:=a3v) (g:=a3v) (p:=ent S) E [] (fun e he K N k1 k2=>?_) ?_
  ·simp [a3v]
   rw [show FV.int (e.2:Int)=a0y (some e.2) from rfl,b7f]
   refine ite2 (fun g1=>?_) fun g1=>?_
   ·rw [b7f]
    refine ite2 (fun g2=>k2 ?_) fun g2=>⟨by decide,k1 ?_⟩
    ·rw [a8e,g1,g2]; rfl
    ·rw [a8e,g1,Bool.eq_false_iff.mpr g2]; rfl
   ·exact k2 (by rw [a8e,Bool.eq_false_iff.mpr g1]; rfl)
  ·have hEs:∀ e,e∈E.filter (ent S)↔e∈E∧ent S e=true:=fun e=>List.mem_filter
   have ndEs:(E.filter (ent S)).Nodup:=G.nd.filter _
   have lEs:(E.filter (ent S)).length≤E.length:=List.length_filter_le _ _
   have neEs:(none,m0)∈E.filter (ent S):=(hEs _).mpr ⟨G.who m0 (hS.lt m0 hm0),ent_iff.mpr ⟨hm0,fun a e=>nomatch e⟩⟩
   have fEs:∀ p,(E.filter fun e=>ent S e && decide (sz e - due ps e=p))=(E.filter (ent S)).filter fun e=>decide (sz e - due ps e=p):=fun p=>by
    rw [List.filter_filter]
    congr 1
    funext e
    exact Bool.and_comm _ _
   have hst:=fun p h1 h2=>h.step (p:=p) hS G.nd h1 h2
   have hrn:=fun p h1 h2=>Rrun.step (p:=p) hRn hNx hz h1 h2
   simp only [fEs] at hst hrn
   simp
   generalize E.filter (ent S)=Es at hEs ndEs lEs neEs hst hrn ⊢
   refine ⟨by simp only [big]; lia,?_⟩
   refine a0p (f:=a3v) (g:=fun e=>.int (sz e - due ps e)) Es [] (fun e he K k=>?_) ?_
   ·simp [a3v]
    rw [a7p,b2w ((hEs e).mp he).1,a1c]
    exact k
   ·obtain ⟨e0,r0,e1⟩:∃ e0 r0,Es=e0 :: r0:=by
     cases Es with
     | nil=>cases neEs
     | cons a b=>exact ⟨a,b,rfl⟩
    rw [List.nil_append,show (Es.map fun e=>FV.int (sz e - due ps e))=(Es.map fun e=>sz e - due ps e).map .int by rw [List.map_map]; rfl,b6i (x:=sz e0 - due ps e0) (r:=r0.map fun e=>sz e - due ps e) (by rw [e1]; rfl)]
    have hin:=a5q (r0.map fun e=>sz e - due ps e) (sz e0 - due ps e0)
    have hle:=a4g (r0.map fun e=>sz e - due ps e) (sz e0 - due ps e0)
    generalize a1f (sz e0 - due ps e0) (r0.map fun e=>sz e - due ps e)=p at hin hle ⊢
    have hle':∀ e∈Es,p≤sz e - due ps e:=fun e he=>by
     rw [e1] at he
     rcases List.mem_cons.mp he with rfl | he
     ·exact hle.1
     ·exact hle.2 _ (List.mem_map.mpr ⟨e,he,rfl⟩)
    have hin':∃ e∈Es,sz e - due ps e=p:=by
     rcases List.mem_cons.mp hin with z | z
     ·exact ⟨e0,by rw [e1]; simp,z.symm⟩
     ·obtain ⟨e,g1,g2⟩:=List.mem_map.mp z
      exact ⟨e,by rw [e1]; simp [g1],g2⟩
    have pz1:∀ e∈E,ent S e=true→p≤sz e - due ps e:=fun e he g=>hle' e ((hEs e).mpr ⟨he,g⟩)
    have pz2:∃ e∈E,ent S e=true∧sz e - due ps e=p:=by
     obtain ⟨e,g1,g2⟩:=hin'
     exact ⟨e,((hEs e).mp g1).1,((hEs e).mp g1).2,g2⟩
    obtain ⟨hp,h'⟩:=hst p pz1 pz2
    have hr':=hrn p pz1 pz2
    simp
    refine ⟨by decide,by simp only [big]; lia,?_⟩
    have dl:(E.map kE).length < big:=by simp [big]; lia
    refine a2q (f:=a3v) (I:=fun done L=>∃ z,L=[some (a3g ws cs),some (FV.int n),some (dn none E fun e=>sz e - due ps e - if e∈done then p else 0),some (FV.lst (fr.map a3v)),some (FV.lst ((ps++[(⟨S,p,fr.length⟩:Prc)]).map a6f)),some (FV.tup (S.map fun i:Nat=>FV.int i)),some (FV.lst (Es.map a3v)),some (FV.int p),z]) Es Es [] _ rfl ⟨z,by simp [dn,a6f]⟩ (fun dd e r L K e2 hI hK=>?_) fun L hI=>?_
    ·obtain ⟨z,rfl⟩:=hI
     have heE:e∈E:=((hEs e).mp (by rw [e2]; simp)).1
     have hed:e ∉ dd:=by
      rw [e2] at ndEs
      exact fun z=>(List.nodup_append.mp ndEs).2.2 _ z _ (by simp) rfl
     simp [a3v,dn]
     rw [a7p,b2w heE,a1c]
     simp
     rw [a7p,c7w heE]
     refine ⟨by simpa using dl,hK _ ⟨some (a3v e),?_⟩⟩
     simp [dn,a3v]
     intro a b _
     by_cases g:(a,b)=e
     ·subst g
      rw [if_pos rfl,if_neg hed,if_pos (.inr rfl)]; lia
     ·rw [if_neg g]
      congr 1
      by_cases g2:(a,b)∈dd
      ·rw [if_pos g2,if_pos (.inl g2)]
      ·rw [if_neg g2,if_neg fun z=>z.elim g2 g]
    ·obtain ⟨z,rfl⟩:=hI
     have ed:(dn none E fun e=>sz e - due ps e - if e∈Es then p else 0)=dn none E fun e=>sz e - due (ps++[⟨S,p,fr.length⟩]) e:=c1m fun e he=>by
      rw [a5h]
      by_cases g:ent S e=true
      ·rw [if_pos ((hEs e).mpr ⟨he,g⟩),if_pos g]; lia
      ·rw [if_neg fun z=>g ((hEs e).mp z).2,if_neg g]; lia
     rw [ed]
     simp
     refine ⟨by simp only [big]; lia,?_⟩
     refine a0w (f:=a3v) (g:=a3v) (p:=fun e=>decide (sz e - due ps e=p)) Es [] (fun e he K N k1 k2=>?_) ?_
     ·simp [a3v,dn]
      rw [a7p,b2w ((hEs e).mp he).1,a1c,a5h,if_pos ((hEs e).mp he).2]
      rw [codI.eq]
      refine ite2 (fun g=>k1 ?_) fun g=>k2 ?_
      ·have g:=of_decide_eq_true g
       exact decide_eq_true (by lia)
      ·have g:=of_decide_eq_false (Bool.eq_false_iff.mpr g)
       exact decide_eq_false (by lia)
     ·have hfp:1≤(Es.filter fun e=>decide (sz e - due ps e=p)).length:=by
       obtain ⟨e,g1,g2⟩:=hin'
       exact List.length_pos_of_mem (List.mem_filter.mpr ⟨g1,decide_eq_true g2⟩)
      have hl2:=h'.nd.length_le_of_subset h'.sub
      simp
      simp only [List.length_append] at hl2
      refine ⟨by simp only [big]; lia,?_⟩
      rw [← List.map_append]
      refine c2o d n h'.nd (by simp only [List.length_append]; lia) (fun e he=>G.rg e (h'.sub e he)) hn fun S' hS' hX'=>⟨c8u S',hK _ _ ?_ ⟨_,_,S',some (FV.lst (Es.map a3v)),some (FV.int p),z,rfl,h',hS',?_,⟨_,hr'⟩,hX',by simp⟩⟩
      ·simp only [List.length_append]; lia
      ·simp only [List.length_append,List.length_cons,List.length_nil]; lia
noncomputable def d2i:Option Nat→Int | none=>-1 | some a=>a
theorem b7g {S:List Nat} {i:Int} {R:Bool→Prop}:wp (inF (.int i) (.tup (S.map fun j:Nat=>FV.int j))) R↔R (decide (i∈S.map fun j:Nat=>(j:Int))):=by
 have:=codI.inT i (S.map fun j:Nat=>(j:Int)) R
 rw [List.map_map] at this
 exact this
theorem b1l (S:List Nat) (e:Ent):ent S e=(decide ((e.2:Int)∈S.map fun j:Nat=>(j:Int)) && !decide (d2i e.1∈S.map fun j:Nat=>(j:Int))):=by
 obtain ⟨on,t⟩:=e
 have h:∀ a:Nat,((a:Int)∈S.map fun j:Nat=>(j:Int))↔a∈S:=fun a=>by
  rw [List.mem_map]
  exact ⟨fun ⟨x,h1,h2⟩=>by rwa [← show x=a by lia],fun h=>⟨a,h,rfl⟩⟩
 cases on with
 | none =>
  have:(-1:Int) ∉ S.map fun j:Nat=>(j:Int):=fun z=>by
   obtain ⟨x,_,h2⟩:=List.mem_map.mp z
   lia
  simp [ent,d2i,h,this]
 | some a=>simp [ent,d2i,h]
theorem b7d (d:Nat) {ps:List Prc} (e:Ent) (hl:ps.length≤1000) (hp:∀ q∈ps,0≤q.p∧q.p≤100000000000) {Q:FV×FV→Prop} (q:Q (.int (due ps e),.non)):callW tb (d + 1) 17 [.lst (ps.map a6f),.int (d2i e.1),.int e.2] Q:=by
 refine a0o (fd:=d7g) rfl rfl ?_
 simp [d7g,d2j]
 refine ⟨by simp only [big]; lia,?_⟩
 refine a0w (f:=a6f) (g:=fun q=>.int q.p) (p:=fun q=>ent q.S e) ps [] (fun c hc K N k1 k2=>?_) ?_
 ·simp [a6f]
  rw [b7g]
  refine ite2 (fun g1=>?_) fun g1=>?_
  ·rw [b7g]
   refine ite2 (fun g2=>k2 ?_) fun g2=>k1 ?_
   ·rw [b1l,g1,g2]; rfl
   ·rw [b1l,g1,Bool.eq_false_iff.mpr g2]; rfl
  ·exact k2 (by rw [b1l,Bool.eq_false_iff.mpr g1]; rfl)
 ·rw [List.nil_append,show ((ps.filter fun q=>ent q.S e).map fun q=>FV.int q.p)=((ps.filter fun q=>ent q.S e).map (·.p)).map .int by rw [List.map_map]; rfl]
  refine b0o (by have:=List.length_filter_le (fun q:Prc=>ent q.S e) ps; simp; lia) (fun x hx=>?_) q
  obtain ⟨c,hc,rfl⟩:=List.mem_map.mp hx
  exact hp c (List.mem_filter.mp hc).1
structure Sto (ws:List Int) (cs:List Chg) (sz:Ent→Int):Prop where
 n:ws.length≤12
 l:cs.length≤144
 w:∀ m (h:m < ws.length),sz (none,m)=ws[m]
 c:∀ c∈cs,sz (some c.1,c.2.1)=c.2.2
 r:∀ c∈cs,c.1 < ws.length∧c.2.1 < ws.length∧c.1≠c.2.1
 k:(cs.map fun c=>(c.1,c.2.1)).Nodup
 p:∀ e∈a3r ws.length cs,0 < sz e∧sz e≤2000000000
theorem Sto.nd {ws:List Int} {cs:List Chg} {sz:Ent→Int} (h:Sto ws cs sz):(a3r ws.length cs).Nodup:=by
 have hk:=h.k
 unfold a3r
 refine List.nodup_append.mpr ⟨?_,?_,fun a ha b hb e=>?_⟩
 ·rw [List.Nodup,List.pairwise_map]
  exact List.nodup_range.imp fun h e=>h (congrArg Prod.snd e)
 ·rw [List.Nodup,List.pairwise_map] at hk ⊢
  exact hk.imp fun h e=>h (by
   have h1:=congrArg Prod.fst e
   have h2:=congrArg Prod.snd e
   exact Prod.ext (Option.some.inj h1) h2)
 ·obtain ⟨m,_,rfl⟩:=List.mem_map.mp ha
  obtain ⟨c,_,rfl⟩:=List.mem_map.mp hb
  cases e
theorem Sto.est {ws:List Int} {cs:List Chg} {sz:Ent→Int} (h:Sto ws cs sz):Est ws.length (a3r ws.length cs) sz:=by
 refine ⟨h.nd,fun e he=>?_,fun m hm=>?_,fun e he=>(h.p e he).1,fun e he=>by have:=(h.p e he).2; lia,?_⟩
 ·rcases List.mem_append.mp he with he | he
  ·obtain ⟨m,hm,rfl⟩:=List.mem_map.mp he
   exact ⟨List.mem_range.mp hm,fun a z=>nomatch z⟩
  ·obtain ⟨c,hc,rfl⟩:=List.mem_map.mp he
   have:=h.r c hc
   exact ⟨this.2.1,fun a z=>by cases z; exact this.1⟩
 ·exact List.mem_append_left _ (List.mem_map.mpr ⟨m,List.mem_range.mpr hm,rfl⟩)
 ·have:=h.n
  have:=h.l
  simp [a3r]; lia
structure Told (ws:List Int) (cs:List Chg) (sz:Ent→Int) (ps:List Prc) (ls:List (Option Nat)):Prop where
 len:ls.length=ws.length
 rk:∃ r,Rk ls r
 ent:∀ e∈ens ls,e∈a3r ws.length cs
 sum:((ens ls).map sz).sum=(ps.map (·.p)).sum
 low:∀ e∈a3r ws.length cs,due ps e≤sz e
 pos:∀ q∈ps,0 < q.p
 bd:∀ q∈ps,q.p≤2000000000
 ne:∀ q∈ps,q.S≠[]
 up:∀ q∈ps,q.S.Pairwise (· < ·)
 lt:∀ q∈ps,∀ m∈q.S,m < ws.length
 dst:(ps.map (·.S)).Nodup
 pl:ps.length≤156
theorem Told.least {ws:List Int} {cs:List Chg} {sz:Ent→Int} {ps:List Prc} {ls ls':List (Option Nat)} (h:Told ws cs sz ps ls) {r:Nat→Nat} (hl:ls'.length=ws.length) (hr:Rk ls' r) (he:∀ e∈ens ls',e∈a3r ws.length cs):(ps.map (·.p)).sum≤((ens ls').map sz).sum :=
 b5k (fun e hx=>h.low e (he e hx)) h.pos fun q hq=>hr.enter (h.ne q hq) fun m hm=>by rw [hl]; exact h.lt q hq m hm
theorem Sto.keys {ws:List Int} {cs:List Chg} {sz:Ent→Int} (h:Sto ws cs sz):(cs.map keyH).Nodup:=by
 have:=h.k
 rw [List.Nodup,List.pairwise_map] at this ⊢
 exact this.imp fun h e=>h (by simp [keyH] at e; exact Prod.ext (by dsimp only; lia) (by dsimp only; lia))
theorem b6k (d:Nat) {ws:List Int} {cs:List Chg} {sz:Ent→Int} (h:Sto ws cs sz) {Q:FV×FV→Prop} (q:Q (.dct (cs.map keyH) (cs.map fun c=>.int c.2.2),.non)):callW tb (d + 1) 13 [a3g ws cs] Q:=by
 have hc:=h.l
 refine a0o (fd:=d7j) rfl rfl ?_
 simp [d7j,d2l,a3g]
 refine ⟨by simp [big]; lia,?_⟩
 refine a0p (f:=a9p) (g:=fun c=>FV.tup [.tup [.int c.1,.int c.2.1],.int c.2.2]) cs [] (fun x hx K k=>?_) ?_
 ·simp [a9p,big]
  exact k
 ·rw [List.nil_append,a9a,a1c,a6r _ [] [] (by simpa [List.map_map,Function.comp_def] using h.keys)]
  simpa [List.map_map,Function.comp_def] using q
structure Lyg (ws:List Int) (cs:List Chg) (ls:List (Option Nat)):Prop where
 len:ls.length=ws.length
 rk:∃ r,Rk ls r
 ent:∀ e∈ens ls,e∈a3r ws.length cs
theorem Lyg.on {ws:List Int} {cs:List Chg} {ls:List (Option Nat)} (h:Lyg ws cs ls) {m a:Nat} (hm:m < ls.length) (e:ls.getD m none=some a):a < ls.length∧∃ c∈cs,c.1=a∧c.2.1=m:=by
 obtain ⟨r,hr⟩:=h.rk
 refine ⟨(hr.on m a hm e).1,?_⟩
 rcases List.mem_append.mp (h.ent (some a,m) (mem_ens.mpr ⟨hm,e⟩)) with z | z
 ·obtain ⟨x,_,z⟩:=List.mem_map.mp z; cases z
 ·obtain ⟨c,hc,z⟩:=List.mem_map.mp z
  cases z; exact ⟨c,hc,rfl,rfl⟩
theorem b4j (ls:List (Option Nat)):a2y (upF 0 (ls.map a0y).length) (ls.map a0y)=(List.range ls.length).map fun m:Nat=>FV.tup [.int (m:Int),a0y (ls.getD m none)]:=by
 rw [a2a]
 apply List.ext_getElem
 ·simp [a2y]
 ·intro i g1 g2
  simp [a2y] at g2 ⊢
  rw [List.getElem?_eq_getElem g2]; rfl
theorem d0u {ls:List (Option Nat)} {i:Nat} (hi:i < ls.length) (Q:FV→Prop):wp (atF (ls.map a0y) (i:Int)) Q↔Q (a0y (ls.getD i none)) :=
 a4k rfl (by rw [List.getElem?_map,List.getElem?_eq_getElem hi]; simp [hi])
noncomputable def stp (ls:List (Option Nat)):Option Nat→Option Nat
 | none=>none
 | some a=>ls.getD a none
noncomputable def itr (ls:List (Option Nat)) (o:Option Nat):Nat→Option Nat
 | 0=>o
 | k + 1=>stp ls (itr ls o k)
theorem b6w {ls:List (Option Nat)} {r:Nat→Nat} (h:Rk ls r) {m:Nat} (hm:m < ls.length):∀ k,(∀ a,itr ls (some m) k=some a→a < ls.length∧r a + k≤r m)
 | 0=>fun a e=>by cases e; exact ⟨hm,Γi _⟩
 | k + 1=>fun a e=>by
  rw [itr] at e
  cases g:itr ls (some m) k with
  | none=>rw [g] at e; cases e
  | some b =>
   rw [g] at e
   obtain ⟨h1,h2⟩:=b6w h hm k b g
   have:=h.on b a h1 e
   lia
theorem b6y {ls:List (Option Nat)} {r:Nat→Nat} (h:Rk ls r) {m:Nat} (hm:m < ls.length):itr ls (some m) ls.length=none:=by
 cases g:itr ls (some m) ls.length with
 | none=>rfl
 | some a =>
  have h1:=(b6w h hm _ a g).2
  have h2:=h.lt m hm
  lia
theorem c4n (d:Nat) {ws:List Int} {cs:List Chg} {sz:Ent→Int} (h:Sto ws cs sz) {ls:List (Option Nat)} (hl:Lyg ws cs ls) {Q:FV×FV→Prop} (q:Q (.bl true,.non)):callW tb (d + 2) 15 [a3g ws cs,.tup (ls.map a0y)] Q:=by
 have hn:=h.n
 have hll:=hl.len
 obtain ⟨r,hr⟩:=hl.rk
 refine a0o (fd:=c9p) rfl rfl ?_
 simp [c9p,d2k]
 refine b6k d h ?_
 simp
 rw [← List.length_map (f:=a0y),b4j]
 refine ⟨by simp [big]; lia,?_⟩
 refine a0p (f:=fun m:Nat=>FV.tup [.int (m:Int),a0y (ls.getD m none)]) (g:=fun _=>.bl false) (List.range ls.length) [] (fun m hm K k=>?_) ?_
 ·have hm:=List.mem_range.mp hm
  cases e:ls.getD m none with
  | none=>simpa [a0y] using k
  | some a =>
   obtain ⟨_,c,hc,e1,e2⟩:=hl.on hm e
   have:[(a:Int),(m:Int)]∈cs.map keyH:=List.mem_map.mpr ⟨c,hc,by rw [← e1,← e2]; rfl⟩
   simp [a0y]
   refine ⟨by decide,?_⟩
   rw [decide_eq_true this]
   exact k
 ·rw [List.nil_append]
  simp [a1w (fun _=>false)]
  refine ⟨a0q (by lia) (by lia),?_⟩
  refine a2d (I:=fun j L=>∃ a b c,L=[some (a3g ws cs),some (.tup (ls.map a0y)),some (.dct (cs.map keyH) (cs.map fun c=>.int c.2.2)),a,b,c]) ls.length 0 _ ⟨_,_,_,rfl⟩ ?_ ?_
  ·rintro m L K - hm ⟨a,b,c,rfl⟩ k
   simp
   refine ⟨a0q (by lia) (by lia),?_⟩
   refine a2d (I:=fun j L=>∃ c,L=[some (a3g ws cs),some (.tup (ls.map a0y)),some (.dct (cs.map keyH) (cs.map fun c=>.int c.2.2)),some (.int m),some (a0y (itr ls (some m) j)),c]) ls.length 0 _ ⟨_,rfl⟩ ?_ ?_
   ·rintro j L K2 - hj ⟨c,rfl⟩ k2
    cases e:itr ls (some m) j with
    | none =>
     simp [a0y]
     exact k2 _ ⟨_,by rw [itr,e]; rfl⟩
    | some p =>
     have hp:=(b6w hr (by lia) _ p e).1
     simp [a0y]
     rw [d0u hp]
     exact k2 _ ⟨_,by rw [itr,e]; rfl⟩
   ·rintro L ⟨c,rfl⟩
    rw [Nat.zero_add,b6y hr (by lia)]
    simp [a0y]
    exact k _ ⟨_,_,_,rfl⟩
  ·rintro L ⟨a,b,c,rfl⟩
   simp
   exact q
theorem c5a {ws:List Int} {cs:List Chg} {sz:Ent→Int} (h:Sto ws cs sz) {c:Chg} (hc:c∈cs):a2o (cs.map keyH) (cs.map fun c=>FV.int c.2.2) (keyH c)=some (.int (sz (some c.1,c.2.1))):=by
 have hk:=h.keys
 have hz:=h.c
 clear h
 induction cs with
 | nil=>cases hc
 | cons x r ih =>
  show (if keyH x=keyH c then some (FV.int x.2.2) else a2o (r.map keyH) (r.map fun c=>FV.int c.2.2) (keyH c))=_
  simp only [List.map_cons,List.nodup_cons] at hk
  rcases List.mem_cons.mp hc with rfl | hc
  ·rw [if_pos rfl,hz c (by simp)]
  ·rw [if_neg fun z:keyH x=keyH c=>hk.1 (by rw [z]; exact List.mem_map_of_mem hc)]
   exact ih hc hk.2 fun y hy=>hz y (by simp [hy])
theorem b7r (ls:List (Option Nat)) (sz:Ent→Int):((ens ls).map sz)=(List.range ls.length).map fun m=>sz (ls.getD m none,m):=by
 unfold ens; rw [List.map_map]; rfl
theorem c0o (d:Nat) {ws:List Int} {cs:List Chg} {sz:Ent→Int} (h:Sto ws cs sz) {ls:List (Option Nat)} (hl:Lyg ws cs ls) {Q:FV×FV→Prop} (q:Q (.int ((ens ls).map sz).sum,.non)):callW tb (d + 2) 14 [a3g ws cs,.tup (ls.map a0y)] Q:=by
 have hn:=h.n
 have hll:=hl.len
 refine a0o (fd:=d7i) rfl rfl ?_
 simp [d7i,d8t]
 refine b6k d h ?_
 simp
 rw [← List.length_map (f:=a0y),b4j]
 refine a2q (f:=fun m:Nat=>FV.tup [.int (m:Int),a0y (ls.getD m none)]) (I:=fun done L=>∃ x y,L=[some (a3g ws cs),some (.tup (ls.map a0y)),some (.dct (cs.map keyH) (cs.map fun c=>.int c.2.2)),some (.int (done.map fun m=>sz (ls.getD m none,m)).sum),x,y]) (List.range ls.length) (List.range ls.length) [] _ rfl ⟨_,_,rfl⟩ (fun dd m r L K e hI hK=>?_) fun L hI=>?_
 ·obtain ⟨x,y,rfl⟩:=hI
  have hm:m < ls.length:=List.mem_range.mp (by rw [e]; simp)
  cases g:ls.getD m none with
  | none =>
   simp [a0y,a3g]
   rw [a4k rfl (v:=.int (sz (none,m))) (by rw [List.getElem?_map,List.getElem?_eq_getElem (by lia),h.w m (by lia)]; rfl)]
   simp
   rw [List.getD_eq_getElem?_getD] at g
   exact hK _ ⟨some (.int m),some .non,by simp [a3g,g]⟩
  | some a =>
   obtain ⟨_,c,hc,e1,e2⟩:=hl.on hm g
   have hg:=c5a h hc
   rw [show keyH c=[(c.1:Int),(c.2.1:Int)] from rfl,e1,e2] at hg
   simp [a0y]
   refine ⟨by decide,?_⟩
   rw [hg,a1c]
   simp
   rw [List.getD_eq_getElem?_getD] at g
   exact hK _ ⟨some (.int m),some (.int a),by simp [g]⟩
 ·obtain ⟨x,y,rfl⟩:=hI
  simp
  rw [b7r] at q
  exact q
theorem b2j (d:Nat) (xs:List Int) (hl:xs.length≤1000) {Q:FV×FV→Prop} (q:Q (.bl true,.non)):callW tb (d + 1) 12 [.lst (xs.map .int)] Q:=by
 refine a0o (fd:=c9q) rfl rfl ?_
 simp [c9q,d0q]
 refine ⟨by simp [big]; lia,?_⟩
 refine a0p (f:=FV.int) (g:=fun _=>.bl true) xs [] (fun x hx K k=>?_) ?_
 ·simp
  exact k
 ·rw [List.nil_append,a1w (fun _=>true),a1c,show ((xs.map fun _=>true).all id)=true by simp]
  exact q
noncomputable def c1i (S:List Nat):FV:=.tup (S.map fun i:Nat=>.int i)
noncomputable def dM (S:List Nat):D:=.tup (S.map fun i:Nat=>.int i)
theorem a8d:∀ S T:List Nat,D.eqvs (S.map fun i:Nat=>D.int i) (T.map fun i:Nat=>D.int i)=decide (S=T)
 | [],[]=>by simp [D.eqvs]
 | [],b :: T=>by simp [D.eqvs]
 | a :: S,[]=>by simp [D.eqvs]
 | a :: S,b :: T=>by
  simp only [List.map_cons,D.eqvs,D.eqv,a8d S T]
  rw [Bool.eq_iff_iff]
  simp
  lia
theorem codM:Cod c1i dM:=⟨fun k S=>by
 show (a7v (fD (k + 2)) (S.map fun i:Nat=>FV.int i)).map D.tup=_
 rw [a4f (g:=fun i:Nat=>D.int i) fun x=>rfl]; rfl,fun S T=>by
 show D.eqvs _ _=_
 exact a8d S T⟩
noncomputable def encG (S:List Nat):FV:=.lst (S.map fun i:Nat=>.int i)
theorem codG:Cod encG (fun S=>.lst (S.map fun i:Nat=>.int i)):=⟨fun k S=>by
 show (a7v (fD (k + 2)) (S.map fun i:Nat=>FV.int i)).map D.lst=_
 rw [a4f (g:=fun i:Nat=>D.int i) fun x=>rfl]; rfl,fun S T=>by
 show D.eqvs _ _=_
 exact a8d S T⟩
theorem mem_natI {S:List Nat} {m:Nat}:((m:Int)∈S.map fun j:Nat=>(j:Int))↔m∈S:=by
 rw [List.mem_map]
 exact ⟨fun ⟨x,h1,h2⟩=>by rwa [← show x=m by lia],fun h=>⟨m,h,rfl⟩⟩
theorem a3m (ws:List Int) (cs:List Chg) (Q:List FV→Prop):wp (a4w (a3g ws cs)) Q↔Q [.tup (ws.map .int),.tup (cs.map a9p)]:=Iff.rfl
theorem b4m {n:Nat} {S:List Nat} (hu:S.Pairwise (· < ·)) (hl:∀ m∈S,m < n):((List.range n).filter fun m=>decide (m∈S))=S:=by
 refine List.Perm.eq_of_pairwise (le:=(· < ·)) (fun a b _ _ h1 h2=>by lia) (List.pairwise_lt_range.filter _) hu ?_
 refine (List.perm_ext_iff_of_nodup (List.nodup_range.filter _) (hu.imp fun h=>by lia)).mpr fun a=>?_
 simp
 exact hl a
theorem c4m (d : Nat) {ws : List Int} {cs : List Chg} {sz : Ent → Int} (h : Sto ws cs sz) {ps : List Prc} {ls : List (Option Nat)} (t : Told ws cs sz ps ls) {Q : FV × FV → Prop} (q : Q (.bl true, .non)) : callW tb (d + 2) 18 [a3g ws cs, .lst (ps.map a6f)] Q := by
  have hn := h.n
  have hpl := t.pl
  refine a0o (fd := d7f) rfl rfl ?_
  simp [d7f, d8r]
  refine a2q (f := a6f) (I := fun done L => ∃ x y z, L = [some (a3g ws cs), some (.lst (ps.map a6f)), some (.lst ((done.map (·.S)).map c1i)), x, y, z]) ps ps [] _ rfl ⟨_, _, _, rfl⟩ (fun dd c r L K e hI hK => ?_) fun L hI => ?_
  · obtain ⟨x, y, z, rfl⟩ := hI
    have hc : c ∈ ps := by rw [e]; simp
    have hne := t.ne c hc
    have hlen : c.S.length ≤ 12 := by
      have := (t.up c hc).imp (S := (· ≠ ·)) fun h => by lia
      have := List.Nodup.length_le_of_subset (l₂ := List.range ws.length) this fun x hx => List.mem_range.mpr (t.lt c hc x hx)
      simp at this; lia
    have hnd : c.S ∉ dd.map (·.S) := fun z => by
      have := t.dst
      rw [e, List.map_append, List.map_cons] at this
      exact (List.nodup_append.mp this).2.2 _ z _ (by simp) rfl
    have hpos := t.pos c hc
    simp [a6f]
    rw [show FV.tup (c.S.map fun i : Nat => FV.int i) = c1i c.S from rfl, show FV.tup [] = c1i [] from rfl, codM.eq]
    rw [if_neg (by simpa using hne)]
    refine ⟨by decide, by simp only [big]; lia, ?_⟩
    rw [show (c.S.map (fun i : Nat => FV.int i) ++ [FV.int c.p]) = ((c.S.map fun i : Nat => (i : Int)) ++ [c.p]).map .int by simp [Function.comp_def]]
    refine b2j d _ (by simp; lia) ?_
    simp
    rw [if_neg (by lia), show List.map (c1i ∘ fun x : Prc => x.S) dd = (dd.map (·.S)).map c1i by rw [List.map_map], codM.inL]
    rw [if_neg (by simpa using hnd), a3m]
    simp
    refine ⟨a0q (by lia) (by lia), by simp [a2a, big]; lia, ?_⟩
    rw [a2a]
    refine a0w (f := fun i : Nat => FV.int i) (g := fun i : Nat => FV.int i) (p := fun m => decide (m ∈ c.S)) (List.range ws.length) [] (fun m hm K N k1 k2 => ?_) ?_
    · simp [c1i]
      rw [b7g]
      refine ite2 (fun g => k1 ?_) fun g => k2 ?_
      · exact decide_eq_true (mem_natI.mp (of_decide_eq_true g))
      · exact decide_eq_false fun z => g (decide_eq_true (mem_natI.mpr z))
    · rw [List.nil_append, b4m (t.up c hc) (t.lt c hc), show FV.lst (c.S.map fun i : Nat => FV.int i) = encG c.S from rfl, codG.eq]
      simp
      refine ⟨by have : dd.length ≤ ps.length := by rw [e]; simp
                 simp only [big]; lia, hK _ ⟨some (.tup [c1i c.S, .int c.p]), some (c1i c.S), some (.int c.p), by simp⟩⟩
  · obtain ⟨x, y, z, rfl⟩ := hI
    simp
    rw [a3m]
    simp
    have ep : a2y (upF 0 ws.length) (ws.map .int) = (List.range ws.length).map fun m : Nat => FV.tup [.int (m : Int), .int (sz (none, m))] := by
      rw [a2a]
      apply List.ext_getElem
      · simp [a2y]
      · intro i g1 g2
        simp [a2y] at g2 ⊢
        exact (h.w i g2).symm
    have hpb : ∀ q ∈ ps, 0 ≤ q.p ∧ q.p ≤ 100000000000 := fun q hq => by
      have := t.pos q hq
      have := t.bd q hq
      lia
    rw [ep]
    refine ⟨by simp [big]; lia, ?_⟩
    refine a0p (f := fun m : Nat => FV.tup [.int (m : Int), .int (sz (none, m))]) (g := fun _ => .bl false) (List.range ws.length) [] (fun m hm K k => ?_) ?_
    · have hm := List.mem_range.mp hm
      simp
      refine b7d (ps := ps) d (none, m) (by lia) hpb ?_
      have := t.low (none, m) (List.mem_append_left _ (List.mem_map.mpr ⟨m, List.mem_range.mpr hm, rfl⟩))
      simp
      rw [decide_eq_false (by lia)]
      exact k
    · rw [List.nil_append]
      simp [a1w (fun _ => false)]
      rw [a3m]
      simp
      refine ⟨by have := h.l; simp only [big]; lia, ?_⟩
      refine a0p (f := a9p) (g := fun _ => .bl true) cs [] (fun c hc K k => ?_) ?_
      · simp [a9p]
        refine b7d (ps := ps) d (some c.1, c.2.1) (by lia) hpb ?_
        have := t.low (some c.1, c.2.1) (List.mem_append_right _ (List.mem_map.mpr ⟨c, hc, rfl⟩))
        rw [h.c c hc] at this
        simp
        rw [decide_eq_true (by lia)]
        exact k
      · rw [List.nil_append, a1w (fun _ => true), a1c, show ((cs.map fun _ => true).all id) = true by simp]
        exact q
theorem b9g (d:Nat) {ws:List Int} {cs:List Chg} {sz:Ent→Int} (h:Sto ws cs sz) {Q:FV×FV→Prop} (q:∀ ps ls,Told ws cs sz ps ls→Tx ws.length (a3r ws.length cs) sz ps ls→Q (.tup [.int (ps.map (·.p)).sum,.tup (ls.map a0y),.lst (ps.map a6f)],.non)):callW tb (d + 3) 0 [a3g ws cs] Q:=by
 have G:=h.est
 refine c3k d (by have:=h.n; lia) (by have:=h.l; lia) h.w h.c G fun fr ps us ls H c hall hls hat hp hx=>q ps ls ?_ hx
 have rg:Rng ws.length fr:=fun e he=>G.rg e (H.sub e he)
 obtain ⟨hr,hperm⟩:=c.lay rg hls hat
 refine ⟨hls,hr,fun e he=>H.sub e (c.sub e (hperm.mem_iff.mp he)),?_,H.low,H.pos,fun q hq=>?_,H.ne,H.up,H.lt,H.dst,by have:=h.n; have:=h.l; simp [a3r] at hp; lia⟩
 ·rw [b9k (hperm.map sz)]
  exact c.room H hall
 ·obtain ⟨e,g1,g2⟩:=H.hit q hq
  have:=b7u g2 H.pos hq
  have:=(H.free e (H.sub e g1)).mp g1
  have:=(h.p e (H.sub e g1)).2
  lia
noncomputable def szF (ws:List Int) (cs:List Chg) (e:Ent):Int:=match e.1 with
 | none=>ws.getD e.2 0
 | some a=>((cs.find? fun c=>decide (c.1=a∧c.2.1=e.2)).map fun c=>c.2.2).getD 0
theorem d3a {ws:List Int} {cs:List Chg} (hk:(cs.map fun c=>(c.1,c.2.1)).Nodup) {c:Chg} (hc:c∈cs):szF ws cs (some c.1,c.2.1)=c.2.2:=by
 show ((cs.find? fun x=>decide (x.1=c.1∧x.2.1=c.2.1)).map fun c=>c.2.2).getD 0=c.2.2
 induction cs with
 | nil=>cases hc
 | cons x r ih =>
  simp only [List.map_cons,List.nodup_cons] at hk
  by_cases z:x.1=c.1∧x.2.1=c.2.1
  ·rw [List.find?_cons_of_pos (by simpa using z)]
   rcases List.mem_cons.mp hc with rfl | hc
   ·rfl
   ·exact absurd (List.mem_map.mpr ⟨c,hc,by rw [z.1,z.2]⟩) hk.1
  ·rw [List.find?_cons_of_neg (by simpa using z)]
   rcases List.mem_cons.mp hc with rfl | hc
   ·exact absurd ⟨rfl,rfl⟩ z
   ·exact ih hk.2 hc
theorem Sto.bdw {ws:List Int} {cs:List Chg} {sz:Ent→Int} (h:Sto ws cs sz) {x:Int} (hx:x∈ws):0 < x∧x≤2000000000:=by
 obtain ⟨m,hm,rfl⟩:=List.mem_iff_getElem.mp hx
 rw [← h.w m hm]
 exact h.p _ (List.mem_append_left _ (List.mem_map.mpr ⟨m,List.mem_range.mpr hm,rfl⟩))
theorem Sto.bdc {ws:List Int} {cs:List Chg} {sz:Ent→Int} (h:Sto ws cs sz) {c:Chg} (hc:c∈cs):0 < c.2.2∧c.2.2≤2000000000:=by
 rw [← h.c c hc]
 exact h.p _ (List.mem_append_right _ (List.mem_map.mpr ⟨c,hc,rfl⟩))
theorem c5l {ws:List Int} {cs:List Chg} {sz:Ent→Int} (h:Sto ws cs sz):Vl 40000 3 (a3g ws cs):=by
 have hn:=h.n
 have hl:=h.l
 refine (Vl.tup (k:=18500) (p:=2) (m:=2) ?_ (by simp)).mono (by decide) (by decide)
 intro y hy
 simp only [List.mem_cons,List.not_mem_nil,or_false] at hy
 rcases hy with rfl | rfl
 ·refine (Vl.tup (k:=41) (p:=0) (m:=12) ?_ (by simp; lia)).mono (by decide) (by decide)
  intro x hx
  obtain ⟨i,hi,rfl⟩:=List.mem_map.mp hx
  have:=h.bdw hi
  exact Vl.int (by lia) (by lia)
 ·refine (Vl.tup (k:=126) (p:=1) (m:=144) ?_ (by simp; lia)).mono (by decide) (by decide)
  intro x hx
  obtain ⟨c,hc,rfl⟩:=List.mem_map.mp hx
  have:=h.bdc hc
  have:=h.r c hc
  have w:∀ i:Int,0≤i→i≤2000000000→Vl 41 0 (.int i):=fun i h1 h2=>Vl.int (by lia) (by lia)
  refine (Vl.tup (k:=41) (p:=0) (m:=3) ?_ (by simp)).mono (by decide) (by decide)
  intro y hy
  simp only [List.mem_cons,List.not_mem_nil,or_false] at hy
  rcases hy with rfl | rfl | rfl
  ·exact w _ (by lia) (by lia)
  ·exact w _ (by lia) (by lia)
  ·exact w _ (by lia) (by lia)
theorem b2o (d:Nat) {n g:Int} {v:FV} {Q:FV×FV→Prop} (hs:Lf n v) (h0:0≤n) (hn:n < 100000) (q:∀ s v',1≤s→s < 1000000000→Lf (n + 2) v'→Q (.int s,v')):callW tb (d + 3) 9 [v,.int g] Q:=by
 refine a0o (fd:=fd9) rfl rfl ?_
 simp [fd9,bd9,big]
 refine a2w d hs (by lia) (by decide) (by decide) fun u v1 u0 u1 l1=>?_
 simp
 have fin:wp (atF [FV.int 9,FV.int 9,FV.int 40,FV.int 3] u) fun z=>callW tb (d + 2) 7 [v1,z] fun z=>wp (a6h (FV.int 1) z.fst) fun z_1=>Q (z_1,z.snd):=by
  refine c3d u0 u1 ?_
  intro f hf
  obtain ⟨k,rfl,k0,k1⟩:∃ k:Int,f=.int k∧0 < k∧k≤40:=by
   simp at hf
   rcases hf with rfl | rfl | rfl | rfl <;> exact ⟨_,rfl,by decide,by decide⟩
  refine a2w d l1 (by lia) k0 (by lia) fun w v2 w0 w1 l2=>?_
  simp
  exact q _ _ (by lia) (by lia) (l2.mono (by lia))
 refine ite2 (fun h=>?_) (fun h=>fin)
 refine ite2 (fun h=>?_) (fun h=>fin)
 refine ⟨by decide,a2w d l1 (by lia) (by decide) (by decide) fun w v2 w0 w1 l2=>?_⟩
 simp
 exact q _ _ (by lia) (by lia) (l2.mono (by lia))
structure GsB (B:Int) (ws:List Int) (cs:List Chg):Prop where
 n:ws.length≤12
 w:∀ x∈ws,1≤x∧x < B
 c:∀ x∈cs,x.1 < ws.length∧x.2.1 < ws.length∧x.1≠x.2.1∧1≤x.2.2∧x.2.2 < B
 l:cs.length≤144
 d:(cs.map fun c=>(c.1,c.2.1)).Nodup
theorem GsB.mono {B C:Int} {ws:List Int} {cs:List Chg} (h:GsB B ws cs) (hb:B≤C):GsB C ws cs :=
 ⟨h.n,fun x hx=>⟨(h.w x hx).1,by have:=(h.w x hx).2; lia⟩,fun x hx=>let ⟨a,b,c,d,e⟩:=h.c x hx; ⟨a,b,c,d,by lia⟩,h.l,h.d⟩
noncomputable def prs (n:Nat):Nat→List (Nat×Nat)
 | 0=>[]
 | a + 1=>prs n a++(List.range n).map fun b=>(a,b)
theorem c2g {n:Nat}:∀ {a:Nat} {p:Nat×Nat},p∈prs n a→p.1 < a
 | 0,p,h=>by simp [prs] at h
 | a + 1,p,h=>by
  rcases List.mem_append.mp h with h | h
  ·have:=c2g h; lia
  ·obtain ⟨b,hb,rfl⟩:=List.mem_map.mp h; exact Nat.lt_succ_self _
theorem b0u (n:Nat):∀ a:Nat,(prs n a).length=a * n
 | 0=>by simp [prs]
 | a + 1=>by simp [prs,b0u n a,Nat.add_mul]
theorem a8x (n:Nat):∀ a:Nat,(prs n a).Nodup
 | 0=>by simp [prs]
 | a + 1=>by
  rw [prs,List.nodup_append]
  refine ⟨a8x n a,?_,?_⟩
  ·rw [List.nodup_iff_pairwise_ne,List.pairwise_map]
   exact List.nodup_range.imp fun h z=>h (by simpa using z)
  ·intro p hp q hq e
   obtain ⟨b,hb,rfl⟩:=List.mem_map.mp hq
   have:=c2g hp
   rw [e] at this
   exact Nat.lt_irrefl _ this
theorem a9g (d:Nat) {n:Int} {v:FV} {m:Nat} {Q:FV×FV→Prop} (hs:Lf n v) (h0:0≤n) (hn:n < 10000) (hm:m≤12) (q:∀ (ws:List Int) (cs:List Chg) v',GsB 1000000100 ws cs→ws.length=m→Lf (n + 700) v'→Q (a3g ws cs,v')):callW tb (d + 4) 11 [v,.int m] Q:=by
 refine a0o (fd:=d7k) rfl rfl ?_
 simp [d7k,d8u,big]
 refine a2w (d + 1) hs (by lia) (by decide) (by decide) fun g v1 g0 g1 l1=>?_
 simp
 refine a2w (d + 1) l1 (by lia) (by decide) (by decide) fun o v2 o0 o1 l2=>?_
 simp
 refine ⟨a0q (by lia) (by lia),?_⟩
 rw [a2a]
 refine ⟨by simp; lia,?_⟩
 refine a9v (f:=fun i:Nat=>FV.int i) (I:=fun ds acc L=>∃ v',∃ xs:List Int,L=[some v',some (.int m),some (.int g),some (.int (1 + o)),none,none,none,none]∧acc=xs.map .int∧xs.length=ds.length∧(∀ x∈xs,1≤x∧x < 1000000100)∧Lf (n + 2 + 3 * ds.length) v') (List.range m) (List.range m) [] [] _ rfl ⟨v2,[],rfl,rfl,rfl,by simp,l2.mono (by simp; lia)⟩ ?_ ?_
 ·rintro ds x r acc L K e ⟨v',xs,rfl,rfl,hl,hx,lf⟩ k
  have hd:ds.length < 12:=by have:=congrArg List.length e; simp at this; lia
  simp
  refine b2o d lf (by lia) (by lia) fun s v4 s0 s1 l4=>?_
  simp [big]
  refine a2w (d + 1) l4 (by lia) (by decide) (by decide) fun b v5 b0 b1 l5=>?_
  simp
  refine c3d b0 b1 ?_
  intro f hf
  obtain ⟨k',rfl,k0,k1⟩:∃ k:Int,f=.int k∧0≤k∧k≤12:=by
   simp at hf
   rcases hf with rfl | rfl <;> exact ⟨_,rfl,by decide,by decide⟩
  simp
  refine k _ _ ⟨v5,xs++[s + k'],rfl,by simp,by simp [hl],?_,l5.mono (by simp; lia)⟩
  intro y hy
  rcases List.mem_append.mp hy with hy | hy
  ·exact hx y hy
  ·simp at hy; subst hy; lia
 ·rintro ys L ⟨v',ws,rfl,rfl,hl,hx,lf⟩
  simp only [List.length_range] at hl lf
  simp
  refine ⟨a0q (by lia) (by lia),?_⟩
  refine a2d (I:=fun a L=>∃ v' x y,∃ cs:List Chg,L=[some v',some (.int m),some (.int g),some (.int (1 + o)),some (.tup (ws.map .int)),some (.lst (cs.map a9p)),x,y]∧(∀ c∈cs,c.1 < m∧c.2.1 < m∧c.1≠c.2.1∧1≤c.2.2∧c.2.2 < 1000000100)∧(cs.map fun c=>(c.1,c.2.1)).Sublist (prs m a)∧Lf (n + 38 + 40 * a) v') m 0 _ ⟨v',_,_,[],rfl,by simp,by simp [prs],lf.mono (by lia)⟩ ?_ ?_
  ·rintro a L K - ha ⟨v',x,y,cs,rfl,hc,hsb,lf⟩ k
   simp
   refine ⟨a0q (by lia) (by lia),?_⟩
   refine a2d (I:=fun b L=>∃ v' y,∃ cs:List Chg,L=[some v',some (.int m),some (.int g),some (.int (1 + o)),some (.tup (ws.map .int)),some (.lst (cs.map a9p)),some (.int a),y]∧(∀ c∈cs,c.1 < m∧c.2.1 < m∧c.1≠c.2.1∧1≤c.2.2∧c.2.2 < 1000000100)∧(cs.map fun c=>(c.1,c.2.1)).Sublist (prs m a++(List.range b).map fun b=>(a,b))∧Lf (n + 38 + 40 * a + 3 * b) v') m 0 _ ⟨v',_,cs,rfl,hc,by simpa using hsb,lf.mono (by lia)⟩ ?_ ?_
   ·rintro b L K2 - hb ⟨v',y,cs,rfl,hc,hsb,lf⟩ k2
    have hcl:cs.length≤1000:=by
     have:=hsb.length_le
     simp [b0u] at this
     have:a * m≤12 * 12:=Nat.mul_le_mul (by lia) hm
     lia
    have hsb':(cs.map fun c=>(c.1,c.2.1)).Sublist (prs m a++(List.range (b + 1)).map fun b=>(a,b)):=by
     rw [List.range_succ,List.map_append,← List.append_assoc]
     exact hsb.trans (List.sublist_append_left _ _)
    have no:∀ v',Lf (n + 38 + 40 * a + 3 * b + 3) v'→K2 [some v',some (.int m),some (.int g),some (.int (1 + o)),some (.tup (ws.map .int)),some (.lst (cs.map a9p)),some (.int a),some (.int b)]:=fun v' l=>k2 _ ⟨v',_,cs,rfl,hc,hsb',l.mono (by lia)⟩
    simp
    refine ite2 (fun h=>?_) (fun h=>?_)
    ·exact no v' (lf.mono (by lia))
    ·refine a2w (d + 1) lf (by lia) (by lia) (by lia) fun u v4 u0 u1 l4=>?_
     simp
     refine ite2 (fun h2=>?_) (fun h2=>no v4 (l4.mono (by lia)))
     refine b2o d l4 (by lia) (by lia) fun s v5 s0 s1 l5=>?_
     simp [big]
     refine ⟨by lia,k2 _ ⟨v5,some (.int b),cs++[(a,b,s)],by simp [a9p],?_,?_,l5.mono (by lia)⟩⟩
     ·intro c hc'
      rcases List.mem_append.mp hc' with hc' | hc'
      ·exact hc c hc'
      ·simp at hc'; subst hc'
       exact ⟨by show a < m; lia,by show b < m; lia,by show a≠b; lia,s0,by show s < _; lia⟩
     ·rw [List.range_succ,List.map_append,List.map_append,← List.append_assoc]
      exact hsb.append (List.Sublist.refl _)
   ·rintro L ⟨v',y,cs,rfl,hc,hsb,lf⟩
    rw [Nat.zero_add] at hsb lf
    exact k _ ⟨v',_,_,cs,rfl,hc,hsb,lf.mono (by lia)⟩
  ·rintro L ⟨v',x,y,cs,rfl,hc,hsb,lf⟩
   rw [Nat.zero_add] at hsb lf
   have hcl:=hsb.length_le
   simp [b0u] at hcl
   have:m * m≤12 * 12:=Nat.mul_le_mul hm hm
   have:=q ws cs v' ⟨by lia,hx,by rw [hl]; exact hc,by lia,(a8x m m).sublist hsb⟩ hl (lf.mono (by lia))
   simpa [a3g] using this
theorem GsB.sto {ws:List Int} {cs:List Chg} (h:GsB 1000000100 ws cs):Sto ws cs (szF ws cs):=by
 have hw:∀ m (g:m < ws.length),szF ws cs (none,m)=ws[m]:=fun m g=>by
  show ws.getD m 0=_
  simp [g]
 have hc:=fun c hc=>d3a (ws:=ws) h.d (c:=c) hc
 refine ⟨h.n,h.l,hw,hc,fun c g=>?_,h.d,fun e he=>?_⟩
 ·have:=h.c c g; exact ⟨this.1,this.2.1,this.2.2.1⟩
 ·rcases List.mem_append.mp he with he | he
  ·obtain ⟨m,hm,rfl⟩:=List.mem_map.mp he
   have hm:=List.mem_range.mp hm
   rw [hw m hm]
   have:=h.w _ (List.getElem_mem hm)
   lia
  ·obtain ⟨c,g,rfl⟩:=List.mem_map.mp he
   rw [hc c g]
   have:=h.c c g
   lia
theorem Vl.tup3 {k1 k2 k3 p:Nat} {x y z:FV} (hx:Vl k1 p x) (hy:Vl k2 p y) (hz:Vl k3 p z):Vl (k1 + k2 + k3 + 3) (p + 1) (.tup [x,y,z]):=by
 obtain ⟨d1,rfl,a1,a2,a3⟩:=hx
 obtain ⟨d2,rfl,b1,b2,b3⟩:=hy
 obtain ⟨d3,rfl,c1,c2,c3⟩:=hz
 refine ⟨.tup [d1,d2,d3],rfl,by simp only [dep,c1o]; lia,by simp only [D.fit,D.fits,a2,b2,c2,Bool.and_self],?_⟩
 simp only [D.wt,D.wts]; lia
theorem Told.sm {ws:List Int} {cs:List Chg} {sz:Ent→Int} {ps:List Prc} {ls:List (Option Nat)} (t:Told ws cs sz ps ls):0≤(ps.map (·.p)).sum∧(ps.map (·.p)).sum≤2000000000 * ps.length:=by
 have h1:=t.pos
 have h2:=t.bd
 clear t
 induction ps with
 | nil=>simp
 | cons q r ih =>
  have:=ih (fun x hx=>h1 x (by simp [hx])) fun x hx=>h2 x (by simp [hx])
  have:=h1 q (by simp)
  have:=h2 q (by simp)
  simp only [List.map_cons,List.sum_cons,List.length_cons]
  lia
theorem d5l {ls:List (Option Nat)} {n:Nat} (hl:ls.length≤12) (h:∀ a,some a∈ls→a < 12):Vl 504 1 (.tup (ls.map a0y)):=by
 refine (Vl.tup (k:=41) (p:=0) (m:=12) (fun x hx=>?_) (by simpa using hl)).mono (by decide) (by decide)
 obtain ⟨o,ho,rfl⟩:=List.mem_map.mp hx
 cases o with
 | none=>exact Vl.non.mono (by decide) (by decide)
 | some a=>have:=h a ho; exact Vl.int (by lia) (by lia)
noncomputable def c9t (ps:List Prc) (ls:List (Option Nat)):FV:=.tup [.int (ps.map (·.p)).sum,.tup (ls.map a0y),.lst (ps.map a6f)]
theorem c2b {k p:Nat} {x:FV} (h:Vl k p x) (hk:k≤big) (hp:p < 40):∃ y,b9l x=some y∧(∀ R:Bool→Prop,wp (eqF y y) R=R true)∧fla y=true:=by
 obtain ⟨y,e,h1⟩:=c7a h hk hp
 refine ⟨y,e,h1,?_⟩
 cases x with
 | tup xs=>obtain ⟨d,_,e⟩:=bnd (show (fD a0n (.tup xs)).bind _=some y from e); obtain ⟨_,rfl⟩:=itd e; rfl
 | lst xs=>obtain ⟨d,_,e⟩:=bnd (show (fD a0n (.lst xs)).bind _=some y from e); obtain ⟨_,rfl⟩:=itd e; rfl
 | non=>cases e; rfl
 | bl b=>cases e; rfl
 | str x=>cases e; rfl
 | int i=>obtain ⟨_,rfl⟩:=itd (show (if -(2 ^ 150) < i∧i < 2 ^ 150 then some (FV.str (toString i)) else none)=some y from e); rfl
 | scr _=>cases e
 | shn _=>cases e
 | dct _ _=>cases e
 | dci _ _=>cases e
 | dcz _ _ _=>cases e
 | obj _ _ _=>cases e
 | dcn _ _ _=>cases e
theorem c0i (d:Nat) (i:Int) {Q:FV×FV→Prop} (q:Q (.bl true,.non)):callW tb (d + 1) 12 [.tup [.int i]] Q:=by
 refine a0o (fd:=c9q) rfl rfl ?_
 simp [c9q,d0q]
 refine ⟨by decide,?_⟩
 refine a0p (f:=FV.int) (g:=fun _=>.bl true) [i] [] (fun x hx K k=>?_) ?_
 ·simp
  exact k
 ·rw [List.nil_append,a1w (fun _=>true),a1c,show (([i].map fun _=>true).all id)=true by simp]
  exact q
theorem c0r (d:Nat) (ns:List Int) (k:Nat) {Q:FV×FV→Prop} (q:∀ v,Lf 0 v→Q (v,.lst (ns.map .int))):callW tb (d + 1) 6 [.lst (ns.map .int),.int k] Q:=by
 refine a0o (fd:=fd6) rfl rfl ?_
 have h1:a2b 1000003=true:=by decide
 have h2:a2b 0=true:=by decide
 have h4:a2b 10=true:=by decide
 have h5:∀ r:Bool,a2b (if r=true then 1 else 0)=true:=by intro r; cases r <;> decide
 simp [fd6,bd6]
 split
 ·rename_i hk
  rw [a4k rfl (show (ns.map FV.int)[k]?=some (.int ns[k]) by simp [hk])]
  simp [h1,h4,h5,big]
  exact ⟨.inr (by by_cases hh:1000000000000000000≤(if ns[k] < 0 then -ns[k] else ns[k]) <;> simp only [hh,if_true,if_false] <;> decide),q _ ⟨_,_,_,rfl,by lia,by lia⟩⟩
 ·simp [h1,h2,h4,big]
  exact q _ ⟨_,_,_,rfl,by lia,by lia⟩
theorem a5f {α:Type} {f:α→FV} (h:∀ x,fla (f x)=true):∀ l:List α,a7a (l.map f)=true
 | []=>rfl
 | x :: r=>by simp only [List.map_cons,a7a,h x,a5f h r,Bool.and_self]
theorem b2y:∀ {xs ys:List FV},a7a xs=true→a7a ys=true→a7a (xs++ys)=true
 | [],ys,_,h=>h
 | x :: r,ys,g,h=>by
  have g:=b2 g
  simp only [List.cons_append,a7a,g.1,b2y g.2 h,Bool.and_self]
theorem d6i (ws:List Int) (cs:List Chg):fla (a3g ws cs)=true:=by
 have h1:a7a (ws.map FV.int)=true:=a5f (fun x=>rfl) ws
 have h2:a7a (cs.map a9p)=true:=a5f (fun x=>rfl) cs
 simp only [a3g,fla,a7a,h1,h2,Bool.and_self]
noncomputable def gd (x:Option FV):Prop:=∀ v,x=some v→fla v=true
theorem a5w:gd none:=fun v e=>by cases e
theorem b6c {x:Option FV} (h:gd x) {L:a0a} (hL:a8p [] L=true):a8p [] (x :: L)=true:=by
 cases x with
 | none=>exact hL
 | some v =>
  show ((if a0g [] 0=.imm then fla v else b0x v) && a8p [] L)=true
  rw [if_pos (show a0g [] 0=.imm from rfl),h v rfl]; exact hL
noncomputable def gB (b:List (Option Nat)):Bool:=(List.range b.length).all fun m=>(itr b (some m) b.length).isNone
noncomputable def Inr (b:List (Option Nat)):Prop:=∀ m a,m < b.length→b.getD m none=some a→a < b.length
theorem c2u {b:List (Option Nat)} (h:Inr b) {m:Nat} (hm:m < b.length):∀ k p,itr b (some m) k=some p→p < b.length
 | 0,p,e=>by cases e; exact hm
 | k + 1,p,e=>by
  rw [itr] at e
  cases g:itr b (some m) k with
  | none=>rw [g] at e; cases e
  | some q=>rw [g] at e; exact h q p (c2u h hm k q g) e
theorem b6v (b:List (Option Nat)) (o:Option Nat):∀ k,itr b o (k + 1)=itr b (stp b o) k
 | 0=>rfl
 | k + 1=>by rw [itr,b6v b o k]; rfl
noncomputable def cnt (b:List (Option Nat)) (o:Option Nat):Nat→Nat
 | 0=>0
 | k + 1=>cnt b o k + (if (itr b o (k + 1)).isSome then 1 else 0)
theorem c3b (b:List (Option Nat)) (o:Option Nat):∀ k,cnt b o k≤k
 | 0=>Γi _
 | k + 1=>by have:=c3b b o k; rw [cnt]; split <;> lia
theorem c3a {b:List (Option Nat)} {m a:Nat} (e:stp b (some m)=some a):∀ k,cnt b (some m) (k + 1)=1 + cnt b (some a) k
 | 0=>by rw [cnt,cnt,b6v,e]; rfl
 | k + 1=>by rw [cnt,c3a e k,b6v,e,cnt]; lia
theorem d3z {b:List (Option Nat)} (h:Inr b) (g:gB b=true):∃ r,Rk b r:=by
 have g1:∀ m,m < b.length→itr b (some m) b.length=none:=fun m hm=>by
  have:=List.all_eq_true.mp g m (List.mem_range.mpr hm)
  simpa using this
 obtain ⟨n,hn⟩:∃ n,b.length=n:=⟨_,rfl⟩
 cases n with
 | zero=>exact ⟨fun _=>0,fun m hm=>by lia,fun m a hm=>by lia⟩
 | succ n =>
  have z:∀ m,m < b.length→cnt b (some m) (n + 1)=cnt b (some m) n:=fun m hm=>by
   have:=g1 m hm
   rw [hn] at this
   rw [cnt,this]; rfl
  refine ⟨fun m=>cnt b (some m) (n + 1),fun m hm=>?_,fun m a hm e=>⟨h m a hm e,?_⟩⟩
  ·have:=c3b b (some m) n
   have:=z m hm
   lia
  ·have:=c3a (b:=b) (m:=m) (a:=a) e n
   have:=z a (h m a hm e)
   lia
theorem b7q {ws:List Int} {cs:List Chg} {sz:Ent→Int} (h:Sto ws cs sz) {b:List (Option Nat)} (hl:b.length=ws.length) (he:∀ e∈ens b,e∈a3r ws.length cs) {m a:Nat} (hm:m < b.length) (e:b.getD m none=some a):a < b.length∧∃ c∈cs,c.1=a∧c.2.1=m:=by
 rcases List.mem_append.mp (he (some a,m) (mem_ens.mpr ⟨hm,e⟩)) with z | z
 ·obtain ⟨x,_,z⟩:=List.mem_map.mp z; cases z
 ·obtain ⟨c,hc,z⟩:=List.mem_map.mp z
  cases z; exact ⟨by rw [hl]; exact (h.r c hc).1,c,hc,rfl,rfl⟩
theorem c0p (d:Nat) {ws:List Int} {cs:List Chg} {sz:Ent→Int} (h:Sto ws cs sz) {ls:List (Option Nat)} (hl:ls.length=ws.length) (he:∀ e∈ens ls,e∈a3r ws.length cs) {Q:FV×FV→Prop} (q:Q (.bl (gB ls),.non)):callW tb (d + 2) 15 [a3g ws cs,.tup (ls.map a0y)] Q:=by
 have hn:=h.n
 have hin:Inr ls:=fun m a hm e=>(b7q h hl he hm e).1
 refine a0o (fd:=c9p) rfl rfl ?_
 simp [c9p,d2k]
 refine b6k d h ?_
 simp
 rw [← List.length_map (f:=a0y),b4j]
 refine ⟨by simp [big]; lia,?_⟩
 refine a0p (f:=fun m:Nat=>FV.tup [.int (m:Int),a0y (ls.getD m none)]) (g:=fun _=>.bl false) (List.range ls.length) [] (fun m hm K k=>?_) ?_
 ·have hm:=List.mem_range.mp hm
  cases e:ls.getD m none with
  | none=>simpa [a0y] using k
  | some a =>
   obtain ⟨_,c,hc,e1,e2⟩:=b7q h hl he hm e
   have:[(a:Int),(m:Int)]∈cs.map keyH:=List.mem_map.mpr ⟨c,hc,by rw [← e1,← e2]; rfl⟩
   simp [a0y]
   refine ⟨by decide,?_⟩
   rw [decide_eq_true this]
   exact k
 ·rw [List.nil_append]
  simp [a1w (fun _=>false)]
  refine ⟨a0q (by lia) (by lia),?_⟩
  refine a2d (I:=fun j L=>(∀ m,m < j→itr ls (some m) ls.length=none)∧∃ a b c,L=[some (a3g ws cs),some (.tup (ls.map a0y)),some (.dct (cs.map keyH) (cs.map fun c=>.int c.2.2)),a,b,c]) ls.length 0 _ ⟨fun m hm=>absurd hm (Nat.not_lt_zero _),_,_,_,rfl⟩ ?_ ?_
  ·rintro m L K - hm ⟨ok,a,b,c,rfl⟩ k
   simp
   refine ⟨a0q (by lia) (by lia),?_⟩
   refine a2d (I:=fun j L=>∃ c,L=[some (a3g ws cs),some (.tup (ls.map a0y)),some (.dct (cs.map keyH) (cs.map fun c=>.int c.2.2)),some (.int m),some (a0y (itr ls (some m) j)),c]) ls.length 0 _ ⟨_,rfl⟩ ?_ ?_
   ·rintro j L K2 - hj ⟨c,rfl⟩ k2
    cases e:itr ls (some m) j with
    | none =>
     simp [a0y]
     exact k2 _ ⟨_,by rw [itr,e]; rfl⟩
    | some p =>
     have hp:=c2u hin (by lia) _ p e
     simp [a0y]
     rw [d0u hp]
     exact k2 _ ⟨_,by rw [itr,e]; rfl⟩
   ·rintro L ⟨c,rfl⟩
    rw [Nat.zero_add]
    cases e:itr ls (some m) ls.length with
    | none =>
     simp [a0y]
     exact k _ ⟨fun x hx=>by
      by_cases z:x=m
      ·rw [z]; exact e
      ·exact ok x (by lia),_,_,_,rfl⟩
    | some p =>
     simp [a0y]
     have:gB ls=false:=by
      cases g:gB ls with
      | false=>rfl
      | true =>
       have:=List.all_eq_true.mp g m (List.mem_range.mpr (by lia))
       rw [e] at this; cases this
     rw [this] at q
     exact q
  ·rintro L ⟨ok,a,b,c,rfl⟩
   simp
   have:gB ls=true:=List.all_eq_true.mpr fun m hm=>by rw [ok m (by have:=List.mem_range.mp hm; lia)]; rfl
   rw [this] at q
   exact q
noncomputable def chS (ws:List Int) (cs:List Chg) (m:Nat):List (Option Nat×Int):=(none,ws.getD m 0) :: (cs.filter fun c=>decide (c.2.1=m)).map fun c=>(some c.1,c.2.2)
noncomputable def a8m (ch:Nat→List (Option Nat×Int)):Nat→List (List (Option Nat)×Int)
 | 0=>[([],0)]
 | m + 1=>(a8m ch m).flatMap fun b=>(ch m).map fun o=>(b.1++[o.1],b.2 + o.2)
noncomputable def b3a (o:Option Nat×Int):FV:=.tup [a0y o.1,.int o.2]
noncomputable def b1m (b:List (Option Nat)×Int):FV:=.tup [.tup (b.1.map a0y),.int b.2]
theorem a8f (b:List (Option Nat)) (o:Option Nat):ens (b++[o])=ens b++[(o,b.length)]:=by
 unfold ens
 rw [List.length_append,List.length_singleton,List.range_succ,List.map_append]
 congr 1
 ·refine List.map_congr_left fun m hm=>?_
  have:=List.mem_range.mp hm
  simp [List.getD_eq_getElem?_getD,List.getElem?_append_left this]
 ·simp [List.getD_eq_getElem?_getD]
theorem d0h {ws:List Int} {cs:List Chg} {sz:Ent→Int} (h:Sto ws cs sz) {m:Nat} (hm:m < ws.length) {o:Option Nat×Int} (ho:o∈chS ws cs m):sz (o.1,m)=o.2∧(o.1,m)∈a3r ws.length cs:=by
 rcases List.mem_cons.mp ho with z | z
 ·rw [z]
  exact ⟨by rw [h.w m hm]; simp [hm],List.mem_append_left _ (List.mem_map.mpr ⟨m,List.mem_range.mpr hm,rfl⟩)⟩
 ·obtain ⟨c,hc,rfl⟩:=List.mem_map.mp z
  obtain ⟨h1,h2⟩:=List.mem_filter.mp hc
  have h2:c.2.1=m:=of_decide_eq_true h2
  rw [← h2]
  exact ⟨h.c c h1,List.mem_append_right _ (List.mem_map.mpr ⟨c,h1,rfl⟩)⟩
theorem d0g {ws:List Int} {cs:List Chg} {sz:Ent→Int} (h:Sto ws cs sz) {m:Nat} {o:Option Nat} (ho:(o,m)∈a3r ws.length cs):(o,sz (o,m))∈chS ws cs m:=by
 rcases List.mem_append.mp ho with z | z
 ·obtain ⟨x,hx,e⟩:=List.mem_map.mp z
  cases e
  have hx:=List.mem_range.mp hx
  rw [h.w m hx]
  exact List.mem_cons.mpr (.inl (by simp [hx]))
 ·obtain ⟨c,hc,e⟩:=List.mem_map.mp z
  cases e
  rw [h.c c hc]
  exact Γh _ (List.mem_map.mpr ⟨c,List.mem_filter.mpr ⟨hc,by simp⟩,rfl⟩)
theorem a8l {ws:List Int} {cs:List Chg} {sz:Ent→Int} (h:Sto ws cs sz):∀ m,m≤ws.length→∀ b∈a8m (chS ws cs) m,b.1.length=m∧(∀ e∈ens b.1,e∈a3r ws.length cs)∧b.2=((ens b.1).map sz).sum
 | 0,_,b,hb=>by
  rw [List.mem_singleton.mp hb]
  exact ⟨rfl,fun e he=>absurd he (by simp [ens]),rfl⟩
 | m + 1,hm,b,hb=>by
  obtain ⟨a,ha,hb⟩:=List.mem_flatMap.mp hb
  obtain ⟨o,ho,rfl⟩:=List.mem_map.mp hb
  obtain ⟨h1,h2,h3⟩:=a8l h m (by lia) a ha
  obtain ⟨g1,g2⟩:=d0h h (by lia) ho
  refine ⟨by simp [h1],fun e he=>?_,?_⟩
  ·rw [a8f,h1] at he
   rcases List.mem_append.mp he with z | z
   ·exact h2 e z
   ·rw [List.mem_singleton.mp z]; exact g2
  ·rw [a8f,List.map_append,List.sum_append,h1]
   simp [h3,g1]
theorem b1v {ws:List Int} {cs:List Chg} {sz:Ent→Int} (h:Sto ws cs sz):∀ m (b:List (Option Nat)),b.length=m→(∀ e∈ens b,e∈a3r ws.length cs)→(b,((ens b).map sz).sum)∈a8m (chS ws cs) m
 | 0,b,hb,_=>by
  rw [List.length_eq_zero_iff.mp hb]
  exact List.mem_singleton.mpr rfl
 | m + 1,b,hb,he=>by
  obtain ⟨a,o,rfl⟩:∃ a o,b=a++[o]:=by
   rcases List.eq_nil_or_concat b with z | ⟨a,o,z⟩
   ·rw [z] at hb; cases hb
   ·exact ⟨a,o,by rw [z,List.concat_eq_append]⟩
  have ha:a.length=m:=by simpa using hb
  rw [a8f] at he ⊢
  have:=b1v h m a ha fun e z=>he e (List.mem_append_left _ z)
  refine List.mem_flatMap.mpr ⟨_,this,List.mem_map.mpr ⟨(o,sz (o,m)),d0g h (by rw [← ha]; exact he _ (List.mem_append_right _ Γn)),?_⟩⟩
  rw [List.map_append,List.sum_append,ha]
  simp
theorem b8p {ws:List Int} {cs:List Chg} {sz:Ent→Int} (h:Sto ws cs sz) (m:Nat):(chS ws cs m).length≤ws.length + 1:=by
 have:((cs.filter fun c=>decide (c.2.1=m)).map (·.1)).length≤ws.length:=by
  refine a8a (n:=ws.length) ?_ fun a ha=>?_
  ·have hk:=h.k
   refine List.pairwise_map.mpr ?_
   have:=(List.pairwise_map.mp hk).filter (fun c:Chg=>decide (c.2.1=m))
   refine this.imp_of_mem fun {a b} ha hb hne e=>hne ?_
   have h1:=of_decide_eq_true (List.mem_filter.mp ha).2
   have h2:=of_decide_eq_true (List.mem_filter.mp hb).2
   rw [e,h1,h2]
  ·obtain ⟨c,hc,rfl⟩:=List.mem_map.mp ha
   exact (h.r c (List.mem_filter.mp hc).1).1
 simp only [chS,List.length_cons,List.length_map] at this ⊢
 lia
theorem b2x {α β:Type} {g:α→List β} {k:Nat}:∀ {l:List α},(∀ x∈l,(g x).length≤k)→(l.flatMap g).length≤l.length * k
 | [],_=>by simp
 | x :: r,h=>by
  have:=b2x (g:=g) (k:=k) (l:=r) fun y hy=>h y (Γh _ hy)
  have:=h x Γn
  rw [List.flatMap_cons,List.length_append,List.length_cons,Nat.succ_mul]
  lia
theorem a4l {ws:List Int} {cs:List Chg} {sz:Ent→Int} (h:Sto ws cs sz) (hn:ws.length≤5):∀ m,(a8m (chS ws cs) m).length≤6 ^ m
 | 0=>by simp [a8m]
 | m + 1=>by
  have h1:=a4l h hn m
  have h2:(a8m (chS ws cs) (m + 1)).length≤(a8m (chS ws cs) m).length * 6:=b2x fun b _=>by
   have:=b8p h m
   rw [List.length_map]; lia
  rw [Nat.pow_succ]
  exact Nat.le_trans h2 (Nat.mul_le_mul_right 6 h1)
theorem c5g {α β:Type} (g:α→List β) {all d r:List α} {x:α} (e:all=d++x :: r):(d.flatMap g).length + (g x).length≤(all.flatMap g).length:=by
 rw [e,List.flatMap_append,List.flatMap_cons,List.length_append,List.length_append]; lia
noncomputable def wsD (ws:List Int) (ds:List Chg) (n:Nat):List (List (Option Nat×Int)):=(List.range n).map (chS ws ds)
theorem b9b {ws:List Int} {ds:List Chg} {c:Chg} {n:Nat} (hc:c.2.1 < n):(wsD ws ds n).set c.2.1 (chS ws ds c.2.1++[(some c.1,c.2.2)])=wsD ws (ds++[c]) n:=by
 refine List.ext_getElem (by simp [wsD]) fun i h1 h2=>?_
 rw [List.getElem_set]
 simp only [wsD,List.getElem_map,List.getElem_range]
 split
 ·rename_i e
  simp [chS,List.filter_append,← e]
 ·rename_i e
  simp [chS,List.filter_append,e]
theorem b9d (d:Nat) {ws:List Int} {cs:List Chg} {sz:Ent→Int} (h:Sto ws cs sz) (hn:ws.length≤5) {Q:FV×FV→Prop} (q:Q (.lst (((a8m (chS ws cs) ws.length).filter fun b=>gB b.1).map b1m),.non)):callW tb (d + 3) 16 [a3g ws cs] Q:=by
 have hcl:=h.l
 refine a0o (fd:=d7h) rfl rfl ?_
 simp [d7h,d8s,a3m,big]
 refine ⟨by lia,?_⟩
 refine a0p (f:=FV.int) (g:=fun w=>FV.lst [b3a (none,w)]) ws [] (fun w hw K k=>?_) ?_
 ·simp [big]
  exact k
 ·rw [List.nil_append,show (ws.map fun w=>FV.lst [b3a (none,w)])=(ws.map fun w=>[b3a (none,w)]).map .lst by rw [List.map_map]; rfl,a5p]
  simp [a3m]
  have e0:(ws.map fun w=>[b3a (none,w)])=(wsD ws [] ws.length).map (·.map b3a):=by
   refine List.ext_getElem (by simp [wsD]) fun i h1 h2=>?_
   have:i < ws.length:=by simpa using h1
   simp [wsD,chS,this]
  rw [e0]
  refine b6g (f:=a9p) (P:=fun ds pss L=>pss=(wsD ws ds ws.length).map (·.map b3a)∧∃ x y z,L=[some (a3g ws cs),none,x,y,z,none,none,none,none,none]) cs cs [] _ _ rfl ⟨rfl,_,_,_,rfl⟩ (fun ds c r pss L K e hP hK=>?_) fun pss L hP=>?_
  ·obtain ⟨rfl,x,y,z,rfl⟩:=hP
   have hc:c∈cs:=by rw [e]; simp
   have hr:=h.r c hc
   simp [a9p]
   have hlen:(chS ws ds c.2.1).length≤145:=by
    have h1:=List.length_filter_le (fun c':Chg=>decide (c'.2.1=c.2.1)) ds
    have h2:ds.length≤cs.length:=by rw [e]; simp
    simp only [chS,List.length_cons,List.length_map]; lia
   refine ⟨c.2.1,rfl,(chS ws ds c.2.1).map b3a,by simp [wsD,hr.2.1],by rw [List.length_map]; simp only [big]; lia,?_⟩
   refine ⟨by decide,hK _ _ ⟨?_,_,_,_,rfl⟩⟩
   rw [← b9b hr.2.1,List.map_set,List.map_append]
   rfl
  ·obtain ⟨rfl,x,y,z,rfl⟩:=hP
   simp
   rw [show ((wsD ws cs ws.length).map (FV.lst ∘ fun x=>x.map b3a))=(List.range ws.length).map fun m=>FV.lst ((chS ws cs m).map b3a) by simp [wsD,Function.comp_def]]
   have hb6:∀ m,m≤5→6 ^ m≤7776:=fun m hm=>Nat.le_trans (Nat.pow_le_pow_right (by decide) hm) (by decide)
   refine a2q (f:=fun m=>FV.lst ((chS ws cs m).map b3a)) (I:=fun ds L=>∃ u x y z v7 v8 v9 w,L=[some (a3g ws cs),w,x,y,z,some (.lst ((a8m (chS ws cs) ds.length).map b1m)),u,v7,v8,v9]) (List.range ws.length) _ [] _ rfl ⟨_,_,_,_,_,_,_,_,rfl⟩ (fun ds m r L K e hI hK=>?_) fun L hI=>?_
   ·obtain ⟨u,x,y,z,v7,v8,v9,w,rfl⟩:=hI
    have hm:m=ds.length:=by
     have:=congrArg (·[ds.length]?) e
     simp at this
     rw [List.getElem?_range (by have:=congrArg List.length e; simp at this; lia)] at this
     exact (Option.some.inj this).symm
    subst hm
    have hd:ds.length < ws.length:=by have:=congrArg List.length e; simp at this; lia
    have hl1:=a4l h hn (ds.length + 1)
    have hl0:=a4l h hn ds.length
    have h60:=hb6 ds.length (by lia)
    have h61:=hb6 (ds.length + 1) (by lia)
    have hch:=b8p h ds.length
    simp
    refine a2q (f:=b1m) (I:=fun bs L=>∃ v8 v9,L=[some (a3g ws cs),w,x,y,z,some (.lst ((a8m (chS ws cs) ds.length).map b1m)),some (.lst ((chS ws cs ds.length).map b3a)),some (.lst ((bs.flatMap fun b=>(chS ws cs ds.length).map fun o=>(b.1++[o.1],b.2 + o.2)).map b1m)),v8,v9]) (a8m (chS ws cs) ds.length) _ [] _ rfl ⟨_,_,rfl⟩ (fun bs b r2 L K2 e2 hI2 hK2=>?_) fun L hI2=>?_
    ·obtain ⟨v8,v9,rfl⟩:=hI2
     have hlen:=c5g (fun b:List (Option Nat)×Int=>(chS ws cs ds.length).map fun o=>(b.1++[o.1],b.2 + o.2)) e2
     rw [show ((a8m (chS ws cs) ds.length).flatMap fun b:List (Option Nat)×Int=>(chS ws cs ds.length).map fun o=>(b.1++[o.1],b.2 + o.2))=a8m (chS ws cs) (ds.length + 1) from rfl,List.length_map] at hlen
     have hb:=(a8l h ds.length (by lia) b (by rw [e2]; simp)).1
     have k2':=fun a b=>hK2 _ ⟨a,b,rfl⟩
     rw [List.flatMap_append,List.map_append,List.flatMap_cons,List.flatMap_nil,List.append_nil] at k2'
     clear hK2
     generalize hA0:(bs.flatMap fun b:List (Option Nat)×Int=>(chS ws cs ds.length).map fun o=>(b.1++[o.1],b.2 + o.2)).map b1m=A0 at k2' ⊢
     have hA1:A0.length + (chS ws cs ds.length).length≤7776:=by rw [← hA0,List.length_map]; lia
     simp [b1m]
     refine ⟨by simp only [big]; lia,?_⟩
     refine a0p (f:=b3a) (g:=fun o=>b1m (b.1++[o.1],b.2 + o.2)) (chS ws cs ds.length) [] (fun o ho K k=>?_) ?_
     ·simp [b3a,big]
      refine ⟨by lia,?_⟩
      simpa [b1m] using k
     ·simp
      refine ⟨by simp only [big]; lia,?_⟩
      have:=k2' (some (FV.tup (b.1.map a0y))) (some (FV.int b.2))
      simpa [Function.comp_def] using this
    ·obtain ⟨v8,v9,rfl⟩:=hI2
     simp
     refine hK _ ⟨some (.lst ((chS ws cs ds.length).map b3a)),x,y,z,none,v8,v9,w,?_⟩
     rw [List.length_append,List.length_singleton]
     rfl
   ·obtain ⟨u,x,y,z,v7,v8,v9,w,rfl⟩:=hI
    simp
    have hl0:=a4l h hn ws.length
    have h60:=hb6 ws.length hn
    refine ⟨by lia,?_⟩
    refine a0w (f:=b1m) (g:=b1m) (p:=fun b=>gB b.1) _ [] (fun b hb K N k1 k2=>?_) ?_
    ·obtain ⟨h1,h2,h3⟩:=a8l h _ (Γi _) b hb
     simp [b1m]
     refine c0p d h h1 h2 ?_
     cases g:gB b.1 with
     | true=>simpa [b1m] using k1 g
     | false=>simpa using k2 g
    ·simpa using q
theorem c1e (d:Nat) (ns:List Int) {Q:FV×FV→Prop} (q:∀ ms:List Int,ms.length≤4→Q (.lst (ms.map .int),.non)):callW tb (d + 1) 8 [.scr ns,.int 4] Q:=by
 refine a0o (fd:=fd8) rfl rfl ?_
 simp [fd8,bd8]
 rw [show ∀ Q:List FV→Prop,wp (a1o (.scr ns)) Q↔Q (ns.map .int) from fun _=>Iff.rfl,show ∀ Q:List FV→Prop,wp (a1o (.scr ns)) Q↔Q (ns.map .int) from fun _=>Iff.rfl]
 have c6:a6g ns none (some 4)=ns.take 4:=(show a6g ns none (some 4)=a6g ns (some (0:Nat)) (some (4:Nat)) by simp [a6g,sIx]).trans (b8h ns (i:=0) (j:=4) (by lia))
 rw [b8i,b8i,show a6g ns (some 4) (some 63)=(ns.drop 4).take 59 from b8h ns (i:=4) (j:=63) (by lia),c6,List.length_map]
 rw [show a2y (upF 0 ((ns.drop 4).take 59).length) (((ns.drop 4).take 59).map FV.int)=((List.range ((ns.drop 4).take 59).length).zip ((ns.drop 4).take 59)).map fun p:Nat×Int=>FV.tup [.int p.1,.int p.2] by rw [a2a,b2h]]
 refine a2q (f:=fun p:Nat×Int=>FV.tup [.int p.1,.int p.2]) (I:=fun _ L=>∃ (ms:List Int) (x y:Option FV),ms.length=(ns.take 4).length∧L=[some (.scr ns),some (.int 4),some (.lst (ms.map .int)),x,y]) _ _ [] _ rfl ⟨ns.take 4,_,_,rfl,rfl⟩ (fun dd c r L K e hI hK=>?_) fun L hI=>?_
 ·obtain ⟨ms,x,y,hl,rfl⟩:=hI
  have hc:c∈(List.range ((ns.drop 4).take 59).length).zip ((ns.drop 4).take 59):=by rw [List.nil_append] at e; rw [e]; simp
  have h1:c.1 < ((ns.drop 4).take 59).length:=List.mem_range.mp (List.of_mem_zip hc).1
  have h2:c.1 < 59∧4 < ns.length:=by simp at h1; lia
  have h6:ms.length=4:=by rw [hl]; simp; lia
  obtain ⟨j,hj,ej⟩:∃ j:Nat,j < 4∧(c.1:Int) % 4=j:=⟨c.1 % 4,by lia,by lia⟩
  simp
  rw [ej,a4k rfl (v:=.int (ms.getD j 0)) (by rw [List.getElem?_map,List.getElem?_eq_getElem (by lia)]; simp [show j < ms.length by lia])]
  refine ⟨.inr (a7i (by lia) (by lia)),?_⟩
  simp
  rw [c9f rfl (by lia),← List.map_set]
  exact hK _ ⟨_,_,_,by rw [List.length_set]; exact hl,rfl⟩
 ·obtain ⟨ms,x,y,hl,rfl⟩:=hI
  simp
  exact q ms (by rw [hl]; simp; lia)
theorem T_vl {ws:List Int} {cs:List Chg} {sz:Ent→Int} (h:Sto ws cs sz) {ps:List Prc} {ls:List (Option Nat)} (t:Told ws cs sz ps ls):Vl 90000 4 (c9t ps ls):=by
 have hn:=h.n
 have hp:=t.pl
 have hs:=t.sm
 obtain ⟨r,hr⟩:=t.rk
 have hll:=t.len
 refine (Vl.tup3 (k1:=41) (k2:=504) (k3:=156 * (547 + 1)) (p:=3) ((Vl.int (by lia) (by lia)).mono (by decide) (by decide)) ((d5l (n:=12) (by lia) fun a ha=>?_).mono (by decide) (by decide)) (Vl.lst (k:=547) (p:=2) (fun x hx=>?_) (by simpa using hp))).mono (by decide) (by decide)
 ·obtain ⟨m,hm,e⟩:=List.mem_iff_getElem.mp ha
  have:=(hr.on m a hm (by simp [List.getD_eq_getElem?_getD,hm,e])).1
  lia
 ·obtain ⟨q,hq,rfl⟩:=List.mem_map.mp hx
  have hlt:=t.lt q hq
  have hup:=t.up q hq
  have h1:=t.pos q hq
  have h2:=t.bd q hq
  have hl:q.S.length≤12:=by
   have:=a8a (n:=ws.length) (hup.imp fun h=>Γo h) hlt
   lia
  obtain ⟨d1,e1,a1,a2,a3⟩:=Vl.tup (k:=41) (p:=0) (m:=12) (xs:=q.S.map fun i:Nat=>FV.int i) (fun x hx=>by
   obtain ⟨i,hi,rfl⟩:=List.mem_map.mp hx
   have:=hlt i hi
   exact Vl.int (by lia) (by lia)) (by simpa using hl)
  obtain ⟨d2,e2,b1,b2,b3⟩:=Vl.int (i:=q.p) (by lia) (by lia)
  refine ⟨.tup [d1,d2],by simp only [a6f,dF,dFs,e1,e2],?_,by simp only [D.fit,D.fits,a2,b2,Bool.and_self],?_⟩
  ·simp only [dep,c1o]; lia
  ·simp only [D.wt,D.wts]; lia
theorem b4z (d:Nat) {ws:List Int} {cs:List Chg} {sz:Ent→Int} (h:Sto ws cs sz) {ps:List Prc} {ls:List (Option Nat)} (t:Told ws cs sz ps ls) {Q:FV×FV→Prop} (q:Q (.bl true,.non)):callW tb (d + 3) 19 [a3g ws cs,c9t ps ls,.int (ps.map (·.p)).sum] Q:=by
 have hn:=h.n
 have hpl:=t.pl
 have hT:Lyg ws cs ls:=⟨t.len,t.rk,t.ent⟩
 have hpb:∀ q∈ps,0≤q.p∧q.p≤100000000000:=fun q hq=>by
  have:=t.pos q hq
  have:=t.bd q hq
  lia
 refine a0o (fd:=d7e) rfl rfl ?_
 simp [d7e,d8q,c9t]
 rw [show a6g [FV.int (ps.map (·.p)).sum,FV.tup (ls.map a0y),FV.lst (ps.map a6f)] none (some 1)=[FV.int (ps.map (·.p)).sum] from rfl]
 refine c0i (d + 1) _ ?_
 simp
 rw [show a6g [FV.int (ps.map (·.p)).sum,FV.tup (ls.map a0y),FV.lst (ps.map a6f)] (some 1) none=[FV.tup (ls.map a0y),FV.lst (ps.map a6f)] from rfl]
 simp
 rw [a3m]
 simp
 refine ite2 (fun _=>?_) fun z=>absurd (by rw [t.len]) z
 refine ⟨by rw [t.len]; simp only [big]; lia,?_⟩
 refine a0p (f:=a0y) (g:=fun _=>.bl true) ls [] (fun o ho K k=>?_) ?_
 ·cases o with
  | none=>simp [a0y]; exact k
  | some a =>
   simp [a0y]
   refine ⟨by decide,b2j (d + 1) [(a:Int)] (by simp) ?_⟩
   exact k
 ·rw [List.nil_append,a1w (fun _=>true),a1c,if_neg (by simp)]
  simp
  refine c4n d h hT ?_
  simp
  refine c0o d h hT ?_
  rw [t.sum,codI.eq]
  simp
  refine c4m d h t ?_
  simp
  refine ⟨by simp only [big]; lia,?_⟩
  refine a0p (f:=a6f) (g:=fun q=>.int q.p) ps [] (fun q hq K k=>?_) ?_
  ·simp [a6f]
   exact k
  ·rw [List.nil_append,show (ps.map fun q=>FV.int q.p)=(ps.map (·.p)).map .int by rw [List.map_map]; rfl]
   refine b0o (by simp; lia) (fun x hx=>?_) ?_
   ·obtain ⟨c,hc,rfl⟩:=List.mem_map.mp hx
    exact hpb c hc
   ·simp
    exact q
theorem c5j {n:Nat} {e:Ent} (h:e∈ens (Γj n none)):e.1=none∧e.2 < n:=by
 obtain ⟨h1,h2⟩:=mem_ens.mp h
 rw [List.length_replicate] at h1
 refine ⟨?_,h1⟩
 rw [← h2,List.getD_eq_getElem?_getD,List.getElem?_replicate,if_pos h1]; rfl
theorem b6x (n:Nat) (m:Nat):∀ k,itr (Γj n none) (some m) (k + 1)=none
 | 0=>by
  show (Γj n none).getD m none=none
  rw [List.getD_eq_getElem?_getD,List.getElem?_replicate]
  split <;> rfl
 | k + 1=>by rw [itr,b6x n m k]; rfl
theorem c9m (n:Nat):gB (Γj n none)=true:=List.all_eq_true.mpr fun m hm=>by
 have hm:=List.mem_range.mp hm
 rw [List.length_replicate] at hm ⊢
 obtain ⟨k,rfl⟩:∃ k,n=k + 1:=⟨n - 1,by lia⟩
 rw [b6x]; rfl
theorem b9e {ws:List Int} {cs:List Chg} {sz:Ent→Int} (h:Sto ws cs sz):∃ x r,(((a8m (chS ws cs) ws.length).filter fun b=>gB b.1).map (·.2))=x :: r:=by
 have:=b1v h ws.length (Γj ws.length none) (by simp) fun e he=>by
  obtain ⟨h1,h2⟩:=c5j he
  refine List.mem_append_left _ (List.mem_map.mpr ⟨e.2,List.mem_range.mpr h2,?_⟩)
  rw [← h1]
 have h2:=List.mem_filter (p:=fun b:List (Option Nat)×Int=>gB b.1).mpr ⟨this,c9m ws.length⟩
 have h3:=List.mem_map (f:=fun b:List (Option Nat)×Int=>b.2).mpr ⟨_,h2,rfl⟩
 generalize (((a8m (chS ws cs) ws.length).filter fun b=>gB b.1).map (·.2))=l at h3
 cases l with
 | nil=>cases h3
 | cons x r=>exact ⟨x,r,rfl⟩
theorem b9f {ws:List Int} {cs:List Chg} {sz:Ent→Int} (h:Sto ws cs sz) {ps:List Prc} {ls:List (Option Nat)} (t:Told ws cs sz ps ls) {x:Int} {r:List Int} (e:(((a8m (chS ws cs) ws.length).filter fun b=>gB b.1).map (·.2))=x :: r):a1f x r=(ps.map (·.p)).sum:=by
 apply Int.le_antisymm
 ·obtain ⟨rk,hr⟩:=t.rk
  have h1:=b1v h ws.length ls t.len t.ent
  have g:gB ls=true:=List.all_eq_true.mpr fun m hm=>by
   rw [b6y hr (List.mem_range.mp hm)]; rfl
  have h2:((ens ls).map sz).sum∈x :: r:=by rw [← e]; exact List.mem_map.mpr ⟨_,List.mem_filter.mpr ⟨h1,g⟩,rfl⟩
  rw [t.sum] at h2
  rcases List.mem_cons.mp h2 with z | z
  ·rw [z]; exact (a4g r x).1
  ·exact (a4g r x).2 _ z
 ·have h1:=a5q r x
  rw [← e] at h1
  obtain ⟨b,hb,eb⟩:=List.mem_map.mp h1
  obtain ⟨hb,hg⟩:=List.mem_filter.mp hb
  obtain ⟨g1,g2,g3⟩:=a8l h _ (Γi _) b hb
  obtain ⟨rk,hr⟩:=d3z (fun m a hm z=>(b7q h g1 g2 hm z).1) hg
  rw [← eb,g3]
  exact t.least g1 hr g2
theorem c2m {ns ms:List Int} {k M N:Int} {s kp v:FV} {acc:List FV} {x8 x9:Option FV} (hv:Lf N v) (h1:fla s=true) (hk:fla kp=true) (ha:a7a acc=true) (h8:gd x8) (h9:gd x9):a8p [.imm,.own,.imm,.own,.imm,.imm,.imm,.own] [some (.scr ns),some (.lst (ms.map .int)),some (.int k),some v,some s,some kp,some (.int M),some (.lst acc),x8,x9]=true:=by
 obtain ⟨a,b,c,rfl,_,_⟩:=hv
 have hm:a7a (ms.map FV.int)=true:=a5f (fun _=>rfl) ms
 have:=b6c h8 (b6c h9 (L:=[]) rfl)
 simp [a8p,a0g,fla,a7a,b0x,c6j,hm,h1,hk,ha,this]
noncomputable def d0n:SW:=b2c [.imm,.own,.imm,.own,.imm,.imm,.imm,.own] (a0s (a1u (a2e (callW tb 13) 0 (a0b (a0c 4) a1a)) (.nm 9)) (a0s (sIf (b3j (a1j (a2e (callW tb 13) 19 (a0b (a0c 4) (a0b (a0c 9) (a0b (a0c 6) a1a)))))) (a2s (eC (.bl false))) a6e) (a0s (c2c (a8h c6c 7 (eUn b9l (a0c 9)))) (b9q [.imm,.own,.imm,.own,.imm,.imm,.imm,.own] 9 (eOp ixF (a0c 9) (eC (.int 2)))))))
theorem c2v {ns ms:List Int} {k M N:Int} {kp v:FV} {acc:List FV} {x8 x9:Option FV} (hv:Lf N v) (hk:fla kp=true) (ha:a7a acc=true) (hal:acc.length < 10) (h8:gd x8) (h9:gd x9) {ws:List Int} {cs:List Chg} (hS:Sto ws cs (szF ws cs)) (hM:∀ ps ls,Told ws cs (szF ws cs) ps ls→M=(ps.map (·.p)).sum) {Q:FFl→a0a→Prop}
  (q:∀ ps ls y,Tx ws.length (a3r ws.length cs) (szF ws cs) ps ls→b9l (c9t ps ls)=some y→(∀ R:Bool→Prop,wp (eqF y y) R=R true)→fla y=true→Q .next [some (.scr ns),some (.lst (ms.map .int)),some (.int k),some v,some (a3g ws cs),some kp,some (.int M),some (.lst (acc++[y])),x8,none]) :
  d0n [some (.scr ns),some (.lst (ms.map .int)),some (.int k),some v,some (a3g ws cs),some kp,some (.int M),some (.lst acc),x8,x9] Q:=by
 have f1:=d6i ws cs
 unfold d0n
 simp
 refine ⟨c2m hv f1 hk ha h8 h9,?_⟩
 refine b9g 10 hS fun ps ls t tx=>?_
 simp
 have hpl:=t.pl
 rw [hM ps ls t]
 refine b4z 10 hS t ?_
 simp
 obtain ⟨y,hy,hq,hf⟩:=c2b (T_vl hS t) (by decide) (by decide)
 rw [show FV.tup [FV.int (ps.map (·.p)).sum,FV.tup (ls.map a0y),FV.lst (ps.map a6f)]=c9t ps ls from rfl,hy,a1c]
 have ha2:a7a (acc++[y])=true:=b2y ha (by simp only [a7a,hf,Bool.and_self])
 have q:=q ps ls y tx hy hq hf
 rw [hM ps ls t] at q
 exact ⟨by simp only [big]; lia,by simp only [big]; lia,c2m hv f1 hk ha2 h8 a5w,q⟩
theorem d8c {R:FV×FV→Prop} {v:FV} (hv:Lf 0 v) (q:∀ ws cs v',GsB 1000000100 ws cs→ws.length≤5→Lf 1000 v'→R (a3g ws cs,v')):callW tb 13 7 [v,.int 4] fun z=>wp (eqF z.fst (.int 0)) fun r=>if r=true then callW tb 13 11 [z.snd,.int 5] R else callW tb 13 7 [z.snd,.int 5] fun z=>callW tb 13 11 [z.snd,z.fst] R:=by
 refine a2w 11 hv (by decide) (by decide) (by decide) fun u v _ _ hv=>?_
 simp
 refine ite2 (fun _=>?_) fun _=>?_
 ·exact a9g 9 (m:=5) hv (by lia) (by lia) (by lia) fun ws cs v' hG hl hv=>q ws cs v' hG (by lia) (hv.mono (by lia))
 ·refine a2w 11 hv (by lia) (by decide) (by decide) fun u v hu hu2 hv=>?_
  obtain ⟨m,rfl⟩:∃ m:Nat,u=m:=⟨u.toNat,by lia⟩
  exact a9g 9 (m:=m) hv (by lia) (by lia) (by lia) fun ws cs v' hG hl hv=>q ws cs v' hG (by lia) (hv.mono (by lia))
theorem law_val (ns:List Int):callW tb 14 20 [.scr ns] fun z=>z.1=.bl true:=by
 refine a0o (fd:=d7d) rfl rfl ?_
 simp [d7d,d8p]
 refine c1e 12 ns fun ms hm=>?_
 simp
 have e0:∃ k:Nat,(if (2:Int) < (ms.length:Int) then (ms.length:Int) else 2)=k∧k≤6:=by
  by_cases z:(2:Int) < (ms.length:Int)
  ·exact ⟨ms.length,by rw [if_pos z],by lia⟩
  ·exact ⟨2,by rw [if_neg z]; rfl,by lia⟩
 obtain ⟨k0,ek,hk0⟩:=e0
 rw [ek,Int.toNat_natCast]
 refine ⟨a0q (by lia) (by lia),?_⟩
 refine a2d (I:=fun _ L=>∃ a b c d e f g h,gd g∧gd h∧L=[some (FV.scr ns),some (FV.lst (ms.map FV.int)),a,b,c,d,e,f,g,h]) k0 0 _ ⟨_,_,_,_,_,_,_,_,a5w,a5w,rfl⟩ (fun k L K _ hk hI hK=>?_) fun L hI=>?_
 ·obtain ⟨x2,x3,x4,x5,x6,x7,x8,x9,g8,g9,rfl⟩:=hI
  simp
  refine c0r 12 ms k fun v hv=>?_
  simp
  refine d8c hv fun ws cs v hG hl hv=>?_
  have hS:=hG.sto
  obtain ⟨st,hst,hsq,hsf⟩:=c2b (c5l hS) (by decide) (by decide)
  dsimp only
  rw [hst,a1c]
  refine b9d 10 hS hl ?_
  obtain ⟨x,r,ex⟩:=b9e hS
  have hbl:((a8m (chS ws cs) ws.length).filter fun b=>gB b.1).length≤7776:=Nat.le_trans (List.length_filter_le ..) (Nat.le_trans (a4l hS hl _) (Nat.le_trans (Nat.pow_le_pow_right (by decide) hl) (by decide)))
  simp
  refine ⟨by simp only [big]; lia,?_⟩
  refine a0p (f:=b1m) (g:=fun b=>.int b.2) _ [] (fun b hb K k=>?_) ?_
  ·simp [b1m]
   exact k
  ·rw [List.nil_append,show (((a8m (chS ws cs) ws.length).filter fun b=>gB b.1).map fun b=>FV.int b.2)=(((a8m (chS ws cs) ws.length).filter fun b=>gB b.1).map (·.2)).map .int by rw [List.map_map]; rfl,b6i ex]
   simp
   have hM:∀ ps ls,Told ws cs (szF ws cs) ps ls→a1f x r=(ps.map (·.p)).sum:=fun ps ls t=>b9f hS t ex
   refine ⟨by decide,?_⟩
   have gi:∀ i:Int,gd (some (.int i)):=fun i v e=>by cases e; rfl
   refine c2v hv hsf (acc:=[]) rfl (by simp) (gi 0) g9 hS hM fun ps ls y tx hy hq hf=>?_
   refine c2v hv hsf (acc:=[]++[y]) (by simp [a7a,hf]) (by simp) (gi 1) a5w hS hM fun ps2 ls2 y2 tx2 hy2 hq2 hf2=>?_
   obtain ⟨rfl,rfl⟩:=tx.uniq tx2
   rw [hy] at hy2
   cases hy2
   simp [c2w,upF]
   rw [hst,a1c,hsq]
   refine ⟨rfl,?_⟩
   rw [hq]
   exact ⟨rfl,hK _ ⟨_,_,_,_,_,_,_,_,gi 1,a5w,rfl⟩⟩
 ·obtain ⟨x2,x3,x4,x5,x6,x7,x8,x9,g8,g9,rfl⟩:=hI
  simp
end Kq
end
set_option maxRecDepth 100000
set_option maxHeartbeats 4000000
section
namespace Kq
open PySem PySem.Spec PyProof.Rows L2 PySem.W
noncomputable def top (i:Nat):Stmt:=PySem.Challenge.pw_keepwhole_k14_least_room_beside_all.main.body.getD i (.Pass ⟨0,0,0,0⟩)
noncomputable def d0:Df:=⟨"least_room",top 1,["stock"],["stock","many","left","free","paper","makes","entering","price","entry"],[.imm,.imm,.own,.own,.own]⟩
noncomputable def d1:Df:=⟨"entry_sizes",top 2,["stock"],["stock","sizes","a","b","size"],[.imm,.own]⟩
noncomputable def d2:Df:=⟨"next_makes",top 3,["many","free"],["many","free","fewest","make","found"],[]⟩
noncomputable def d3:Df:=⟨"leading_to",top 4,["free","make"],["free","make","found","at"],[.imm,.imm,.own]⟩
noncomputable def d4:Df:=⟨"laid_by",top 5,["many","free"],["many","free","laid","on","make"],[.imm,.imm,.own]⟩
noncomputable def d5:Df:=⟨"_law_mix",top 7,["_law_cell","_law_k"],["_law_cell","_law_k","_law_m"],[]⟩
noncomputable def d6:Df:=⟨"_law_left",top 8,["_law_script","_law_k"],["_law_script","_law_k","_law_cell"],[.own]⟩
noncomputable def d7:Df:=⟨"_law_pick",top 9,["_law_left_here","_law_many_here"],["_law_left_here","_law_many_here","_law_digit"],[.own]⟩
noncomputable def d8:Df:=⟨"_law_folded",top 10,["_law_script","_law_many_here"],["_law_script","_law_many_here","_law_cells","_law_k","_law_cell"],[.imm,.imm,.own]⟩
noncomputable def d9:Df:=⟨"_law_size",top 11,["_law_left_here","_law_great"],["_law_left_here","_law_great","_law_way_drawn"],[.own]⟩
noncomputable def d10:Df:=⟨"_law_many",top 12,["_law_left_here","_law_most"],["_law_left_here","_law_most"],[.own]⟩
noncomputable def d11:Df:=⟨"_law_stock",top 13,["_law_left_here","_law_many_here"],["_law_left_here","_law_many_here","_law_great","_law_often","_law_wholes","_law_changes","_law_a","_law_b"],[.own,.imm,.imm,.imm,.imm,.own]⟩
noncomputable def d12:Df:=⟨"_law_numbers",top 14,["_law_some"],["_law_some"],[]⟩
noncomputable def d13:Df:=⟨"_law_sizes",top 15,["_law_stock_here"],["_law_stock_here"],[]⟩
noncomputable def d14:Df:=⟨"_law_room",top 16,["_law_stock_here","_law_laying"],["_law_stock_here","_law_laying","_law_sizes_here","_law_total","_law_make","_law_on"],[]⟩
noncomputable def d15:Df:=⟨"_law_is_laying",top 17,["_law_stock_here","_law_laying"],["_law_stock_here","_law_laying","_law_sizes_here","_law_make","_law_here","_law_turn"],[]⟩
noncomputable def d16:Df:=⟨"_law_tried",top 18,["_law_stock_here"],["_law_stock_here","_law_ways_on","_law_a","_law_b","_law_size_here","_law_found","_law_some","_law_longer","_law_laid","_law_total"],[.imm,.imm,.imm,.imm,.imm,.imm,.imm,.own]⟩
noncomputable def d17:Df:=⟨"_law_into",top 19,["_law_paper","_law_begin","_law_make"],["_law_paper","_law_begin","_law_make"],[]⟩
noncomputable def d18:Df:=⟨"_law_is_paper",top 20,["_law_stock_here","_law_paper"],["_law_stock_here","_law_paper","_law_met","_law_pair","_law_makes","_law_price"],[.imm,.imm,.own]⟩
noncomputable def d19:Df:=⟨"_law_right",top 21,["_law_stock_here","_law_found","_law_least"],["_law_stock_here","_law_found","_law_least","_law_laid","_law_paper"],[]⟩
noncomputable def d20:Df:=⟨"law",top 22,["_law_script"],["_law_script","_law_cells","_law_k","_law_left_here","_law_stock_here","_law_kept","_law_least","_law_told","_law_turn","_law_found"],[.imm,.own,.imm,.own,.imm,.imm,.imm,.own]⟩
noncomputable def fns:Fns:=⟨[Γe "least_room",Γe "entry_sizes",Γe "next_makes",Γe "leading_to",Γe "laid_by",Γe "_law_mix",Γe "_law_left",Γe "_law_pick",Γe "_law_folded",Γe "_law_size",Γe "_law_many",Γe "_law_stock",Γe "_law_numbers",Γe "_law_sizes",Γe "_law_room",Γe "_law_is_laying",Γe "_law_tried",Γe "_law_into",Γe "_law_is_paper",Γe "_law_right",Γe "law"],[],[]⟩
abbrev DB (d:Df) (fr:Bool) (b:CW→SW):Prop:=∀ (X:Cx) (call:CW) (n:Nat),Good X (d.cc fns) n (spK tb call)→FSs X (d.cc fns) fr (a1p d.st) (b call)
local macro_rules | `(tactic| ac_rfl)=>do
 let g:=Lean.mkIdent `G
 let mut ts:Array (Lean.TSyntax ``Lean.Parser.Tactic.tacticSeq):=#[]
 for r in ("§fe_var 12210;d7n 03110;fe_int 00010;fa_nil 00010;a1b 02010;fr_var 11110;b7n 01010;d1u 12110;fs_ret 01010;fe_ix 03110;fs_set 14310;CompOk.mk 05110;d6m 11110;d6l 00010;fe_tup 01010;fs_nil 00010;fs_if 03010;c9o 11010;fe_add 02010;d7a 16510;d5w 00010;d2b 18710;fe_bl 00010;fe_len 13210;fw_or 02010;d5y 14310;fe_ixN 13210;fb_not 01010;ff_lst 01010;fb_ne 12010;fb_eq 12010;fw_or1 01010;d5u 01010;fw_and 02010;d5v 01010;fe_lst 01010;fe_mul 02010;fe_mod 02010;fe_isi 15410;fb_ni2 13010;fb_in2 13010;d6b 02110;fb_lt 12010;d6f 01010;fe_app 15410;d1x 13210;fe_one 01010;d6p 16510;d7m 13210;d2d 03110;d2c 16510;fs_whl 02010;fe_sum 13210;fe_non 00010;d5z 12210;fe_if 03010;fs_ix 15310;d6g 00010;fe_and 02010;fe_all 13210;d1y 13210;d5t 02010;d6y 13210;d6s 13210;d6e 13210;d6n 13310;fb_isN 01010;fe_pow 02010;fe_abs 13210;fe_ge 02010;d6w 02010;fe_slL 03010;fe_sub 02010;fe_any 13210;d7l 01010;d6j 01010;d6u 13210;fe_sl 03010;fs_thw 12110;d6d 15310;d1s 15310;d2a 13210;fs_add 13210;d1v 00010;d6v 13210;d6c 15310;fe_dgN 13210;d1z 13210;fb_gt 02010;d6o 13210;d5x 14210;fe_not 01010;d6x 13210;d6z 12010;fe_ni2 13010;d6r 01010;CompOkG.mk 05110;fe_ext 15410;fe_neg 01010;fe_lt 12010;fe_isN 01010;fe_or 02010;fe_eq 12010;d6t 15310;d1w 18710;fz_app 04310;fz_one 01010;d1r 02110;fs_tup 14210;fah_of 01010;d6a 01010;fr_of 01010;fb_val 02110;fb_w 01010;d6n 13311;d6p 16511;fi_seq 01000;fi_rng 13200;d6k 13200;d1t 12200;fi_own 12200;fe_int 00000;fe_bl 00000;fe_non 00000".drop 1).toString.splitOn ";" do
  let [n,c]:=r.splitOn " " | continue
  let [a,k,s,w,e]:=c.toList.map fun x=>x.toNat - 48 | continue
  let f:=Lean.mkIdent n.toName
  let mut as:Array Lean.Term:=if a=1 then #[g] else #[]
  for _ in [0:k] do as:=as.push (← `(?_))
  let mut t ← if as.isEmpty then `(tactic| exact $f) else `(tactic| refine $f $as*)
  if w=1 then t ← `(tactic| with_reducible $t:tactic)
  if e=1 then t ← `(tactic| ((with_reducible refine a2t ?_); $t:tactic))
  for _ in [0:s] do t ← `(tactic| (($t:tactic); first | decide +kernel | rfl))
  ts:=ts.push (← `(Lean.Parser.Tactic.tacticSeq| $t:tactic))
 ts:=ts.push (← `(Lean.Parser.Tactic.tacticSeq| first | decide +kernel))
 `(tactic| repeat' first $[| $ts]*)
local macro_rules | `(tactic| ac_nf)=>do
 let g:=Lean.mkIdent `G
 `(tactic| (intro _ $g:ident; ac_rfl))
local macro_rules | `(tactic| eq_refl)=>do
 let g:=Lean.mkIdent `G
 `(tactic| (intro $g:ident; ac_rfl))
local macro_rules | `(tactic| exists $e)=>`(tactic| (refine $e; ac_rfl))
local macro_rules | `(tactic| exists $e,$g:ident)=>`(tactic| (intro X call n $g:ident; refine $e; ac_rfl))
theorem db0:DB d0 false bd0:=by
 exists a1b ?_ ?_,G
 eq_refl
 exists c5c G (own:=["on","make"]) (md':=[.imm,.imm,.frz,.own,.own]) ?_ ?_ ?_
 ac_nf
 ac_nf
 ac_nf
 exists a2t (a0v G (own:=["entry"]) (md':=[.imm,.imm,.own,.own,.own]) ?_)
 ac_nf
 ac_nf
 ac_nf
 exists a2p G (md':=[.imm,.imm,.own,.own,.own]) ?_ ?_ ?_ ?_
 eq_refl
 exists a2t (a0v G (own:=["entry"]) (md':=[.imm,.imm,.own,.own,.own]) ?_)
 ac_nf
 ac_nf
 ac_nf
 exists a2t (a0v G (own:=["pair"]) (md':=[.imm,.imm,.own,.own,.frz]) ?_)
 ac_nf
 ac_nf
 ac_nf
theorem db1:DB d1 true bd1:=by
 exists a1b ?_ ?_,G
 exists c1d G (own:=["make","size"]) (md':=[.imm,.own]) ?_ ?_ ?_ ?_
 ac_nf
 ac_nf
 ac_nf
 ac_nf
 exists a2p G (md':=[.imm,.own]) ?_ ?_ ?_ ?_
 eq_refl
theorem db2:DB d2 false bd2:=by
 exists a1b ?_ ?_,G
 exists a2p G (md':=[]) ?_ ?_ ?_ ?_
 eq_refl
theorem db3:DB d3 true bd3:=by
 exists a1b ?_ ?_,G
 exists a2t (a0v G (own:=["on","to"]) (md':=[.imm,.imm,.own]) ?_)
 ac_nf
 ac_nf
 ac_nf
theorem db4:DB d4 false bd4:=by
 exists a1b ?_ ?_,G
 exists a2t (a0v G (own:=["entry"]) (md':=[.imm,.imm,.own]) ?_)
 ac_nf
 ac_nf
 ac_nf
 exists a2t (a0v G (own:=["make"]) (md':=[.imm,.imm,.own]) ?_)
 ac_nf
 ac_nf
 ac_nf
theorem db5:DB d5 false bd5:=by
 exists a1b ?_ ?_,G
theorem db6:DB d6 true bd6:=by
 exists a1b ?_ ?_,G
theorem db7:DB d7 false bd7:=by
 exists a1b ?_ ?_,G
theorem db8:DB d8 true bd8:=by
 exists a1b ?_ ?_,G
 exists a2p G (md':=[.imm,.imm,.own]) ?_ ?_ ?_ ?_
 eq_refl
theorem db9:DB d9 false bd9:=by
 exists a1b ?_ ?_,G
theorem db10:DB d10 false bd10:=by
 exists a1b ?_ ?_,G
theorem db11:DB d11 false d8u:=by
 exists a1b ?_ ?_,G
 exists a2t (a0v G (own:=["_law_k"]) (md':=[.own,.imm,.imm,.imm,.imm,.own]) ?_)
 ac_nf
 ac_nf
 ac_nf
 exists a2p G (md':=[.own,.imm,.imm,.imm,.imm,.own]) ?_ ?_ ?_ ?_
 eq_refl
 exists a2p G (md':=[.own,.imm,.imm,.imm,.imm,.own]) ?_ ?_ ?_ ?_
 eq_refl
theorem db12:DB d12 false d0q:=by
 delta d0q
 exists b7n ?_,G
 exists a2t (a0v G (own:=["_law_one"]) (md':=[]) ?_)
 ac_nf
 ac_nf
 ac_nf
theorem db13:DB d13 false d2l:=by
 delta d2l
 exists b7n ?_,G
 exists a2t (a0v G (own:=["_law_a","_law_b","_law_size_here"]) (md':=[]) ?_)
 ac_nf
 ac_nf
 ac_nf
theorem db14:DB d14 false d8t:=by
 exists a1b ?_ ?_,G
 exists a2p G (md':=[]) ?_ ?_ ?_ ?_
 eq_refl
theorem db15:DB d15 false d2k:=by
 exists a1b ?_ ?_,G
 exists a2t (a0v G (own:=["_law_make","_law_on"]) (md':=[]) ?_)
 ac_nf
 ac_nf
 ac_nf
 exists a2p G (md':=[]) ?_ ?_ ?_ ?_
 eq_refl
 exists a2p G (md':=[]) ?_ ?_ ?_ ?_
 eq_refl
theorem db16:DB d16 false d8s:=by
 exists c5d G (own:=["_law_size_here"]) ?_ ?_ ?_ ?_ ?_ ?_ ?_ ?_ ?_ ?_ ?_ ?_,G
 ac_nf
 ac_nf
 ac_nf
 exists a2p G (md':=[.imm,.imm,.imm,.imm,.imm,.imm,.imm,.own]) ?_ ?_ ?_ ?_
 eq_refl
 exists a2p G (md':=[.imm,.imm,.imm,.imm,.imm,.imm,.imm,.own]) ?_ ?_ ?_ ?_
 eq_refl
 exists a2t (a0v G (own:=["_law_on","_law_size_here"]) (md':=[.imm,.imm,.imm,.imm,.imm,.imm,.imm,.own]) ?_)
 ac_nf
 ac_nf
 ac_nf
 exists a2t (a0v G (own:=["_law_pair"]) (md':=[.imm,.imm,.imm,.imm,.imm,.imm,.imm,.own]) ?_)
 ac_nf
 ac_nf
 ac_nf
theorem db17:DB d17 false d2j:=by
 delta d2j
 exists b7n ?_,G
 exists a2t (a0v G (own:=["_law_makes","_law_price"]) (md':=[]) ?_)
 ac_nf
 ac_nf
 ac_nf
theorem db18:DB d18 false d8r:=by
 exists a1b ?_ ?_,G
 exists a2p G (md':=[.imm,.imm,.own]) ?_ ?_ ?_ ?_
 eq_refl
 exists a2t (a0v G (own:=["_law_make"]) (md':=[.imm,.imm,.own]) ?_)
 ac_nf
 ac_nf
 ac_nf
 exists a2t (a0v G (own:=["_law_make","_law_size_here"]) (md':=[.imm,.imm,.own]) ?_)
 ac_nf
 ac_nf
 ac_nf
 exists a2t (a0v G (own:=["_law_a","_law_b","_law_size_here"]) (md':=[.imm,.imm,.own]) ?_)
 ac_nf
 ac_nf
 ac_nf
theorem db19:DB d19 false d8q:=by
 exists a1b ?_ ?_,G
 exists a2t (a0v G (own:=["_law_on"]) (md':=[]) ?_)
 ac_nf
 ac_nf
 ac_nf
 exists a2t (a0v G (own:=["_law_makes","_law_price"]) (md':=[]) ?_)
 ac_nf
 ac_nf
 ac_nf
theorem db20:DB d20 false d8p:=by
 exists a1b ?_ ?_,G
 exists a2p G (md':=[.imm,.own,.imm,.own,.imm,.imm,.imm,.own]) ?_ ?_ ?_ ?_
 eq_refl
 exists a2t (a0v G (own:=["_law_laid","_law_total"]) (md':=[.imm,.own,.imm,.own,.imm,.imm,.imm,.own]) ?_)
 ac_nf
 ac_nf
 ac_nf
 exists a2p G (md':=[.imm,.own,.imm,.own,.imm,.imm,.imm,.own]) ?_ ?_ ?_ ?_
 eq_refl
noncomputable def rc (d:Df):DefRec:=⟨Γe d.name,a3w d.st,a1p d.st,a0j d.st,d0f d.st⟩
noncomputable def recs:List DefRec:=[rc d0,rc d1,rc d2,rc d3,rc d4,rc d5,rc d6,rc d7,rc d8,rc d9,rc d10,rc d11,rc d12,rc d13,rc d14,rc d15,rc d16,rc d17,rc d18,rc d19,rc d20]
noncomputable def view:Program:=c6n PySem.Challenge.pw_keepwhole_k14_least_room_beside_all
theorem recs_eq:recs=recsOf view:=by kernel_rfl!
noncomputable def PD (K:Frag) (mg:Str→Option Value) (i:Nat) (x:Str):Prop:=∃ df fd fa fdd,tb[i]?=some fd∧Df.ok df fd.np fd.ns fd.io=true∧(∀ X call n,Good X (df.cc fns) n (spK tb call)→FSs X (df.cc fns) fd.fr (a1p df.st) (fd.body call))∧Fun K (Γe df.name) (Γe df.name) df.st fa fdd∧mg x=some (.ref fa)∧Binds K fdd df.ps []
local macro_rules | `(tactic| exists $d,$b,$j,$u)=>`(tactic| (refine And.intro (have ⟨fa,fd,m,F⟩:=DIn.fn (by assumption) ((by assumption:∀ d∈recs,DIn _ _ d) (rc $d) (List.mem_of_getElem? (i:=$j) rfl)); ⟨$d,_,fa,fd,rfl,by decide +kernel,$b,F,m,F.binds fun _ _ _ _ _ _ us hl=>$u (P:=fun us=>bindArgs _ ⟨us,[]⟩=pure (List.zip _ us)) hl (by intros; first | kernel_rfl! | rfl)⟩) ?_))
theorem d7q {K:Frag} {h:Heap} {mg:Str→Option Value} (A:AllIn K h) (D:∀ d∈recs,DIn K mg d):EachI (PD K mg) 0 fns.f:=by
 exists d0,db0,0,us1
 exists d1,db1,1,us1
 exists d2,db2,2,us2
 exists d3,db3,3,us2
 exists d4,db4,4,us2
 exists d5,db5,5,us2
 exists d6,db6,6,us2
 exists d7,db7,7,us2
 exists d8,db8,8,us2
 exists d9,db9,9,us2
 exists d10,db10,10,us2
 exists d11,db11,11,us2
 exists d12,db12,12,us1
 exists d13,db13,13,us1
 exists d14,db14,14,us2
 exists d15,db15,15,us2
 exists d16,db16,16,us1
 exists d17,db17,17,us3
 exists d18,db18,18,us2
 exists d19,db19,19,us3
 exists d20,db20,20,us1
 trivial
theorem law_fn (w:World) (K:Frag) (mg:Str→Option Value) (fa:Addr) (h:Heap) (A:AllIn K h) (D:∀ d∈recs,DIn K mg d) (blt:∀ b∈bltNames,mg (Γe b)=none) (hm:mg (Γe "law")=some (.ref fa)) :
  ∃ fd:FuncData,(∀ (s:Shared) (u:Value),BindsTo s fd ⟨[u],[]⟩ [(Γe "_law_script",u)])∧∀ base:Heap,FnOk PySem.Challenge.pw_keepwhole_k14_least_room_beside_all w K mg base CX0 14 fa fd [Γe "_law_script"] (spT K tb (callW tb 14) 20):=by
 obtain ⟨fa2,fd,m,F⟩:=DIn.fn A (D (rc d20) (List.mem_of_getElem? (i:=20) rfl))
 have e:=hm.symm.trans m
 cases e
 have E:∀ (f:Nat) (x:Str),fns.f[f]?=some x→PD K mg f x:=fun f x hx=>by
  have:=EachI.get (d7q A D) f x hx
  rwa [Nat.zero_add] at this
 have EM:∀ (k:Nat) (c:Str) (Ca:Addr) (m:Str),fns.ms[k]?=some (c,Ca,m)→∃ df fd fa fdd nm qu,tb[fns.f.length + k]?=some fd∧Df.ok df fd.np fd.ns fd.io=true∧(∀ X call n,Good X (df.cc fns) n (spK tb call)→FSs X (df.cc fns) fd.fr (a1p df.st) (fd.body call))∧Fun K nm qu df.st fa fdd∧mg c=some (.ref Ca)∧Cls K Ca∧(m=("__init__":Str)→Mk K Ca fa)∧(m≠("__init__":Str)→Meth K Ca m fa)∧Binds K fdd df.ps []:=fun k c Ca m hx=>by cases hx
 have FL:∀ p∈fns.fl,Cls K p.1∧b0i K p.1 p.2:=fun p hp=>by cases hp
 refine ⟨fd,?_,fun base=>?_⟩
 ·obtain ⟨oc,od,kV,doc,pm,an,cdv,ct,osl,rfl,lk,hcd⟩:=F.ex
  exact fun s v=>.of_eq rfl
 ·obtain ⟨R1,R2⟩:=b8t (P:=PySem.Challenge.pw_keepwhole_k14_least_room_beside_all) (w:=w) (base:=base) blt FL E EM 13
  exact b1j (df:=d20) F rfl (by nofun) db20 R1 blt R2 FL
end Kq
end
set_option maxHeartbeats 0
section
open PySem PySem.W PyProof.Rows
theorem Kq.said : PySem.Challenge.rw_keepwhole_k14_least_room_beside_all.wellSaid = true := by nofun
theorem Kq.left : LeftO PySem.Challenge.rw_keepwhole_k14_least_room_beside_all.prog Kq.view [] (fun s => xlAt Kq.view [] s && recOk (RowW.records PySem.Challenge.rw_keepwhole_k14_least_room_beside_all.row.toRowW) s) (fun _ => ()) (fun _ => ()) 3000 := by
  intro w
  kernel_rfl!
theorem Kq.freeAll : (Kq.bltNames.all fun b => Kq.freeIn Kq.view (looseW Kq.view []) (Str.ofString b)) = true := by nofun
theorem Kq.hdef : defOf Kq.view PySem.Challenge.rw_keepwhole_k14_least_room_beside_all.name = some (Kq.rc Kq.d20, []) := by kernel_rfl!
theorem Kq.hp : PySem.Challenge.rw_keepwhole_k14_least_room_beside_all.prog.theDef PySem.Challenge.rw_keepwhole_k14_least_room_beside_all.name = some ((Kq.rc Kq.d20).params, (Kq.rc Kq.d20).body, (Kq.rc Kq.d20).scope) := by kernel_rfl!
theorem Kq.okq : (chainsOk Kq.view && opensWell PySem.Challenge.rw_keepwhole_k14_least_room_beside_all.prog && (frees PySem.Challenge.rw_keepwhole_k14_least_room_beside_all.row.toRowW && PySem.Challenge.rw_keepwhole_k14_least_room_beside_all.row.within.isEmpty)) = true := by nofun
theorem Kq.prom : PySem.Challenge.rw_keepwhole_k14_least_room_beside_all.row.toRowW.promised := ⟨[.list []], by nofun, by nofun⟩
theorem PySem.Challenge.cw_keepwhole_k14_least_room_beside_all_holds : PySem.Challenge.rw_keepwhole_k14_least_room_beside_all.Holds :=
  Kq.row_holds Kq.said Kq.left Kq.hdef Kq.hp rfl rfl Kq.okq ⟨rfl, rfl, rfl, rfl, rfl, by nofun⟩ Kq.prom (Kq.walk2 (n := 63) (k := 14) (ds := Kq.recs) (x := Str.ofString "_law_script") (sp := fun K => Kq.spT K Kq.tb (Kq.callW Kq.tb 14) 20) rfl (by decide) rfl ⟨rfl, by decide, by decide, rfl⟩ Kq.recs_eq Kq.freeAll Kq.law_fn fun _ _ a ns hl hO hS => Kq.law_sp rfl rfl rfl hO hS (Kq.law_val ns))
end
