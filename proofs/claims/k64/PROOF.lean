import PyProof.Rows.All
import Wide.All
import OpenK.AllK
import Wide.FinOn
import Lean
import PyProof.EqAt
import PyProof.EqKinds
import PyProof.TupleCall
import PyProof.DictCompW
import PyProof.Rows.Range3
import KE.KRevIter
import PyProof.AutoRange
import PyProof.FactsAll.range_2
import PyProof.Rows.CallKwBuiltin
import PyProof.ListRange
import PyProof.TupleOfGen
import PyProof.P3Eq
import PyProof.Rows.RowHeap
import PyProof.CollectIter
import PyProof.WalksMore
import PyProof.AutoSeq1
import KE.KListMore
import PyProof.AttrMissHeap
import KE.KDictOf
import KE.KSortTup
import PyProof.Rows.SortWalk
import PyProof.SumWalkG
import PyProof.DictWalks
import KE.KDictSum
import PyProof.SetKind
import PyProof.SetRoads
import PyProof.Rows.SetFrom
import PySem.Challenge.RW_keepwhole_k64_whole_growing_within_twice
open PySem renaming wpAny_bind → Γa
open PySem renaming wpAny_pure → Γb
open PySem.Heap renaming get?_push_of_some → Γc
open PySem.W renaming Frag → Γd
open PySem.Str renaming ofString → Γe
open PySem.Heap renaming get?_update_other → Γf
open PySem renaming wpAny_holding → Γg
open List renaming mem_cons_of_mem → Γh
open Nat renaming le_refl → Γi
open List renaming replicate → Γj
open Bool renaming false_ne_true → Γk
open PySem.Heap renaming lt_size → Γl
open PySem.Heap renaming get?_push_size → Γm
open List renaming mem_cons_self → Γn
open Nat renaming ne_of_lt → Γo
open Bool renaming false_eq_true → Γp
local macro_rules | `(tactic| nofun) => `(tactic| decide +kernel)
set_option Elab.async false
set_option linter.all false
set_option maxRecDepth 100000
section
open PySem PySem.Spec PyProof.Rows
open PySem PySem.Spec PyProof.Rows
open PySem PySem.Spec PyProof.Rows
open PySem PySem.Spec PyProof.Rows
open PySem PySem.Spec PyProof.Rows
open PySem PySem.Spec PyProof.Rows
open PySem PySem.Spec PyProof.Rows
open PySem PySem.Spec PyProof.Rows
open PySem PySem.Spec PyProof.Rows
open PySem PySem.Spec PyProof.Rows
open PySem PyProof.Rows
open PySem.SeqAt
open PySem.AutoSeq1 (wpAny_loadPart')
open PySem.MeetsSeq PySem.MeetsSeq2 PySem.MeetsSeq3
open PySem PySem.Spec PyProof.Rows
open PySem PySem.Spec PyProof.Rows
open PySem PySem.Spec PyProof.Rows
open PySem PySem.W PySem.Calls PyProof.Rows
open PySem PySem.Spec PyProof.Rows
open PySem PySem.Spec PyProof.Rows
namespace L2
open PySem PySem.Spec PyProof.Rows
def a3x (s:Stmt):Arguments:=match s with
 | .FunctionDef _ a _ _ _ _ _ _ _ _=>a
 | _=>{ posonlyargs:=[],args:=[],vararg:=none,kwonlyargs:=[],kw_defaults:=[],kwarg:=none,defaults:=[] }
def a1m (s:Stmt):List Stmt:=match s with
 | .FunctionDef _ _ b _ _ _ _ _ _ _=>b
 | _=>[]
def a0m (s:Stmt):Scope:=match s with
 | .FunctionDef _ _ _ _ _ _ sc _ _ _=>sc
 | _=>{ kind:=.function,names:=[],isGenerator:=false,isCoroutine:=false }
end L2
end
set_option maxHeartbeats 4000000
section
namespace Kq
open PySem PySem.Spec PySem.Calls PyProof.Rows L2 PySem.W
noncomputable def whole (h:Heap):Frag:=(List.range h.objs.size).filterMap fun a=>(h.get? a).map fun o=>(a,o)
structure CSp where
 c:Str
 a:Addr
 fl:List Str
 ms:List (Str×Addr)
noncomputable def isR (r:Option (Option Value)) (f:Addr):Bool:=match r with
 | some (some (.ref g))=>g == f
 | _=>false
noncomputable def d7t (r:Option (Option Value)):Bool:=match r with
 | some none=>true
 | _=>false
noncomputable def d7u (r:Option (Option Value)) (x:String):Bool:=match r with
 | some (some (.builtin y))=>y == x
 | _=>false
noncomputable def mgR (r:Option Value) (f:Addr):Bool:=match r with
 | some (.ref g)=>g == f
 | _=>false
noncomputable def fnB (K:Frag) (f:Addr):Bool:=match K.lookup f with
 | some ⟨_,_,.func fd,_⟩=>codeIn K fd.code fd.qualname
 | _=>false
noncomputable def dB (K:Frag) (mg:Str→Option Value) (x:Str):Bool:=match mg x with
 | some (.ref a)=>match K.lookup a with
  | some ⟨_,_,.func fd,_⟩=>match fd.code with
   | .ref c=>(K.lookup c).isSome
   | _=>false
  | _=>false
 | _=>false
noncomputable def cB (K:Frag) (mg:Str→Option Value) (c:CSp):Bool:=mgR (mg c.c) c.a && (plainGet K c.a Str.empty && (hasDictIn K c.a && (plainOver K c.a && (d7u (findIn K (.ref c.a) "__setattr__") "object.__setattr__" && (c.fl.all (fun f=>d7t (findIn K (.ref c.a) f)) && (c.ms.all (fun m=>isR (findIn K (.ref c.a) m.1) m.2 && (isFn K (.ref m.2) && (keepIn K (.ref m.2) && fnB K m.2))) && (makesIn K c.a && keepIn K (.ref c.a))))))))
noncomputable def c0l (fd:FuncData):=(fd.name,fd.qualname,fd.params,fd.body,fd.scope,fd.globals,fd.closure,fd.defaults,fd.builtins)
structure Vw where
 f:Addr
 m:Str
 q:Str
 st:Stmt
noncomputable def Vw.due (p:Vw):=c0l (fnOf p.m p.q (a3x p.st) (a1m p.st) (a0m p.st) .none .none .none .none none .none .none)
noncomputable def c8s (o:Obj):=match o.data with
 | .func fd=>some (c0l fd)
 | _=>none
noncomputable def YfC (vw:List Vw) (s:Shared):=vw.map fun p=>(s.heap.get? p.f).bind c8s
noncomputable def YaC (vw:List Vw):=vw.map fun p=>some p.due
noncomputable def allB (cs:List CSp) (xs:List Str) (K:Frag) (mg:Str→Option Value):Bool:=xs.all (dB K mg) && cs.all (cB K mg)
noncomputable def XtC (q:Program) (cs:List CSp) (s:Shared):Bool:=xlAt q [] s && allB cs ((recsOf q).map (·.name)) (whole s.heap) (s.heap.nsMap mainGlobals)
end Kq
end
section
namespace Kq
open PySem PySem.Spec PyProof.Rows L2
noncomputable def isDC:Stmt→Bool
 | .FunctionDef ..=>true
 | .ClassDef ..=>true
 | _=>false
noncomputable def d5a (p:Program):Program:={ p with main:={ p.main with body:=p.main.body.filter isDC } }
noncomputable def e0t:Stmt→List Stmt
 | .ClassDef _ _ _ b ..=>b
 | _=>[]
end Kq
end
section
namespace Kq
open PySem PySem.Spec PyProof.Rows L2 PySem.W
noncomputable def top (i:Nat):Stmt:=PySem.Challenge.pw_keepwhole_k64_whole_growing_within_twice.main.body.getD i (.Pass ⟨0,0,0,0⟩)
noncomputable def mth (i j:Nat):Stmt:=(e0t (top i)).getD j (.Pass ⟨0,0,0,0⟩)
noncomputable def view:Program:=d5a PySem.Challenge.pw_keepwhole_k64_whole_growing_within_twice
noncomputable def css:List CSp:=[⟨"Growing",77,["wholes","steps","kept","since"],[("__init__",53),("grown",60),("row_now",67),("kept_now",74)]⟩,⟨"Newest",119,["most","laying","sizes","deepest"],[("__init__",95),("grown",102),("laying_now",109),("room_now",116)]⟩]
noncomputable def vws:List Vw:=[⟨53,"__init__","Growing.__init__",mth 4 0⟩,⟨60,"grown","Growing.grown",mth 4 1⟩,⟨67,"row_now","Growing.row_now",mth 4 2⟩,⟨74,"kept_now","Growing.kept_now",mth 4 3⟩,⟨95,"__init__","Newest.__init__",mth 5 0⟩,⟨102,"grown","Newest.grown",mth 5 1⟩,⟨109,"laying_now","Newest.laying_now",mth 5 2⟩,⟨116,"room_now","Newest.room_now",mth 5 3⟩]
end Kq
end
set_option maxHeartbeats 0
section
open PySem PySem.W PyProof.Rows
theorem Kq.left : LeftO PySem.Challenge.rw_keepwhole_k64_whole_growing_within_twice.prog Kq.view [] (fun s => Kq.XtC Kq.view Kq.css s && recOk (RowW.records PySem.Challenge.rw_keepwhole_k64_whole_growing_within_twice.row.toRowW) s) (Kq.YfC Kq.vws) (fun _ => Kq.YaC Kq.vws) 3000 := by
  intro w
  kernel_rfl!
end
section
namespace L2
open PySem PySem.Spec PyProof.Rows
abbrev Key:=Sum Int (Option Str)
def b4a:Key→Value→Bool
 | .inl k,v=>Value.isInt k v
 | .inr (some x),v=>Value.isStrOf x v
 | .inr none,v=>match v with
  | .none=>true
  | _=>false
def keyH (w:World):Key→Int
 | .inl k=>hashInt k
 | .inr (some x)=>hashStr w x
 | .inr none=>4238894112
theorem b8d {prog:Program} {w:World} {A:Around} {E:Value→Shared→Prop} {s:Shared} {Q:Int→Shared→Prop} (h:Q 4238894112 { s with toks:=s.toks + 1 }):wpAny (model prog w) A (pyHash .none) Q E s:=by
 have hT:s.TypeIs .none "NoneType":=rfl
 show wpAny _ _ (pyHashByItsType .none) Q E s
 unfold pyHashByItsType
 have hv:[Value.none].any Value.onHeap=false:=rfl
 refine Γa ?_
 rw [cRoomFor,if_neg (by rw [hv]; exact Γk)]; refine Γb ?_
 refine Γa (wpAny_specialOf hT PySem.F.slot_NoneType_hash.lookup ?_)
 show wpAny _ _ (if (some (Value.builtin "NoneType.__hash__") == some Value.none)=true then _ else _) Q E s
 rw [if_neg (by decide)]
 refine Γa (wpAny_specialOf hT PySem.F.slot_NoneType_hash.lookup ?_)
 show wpAny _ _ (callSpecialIfBoundUnlessNone? .none "__hash__" _ >>= _) Q E s
 refine Γa (wpAny_callSpecialIfBoundUnlessNone?_slot hT PySem.F.slot_NoneType_hash
  (wpAny_call_entry PySem.F.slot_NoneType_hash hT PySem.F.entry_NoneType_hash
   (show wpAny _ _ (do ret (← mkInt 4238894112)) _ _ s from wpAny_ret_mkInt ?_) (PySem.F.args_NoneType_hash_1 _)))
 show wpAny _ _ (if (decide (-(2:Int) ^ 63≤4238894112) && decide ((4238894112:Int) < 2 ^ 63))=true then _ else _) Q E _
 rw [if_pos (by decide)]
 exact Γb h
theorem a0x:∀ {k:Key} {v:Value},b4a k v=true→(∃ i t,k=Sum.inl i∧v=Value.int i t) ∨ (∃ x t,k=Sum.inr (some x)∧v=Value.str x t) ∨ (k=Sum.inr none∧v=Value.none)
 | .inl i,v,h=>by
  obtain ⟨t,e⟩:=Value.isInt_shape (k:=i) (v:=v) h
  exact .inl ⟨i,t,rfl,e⟩
 | .inr (some x),v,h=>by
  obtain ⟨t,e⟩:=Value.isStrOf_shape (x:=x) (v:=v) h
  exact .inr (.inl ⟨x,t,rfl,e⟩)
 | .inr none,v,h=>by
  cases v with
  | none=>exact .inr (.inr ⟨rfl,rfl⟩)
  | _=>cases h
theorem b7s (i:Int) (t:Tok):b4a (.inl i) (.int i t)=true:=by simp [b4a,Value.isInt]
theorem b7r (x:Str) (t:Tok):b4a (.inr (some x)) (.str x t)=true:=by simp [b4a,Value.isStrOf]
theorem d1b (a b:Int):decide ((Sum.inl a:Key)=Sum.inl b)=(a == b):=by
 by_cases e:a=b
 ·subst e; simp
 ·have h:¬ (Sum.inl a:Key)=Sum.inl b:=fun q=>e (Sum.inl.inj q)
  rw [decide_eq_false h]
  exact (beq_eq_false_iff_ne.mpr e).symm
theorem d1a (a b:Str):decide ((Sum.inr (some a):Key)=Sum.inr (some b))=decide (a=b):=by
 by_cases e:a=b
 ·subst e; simp
 ·have h:¬ (Sum.inr (some a):Key)=Sum.inr (some b):=fun q=>e (Option.some.inj (Sum.inr.inj q))
  rw [decide_eq_false h,decide_eq_false e]
def a0s (prog:Program) (w:World):PySem.KeyKind prog w Key where
 is:=b4a
 hash:=keyH w
 inj:=fun v a b ha hb=>by
  rcases a0x ha with ⟨i,t,rfl,rfl⟩ | ⟨x,t,rfl,rfl⟩ | ⟨rfl,rfl⟩ <;> rcases a0x hb with ⟨j,u,rfl,e⟩ | ⟨y,u,rfl,e⟩ | ⟨rfl,e⟩ <;> first | rfl | (injection e with e1 _; rw [e1]) | cases e
 byValue:=fun k v h=>by
  rcases a0x h with ⟨i,t,rfl,rfl⟩ | ⟨x,t,rfl,rfl⟩ | ⟨rfl,rfl⟩ <;> rfl
 pyHash:=fun hv h=>by
  rcases a0x hv with ⟨i,t,rfl,rfl⟩ | ⟨x,t,rfl,rfl⟩ | ⟨rfl,rfl⟩
  ·exact wpAny_pyHash_int h
  ·exact wpAny_pyHash_str h
  ·exact b8d h
 eqBool:=fun hu hv h=>by
  rcases a0x hu with ⟨i,t,rfl,rfl⟩ | ⟨x,t,rfl,rfl⟩ | ⟨rfl,rfl⟩
  ·rcases a0x hv with ⟨j,u,rfl,rfl⟩ | ⟨y,u,rfl,rfl⟩ | ⟨rfl,rfl⟩
   ·rw [d1b] at h; exact wpAny_eqBool_int h
   ·rw [decide_eq_false (show ¬ (Sum.inl i:Key)=Sum.inr (some y) from fun q=>nomatch q)] at h; exact SeqAt.EqAt.int_str i t y u _ _ _ _ h
   ·rw [decide_eq_false (show ¬ (Sum.inl i:Key)=Sum.inr none from fun q=>nomatch q)] at h; exact SeqAt.EqAt.int_none i t _ _ _ _ h
  ·rcases a0x hv with ⟨j,u,rfl,rfl⟩ | ⟨y,u,rfl,rfl⟩ | ⟨rfl,rfl⟩
   ·rw [decide_eq_false (show ¬ (Sum.inr (some x):Key)=Sum.inl j from fun q=>nomatch q)] at h; exact SeqAt.EqAt.str_int x t j u _ _ _ _ h
   ·rw [d1a] at h; exact wpAny_eqBool_str h
   ·rw [decide_eq_false (show ¬ (Sum.inr (some x):Key)=Sum.inr none from fun q=>nomatch q)] at h; exact SeqAt.EqAt.str_none x t _ _ _ _ h
  ·rcases a0x hv with ⟨j,u,rfl,rfl⟩ | ⟨y,u,rfl,rfl⟩ | ⟨rfl,rfl⟩
   ·rw [decide_eq_false (show ¬ (Sum.inr none:Key)=Sum.inl j from fun q=>nomatch q)] at h; exact SeqAt.EqAt.none_int j u _ _ _ _ h
   ·rw [decide_eq_false (show ¬ (Sum.inr none:Key)=Sum.inr (some y) from fun q=>nomatch q)] at h; exact SeqAt.EqAt.none_str y u _ _ _ _ h
   ·rw [decide_eq_true rfl] at h; exact SeqAt.EqAt.same .none _ _ _ _ h
 «strs»:=fun k x t v h=>by
  rcases a0x h with ⟨i,u,rfl,e⟩ | ⟨y,u,rfl,e⟩ | ⟨rfl,e⟩
  ·exact nomatch e
  ·injection e with e1 _
   subst e1
   cases v <;> rfl
  ·exact nomatch e
theorem b1e (prog:Program) (w:World) (i:Int) (t:Tok):(a0s prog w).is (.inl i) (.int i t)=true:=b7s i t
theorem a9v (prog:Program) (w:World):(a0s prog w).is (.inr none) .none=true:=rfl
theorem b1d (prog:Program) (w:World) (x:Str) (t:Tok):(a0s prog w).is (.inr (some x)) (.str x t)=true:=b7r x t
end L2
namespace L2
open PySem PySem.Spec PyProof.Rows
inductive V where
 | non | bl (b:Bool) | int (i:Int) | str (x:Str) | byt (b:Array UInt8) | flt (b:UInt64) | ref (a:Addr) | ty (n:String)
 deriving DecidableEq
def RelV:V→Value→Prop
 | .non,u=>u=Value.none
 | .bl b,u=>u=Value.bool b
 | .int i,u=>∃ t,u=Value.int i t
 | .str x,u=>∃ t,u=Value.str x t
 | .byt b,u=>∃ t,u=Value.bytes b t
 | .flt b,u=>∃ t,u=Value.float b t
 | .ref a,u=>u=Value.ref a
 | .ty n,u=>u=Value.type n
abbrev Vals:List V→List Value→Prop:=Paired RelV
theorem Vals.length {xs:List V} {us:List Value} (r:Vals xs us):xs.length=us.length:=Paired.length r
theorem Vals.get:∀ {xs:List V} {us:List Value} {i:Nat} {x:V},Vals xs us→xs[i]?=some x→∃ u,us[i]?=some u∧RelV x u
 | _,_,_,_,.nil,e=>by simp at e
 | _,_,0,_,.cons r _,e=>by simp at e; subst e; exact ⟨_,rfl,r⟩
 | _,_,i + 1,x,.cons _ t,e=>by
  obtain ⟨u,h1,h2⟩:=Vals.get (i:=i) (x:=x) t (by simpa using e)
  exact ⟨u,by simpa using h1,h2⟩
theorem Vals.set {x:V} {u:Value} (r:RelV x u):∀ {xs:List V} {us:List Value} (i:Nat),Vals xs us→Vals (xs.set i x) (us.set i u)
 | _,_,_,.nil=>.nil
 | _,_,0,.cons _ t=>.cons r t
 | _,_,i + 1,.cons q t=>.cons q (Vals.set r i t)
theorem Vals.append:∀ {xs ys:List V} {us ws:List Value},Vals xs us→Vals ys ws→Vals (xs++ys) (us++ws)
 | _,_,_,_,.nil,s=>s
 | _,_,_,_,.cons r t,s=>.cons r (Vals.append t s)
theorem Vals.take:∀ {xs:List V} {us:List Value} (n:Nat),Vals xs us→Vals (xs.take n) (us.take n)
 | _,_,0,_=>.nil
 | _,_,_ + 1,.nil=>.nil
 | _,_,n + 1,.cons r t=>.cons r (Vals.take n t)
theorem Vals.drop:∀ {xs:List V} {us:List Value} (n:Nat),Vals xs us→Vals (xs.drop n) (us.drop n)
 | _,_,0,r=>r
 | _,_,_ + 1,.nil=>.nil
 | _,_,n + 1,.cons _ t=>Vals.drop n t
def RelO:Option V→Option Value→Prop
 | some v,some u=>RelV v u
 | none,none=>True
 | _,_=>False
def KV {κ:Type}:List (κ×V)→List (κ×Value)→Prop:=Paired fun (p:κ×V) (q:κ×Value)=>p.1=q.1∧RelV p.2 q.2
def kV:Key→V
 | .inl i=>.int i
 | .inr (some x)=>.str x
 | .inr none=>.non
inductive HO where
 | lst (xs:List V)
 | tup (xs:List V)
 | dK (kvs:List (Key×V)) | dT (kvs:List (List Key×V))
 | set (S:Int→Bool) (n:Nat)
 | ins (C dx:Addr) (fs:List (Str×V))
 | big (C dx:Addr) (fs:List (Str×V)) (gs:List (Addr×List V))
 | own (x:Addr)
 | xd (fs:List (Str×V))
 | met (f x:Addr)
 | rng (lo hi:Int)
 | frz (o:Obj) (u:HO)
 | tbl (ps:Array Value)
 | ext (φ:Heap→Prop)
abbrev Hp:=Addr→Option HO
def upd (H:Hp) (a:Addr) (o:HO):Hp:=fun b=>if b=a then some o else H b
theorem a0d {H:Hp} {a:Addr} {o:HO}:upd H a o a=some o:=by unfold upd; rw [if_pos rfl]
theorem a0b {H:Hp} {a b:Addr} {o:HO} (h:b≠a):upd H a o b=H b:=by unfold upd; rw [if_neg h]
theorem d0u {H:Hp} {a b:Addr} {o u:HO} (h:H a=some o) (h':H b=some u) (d:o≠u):a≠b:=by
 intro e; subst e; rw [h] at h'; exact d (Option.some.inj h')
theorem a0u {H:Hp} {a b:Addr} {o:HO} (h:H a=some o) (h':H b=none):a≠b:=by
 intro e; subst e; rw [h] at h'; cases h'
section
variable (P:Program) (w:World)
def ObjOk (H:Hp) (h:Heap) (a:Addr):HO→Prop
 | .lst xs=>xs.length≤sizeLine∧∃ (its:List Value) (n:Nat),Vals xs its∧h.get? a=some { cls:=.type "list",data:=.seq its.toArray n }
 | .tup xs=>xs.length≤sizeLine∧∃ its:List Value,Vals xs its∧IsTup h a its.toArray
 | .dK kvs=>kvs.length≤sizeLine∧(a == sysModules)=false∧∃ vs,KV kvs vs∧h.DictOf (a0s P w) a vs
 | .dT kvs=>kvs.length≤sizeLine∧(a == sysModules)=false∧∃ xs:List (List Key×Addr×Value),
   Paired (fun (p:List Key×V) (q:List Key×Addr×Value)=>p.1=q.1∧H q.2.1=some (.tup (p.1.map kV))∧RelV p.2 q.2.2) kvs xs ∧
   ∃ o es ep,h.get? a=some o∧o.ExactDict∧o.data=.dict es ep∧es.toList=xs.map (entryOfKey (tupleKind (a0s P w)))∧(xs.map (·.1)).Nodup
 | .set S n=>h.SetOf (intKind P w) a S n
 | .ins C dx fs=>H dx=some (.own a)∧fs.length≤1000∧dx≠a∧h.get? a=some (PySem.W.instObj C dx) ∧
   ∃ mA,h.Ns1 dx mA∧(∀ f,RelO (fs.lookup f) (mA f))∧PySem.Within mA (fs.map (·.1))
 | .big C dx fs gs=>H dx=some (.own a)∧(∀ g∈gs,H g.1=some (.own a))∧(a :: dx :: gs.map (·.1)).Nodup∧fs.length≤1000∧h.get? a=some (PySem.W.instObj C dx) ∧
   (∃ mA,h.Ns1 dx mA∧(∀ f,RelO (fs.lookup f) (mA f))∧PySem.Within mA (fs.map (·.1))) ∧
   ∀ g∈gs,g.2.length≤sizeLine∧∃ (its:List Value) (n:Nat),Vals g.2 its∧h.get? g.1=some { cls:=.type "list",data:=.seq its.toArray n }
 | .own _=>∃ o,h.get? a=some o
 | .xd fs=>∃ mA,h.Ns1 a mA∧∀ f,RelO (fs.lookup f) (mA f)
 | .rng lo hi=>∃ t u v,h.get? a=some { cls:=.type "range",data:=.fields #[.int lo t,.int hi u,.int 1 v] }
 | .frz o u=>h.get? a=some o∧ObjOk H h a u
 | .tbl ps=>h.get? a=some { cls:=.none,data:=.fields ps }
 | .met f x=>h.get? a=some (PySem.W.methodObj (.ref f) (.ref x))
 | .ext φ=>φ h∧(∃ o,h.get? a=some o)∧∀ h1 h2:Heap,φ h1→(∀ o,h1.get? a=some o→h2.get? a=some o)→φ h2
def HOk (H:Hp) (h:Heap):Prop:=∀ a o,H a=some o→ObjOk P w H h a o
end
section
variable {P:Program} {w:World} {H H':Hp} {h h':Heap} {a:Addr} {o:HO}
theorem ObjOk.lt (x:ObjOk P w H h a o):a < h.objs.size:=by
 cases o with
 | lst xs=>obtain ⟨_,_,_,_,e⟩:=x; exact Γl e
 | tup xs=>obtain ⟨_,_,_,p⟩:=x; exact p.lt
 | dK kvs=>obtain ⟨_,_,_,_,o,_,_,e,_⟩:=x; exact Γl e
 | dT kvs=>obtain ⟨_,_,_,_,o,_,_,e,_⟩:=x; exact Γl e
 | set S n=>obtain ⟨o,_,_,_,e,_⟩:=x; exact Γl e
 | ins C dx fs=>obtain ⟨_,_,_,e,_⟩:=x; exact Γl e
 | big C dx fs gs=>obtain ⟨_,_,_,_,e,_⟩:=x; exact Γl e
 | own y=>obtain ⟨_,e⟩:=x; exact Γl e
 | xd fs=>obtain ⟨_,⟨_,_,_,e,_⟩,_⟩:=x; exact Γl e
 | rng lo hi=>obtain ⟨_,_,_,e⟩:=x; exact Γl e
 | frz ob u=>obtain ⟨e,_⟩:=x; exact Γl e
 | tbl ps=>exact Γl (show h.get? a=some _ from x)
 | met f y=>exact Γl (show h.get? a=some _ from x)
 | ext φ=>obtain ⟨_,⟨_,e⟩,_⟩:=x; exact Γl e
theorem Paired.mapP {α β:Type} {F G:α→β→Prop}:∀ {l₁:List α} {l₂:List β},Paired F l₁ l₂→(∀ a b,F a b→G a b)→Paired G l₁ l₂
 | _,_,.nil,_=>.nil
 | _,_,.cons r t,f=>.cons (f _ _ r) (Paired.mapP t f)
theorem ObjOk.stay (x:ObjOk P w H h a o) (k:∀ b u,(b=a ∨ H b=some (.own a))→h.get? b=some u→h'.get? b=some u)
  (ho:∀ b,H b=some (.own a)→H' b=some (.own a)) (ht:∀ b xs,H b=some (.tup xs)→H' b=some (.tup xs)):ObjOk P w H' h' a o:=by
 induction o with
 | lst xs=>obtain ⟨z,its,n,r,e⟩:=x; exact ⟨z,its,n,r,k _ _ (.inl rfl) e⟩
 | tup xs=>obtain ⟨z,its,r,ob,e,c⟩:=x; exact ⟨z,its,r,ob,k _ _ (.inl rfl) e,c⟩
 | dK kvs=>obtain ⟨z,y,vs,r,ob,es,ep,e,c⟩:=x; exact ⟨z,y,vs,r,ob,es,ep,k _ _ (.inl rfl) e,c⟩
 | dT kvs =>
  obtain ⟨z,y,xs,r,ob,es,ep,e,c⟩:=x
  exact ⟨z,y,xs,Paired.mapP r fun p q z=>⟨z.1,ht _ _ z.2.1,z.2.2⟩,ob,es,ep,k _ _ (.inl rfl) e,c⟩
 | set S n=>obtain ⟨ob,es,ep,t,e,c⟩:=x; exact ⟨ob,es,ep,t,k _ _ (.inl rfl) e,c⟩
 | ins C dx fs =>
  obtain ⟨d,z,ne,e,mA,⟨od,es,ep,e2,c⟩,r⟩:=x
  exact ⟨ho _ d,z,ne,k _ _ (.inl rfl) e,mA,⟨od,es,ep,k _ _ (.inr d) e2,c⟩,r⟩
 | big C dx fs gs =>
  obtain ⟨d,gg,nd,z,e,⟨mA,⟨od,es,ep,e2,c⟩,r⟩,ls⟩:=x
  exact ⟨ho _ d,fun g m=>ho _ (gg g m),nd,z,k _ _ (.inl rfl) e,⟨mA,⟨od,es,ep,k _ _ (.inr d) e2,c⟩,r⟩,fun g m=>let ⟨l1,its,n,l2,l3⟩:=ls g m; ⟨l1,its,n,l2,k _ _ (.inr (gg g m)) l3⟩⟩
 | own y=>obtain ⟨ob,e⟩:=x; exact ⟨ob,k _ _ (.inl rfl) e⟩
 | xd fs=>obtain ⟨mA,⟨od,es,ep,e,c⟩,r⟩:=x; exact ⟨mA,⟨od,es,ep,k _ _ (.inl rfl) e,c⟩,r⟩
 | rng lo hi=>obtain ⟨t,u,v,e⟩:=x; exact ⟨t,u,v,k _ _ (.inl rfl) e⟩
 | frz ob u ih=>obtain ⟨e,q⟩:=x; exact ⟨k _ _ (.inl rfl) e,ih q⟩
 | tbl ps =>
  have e:h.get? a=some { cls:=.none,data:=.fields ps }:=x
  show h'.get? a=some { cls:=.none,data:=.fields ps }
  exact k a _ (.inl rfl) e
 | met f y =>
  have e:h.get? a=some (PySem.W.methodObj (.ref f) (.ref y)):=x
  show h'.get? a=some (PySem.W.methodObj (.ref f) (.ref y))
  exact k a _ (.inl rfl) e
 | ext φ=>obtain ⟨p,⟨o,e⟩,st⟩:=x; exact ⟨st _ _ p fun o q=>k _ _ (.inl rfl) q,⟨o,k _ _ (.inl rfl) e⟩,st⟩
theorem HOk.lt (x:HOk P w H h) (e:H a=some o):a < h.objs.size:=(x a o e).lt
theorem HOk.fresh (x:HOk P w H h) (e:h.objs.size≤a):H a=none:=by
 cases q:H a with
 | none=>rfl
 | some u=>exact absurd (Nat.lt_of_lt_of_le (x.lt q) e) (Nat.lt_irrefl _)
theorem HOk.kept (x:HOk P w H h) (k:∀ b u,h.get? b=some u→h'.get? b=some u):HOk P w H h':=fun a o e =>
 (x a o e).stay (fun b u _ q=>k b u q) (fun _ q=>q) fun _ _ q=>q
theorem HOk.laid (x:HOk P w H h) (k:∀ b u,h.get? b=some u→h'.get? b=some u) (hp:h.objs.size≤a) (new:ObjOk P w (upd H a o) h' a o):HOk P w (upd H a o) h':=fun b u e=>by
 have hn:=x.fresh hp
 by_cases hb:b=a
 ·subst hb; rw [a0d] at e; cases e; exact new
 ·rw [a0b hb] at e
  exact (x b u e).stay (fun c v _ q=>k c v q) (fun c q=>by rw [a0b (a0u q hn)]; exact q) fun c xs q=>by rw [a0b (a0u q hn)]; exact q
end
def Rd (H:Hp) (a:Addr) (u:HO):Prop:=H a=some u ∨ ∃ o,H a=some (.frz o u)
theorem Rd.ok {P:Program} {w:World} {H:Hp} {h:Heap} {a:Addr} {u:HO} (r:Rd H a u) (x:HOk P w H h):ObjOk P w H h a u:=by
 rcases r with r | ⟨o,r⟩
 ·exact x a u r
 ·obtain ⟨_,q⟩:=x a _ r
  exact q
def Mut:Option HO→Prop
 | some (.lst _)=>True
 | some (.dK _)=>True
 | some (.dT _)=>True
 | some (.set _ _)=>True
 | some (.ins _ _ _)=>True
 | some (.ext _)=>True
 | _=>False
section
variable {P:Program} {w:World} {H:Hp} {h h':Heap} {x e:Addr} {o':HO}
theorem HOk.write (ok:HOk P w H h) (mu:Mut (H x)) (he:e=x ∨ H e=some (.own x)) (k:∀ b u,b≠e→h.get? b=some u→h'.get? b=some u) (heo:∃ u,h'.get? e=some u)
  (new:ObjOk P w (upd H x o') h' x o'):HOk P w (upd H x o') h':=fun b u q=>by
 have nown:∀ c y,H c=some (.own y)→c≠x:=fun c y r z=>by subst z; rw [r] at mu; exact mu
 have ntup:∀ c xs,H c=some (.tup xs)→c≠x:=fun c xs r z=>by subst z; rw [r] at mu; exact mu
 by_cases hb:b=x
 ·subst hb; rw [a0d] at q; cases q; exact new
 ·rw [a0b hb] at q
  by_cases hbe:b=e
  ·have q':H b=some (.own x):=by
    rcases he with z | z
    ·exact absurd (hbe.trans z) hb
    ·rw [hbe]; exact z
   rw [q] at q'; cases q'
   obtain ⟨v,hv⟩:=heo
   exact ⟨v,by rw [hbe]; exact hv⟩
  ·refine (ok b u q).stay (fun c v hc r=>k c v ?_ r) (fun c r=>by rw [a0b (nown c b r)]; exact r) fun c xs r=>by rw [a0b (ntup c xs r)]; exact r
   rcases hc with rfl | hc
   ·exact hbe
   ·rintro rfl
    rcases he with z | z
    ·exact nown c b hc z
    ·rw [hc] at z; cases z; exact hb rfl
end
structure Un (fs ex:List Addr) (H H':Hp) (h h':Heap):Prop where
 keep:∀ b o,h.get? b=some o→H b=none→b ∉ fs→b ∉ ex→h'.get? b=some o
 slot:∀ b o,h.get? b=some o→H b=none→b∈fs→b ∉ ex→∃ sl,h'.get? b=some { o with slots:=sl }
 free:∀ b o,h.get? b=some o→H b=none→b ∉ ex→H' b=none
 there:∀ b o,h.get? b=some o→b ∉ ex→∃ o',h'.get? b=some o'
 tups:∀ b xs,H b=some (.tup xs)→H' b=some (.tup xs)
 frzs:∀ b o u,H b=some (.frz o u)→H' b=some (.frz o u)
 tbls:∀ b ps,H b=some (.tbl ps)→∃ more,H' b=some (.tbl (ps++more))
section
variable {fs fs' ex ex':List Addr} {H H1 H2:Hp} {h h1 h2 h':Heap} {a x e:Addr} {o:HO}
theorem Un.any (u:Un fs ex H H1 h h1) {b:Addr} {ob:Obj} (q:h.get? b=some ob) (n:H b=none) (hx:b ∉ ex):∃ sl,h1.get? b=some { ob with slots:=sl }:=by
 by_cases hb:b∈fs
 ·exact u.slot b ob q n hb hx
 ·exact ⟨ob.slots,u.keep b ob q n hb hx⟩
theorem Un.trans (a:Un fs ex H H1 h h1) (b:Un fs ex H1 H2 h1 h2):Un fs ex H H2 h h2 where
 keep:=fun c ob q n hc hx=>b.keep c ob (a.keep c ob q n hc hx) (a.free c ob q n hx) hc hx
 slot:=fun c ob q n hc hx=>by
  obtain ⟨sl,e1⟩:=a.slot c ob q n hc hx
  obtain ⟨sl',e2⟩:=b.slot c _ e1 (a.free c ob q n hx) hc hx
  exact ⟨sl',e2⟩
 free:=fun c ob q n hx=>by
  obtain ⟨o',e1⟩:=a.there c ob q hx
  exact b.free c o' e1 (a.free c ob q n hx) hx
 there:=fun c ob q hx=>by
  obtain ⟨o',e1⟩:=a.there c ob q hx
  exact b.there c o' e1 hx
 tups:=fun c xs q=>b.tups c xs (a.tups c xs q)
 frzs:=fun c ob xs q=>b.frzs c ob xs (a.frzs c ob xs q)
 tbls:=fun c ps q=>by
  obtain ⟨m1,e1⟩:=a.tbls c ps q
  obtain ⟨m2,e2⟩:=b.tbls c _ e1
  exact ⟨m1++m2,by rw [e2,Array.append_assoc]⟩
theorem Un.kept (k:∀ b u,h.get? b=some u→h'.get? b=some u):Un fs ex H H h h' :=
 ⟨fun b ob q _ _ _=>k b ob q,fun b ob q _ _ _=>⟨ob.slots,k b ob q⟩,fun _ _ _ n _=>n,fun b ob q _=>⟨ob,k b ob q⟩,fun _ _ q=>q,fun _ _ _ q=>q,fun _ ps q=>⟨#[],by rw [q]; simp⟩⟩
theorem Un.refl:Un fs ex H H h h:=Un.kept fun _ _ q=>q
theorem Un.laid (k:∀ b u,h.get? b=some u→h'.get? b=some u) (hp:h.objs.size≤a) (hn:H a=none):Un fs ex H (upd H a o) h h' where
 keep:=fun b u q _ _ _=>k b u q
 slot:=fun b u q _ _ _=>⟨u.slots,k b u q⟩
 free:=fun b u q n _=>by rw [a0b (Γo (Nat.lt_of_lt_of_le (Γl q) hp))]; exact n
 there:=fun b u q _=>⟨u,k b u q⟩
 tups:=fun b xs q=>by rw [a0b (a0u q hn)]; exact q
 frzs:=fun b u xs q=>by rw [a0b (a0u q hn)]; exact q
 tbls:=fun b ps q=>⟨#[],by rw [a0b (a0u q hn),q]; simp⟩
theorem Un.write (mu:Mut (H x)) (he:e=x ∨ H e=some (.own x)) (k:∀ b u,b≠e→h.get? b=some u→h'.get? b=some u) (heo:∃ u,h'.get? e=some u):Un fs ex H (upd H x o) h h':=by
 have hx:∀ b,H b=none→b≠x:=fun b n z=>by subst z; rw [n] at mu; exact mu
 have hb:∀ b,H b=none→b≠e:=fun b n z=>by
  subst z
  rcases he with r | r
  ·exact hx b n r
  ·rw [n] at r; cases r
 have hm:∀ b u,H b=some u→¬ Mut (some u)→b≠x:=fun b u q nm z=>by subst z; rw [q] at mu; exact nm mu
 refine ⟨fun b u q n _ _=>k b u (hb b n) q,fun b u q n _ _=>⟨u.slots,k b u (hb b n) q⟩,fun b u q n _=>by rw [a0b (hx b n)]; exact n,fun b u q _=>?_,
  fun b xs q=>by rw [a0b (hm b _ q fun z=>z)]; exact q,fun b u xs q=>by rw [a0b (hm b _ q fun z=>z)]; exact q,fun b ps q=>⟨#[],by rw [a0b (hm b _ q fun z=>z),q]; simp⟩⟩
 by_cases hbe:b=e
 ·subst hbe; exact heo
 ·exact ⟨u,k b u hbe q⟩
theorem Un.mono (u:Un fs ex H H1 h h1) (hs:∀ b∈fs,b∈fs') (hx:∀ b∈ex,b∈ex'):Un fs' ex' H H1 h h1 :=
 ⟨fun b ob q n hb he=>u.keep b ob q n (fun z=>hb (hs b z)) fun z=>he (hx b z),fun _ _ q n _ he=>u.any q n fun z=>he (hx _ z),fun b ob q n he=>u.free b ob q n fun z=>he (hx b z),fun b ob q he=>u.there b ob q fun z=>he (hx b z),u.tups,u.frzs,u.tbls⟩
end
def trk (h:Heap) (H:Hp):List Addr:=(List.range h.objs.size).filter fun a=>(H a).isSome
def c1x (h:Heap) (H:Hp):Heap:=PySem.W.hideAll h (trk h H)
theorem b8c (h:Heap) (H:Hp):(c1x h H).objs.size=h.objs.size:=PySem.W.hideAll_size _ _
theorem c1w {h:Heap} {H:Hp} {b:Addr} {o:Obj} (e:h.get? b=some o) (n:H b=none):(c1x h H).get? b=some o :=
 PySem.W.hideAll_get _ e fun hm=>by
  have q:(H b).isSome=true:=(List.mem_filter.mp hm).2
  rw [n] at q; simp at q
theorem c6b {h:Heap} {H:Hp} {b:Addr} {o:Obj} (e:(c1x h H).get? b=some o):h.get? b=some o∧H b=none:=by
 have e':h.get? b=some o:=PySem.W.of_hideAll (trk h H) e
 refine ⟨e',?_⟩
 cases q:H b with
 | none=>rfl
 | some x =>
  have hm:b∈trk h H:=List.mem_filter.mpr ⟨List.mem_range.mpr (Γl e'),by simp [q]⟩
  have z:(c1x h H).get? b=none:=PySem.W.hideAll_none (trk h H) hm
  rw [z] at e; cases e
def c8d (g h:Heap) (L:Addr):List (Addr×Obj):=(List.range h.objs.size).filterMap fun a=>if a=L ∨ (g.get? a).isSome=true then none else (h.get? a).map fun o=>(a,o)
def rest (g h:Heap) (L d:Addr):List (Addr×Obj):=(c8d g h L).filter fun p=>decide (p.1≠d)
end L2
namespace L2
open PySem PySem.Spec PyProof.Rows
structure Mod (K:Γd) (mg:Str→Option Value) (base:Heap):Prop where
 kin:K.In base
 glob:base.Ns mainGlobals mg
 blt:∃ mb,base.Ns builtinsNs mb∧∀ x:Str,x≠"__name__"→mb x=bootBuiltins x
 nolimit:base.NoLimit
structure Cx where
 prog:Program
 w:World
 K:Γd
 mg:Str→Option Value
 base:Heap
 A:Around
 N:List Str
 s₀:Shared
 H₀:Hp
 env:Env
 outer:List Env
 stack:List Env
 ex:List Addr
 fn:Str→Bool
 calm:Bool
 pn:List (Addr×Obj)
 xe:Value→Shared→Prop
def frs (l:List Env):List Addr:=l.filterMap (·.frame)
abbrev Cx.fs (X:Cx):List Addr:=frs X.outer
def Vis (sc:Scope) (x:Str):Prop:=sc.names.lookup x=some .local ∨ sc.names.lookup x=some .cell ∨ sc.names.lookup x=some .free
def Loc (sc:Scope) (x:Str):Prop:=sc.names.lookup x=some .local ∨ sc.names.lookup x=some .cell
def Look (env:Env) (h:Heap) (m:Str→Option Value) (x:Str) (u:Value):Prop :=
 (env.kindOf x=some .local∧m x=some u) ∨ ((env.kindOf x=some .cell ∨ env.kindOf x=some .free)∧∃ c,env.cells.lookup x=some c∧h.IsCell c (some u))
structure Cx.Ok (X:Cx):Prop where
 mod:Mod X.K X.mg X.base
 kind:X.env.scope.kind=.function
 glob:X.env.globals=mainGlobals
 blt:X.env.builtins=builtinsNs
 above:X.s₀.heap.objs.size≤X.env.locals
 inj:∀ x y c,X.env.cells.lookup x=some c→X.env.cells.lookup y=some c→x=y
 has:∀ x,(X.env.kindOf x=some .cell ∨ X.env.kindOf x=some .free)→∃ c,X.env.cells.lookup x=some c
 cab:∀ x c,X.fn x=true→X.env.cells.lookup x=some c→X.s₀.heap.objs.size≤c
 hd:X.calm=true→X.A.handled=none
 frames:X.A.frames=some X.stack
 stk:X.stack=X.outer ∨ (X.stack=X.env :: X.outer∧X.env.frame=some X.env.locals)
 exf:∀ b∈X.ex,b≠X.env.locals∧∀ x c,X.env.cells.lookup x=some c→c≠b
 bs:∀ b o,X.base.get? b=some o→X.s₀.heap.get? b=some o∧X.H₀ b=none
 bsz:X.base.objs.size≤X.s₀.heap.objs.size
 noex:∀ b o,X.base.get? b=some o→b ∉ X.ex
 exfs:∀ b∈X.ex,b ∉ X.fs
 funs:X.s₀.heap.FunFrames X.base X.outer
 frf:∀ b∈X.fs,X.H₀ b=none
structure Inv (X:Cx) (pins:List (Addr×Obj)) (σ:List (Option V)) (H:Hp) (s:Shared):Prop where
 ok:X.Ok
 os:s.os=X.s₀.os
 bare:AllBare s.gens
 base:Un X.fs X.ex X.H₀ H X.s₀.heap s.heap
 loc:∃ m,s.heap.Ns X.env.locals m∧∀ (i:Nat) (x:Str) (v:V),X.N[i]?=some x→σ[i]?=some (some v)→Vis X.env.scope x→∃ u,RelV v u∧Look X.env s.heap m x u
 cell:∀ x c,X.env.cells.lookup x=some c→∃ v,s.heap.IsCell c v
 free:H X.env.locals=none
 freeC:∀ x c,X.env.cells.lookup x=some c→H c=none
 pin:∀ p∈X.pn++pins,s.heap.get? p.1=some p.2∧H p.1=none∧p.1≠X.env.locals∧p.1 ∉ X.fs∧∀ v,p.2.data≠.cell v
 hok:HOk X.prog X.w H s.heap
 len:σ.length=X.N.length
section
variable {X:Cx} {pins:List (Addr×Obj)} {σ:List (Option V)} {H H':Hp} {s:Shared} {h':Heap}
theorem Cx.Ok.nofr (ok:X.Ok) {b:Addr} {o:Obj} (e:X.base.get? b=some o):b ∉ X.fs:=fun hb=>by
 have:=(ok.funs.mem hb).1
 rw [e] at this; cases this
theorem Inv.bs (I:Inv X pins σ H s):∀ b o,X.base.get? b=some o→s.heap.get? b=some o∧H b=none:=fun b o e =>
 ⟨I.base.keep b o (I.ok.bs b o e).1 (I.ok.bs b o e).2 (I.ok.nofr e) (I.ok.noex b o e),I.base.free b o (I.ok.bs b o e).1 (I.ok.bs b o e).2 (I.ok.noex b o e)⟩
theorem Inv.bk (I:Inv X pins σ H s):∀ b o,X.base.get? b=some o→s.heap.get? b=some o:=fun b o e=>(I.bs b o e).1
theorem Inv.mod (I:Inv X pins σ H s):Mod X.K X.mg X.base:=I.ok.mod
theorem Inv.kIn (I:Inv X pins σ H s):X.K.In s.heap:=I.ok.mod.kin.keeps I.bk
theorem Inv.nolimit (I:Inv X pins σ H s):s.heap.NoLimit:=I.ok.mod.nolimit.keeps I.bk
theorem Inv.lt (I:Inv X pins σ H s):X.env.locals < s.heap.objs.size:=let ⟨_,hn,_⟩:=I.loc; hn.lt
theorem Inv.sz (I:Inv X pins σ H s):X.s₀.heap.objs.size≤s.heap.objs.size:=Nat.le_trans I.ok.above (Nat.le_of_lt I.lt)
theorem Inv.nofs (I:Inv X pins σ H s) {a:Addr} (h:s.heap.objs.size≤a):a ∉ X.fs:=fun hb=>by
 obtain ⟨_,o,ho,_⟩:=I.ok.funs.mem hb
 exact absurd (Nat.lt_of_lt_of_le (Γl ho) (Nat.le_trans I.sz h)) (Nat.lt_irrefl _)
theorem Inv.cne (I:Inv X pins σ H s):∀ x c,X.env.cells.lookup x=some c→c≠X.env.locals:=fun x c e z=>by
 obtain ⟨v,o,ho,hd⟩:=I.cell x c e
 obtain ⟨m,⟨o',es,ep,ho',hd',_⟩,_⟩:=I.loc
 rw [z,ho'] at ho; cases ho; rw [hd'] at hd; cases hd
theorem Inv.funs (I:Inv X pins σ H s):s.heap.FunFrames X.base X.outer:=by
 have all:∀ (l:List Env),(∀ b∈frs l,b∈X.fs)→X.s₀.heap.FunFrames X.base l→s.heap.FunFrames X.base l:=by
  intro l
  induction l with
  | nil=>intro _ _; trivial
  | cons env r ih =>
   intro hs hl
   obtain ⟨hk,⟨L,o,hf,hn,ho,hd⟩,hr⟩:=hl
   have hL:L∈X.fs:=hs L (by unfold frs; rw [List.filterMap_cons,hf]; exact Γn)
   obtain ⟨sl,e⟩:=I.base.slot L o ho (I.ok.frf L hL) hL fun z=>I.ok.exfs L z hL
   exact ⟨hk,⟨L,_,hf,hn,e,hd⟩,ih (fun b hb=>hs b (by unfold frs; rw [List.filterMap_cons,hf]; exact Γh _ hb)) hr⟩
 exact all X.outer (fun _ hb=>hb) I.ok.funs
theorem Inv.stack (I:Inv X pins σ H s):s.heap.FunFrames X.base X.stack:=by
 rcases I.ok.stk with e | ⟨e,hf⟩
 ·rw [e]; exact I.funs
 ·rw [e]
  obtain ⟨m,hn,_⟩:=I.loc
  refine .cons (by rw [I.ok.kind]; decide) hf hn ?_ I.funs
  exact Heap.get?_none_of_le (Nat.le_trans I.ok.bsz I.ok.above)
theorem Inv.stkSub (I:Inv X pins σ H s):∀ b∈frs X.stack,b∈X.env.locals :: X.fs:=fun b hb=>by
 rcases I.ok.stk with e | ⟨e,hf⟩
 ·rw [e] at hb; exact Γh _ hb
 ·rw [e] at hb
  unfold frs at hb
  rw [List.filterMap_cons,hf] at hb
  exact hb
theorem Inv.stkFree (I:Inv X pins σ H s):∀ b∈frs X.stack,H b=none:=fun b hb=>by
 rcases List.mem_cons.mp (I.stkSub b hb) with e | hb
 ·rw [e]; exact I.free
 ·obtain ⟨_,o,ho,_⟩:=I.ok.funs.mem hb
  exact I.base.free b o ho (I.ok.frf b hb) fun z=>I.ok.exfs b z hb
theorem Inv.step {g':Array GenState} {t':Nat} {d':Drawn} {ch:List Addr} (I:Inv X pins σ H s)
  (hch:∀ b∈ch,(b∈X.ex ∨ X.s₀.heap.objs.size≤b)∧b≠X.env.locals∧(∀ x c,X.env.cells.lookup x=some c→c≠b)∧∀ p∈X.pn++pins,p.1≠b)
  (keep:∀ b o,b≠X.env.locals→b ∉ X.fs→b ∉ ch→s.heap.get? b=some o→H b=none→h'.get? b=some o)
  (slot:∀ b o,b≠X.env.locals→b∈X.fs→b ∉ ch→s.heap.get? b=some o→H b=none→∃ sl,h'.get? b=some { o with slots:=sl }) (free:∀ b o,b ∉ ch→s.heap.get? b=some o→H b=none→H' b=none)
  (there:∀ b o,b ∉ ch→s.heap.get? b=some o→∃ o',h'.get? b=some o')
  (tups:∀ b xs,H b=some (.tup xs)→H' b=some (.tup xs)) (frzs:∀ b o u,H b=some (.frz o u)→H' b=some (.frz o u)) (tbls:∀ b ps,H b=some (.tbl ps)→∃ more,H' b=some (.tbl (ps++more)))
  (ns:∀ m,s.heap.Ns X.env.locals m→h'.Ns X.env.locals m) (hok:HOk X.prog X.w H' h') (hg:AllBare g') :
  Inv X pins σ H' { s with heap:=h',gens:=g',drawn:=d',toks:=t' }:=by
 have neL:∀ b o,X.s₀.heap.get? b=some o→b≠X.env.locals:=fun b o e=>Γo (Nat.lt_of_lt_of_le (Γl e) I.ok.above)
 have neC:∀ b o,X.s₀.heap.get? b=some o→b ∉ X.ex→b ∉ ch:=fun b o e hx hb=>by
  rcases (hch b hb).1 with z | z
  ·exact hx z
  ·exact absurd (Nat.lt_of_lt_of_le (Γl e) z) (Nat.lt_irrefl _)
 have cellK:∀ x c,X.env.cells.lookup x=some c→∀ v,s.heap.IsCell c v→h'.IsCell c v:=fun x c e v ⟨o,ho,hd⟩=>by
  have nch:c ∉ ch:=fun z=>(hch c z).2.2.1 x c e rfl
  by_cases hc:c∈X.fs
  ·obtain ⟨sl,q⟩:=slot c o (I.cne x c e) hc nch ho (I.freeC x c e)
   exact ⟨_,q,hd⟩
  ·exact ⟨o,keep c o (I.cne x c e) hc nch ho (I.freeC x c e),hd⟩
 refine ⟨I.ok,I.os,hg,⟨fun b o e n hb hx=>?_,fun b o e n hb hx=>?_,fun b o e n hx=>?_,fun b o e hx=>?_,fun b xs e=>tups b xs (I.base.tups b xs e),fun b o xs e=>frzs b o xs (I.base.frzs b o xs e),fun b ps e=>?_⟩,?_,fun x c e=>?_,?_,fun x c e=>?_,fun p hp=>?_,hok,I.len⟩
 ·exact keep b o (neL b o e) hb (neC b o e hx) (I.base.keep b o e n hb hx) (I.base.free b o e n hx)
 ·obtain ⟨sl,e1⟩:=I.base.slot b o e n hb hx
  obtain ⟨sl',e2⟩:=slot b _ (neL b o e) hb (neC b o e hx) e1 (I.base.free b o e n hx)
  exact ⟨sl',e2⟩
 ·obtain ⟨o',e1⟩:=I.base.there b o e hx
  exact free b o' (neC b o e hx) e1 (I.base.free b o e n hx)
 ·obtain ⟨o',e1⟩:=I.base.there b o e hx
  exact there b o' (neC b o e hx) e1
 ·obtain ⟨m1,e1⟩:=I.base.tbls b ps e
  obtain ⟨m2,e2⟩:=tbls b _ e1
  exact ⟨m1++m2,by rw [e2,Array.append_assoc]⟩
 ·obtain ⟨m,hn,hl⟩:=I.loc
  refine ⟨m,ns m hn,fun i x v e1 e2 e3=>?_⟩
  obtain ⟨u,r,l⟩:=hl i x v e1 e2 e3
  refine ⟨u,r,?_⟩
  rcases l with l | ⟨k,c,e,z⟩
  ·exact .inl l
  ·exact .inr ⟨k,c,e,cellK x c e _ z⟩
 ·obtain ⟨v,z⟩:=I.cell x c e
  exact ⟨v,cellK x c e v z⟩
 ·obtain ⟨m,⟨o,_,_,ho,_⟩,_⟩:=I.loc
  exact free _ o (fun z=>(hch _ z).2.1 rfl) ho I.free
 ·obtain ⟨v,o,ho,hd⟩:=I.cell x c e
  exact free c o (fun z=>(hch c z).2.2.1 x c e rfl) ho (I.freeC x c e)
 ·obtain ⟨e,n,ne,nf,d⟩:=I.pin p hp
  have nch:p.1 ∉ ch:=fun z=>(hch p.1 z).2.2.2 p hp rfl
  exact ⟨keep p.1 p.2 ne nf nch e n,free p.1 p.2 nch e n,ne,nf,d⟩
theorem Inv.un {t':Nat} (I:Inv X pins σ H s) (u:Un X.fs [] H H' s.heap h') (hok:HOk X.prog X.w H' h'):Inv X pins σ H' { s with heap:=h',toks:=t' }:=by
 obtain ⟨m,⟨o,es,ep,ho,r⟩,_⟩:=id I.loc
 obtain ⟨sl,hL⟩:=u.any ho I.free (by simp)
 exact I.step (g':=s.gens) (d':=s.drawn) (ch:=[]) (fun _ z=>nomatch z) (fun b o _ hb _ e n=>u.keep b o e n hb (by simp)) (fun b o _ hb _ e n=>u.slot b o e n hb (by simp)) (fun b o _ e n=>u.free b o e n (by simp)) (fun b o _ e=>u.there b o e (by simp)) u.tups u.frzs u.tbls (fun m' hm=>by
  obtain ⟨o',es',ep',ho',r'⟩:=hm
  rw [ho] at ho'; cases ho'
  exact ⟨_,es',ep',hL,r'⟩) hok I.bare
theorem Inv.call {g':Array GenState} {t':Nat} {d':Drawn} {ch:List Addr} (I:Inv X pins σ H s) (u:Un (frs X.stack) ch H H' s.heap h') (hok:HOk X.prog X.w H' h') (hg:AllBare g')
  (hch:∀ b∈ch,(b∈X.ex ∨ X.s₀.heap.objs.size≤b)∧b≠X.env.locals∧(∀ x c,X.env.cells.lookup x=some c→c≠b)∧∀ p∈X.pn++pins,p.1≠b) :
  Inv X pins σ H' { s with heap:=h',gens:=g',drawn:=d',toks:=t' }:=by
 obtain ⟨m,⟨o,es,ep,ho,r⟩,_⟩:=id I.loc
 obtain ⟨sl,hL⟩:=u.any ho I.free fun z=>(hch _ z).2.1 rfl
 exact I.step (ch:=ch) hch (fun b o hL hb hc e n=>u.keep b o e n (fun z=>(List.mem_cons.mp (I.stkSub b z)).elim hL hb) hc) (fun b o _ _ hc e n=>u.any e n hc) (fun b o hc e n=>u.free b o e n hc) (fun b o hc e=>u.there b o e hc) u.tups u.frzs u.tbls (fun m' hm=>by
  obtain ⟨o',es',ep',ho',r'⟩:=hm
  rw [ho] at ho'; cases ho'
  exact ⟨_,es',ep',hL,r'⟩) hok hg
theorem Inv.turned {t':Nat} {it:Addr} (I:Inv X pins σ H s) (k:∀ b o,b≠it→s.heap.get? b=some o→h'.get? b=some o) (hn:H it=none) (hL:it≠X.env.locals)
  (h1:it∈X.ex ∨ X.s₀.heap.objs.size≤it) (h2:∀ x c,X.env.cells.lookup x=some c→c≠it) (h3:∀ p∈X.pn++pins,p.1≠it):Inv X pins σ H { s with heap:=h',toks:=t' }:=by
 have nit:∀ b u,H b=some u→b≠it:=fun b u e z=>by rw [z,hn] at e; cases e
 refine I.step (g':=s.gens) (d':=s.drawn) (ch:=[it]) (fun b hb=>?_) (fun b o _ _ hc e _=>k b o (fun z=>hc (by simp [z])) e) (fun b o _ _ hc e _=>⟨o.slots,k b o (fun z=>hc (by simp [z])) e⟩) (fun _ _ _ _ n=>n)
  (fun b o hc e=>⟨o,k b o (fun z=>hc (by simp [z])) e⟩) (fun _ _ e=>e) (fun _ _ _ e=>e) (fun b ps e=>⟨#[],by rw [e]; simp⟩) (fun m hm=>?_) (fun b u e=>?_) I.bare
 ·have e:b=it:=by simpa using hb
  subst e
  exact ⟨h1,hL,h2,h3⟩
 ·obtain ⟨o,es,ep,ho,r⟩:=hm
  exact ⟨o,es,ep,k _ o (Ne.symm hL) ho,r⟩
 ·refine (I.hok b u e).stay (fun c v hc q=>k c v ?_ q) (fun _ q=>q) fun _ _ q=>q
  rcases hc with z | z
  ·rw [z]; exact nit b u e
  ·exact nit c _ z
theorem Inv.tok (I:Inv X pins σ H s) (t:Nat):Inv X pins σ H { s with toks:=t }:=I.un (h':=s.heap) (t':=t) Un.refl I.hok
theorem Inv.kept {t':Nat} (I:Inv X pins σ H s) (k:∀ b u,s.heap.get? b=some u→h'.get? b=some u):Inv X pins σ H { s with heap:=h',toks:=t' }:=I.un (Un.kept k) (I.hok.kept k)
theorem Inv.laid {a:Addr} {o:HO} {t':Nat} (I:Inv X pins σ H s) (k:∀ b u,s.heap.get? b=some u→h'.get? b=some u) (hp:s.heap.objs.size≤a) (new:ObjOk X.prog X.w (upd H a o) h' a o) :
  Inv X pins σ (upd H a o) { s with heap:=h',toks:=t' }:=I.un (Un.laid k hp (I.hok.fresh hp)) (I.hok.laid k hp new)
theorem Inv.write {x e:Addr} {o:HO} {t':Nat} (I:Inv X pins σ H s) (mu:Mut (H x)) (he:e=x ∨ H e=some (.own x)) (k:∀ b u,b≠e→s.heap.get? b=some u→h'.get? b=some u) (heo:∃ u,h'.get? e=some u)
  (new:ObjOk X.prog X.w (upd H x o) h' x o):Inv X pins σ (upd H x o) { s with heap:=h',toks:=t' }:=I.un (Un.write mu he k heo) (I.hok.write mu he k heo new)
theorem Inv.weak {σ':List (Option V)} (I:Inv X pins σ H s) (hl:σ'.length=σ.length) (w:∀ (i:Nat) v,σ'[i]?=some (some v)→σ[i]?=some (some v)):Inv X pins σ' H s :=
 ⟨I.ok,I.os,I.bare,I.base,let ⟨m,hn,hl'⟩:=I.loc; ⟨m,hn,fun i x v e1 e2 e3=>hl' i x v e1 (w i v e2) e3⟩,I.cell,I.free,I.freeC,I.pin,I.hok,hl.trans I.len⟩
theorem Inv.pins_of {pins':List (Addr×Obj)} (I:Inv X pins σ H s) (h:∀ p∈pins',s.heap.get? p.1=some p.2∧H p.1=none∧p.1≠X.env.locals∧p.1 ∉ X.fs∧∀ v,p.2.data≠.cell v):Inv X pins' σ H s :=
 ⟨I.ok,I.os,I.bare,I.base,I.loc,I.cell,I.free,I.freeC,fun p hp=>(List.mem_append.mp hp).elim (fun z=>I.pin p (List.mem_append_left _ z)) (h p),I.hok,I.len⟩
theorem b2m {N:List Str} (hN:N.Nodup) {i j:Nat} {x:Str} (a:N[i]?=some x) (b:N[j]?=some x):i=j:=by
 obtain ⟨h1,e1⟩:=List.getElem?_eq_some_iff.mp a
 obtain ⟨h2,e2⟩:=List.getElem?_eq_some_iff.mp b
 exact (List.getElem_inj hN).mp (e1.trans e2.symm)
theorem a9k {M:Model} {A:Around} {E:Value→Shared→Prop} {i:Nat} {x:Str} {v:V} {u:Value} {Q:Unit→Shared→Prop} (I:Inv X pins σ H s) (hN:X.N.Nodup) (hi:X.N[i]?=some x) (hx:Loc X.env.scope x) (r:RelV v u)
  (h:∀ s',Inv X pins (σ.set i (some v)) H s'→(∃ a,Heap.SameBut a s.heap s'.heap∧(a=X.env.locals ∨ X.env.cells.lookup x=some a))→Q () s') (hf:X.fn x=true ∨ X.env.scope.names.lookup x=some .local:=by first | exact .inl rfl | exact .inr rfl | assumption):wpAny M A (storeName X.env x u) Q E s:=by
 obtain ⟨m,hn,hl⟩:=id I.loc
 have hcls:(X.env.scope.kind == .class || (X.env.scope.kind == .module && X.env.locals != X.env.globals))=false:=by rw [I.ok.kind]; rfl
 have hiσ:i < σ.length:=by rw [I.len]; exact (List.getElem?_eq_some_iff.mp hi).1
 have cne:=I.cne
 have tracked:∀ {a:Addr} {h':Heap},(∃ o,s.heap.get? a=some o∧H a=none)→Heap.SameBut a s.heap h'→HOk X.prog X.w H h':=fun {a h'} ha hs b ob e=>by
  obtain ⟨_,_,hfree⟩:=ha
  refine (I.hok b ob e).stay (fun c w' hc q=>(hs.2 c ?_).trans q) (fun _ q=>q) fun _ _ q=>q
  rintro rfl
  rcases hc with rfl | hc
  ·rw [hfree] at e; cases e
  ·rw [hfree] at hc; cases hc
 rcases hx with hk | hk
 ·refine wpAny_storeName_local hk hn (fun h' hn' hs=>?_) hcls
  obtain ⟨oL,_,_,hoL,_⟩:=id hn
  refine h _ ⟨I.ok,I.os,I.bare,⟨fun b o e n hb hx=>?_,fun b o e n hb hx=>?_,I.base.free,fun b o e hx=>?_,I.base.tups,I.base.frzs,I.base.tbls⟩,⟨_,hn',fun j y v' e1 e2 e3=>?_⟩,fun y c e=>?_,I.free,I.freeC,fun p hp=>?_,tracked ⟨oL,hoL,I.free⟩ hs,by simpa using I.len⟩ ⟨_,hs,.inl rfl⟩
  ·exact (hs.2 b (Γo (Nat.lt_of_lt_of_le (Γl e) I.ok.above))).trans (I.base.keep b o e n hb hx)
  ·obtain ⟨sl,e1⟩:=I.base.slot b o e n hb hx
   exact ⟨sl,(hs.2 b (Γo (Nat.lt_of_lt_of_le (Γl e) I.ok.above))).trans e1⟩
  ·obtain ⟨o',e1⟩:=I.base.there b o e hx
   exact ⟨o',(hs.2 b (Γo (Nat.lt_of_lt_of_le (Γl e) I.ok.above))).trans e1⟩
  ·by_cases hj:j=i
   ·subst hj
    rw [hi] at e1; cases e1
    rw [List.getElem?_set_self hiσ] at e2
    cases e2
    exact ⟨u,r,.inl ⟨hk,by simp⟩⟩
   ·rw [List.getElem?_set_ne (Ne.symm hj)] at e2
    obtain ⟨u',r',q⟩:=hl j y v' e1 e2 e3
    refine ⟨u',r',?_⟩
    rcases q with ⟨k,e⟩ | ⟨k,c,e,z⟩
    ·refine .inl ⟨k,?_⟩
     have:y≠x:=fun e=>hj (b2m hN e1 (e ▸ hi))
     simp [this,e]
    ·exact .inr ⟨k,c,e,z.sameBut hs (cne y c e)⟩
  ·obtain ⟨w',z⟩:=I.cell y c e
   exact ⟨w',z.sameBut hs (cne y c e)⟩
  ·obtain ⟨e,n,ne,nf,d⟩:=I.pin p hp
   exact ⟨(hs.2 p.1 ne).trans e,n,ne,nf,d⟩
 ·have hfn:X.fn x=true:=by
   rcases hf with z | z
   ·exact z
   ·rw [z] at hk; cases hk
  obtain ⟨c,hc⟩:=I.ok.has x (.inl hk)
  obtain ⟨w',z⟩:=I.cell x c hc
  refine wpAny_storeName_cell I.ok.kind hk hc z (fun h' hc' hs=>?_)
  obtain ⟨oc,hoc,hocd⟩:=id z
  refine h { s with heap:=h' } ⟨I.ok,I.os,I.bare,⟨fun b o e n hb hx=>?_,fun b o e n hb hx=>?_,I.base.free,fun b o e hx=>?_,I.base.tups,I.base.frzs,I.base.tbls⟩,⟨m,hn.sameBut hs (Ne.symm (cne x c hc)),fun j y v' e1 e2 e3=>?_⟩,fun y c' e=>?_,I.free,I.freeC,fun p hp=>?_,tracked ⟨oc,hoc,I.freeC x c hc⟩ hs,by simpa using I.len⟩ ⟨c,hs,.inr hc⟩
  ·exact (hs.2 b (Γo (Nat.lt_of_lt_of_le (Γl e) (I.ok.cab x c hfn hc)))).trans (I.base.keep b o e n hb hx)
  ·obtain ⟨sl,e1⟩:=I.base.slot b o e n hb hx
   exact ⟨sl,(hs.2 b (Γo (Nat.lt_of_lt_of_le (Γl e) (I.ok.cab x c hfn hc)))).trans e1⟩
  ·obtain ⟨o',e1⟩:=I.base.there b o e hx
   exact ⟨o',(hs.2 b (Γo (Nat.lt_of_lt_of_le (Γl e) (I.ok.cab x c hfn hc)))).trans e1⟩
  ·by_cases hj:j=i
   ·subst hj
    rw [hi] at e1; cases e1
    rw [List.getElem?_set_self hiσ] at e2
    cases e2
    exact ⟨u,r,.inr ⟨.inl hk,c,hc,hc'⟩⟩
   ·rw [List.getElem?_set_ne (Ne.symm hj)] at e2
    obtain ⟨u',r',q⟩:=hl j y v' e1 e2 e3
    refine ⟨u',r',?_⟩
    rcases q with q | ⟨k,c',e,z'⟩
    ·exact .inl q
    ·refine .inr ⟨k,c',e,z'.sameBut hs ?_⟩
     rintro rfl
     exact hj (b2m hN e1 (I.ok.inj _ _ _ e hc ▸ hi))
  ·by_cases hcc:c'=c
   ·subst hcc; exact ⟨_,hc'⟩
   ·obtain ⟨w2,z2⟩:=I.cell y c' e
    exact ⟨w2,z2.sameBut hs hcc⟩
  ·obtain ⟨e,n,ne,nf,d⟩:=I.pin p hp
   refine ⟨(hs.2 p.1 ?_).trans e,n,ne,nf,d⟩
   intro q
   rw [q,hoc] at e
   have q':oc=p.2:=Option.some.inj e
   exact d w' (by rw [← q']; exact hocd)
theorem a5f {M:Model} {A:Around} {E:Value→Shared→Prop} {i:Nat} {x:Str} {v:V} {u:Value} {Q:Unit→Shared→Prop} (I:Inv X pins σ H s) (hN:X.N.Nodup) (hi:X.N[i]?=some x) (hx:Loc X.env.scope x) (r:RelV v u)
  (h:∀ s',Inv X pins (σ.set i (some v)) H s'→Q () s') (hf:X.fn x=true ∨ X.env.scope.names.lookup x=some .local:=by first | exact .inl rfl | exact .inr rfl | assumption):wpAny M A (storeName X.env x u) Q E s :=
 a9k I hN hi hx r (fun s' I' _=>h s' I') hf
theorem Inv.call' {s':Shared} {ch:List Addr} (I:Inv X pins σ H s) (ho:s'.os=s.os) (u:Un (frs X.stack) ch H H' s.heap s'.heap) (hok:HOk X.prog X.w H' s'.heap) (hg:AllBare s'.gens)
  (hch:∀ b∈ch,(b∈X.ex ∨ X.s₀.heap.objs.size≤b)∧b≠X.env.locals∧(∀ x c,X.env.cells.lookup x=some c→c≠b)∧∀ p∈X.pn++pins,p.1≠b):Inv X pins σ H' s':=by
 obtain ⟨h',g',d',t',o'⟩:=s'
 have e:o'=s.os:=ho
 subst e
 exact I.call (g':=g') (t':=t') (d':=d') u hok hg hch
end
abbrev XK:=Value→Option Addr→Hp→Prop
abbrev St:=List (Option V)
abbrev VK:=V→Hp→Prop
abbrev TE:=St→Hp→VK→Prop
abbrev TT:=St→Hp→(Bool→Hp→Prop)→Prop
abbrev TA:=St→Hp→(List V→Hp→Prop)→Prop
structure Ends where
 nx:St→Hp→Prop
 rt:VK
 bk:St→Hp→Prop:=fun _ _=>False
 ct:St→Hp→Prop:=fun _ _=>False
abbrev TS:=Ends→St→Hp→Prop
def EP (X:Cx) (pins:List (Addr×Obj)) (σ:St) (Q:VK) (u:Value) (s':Shared):Prop:=∃ v H',Inv X pins σ H' s'∧RelV v u∧Q v H'
def TP (X:Cx) (pins:List (Addr×Obj)) (σ:St) (Q:Bool→Hp→Prop) (b:Bool) (s':Shared):Prop:=∃ H',Inv X pins σ H' s'∧Q b H'
def AP (X:Cx) (pins:List (Addr×Obj)) (σ:St) (Q:List V→Hp→Prop) (us:List Value) (s':Shared):Prop:=∃ vs H',Inv X pins σ H' s'∧Vals vs us∧Q vs H'
def SP (X:Cx) (pins:List (Addr×Obj)) (D:Ends) (f:Flow) (s':Shared):Prop :=
 match f with
 | .next=>∃ σ' H',Inv X pins σ' H' s'∧D.nx σ' H'
 | .brk=>∃ σ' H',Inv X pins σ' H' s'∧D.bk σ' H'
 | .cont=>∃ σ' H',Inv X pins σ' H' s'∧D.ct σ' H'
 | .ret u=>∃ v σ' H',Inv X pins σ' H' s'∧RelV v u∧D.rt v H'
def PE (X:Cx) (e:Expr) (t:TE):Prop :=
 ∀ (pins:List (Addr×Obj)) (s:Shared) (σ:St) (H:Hp) (Q:VK),Inv X pins σ H s→t σ H Q→wpAny (model X.prog X.w) X.A (eval e X.env) (EP X pins σ Q) X.xe s
def PT (X:Cx) (e:Expr) (t:TT):Prop :=
 ∀ (pins:List (Addr×Obj)) (s:Shared) (σ:St) (H:Hp) (Q:Bool→Hp→Prop),Inv X pins σ H s→t σ H Q→wpAny (model X.prog X.w) X.A (isTrue e X.env (eval e X.env)) (TP X pins σ Q) X.xe s
def PW (X:Cx) (e:Expr) (t:TT):Prop :=
 ∀ (whole:Sem Value) (pins:List (Addr×Obj)) (s:Shared) (σ:St) (H:Hp) (Q:Bool→Hp→Prop),Inv X pins σ H s→t σ H Q→wpAny (model X.prog X.w) X.A (isTrue e X.env whole) (TP X pins σ Q) X.xe s
theorem PW.pt {X:Cx} {e:Expr} {t:TT} (h:PW X e t):PT X e t:=h _
def PA (X:Cx) (es:List Expr) (t:TA):Prop :=
 ∀ (pos:Pos) (pins:List (Addr×Obj)) (s:Shared) (σ:St) (H:Hp) (Q:List V→Hp→Prop),Inv X pins σ H s→t σ H Q→wpAny (model X.prog X.w) X.A (spliced (backTo pos (starEach es X.env))) (AP X pins σ Q) X.xe s
def PS (X:Cx) (st:Stmt) (t:TS):Prop :=
 ∀ (pins:List (Addr×Obj)) (s:Shared) (σ:St) (H:Hp) (D:Ends),Inv X pins σ H s→t D σ H→wpAny (model X.prog X.w) X.A (exec st X.env) (SP X pins D) X.xe s
def PSs (X:Cx) (st:List Stmt) (t:TS):Prop :=
 ∀ (pins:List (Addr×Obj)) (s:Shared) (σ:St) (H:Hp) (D:Ends),Inv X pins σ H s→t D σ H→wpAny (model X.prog X.w) X.A (execs st X.env) (SP X pins D) X.xe s
theorem thn {α:Type} {t:Sem α} {Q Q':α→Shared→Prop} {M:Model} {A:Around} {E:Value→Shared→Prop} {s:Shared} (h:wpAny M A t Q E s) (hQ:∀ a s,Q a s→Q' a s):wpAny M A t Q' E s:=wpAny_mono h hQ fun _ _ x=>x
end L2
namespace L2
open PySem PySem.Spec PyProof.Rows
section
variable {X:Cx}
def c0c (i:Nat):TE:=fun σ H Q=>∃ v,σ[i]?=some (some v)∧Q v H
def tC (v:V):TE:=fun _ H Q=>Q v H
theorem b6j {i:Nat} {x:Str} {pos:Pos} (hN:X.N[i]?=some x) (hv:Vis X.env.scope x) (hd:(x == ("__debug__":Str))=false:=by decide) (hcd:(x == ("__classdict__":Str))=false:=by decide):PE X (.Name x pos) (c0c i):=by
 intro pins s σ H Q I h
 obtain ⟨v,e,h⟩:=h
 obtain ⟨m,hn,hl⟩:=I.loc
 obtain ⟨u,r,l⟩:=hl i x v hN e hv
 have fin:EP X pins σ Q u s:=⟨v,H,I,r,h⟩
 rcases l with ⟨hk,hm⟩ | ⟨hk,c,hc,hcell⟩
 ·exact wpAny_Name (wpAny_loadName_local I.ok.kind hk hn hm fin) hd
 ·rcases hk with hk | hk
  ·exact wpAny_Name (wpAny_loadName_cell I.ok.kind hk hc hcell fin) hd
  ·exact wpAny_Name (wpAny_loadName_free I.ok.kind hk hc hcell fin hcd) hd
theorem d0b {i j pos}:PE X (.Constant (.int i) j pos) (tC (.int i)):=fun _ _ _ H _ I h=>wpAny_Constant_int ⟨.int i,H,I.tok _,⟨_,rfl⟩,h⟩
theorem d6x {b j pos}:PE X (.Constant (.bool b) j pos) (tC (.bl b)):=fun _ _ _ H _ I h=>Constant_bool ⟨.bl b,H,I,rfl,h⟩
theorem c9z {j pos}:PE X (.Constant .none j pos) (tC .non):=fun _ _ _ H _ I h=>Constant_none ⟨.non,H,I,rfl,h⟩
theorem c9w {x j pos}:PE X (.Constant (.str x) j pos) (tC (.str x)):=fun _ _ _ H _ I h=>Calls.Constant_str ⟨.str x,H,I.tok _,⟨_,rfl⟩,h⟩
def Gl (X:Cx) (x:Str):Prop:=X.env.kindOf x=some .globalImplicit
theorem b1l {E:Value→Shared→Prop} {pins:List (Addr×Obj)} {s:Shared} {σ:St} {H:Hp} {x:Str} {u:Value} {pos:Pos} {Q:Value→Shared→Prop} (I:Inv X pins σ H s) (hg:Gl X x) (hm:X.mg x=some u) (h:Q u s)
  (hd:(x == ("__debug__":Str))=false:=by decide):wpAny (model X.prog X.w) X.A (eval (.Name x pos) X.env) Q E s :=
 Calls.Name_function_global I.ok.kind hg (Calls.loadGlobal_global (by rw [I.ok.glob]; exact I.mod.glob.keeps I.bk) hm h) hd
theorem a3o {E:Value→Shared→Prop} {pins:List (Addr×Obj)} {s:Shared} {σ:St} {H:Hp} {x:Str} {u:Value} {pos:Pos} {Q:Value→Shared→Prop} (I:Inv X pins σ H s) (hg:Gl X x) (hm:X.mg x=none) (hv:bootBuiltins x=some u) (h:Q u s)
  (hn:x≠"__name__":=by decide) (hd:(x == ("__debug__":Str))=false:=by decide):wpAny (model X.prog X.w) X.A (eval (.Name x pos) X.env) Q E s:=by
 obtain ⟨mb,h1,h2⟩:=I.mod.blt
 exact Calls.Name_function_global I.ok.kind hg (Calls.loadGlobal_builtin (by rw [I.ok.glob]; exact I.mod.glob.keeps I.bk) hm (by rw [I.ok.blt]; exact h1.keeps I.bk) ((h2 x hn).trans hv) h) hd
theorem c5u {x:Str} {v:V} {u:Value} {pos:Pos} (hg:Gl X x) (hm:X.mg x=none) (hv:bootBuiltins x=some u) (r:RelV v u) (hn:x≠"__name__":=by decide) (hd:(x == ("__debug__":Str))=false:=by decide):PE X (.Name x pos) (tC v) :=
 fun _ _ _ H _ I h=>a3o I hg hm hv ⟨v,H,I,r,h⟩ hn hd
variable {a b:Expr} {ta tb:TE} {pos:Pos}
def PC (X:Cx) (op:CmpOp) (a b:Expr) (t:TE):Prop :=
 ∀ (pins:List (Addr×Obj)) (s:Shared) (σ:St) (H:Hp) (Q:VK),Inv X pins σ H s→t σ H Q →
  wpAny (model X.prog X.w) X.A (eval a X.env) (fun v s₁=>wpAny (model X.prog X.w) X.A (eval b X.env) (fun u s₂=>wpAny (model X.prog X.w) X.A (compareOp op v u) (EP X pins σ Q) X.xe s₂) X.xe s₁) X.xe s
theorem a1t (b:Expr) {op:CmpOp} (h:op≠.In) (h2:op≠.NotIn):behindInMarks op b=false:=by
 have e1:(op == CmpOp.In)=false:=by cases op <;> first | rfl | exact absurd rfl h
 have e2:(op == CmpOp.NotIn)=false:=by cases op <;> first | rfl | exact absurd rfl h2
 cases b <;> simp [behindInMarks,e1,e2]
def tIsN (ta:TE):TE:=fun σ H Q=>ta σ H fun x H1=>Q (.bl (decide (x=.non))) H1
def d5h (ta:TE):TE:=fun σ H Q=>ta σ H fun x H1=>Q (.bl (!decide (x=.non))) H1
theorem RelV.none_iff {x:V} {v:Value} (r:RelV x v):(v == Value.none)=decide (x=.non):=by
 cases x with
 | non=>cases r; rfl
 | bl _=>cases r; rfl
 | int _=>obtain ⟨t,rfl⟩:=r; rfl
 | str _=>obtain ⟨t,rfl⟩:=r; rfl
 | byt _=>obtain ⟨t,rfl⟩:=r; rfl
 | flt _=>obtain ⟨t,rfl⟩:=r; rfl
 | ref _=>cases r; rfl
 | ty _=>cases r; rfl
theorem d0d {j pos'} (ha:PE X a ta):PC X .Is a (.Constant .none j pos') (tIsN ta):=by
 intro pins s σ H Q I h
 refine thn (ha pins s σ H _ I h) fun v s1 ⟨x,H1,I1,r1,q1⟩=>?_
 exact Constant_none (is_none_gen ⟨.bl _,H1,I1,by rw [r1.none_iff]; rfl,q1⟩)
theorem c5w {j pos'} (ha:PE X a ta):PC X .IsNot a (.Constant .none j pos') (d5h ta):=by
 intro pins s σ H Q I h
 refine thn (ha pins s σ H _ I h) fun v s1 ⟨x,H1,I1,r1,q1⟩=>?_
 exact Constant_none (isnot_none_gen ⟨.bl _,H1,I1,by rw [r1.none_iff]; rfl,q1⟩)
def tB (t:TE):TT:=fun σ H Q=>t σ H fun x H1=>∃ c,x=.bl c∧Q c H1
theorem c3h {op:CmpOp} {t:TE} (h:PC X op a b t) (h1:behindInMarks op b=false:=by first | exact a1t _ (by decide) (by decide) | rfl):PT X (.Compare a [op] [b] pos) (tB t):=by
 intro pins s σ H Q I hw
 refine wpAny_isTrue_Compare1 (thn (h pins s σ H _ I hw) fun v s1 h1=>thn h1 fun u s2 h2=>thn h2 fun c s3 ⟨x,H1,I1,r1,q1⟩=>?_) h1
 obtain ⟨d,rfl,q⟩:=q1
 cases r1
 exact wpAny_truthy_bool ⟨H1,I1,q⟩
variable {tA tB':TT} {rest:List Expr}
def tAnd (t u:TT):TT:=fun σ H Q=>t σ H fun c H1=>if c=true then u σ H1 Q else Q false H1
def tOr (t u:TT):TT:=fun σ H Q=>t σ H fun c H1=>if c=true then Q true H1 else u σ H1 Q
def tNot (t:TT):TT:=fun σ H Q=>t σ H fun c H1=>Q (!c) H1
theorem c5c (ha:PT X a tA):PW X (.BoolOp .And [a] pos) tA:=by
 intro wh pins s σ H Q I h
 refine isTrue_and (thn (ha pins s σ H Q I h) fun c s1 e=>?_)
 cases c with
 | true=>exact isTrue_and_nil e
 | false=>exact e
theorem c9n (ha:PT X a tA):PW X (.BoolOp .Or [a] pos) tA:=by
 intro wh pins s σ H Q I h
 refine isTrue_or (thn (ha pins s σ H Q I h) fun c s1 e=>?_)
 cases c with
 | false=>exact isTrue_or_nil e
 | true=>exact e
theorem c9o (ha:PT X a tA) (hb:PW X (.BoolOp .And (b :: rest) pos) tB'):PW X (.BoolOp .And (a :: b :: rest) pos) (tAnd tA tB'):=by
 intro wh pins s σ H Q I h
 refine isTrue_and (thn (ha pins s σ H _ I h) fun c s1 ⟨H1,I1,q1⟩=>?_)
 cases c with
 | true=>exact hb wh pins s1 σ H1 Q I1 q1
 | false=>exact ⟨H1,I1,q1⟩
theorem d6r (ha:PT X a tA) (hb:PW X (.BoolOp .Or (b :: rest) pos) tB'):PW X (.BoolOp .Or (a :: b :: rest) pos) (tOr tA tB'):=by
 intro wh pins s σ H Q I h
 refine isTrue_or (thn (ha pins s σ H _ I h) fun c s1 ⟨H1,I1,q1⟩=>?_)
 cases c with
 | true=>exact ⟨H1,I1,q1⟩
 | false=>exact hb wh pins s1 σ H1 Q I1 q1
theorem c9p (ha:PT X a tA):PT X (.UnaryOp .Not a pos) (tNot tA):=by
 intro pins s σ H Q I h
 exact isTrue_not (ha pins s σ H (fun c H1=>Q (!c) H1) I h)
def d5g (ta:TE):TE:=fun σ H Q=>ta σ H fun x H1=>∃ c,x=.bl c∧Q (.bl (!c)) H1
theorem c9x {op} {t:TE} (h:PE X a t):PE X (.BoolOp op [a] pos) t:=fun pins s σ H Q I hw=>BoolOp_one (h pins s σ H Q I hw)
theorem c9y (ha:PE X a ta):PE X (.UnaryOp .Not a pos) (d5g ta):=by
 intro pins s σ H Q I h
 refine UnaryOp_ (thn (ha pins s σ H _ I h) fun v s1 ⟨x,H1,I1,r1,q1⟩=>?_)
 obtain ⟨c,rfl,q1⟩:=q1
 cases r1
 exact not_of (wpAny_truthy_bool ⟨.bl (!c),H1,I1,rfl,q1⟩)
def tIf (t:TT) (ta tb:TE):TE:=fun σ H Q=>t σ H fun c H1=>if c=true then ta σ H1 Q else tb σ H1 Q
theorem c1f {c:Expr} (hc:PT X c tA) (ha:PE X a ta) (hb:PE X b tb):PE X (.IfExp c a b pos) (tIf tA ta tb):=by
 intro pins s σ H Q I h
 refine wpAny_IfExp (thn (hc pins s σ H _ I h) fun d s1 ⟨H1,I1,q1⟩=>?_)
 cases d with
 | true=>exact ha pins s1 σ H1 Q I1 q1
 | false=>exact hb pins s1 σ H1 Q I1 q1
end
end L2
namespace L2
open PySem PySem.Spec PyProof.Rows
def SqL (K:Γd) (H:Hp) (a:Addr) (xs:List V):Prop :=
 Rd H a (.lst xs) ∨
  ∃ (o:Obj) (its:Array Value) (n:Nat),K.lookup a=some o∧o.cls=.type "list"∧o.dict=none∧o.data=.seq its n∧its.size≤sizeLine∧Vals xs its.toList
def SqT (K:Γd) (H:Hp) (a:Addr) (xs:List V):Prop :=
 Rd H a (.tup xs) ∨
  ∃ (o:Obj) (its:Array Value) (n:Nat),K.lookup a=some o∧o.cls=.type "tuple"∧o.data=.seq its n∧its.size≤sizeLine∧Vals xs its.toList
def absV:Value→Option V
 | .none=>some .non
 | .bool b=>some (.bl b)
 | .int i _=>some (.int i)
 | .str x _=>some (.str x)
 | .bytes b _=>some (.byt b)
 | .float b _=>some (.flt b)
 | .ref a=>some (.ref a)
 | .type n=>some (.ty n)
 | _=>none
theorem RelV.abs {x:V} {u:Value} (r:RelV x u):absV u=some x:=by
 cases x with
 | non=>cases r; rfl
 | bl _=>cases r; rfl
 | int _=>obtain ⟨t,rfl⟩:=r; rfl
 | str _=>obtain ⟨t,rfl⟩:=r; rfl
 | byt _=>obtain ⟨t,rfl⟩:=r; rfl
 | flt _=>obtain ⟨t,rfl⟩:=r; rfl
 | ref _=>cases r; rfl
 | ty _=>cases r; rfl
theorem RelV.inj {x y:V} {u:Value} (r:RelV x u) (q:RelV y u):x=y:=Option.some.inj (r.abs.symm.trans q.abs)
theorem Vals.inj:∀ {xs ys:List V} {us:List Value},Vals xs us→Vals ys us→xs=ys
 | _,_,_,.nil,.nil=>rfl
 | _,_,_,.cons r t,.cons r' t'=>by rw [r.inj r',Vals.inj t t']
section
variable {X:Cx} {pins:List (Addr×Obj)} {σ:St} {H:Hp} {s:Shared} {a:Addr} {xs ys:List V}
theorem SqL.of {K:Γd} (h:H a=some (.lst xs)):SqL K H a xs:=.inl (.inl h)
theorem SqT.of {K:Γd} (h:H a=some (.tup xs)):SqT K H a xs:=.inl (.inl h)
theorem Inv.list (I:Inv X pins σ H s) (h:SqL X.K H a xs):∃ its:List Value,Vals xs its∧PlainL s.heap a its.toArray∧xs.length≤sizeLine:=by
 rcases h with h | ⟨o,its,n,hk,hc,hd,hs,hz,r⟩
 ·obtain ⟨z,its,n,r,e⟩:=h.ok I.hok
  exact ⟨its,r,⟨_,n,e,rfl,rfl,rfl⟩,z⟩
 ·refine ⟨its.toList,r,⟨o,n,I.kIn a o hk,hc,hd,by simpa using hs⟩,?_⟩
  have e:=r.length
  simp only [Array.length_toList] at e
  lia
theorem Inv.tuple (I:Inv X pins σ H s) (h:SqT X.K H a xs):∃ its:List Value,Vals xs its∧IsTup s.heap a its.toArray∧xs.length≤sizeLine:=by
 rcases h with h | ⟨o,its,n,hk,hc,hs,hz,r⟩
 ·obtain ⟨z,its,r,p⟩:=h.ok I.hok
  exact ⟨its,r,p,z⟩
 ·refine ⟨its.toList,r,⟨o,I.kIn a o hk,hc,n,by simpa using hs⟩,?_⟩
  have e:=r.length
  simp only [Array.length_toList] at e
  lia
theorem Inv.list_inj (I:Inv X pins σ H s) (h:SqL X.K H a xs) (h':SqL X.K H a ys):xs=ys:=by
 obtain ⟨its,r,⟨o,n,e,_,_,d⟩,_⟩:=I.list h
 obtain ⟨its',r',⟨o',n',e',_,_,d'⟩,_⟩:=I.list h'
 rw [e] at e'; cases e'
 rw [d] at d'
 injection d' with d1 _
 have:its=its':=by simpa using congrArg Array.toList d1
 subst this
 exact r.inj r'
theorem Inv.tuple_inj (I:Inv X pins σ H s) (h:SqT X.K H a xs) (h':SqT X.K H a ys):xs=ys:=by
 obtain ⟨its,r,⟨o,e,_,n,d⟩,_⟩:=I.tuple h
 obtain ⟨its',r',⟨o',e',_,n',d'⟩,_⟩:=I.tuple h'
 rw [e] at e'; cases e'
 rw [d] at d'
 injection d' with d1 _
 have:its=its':=by simpa using congrArg Array.toList d1
 subst this
 exact r.inj r'
end
abbrev Cx.wish (X:Cx) (E:Value→Shared→Prop):Cx:={ X with xe:=E }
abbrev Cx.nox (X:Cx):Cx:=X.wish fun _ _=>False
theorem Cx.Ok.wish {X:Cx} (ok:X.Ok) (E:Value→Shared→Prop):(X.wish E).Ok :=
 ⟨ok.mod,ok.kind,ok.glob,ok.blt,ok.above,ok.inj,ok.has,ok.cab,ok.hd,ok.frames,ok.stk,ok.exf,ok.bs,ok.bsz,ok.noex,ok.exfs,ok.funs,ok.frf⟩
theorem Cx.Ok.unwish {X:Cx} {E:Value→Shared→Prop} (ok:(X.wish E).Ok):X.Ok :=
 ⟨ok.mod,ok.kind,ok.glob,ok.blt,ok.above,ok.inj,ok.has,ok.cab,ok.hd,ok.frames,ok.stk,ok.exf,ok.bs,ok.bsz,ok.noex,ok.exfs,ok.funs,ok.frf⟩
section
variable {X:Cx} {pins:List (Addr×Obj)} {σ:St} {H:Hp} {s:Shared} {E:Value→Shared→Prop}
theorem Inv.wish (I:Inv X pins σ H s) (E:Value→Shared→Prop):Inv (X.wish E) pins σ H s:=⟨I.ok.wish E,I.os,I.bare,I.base,I.loc,I.cell,I.free,I.freeC,I.pin,I.hok,I.len⟩
theorem Inv.unwish (I:Inv (X.wish E) pins σ H s):Inv X pins σ H s:=⟨I.ok.unwish,I.os,I.bare,I.base,I.loc,I.cell,I.free,I.freeC,I.pin,I.hok,I.len⟩
theorem SP.unwish {D:Ends} {f:Flow} {s':Shared} (h:SP (X.wish E) pins D f s'):SP X pins D f s':=by
 cases f with
 | next=>obtain ⟨σ',H',I,q⟩:=h; exact ⟨σ',H',I.unwish,q⟩
 | brk=>obtain ⟨σ',H',I,q⟩:=h; exact ⟨σ',H',I.unwish,q⟩
 | cont=>obtain ⟨σ',H',I,q⟩:=h; exact ⟨σ',H',I.unwish,q⟩
 | ret u=>obtain ⟨v,σ',H',I,r,q⟩:=h; exact ⟨v,σ',H',I.unwish,r,q⟩
theorem PE.nox {e:Expr} {t:TE} (h:PE X.nox e t):PE X e t:=fun pins s σ H Q I hw =>
 wpAny_mono (h pins s σ H Q (I.wish _) hw) (fun _ _ ⟨v,H',I',r,q⟩=>⟨v,H',I'.unwish,r,q⟩) fun _ _ z=>False.elim z
theorem PT.nox {e:Expr} {t:TT} (h:PT X.nox e t):PT X e t:=fun pins s σ H Q I hw =>
 wpAny_mono (h pins s σ H Q (I.wish _) hw) (fun _ _ ⟨H',I',q⟩=>⟨H',I'.unwish,q⟩) fun _ _ z=>False.elim z
theorem PSs.nox {st:List Stmt} {t:TS} (h:PSs X.nox st t):PSs X st t:=fun pins s σ H D I hw =>
 wpAny_mono (h pins s σ H D (I.wish _) hw) (fun _ _ q=>q.unwish) fun _ _ z=>False.elim z
end
section
variable {X:Cx} {st:Stmt} {rest:List Stmt} {t u:TS} {e:Expr} {te:TE} {pos:Pos}
def d5i:TS:=fun D σ H=>D.nx σ H
def tSeq (t u:TS):TS:=fun D σ H=>t { D with nx:=u D } σ H
theorem c5f:PSs X [] d5i:=fun _ _ σ H _ I h=>wpAny_execs_nil ⟨σ,H,I,h⟩
theorem c0x (h1:PS X st t) (h2:PSs X rest u):PSs X (st :: rest) (tSeq t u):=by
 intro pins s σ H D I h
 refine wpAny_execs_cons (thn (h1 pins s σ H { D with nx:=u D } I h) fun f s1 q=>?_)
 cases f with
 | next =>
  obtain ⟨σ',H',I',q⟩:=q
  exact h2 pins s1 σ' H' D I' q
 | ret v=>exact q
 | brk=>exact q
 | cont=>exact q
theorem c5e (h1:PS X st t):PSs X [st] t:=by
 intro pins s σ H D I h
 refine wpAny_execs_cons (thn (h1 pins s σ H D I h) fun f s1 q=>?_)
 cases f with
 | next=>exact wpAny_execs_nil q
 | ret v=>exact q
 | brk=>exact q
 | cont=>exact q
theorem Inv.quiet {pins:List (Addr×Obj)} {σ:St} {H:Hp} {s:Shared} (I:Inv X pins σ H s):interactive X.env=false:=by simp [interactive,I.ok.kind]
def d5j (te:TE):TS:=fun D σ H=>te σ H fun _ H1=>D.nx σ H1
theorem c5h (he:PE X e te) (hs:swapsWith e none pos.line X.env=pure false:=by rfl):PS X (.Expr e pos) (d5j te):=by
 intro pins s σ H D I h
 exact wpAny_Expr_any (thn (he pins s σ H _ I h) fun v s1 ⟨x,H1,I1,r1,q1⟩=>⟨σ,H1,I1,q1⟩) I.quiet hs
def tRet (te:TE):TS:=fun D σ H=>te σ H D.rt
theorem c3i (he:PE X e te):PS X (.Return (some e) pos) (tRet te):=by
 intro pins s σ H D I h
 exact wpAny_Return_some (thn (he pins s σ H _ I h) fun v s1 ⟨x,H1,I1,r1,q1⟩=>⟨x,σ,H1,I1,r1,q1⟩)
def tIfS (c:TT) (t u:TS):TS:=fun D σ H=>c σ H fun b H1=>if b=true then t D σ H1 else u D σ H1
theorem d6s {c:Expr} {a b:List Stmt} {tc:TT} (hc:PT X c tc) (ha:PSs X a t) (hb:PSs X b u):PS X (.If c a b pos) (tIfS tc t u):=by
 intro pins s σ H D I h
 refine wpAny_If (thn (hc pins s σ H _ I h) fun d s1 ⟨H1,I1,q1⟩=>?_)
 cases d with
 | true=>exact ha pins s1 σ H1 D I1 q1
 | false=>exact hb pins s1 σ H1 D I1 q1
end
abbrev TG:=V→St→Hp→(St→Hp→Prop)→Prop
abbrev TGs:=List V→St→Hp→(St→Hp→Prop)→Prop
def PG (X:Cx) (target:Expr) (t:TG):Prop :=
 ∀ (pins:List (Addr×Obj)) (s:Shared) (σ:St) (H:Hp) (v:V) (u:Value) (Q:St→Hp→Prop),Inv X pins σ H s→RelV v u→t v σ H Q →
  wpAny (model X.prog X.w) X.A (assign target X.env u) (fun _ s'=>∃ σ' H',Inv X pins σ' H' s'∧Q σ' H') X.xe s
def PGs (X:Cx) (ts:List Expr) (t:TGs):Prop :=
 ∀ (pins:List (Addr×Obj)) (s:Shared) (σ:St) (H:Hp) (vs:List V) (us:List Value) (Q:St→Hp→Prop),Inv X pins σ H s→Vals vs us→t vs σ H Q →
  wpAny (model X.prog X.w) X.A (assignInOrder ((assignEach ts X.env).map (·.2)) us) (fun _ s'=>∃ σ' H',Inv X pins σ' H' s'∧Q σ' H') X.xe s
abbrev d4x:=V→V→V→Hp→(Hp→Prop)→Prop
def d4y (X:Cx) (t:d4x):Prop :=
 ∀ (pins:List (Addr×Obj)) (s:Shared) (σ:St) (H:Hp) (o i v:V) (ov iv u:Value) (Q:Hp→Prop),Inv X pins σ H s→RelV o ov→RelV i iv→RelV v u→t o i v H Q →
  wpAny (model X.prog X.w) X.A (setItem ov iv u) (fun _ s'=>∃ H',Inv X pins σ H' s'∧Q H') X.xe s
abbrev TIp:=V→V→Hp→VK→Prop
def PIp (X:Cx) (op:Operator) (t:TIp):Prop :=
 ∀ (pins:List (Addr×Obj)) (s:Shared) (σ:St) (H:Hp) (x y:V) (v u:Value) (Q:VK),Inv X pins σ H s→RelV x v→RelV y u→t x y H Q →
  wpAny (model X.prog X.w) X.A (inplaceOp op v u) (EP X pins σ Q) X.xe s
section
variable {X:Cx} {pos:Pos}
def a6h (i:Nat):TG:=fun v σ H Q=>Q (σ.set i (some v)) H
theorem c5p {i:Nat} {x:Str} (hN:X.N.Nodup) (hi:X.N[i]?=some x) (hx:Loc X.env.scope x) (hf:X.fn x=true ∨ X.env.scope.names.lookup x=some .local:=by first | exact .inl rfl | exact .inr rfl | assumption):PG X (.Name x pos) (a6h i):=by
 intro pins s σ H v u Q I r h
 exact wpAny_assign_Name (a5f I hN hi hx r (fun s' I'=>⟨_,H,I',h⟩) hf)
def d7z:TGs:=fun vs σ H Q=>vs=[]∧Q σ H
def c2d (t:TG) (u:TGs):TGs:=fun vs σ H Q=>∃ v r,vs=v :: r∧t v σ H fun σ' H'=>u r σ' H' Q
theorem c5o:PGs X [] d7z:=by
 intro pins s σ H vs us Q I r h
 obtain ⟨e,h⟩:=h
 subst e
 cases r
 exact assignInOrder_nil ⟨σ,H,I,h⟩
theorem c1b {e:Expr} {es:List Expr} {t:TG} {u:TGs} (h1:PG X e t) (h2:PGs X es u)
  (hs:(assignEach (e :: es) X.env).map (·.2)=assign e X.env :: (assignEach es X.env).map (·.2):=by rfl):PGs X (e :: es) (c2d t u):=by
 intro pins s σ H vs us Q I r h
 obtain ⟨v,vr,e1,h⟩:=h
 subst e1
 cases r with
 | cons r rr =>
  rw [hs]
  refine assignInOrder_cons (thn (h1 pins s σ H _ _ _ I r h) fun _ s1 ⟨σ1,H1,I1,q1⟩=>?_)
  exact h2 pins s1 σ1 H1 _ _ Q I1 rr q1
def d3r (K:Γd) (n:Nat) (t:TGs):TG:=fun v σ H Q=>∃ a xs,v=.ref a∧SqT K H a xs∧xs.length=n∧t xs σ H Q
theorem c9u {es:List Expr} {k:Nat} {t:TGs} {n:Nat} (hc:X.calm=true) (h:PGs X es t)
  (hn:(assignEach es X.env).length=n:=by rfl) (hst:(assignEach es X.env).findIdx? (·.1)=none:=by rfl):PG X (.Tuple es k pos) (d3r X.K n t):=by
 intro pins s σ H v u Q I r hw
 obtain ⟨a,xs,e1,hq,hl,hw⟩:=hw
 subst e1
 cases r
 obtain ⟨its,rv,ht,hz⟩:=I.tuple hq
 refine assign_Tuple_tuple (I.ok.hd hc) ht (by simp [hn,← hl,rv.length]) hst fun h' hx=>?_
 have I1:Inv X pins σ H { s with heap:=h' }:=I.kept (t':=s.toks) fun b o e=>hx b o (Γo (Γl e)) e
 exact h pins _ σ H xs _ Q I1 (by simpa using rv) hw
def gSub (to ti:TE) (t:d4x):TG:=fun v σ H Q=>to σ H fun o H1=>ti σ H1 fun i H2=>t o i v H2 fun H3=>Q σ H3
theorem c3l {o i:Expr} {to ti:TE} {t:d4x} (ho:PE X o to) (hi:PE X i ti) (hs:d4y X t)
  (ha:∀ v,assign (.Subscript o i pos) X.env v=(do
   let ov ← holding [v] (eval o X.env)
   let iv ← holding [v,ov] (eval i X.env)
   standAt pos
   holding [v,ov,iv] (setItem ov iv v)
   release [v,ov,iv] []):=by intro _; rfl):PG X (.Subscript o i pos) (gSub to ti t):=by
 intro pins s σ H v u Q I r h
 rw [ha]
 refine Γa (Γg (thn (ho pins s σ H _ I h) fun ov s1 ⟨x,H1,I1,r1,q1⟩=>?_))
 refine Γa (Γg (thn (hi pins s1 σ H1 _ I1 q1) fun iv s2 ⟨y,H2,I2,r2,q2⟩=>?_))
 refine Γa (wpAny_standAt (Γa (Γg (thn (hs pins s2 σ H2 x y v ov iv u _ I2 r1 r2 r q2) fun _ s3 ⟨H3,I3,q3⟩=>?_))))
 exact wpAny_release ⟨σ,H3,I3,q3⟩
def c3f (te:TE) (g:TG):TS:=fun D σ H=>te σ H fun x H1=>g x σ H1 D.nx
theorem b2k {tg e:Expr} {te:TE} {g:TG} (he:PE X e te) (hg:PG X tg g) (hs:swapsWithSole [tg] e pos.line X.env=pure false:=by rfl) (hw:swappedStores [tg] e X.env=pure none:=by rfl)
  (h1:(assignEach [tg] X.env).map (·.2)=[assign tg X.env]:=by rfl):PS X (.Assign [tg] e pos) (c3f te g):=by
 intro pins s σ H D I h
 refine wpAny_Assign_stores (thn (he pins s σ H _ I h) fun v s1 ⟨x,H1,I1,r1,q1⟩=>?_) hs hw
 rw [h1]
 exact thn (hg pins s1 σ H1 x v _ I1 r1 q1) fun _ s2 q=>q
theorem c9q {i:Nat} {x:Str} {e:Expr} {te:TE} {pos':Pos} (hN:X.N.Nodup) (hi:X.N[i]?=some x) (hx:Loc X.env.scope x) (he:PE X e te) (hs:swapsWith e (some (.Name x pos')) pos.line X.env=pure false:=by rfl) (hf:X.fn x=true ∨ X.env.scope.names.lookup x=some .local:=by first | exact .inl rfl | exact .inr rfl | assumption) :
  PS X (.Assign [.Name x pos'] e pos) (c3f te (a6h i)):=by
 intro pins s σ H D I h
 refine wpAny_Assign_Name (thn (he pins s σ H _ I h) fun v s1 ⟨y,H1,I1,r1,q1⟩=>?_) hs
 exact a5f I1 hN hi hx r1 (fun s2 I2=>⟨_,H1,I2,q1⟩) hf
def tPar (i j:Nat) (ta:TA):TS:=fun D σ H=>ta σ H fun vs H1=>∃ v w,vs=[v,w]∧D.nx ((σ.set i (some v)).set j (some w)) H1
theorem c3j {i j:Nat} {x y:Str} {a b:Expr} {ta:TA} {px py pt:Pos} {kt k2 pt2} (hc:X.calm=true) (hN:X.N.Nodup) (hi:X.N[i]?=some x) (hj:X.N[j]?=some y) (hij:i≠j)
  (hx:X.env.scope.names.lookup x=some .local) (hy:X.env.scope.names.lookup y=some .local) (ha:PA X [a,b] ta)
  (hw:swappedStores [.Tuple [.Name x px,.Name y py] kt pt] (.Tuple [a,b] k2 pt2) X.env=pure (some [x,y]))
  (hs:swapsWithSole [.Tuple [.Name x px,.Name y py] kt pt] (.Tuple [a,b] k2 pt2) pos.line X.env=pure false:=by rfl) :
  PS X (.Assign [.Tuple [.Name x px,.Name y py] kt pt] (.Tuple [a,b] k2 pt2) pos) (tPar i j ta):=by
 intro pins s σ H D I h
 rw [exec_Assign_arm]
 refine Γa (wpAny_standAt ?_)
 rw [hs]
 refine Γa (Γb ?_)
 rw [if_neg (by decide)]
 refine Γa (Tuple_ (thn (ha _ pins s σ H _ I h) fun us s1 ⟨vs,H1,I1,r1,q1⟩=>?_))
 obtain ⟨v,w,e1,q1⟩:=q1
 subst e1
 obtain ⟨u1,u2,rfl,rv,rw'⟩:∃ u1 u2,us=[u1,u2]∧RelV v u1∧RelV w u2:=by
  cases r1 with
  | cons p q =>
   cases q with
   | cons p' q' =>
    cases q'
    exact ⟨_,_,rfl,p,p'⟩
 refine wpAny_newObj_type ?_ (by show 2≤sizeLine; decide)
 have I2:Inv X pins σ H1 { s1 with heap:=s1.heap.push { cls:=.type "tuple",data:=.seq [u1,u2].toArray } }:=I1.kept (t':=s1.toks) fun b o e=>Γc _ e
 rw [hw]
 refine Γa (Γb ?_)
 show wpAny (model X.prog X.w) X.A (do rule "assign.swapped-stores"; let items ← unpackItems (.ref s1.heap.objs.size) 2 none; assignInOrder [fun v=>bindName X.env y v,fun v=>bindName X.env x v] items.reverse; pure Flow.next) _ _ _
 refine Γa (wpAny_rule (Γa (unpackItems_tuple (items:=#[u1,u2]) (I.ok.hd hc) (IsTup.new s1.heap _) fun h' hx'=>?_)))
 have I3:=I2.kept (h':=h') (t':=s1.toks) fun b o e=>hx' b o (Γo (Γl e)) e
 show wpAny _ _ (assignInOrder [fun v=>bindName X.env y v,fun v=>bindName X.env x v] [u2,u1] >>= fun _=>pure Flow.next) _ _ _
 refine Γa (assignInOrder_cons (wpAny_bindName (a5f I3 hN hj (.inl hy) rw' (fun s2 I4=>?_) (.inr hy))))
 refine assignInOrder_cons (wpAny_bindName (a5f I4 hN hi (.inl hx) rv (fun s3 I5=>assignInOrder_nil (Γb ?_)) (.inr hx)))
 rw [List.set_comm _ _ (Ne.symm hij)] at I5
 exact ⟨_,H1,I5,q1⟩
def ipI (f:Int→Int→Int):TIp:=fun x y H Q=>∃ i j,x=.int i∧y=.int j∧Q (.int (f i j)) H
theorem d1h:PIp X .Add (ipI fun i j=>i + j):=by
 intro pins s σ H x y v u Q I r1 r2 h
 obtain ⟨i,j,e1,e2,q⟩:=h
 subst e1; subst e2
 obtain ⟨t,rfl⟩:=r1
 obtain ⟨t',rfl⟩:=r2
 exact iadd_int ⟨.int _,H,I.tok _,⟨_,rfl⟩,q⟩
end
section
variable {X:Cx} {pos:Pos}
def c3e (c:TT) (tb:TS):TS:=fun D σ H=>∃ W:Nat→St→Hp→Prop,(∃ m,W m σ H)∧∀ m σ H,W m σ H →
 c σ H fun b H1=>if b=true then ∃ N:St→Hp→Prop,(∀ σ' H',N σ' H'→∃ m',m' < m∧W m' σ' H')∧tb { D with nx:=N,ct:=N,bk:=D.nx } σ H1 else D.nx σ H1
theorem c0y {c:Expr} {body:List Stmt} {tc:TT} {tb:TS} (hp:PassesOwn (model X.prog X.w) X.A X.env X.xe) (hc:PT X c tc) (hb:PSs X body tb):PS X (.While c body [] pos) (c3e tc tb):=by
 intro pins s σ H D I h
 obtain ⟨W,⟨m0,w0⟩,turn⟩:=h
 refine wpAny_While (codeAny_whileLoop (fun n s'=>∃ σ' H',Inv X pins σ' H' s'∧W n σ' H') ?_ m0 ⟨σ,H,I,w0⟩)
 rintro n s1 ⟨σ1,H1,I1,w1⟩
 refine wpAny_passesOwn hp (thn (hc pins s1 σ1 H1 _ I1 (turn n σ1 H1 w1)) fun b s2 ⟨H2,I2,q2⟩=>?_)
 cases b with
 | true =>
  obtain ⟨N,hN,q2⟩:=q2
  rw [if_pos rfl]
  refine wpAny_passesOwn hp (thn (hb pins s2 σ1 H2 _ I2 q2) fun f s3 q3=>?_)
  cases f with
  | next =>
   obtain ⟨σ3,H3,I3,n3⟩:=q3
   obtain ⟨m',hm,w3⟩:=hN σ3 H3 n3
   exact ⟨m',hm,σ3,H3,I3,w3⟩
  | cont =>
   obtain ⟨σ3,H3,I3,n3⟩:=q3
   obtain ⟨m',hm,w3⟩:=hN σ3 H3 n3
   exact ⟨m',hm,σ3,H3,I3,w3⟩
  | brk=>exact q3
  | ret v=>exact q3
 | false =>
  rw [if_neg Γk]
  exact wpAny_execs_nil ⟨σ1,H2,I2,q2⟩
end
structure It where
 go:Nat→Hp→Prop
 yld:Nat→Hp→V→Hp→Prop
 stop:Nat→Hp→Prop
def b1w (X:Cx) (pins:List (Addr×Obj)) (H:Hp) (b:Addr):Prop :=
 H b=none∧b≠X.env.locals∧b ∉ X.fs∧(b∈X.ex ∨ X.s₀.heap.objs.size≤b)∧(∀ x c,X.env.cells.lookup x=some c→c≠b)∧∀ p∈X.pn++pins,p.1≠b
theorem Inv.fpOk {X:Cx} {pins:List (Addr×Obj)} {σ:St} {H H':Hp} {s:Shared} {b:Addr} (I:Inv X pins σ H s) (hb:s.heap.objs.size≤b) (hn:H' b=none):b1w X pins H' b:=by
 refine ⟨hn,Nat.ne_of_gt (Nat.lt_of_lt_of_le I.lt hb),I.nofs hb,.inr (Nat.le_trans I.sz hb),fun x c e z=>?_,fun p hp z=>?_⟩
 ·obtain ⟨v,q⟩:=I.cell x c e
  exact absurd (Nat.lt_of_lt_of_le q.lt (by rw [z]; exact hb)) (Nat.lt_irrefl _)
 ·exact absurd (Nat.lt_of_lt_of_le (Γl (I.pin p hp).1) (by rw [z]; exact hb)) (Nat.lt_irrefl _)
structure Turn (P:Program) (w:World) (K:Γd) (tg:Expr) (J:It) (fp:List Addr) (it:Addr) (tn:Nat→Heap→Prop):Prop where
 mem:it∈fp
 obj:∀ i h,tn i h→∀ b∈fp,∃ o,h.get? b=some o∧∀ v,o.data≠.cell v
 keep:∀ i h h',tn i h→(∀ b∈fp,∀ o,h.get? b=some o→h'.get? b=some o)→tn i h'
 item:∀ (X:Cx),X.prog=P→X.w=w→X.K=K→X.calm=true→∀ (i:Nat) (pins:List (Addr×Obj)) (s:Shared) (σ:St) (H:Hp) (E:Value→Shared→Prop),Inv X pins σ H s→(∀ b∈fp,b1w X pins H b)→tn i s.heap→J.go i H →
  wpAny (model P w) X.A (pyNext (.ref it)) (fun r s1=>∃ u,r=some u ∧
   wpAny (model P w) X.A (letOwnedTupleGo tg (.ref it) u) (fun _ s2=>∃ x H',Inv X pins σ H' s2∧RelV x u∧J.yld i H x H'∧tn (i + 1) s2.heap∧∀ b∈fp,H' b=none) E s1) E s
 done:∀ (X:Cx),X.prog=P→X.w=w→X.K=K→X.calm=true→∀ (i:Nat) (pins:List (Addr×Obj)) (s:Shared) (σ:St) (H:Hp) (E:Value→Shared→Prop),Inv X pins σ H s→(∀ b∈fp,b1w X pins H b)→tn i s.heap→J.stop i H →
  wpAny (model P w) X.A (pyNext (.ref it)) (fun r s1=>r=none∧Inv X pins σ H s1) E s
 self:∀ (A:Around) (i:Nat) (s:Shared) (Q:Value→Shared→Prop) (E:Value→Shared→Prop),tn i s.heap→Q (.ref it) s→wpAny (model P w) A (pyIter (.ref it)) Q E s
abbrev TI:=St→Hp→(It→Hp→Prop)→Prop
def PIE (X:Cx) (pins:List (Addr×Obj)) (σ:St) (tg:Expr) (R:It→Hp→Prop) (itv:Value) (s2:Shared):Prop :=
 ∃ (it:Addr) (fp:List Addr) (tn:Nat→Heap→Prop) (J:It) (H':Hp),itv=.ref it∧Inv X pins σ H' s2∧Turn X.prog X.w X.K tg J fp it tn∧tn 0 s2.heap∧(∀ b∈fp,b1w X pins H' b)∧R J H'
def PI (X:Cx) (tg iter:Expr) (wi:TI):Prop :=
 ∀ (pins:List (Addr×Obj)) (s:Shared) (σ:St) (H:Hp) (R:It→Hp→Prop),Inv X pins σ H s→wi σ H R →
  wpAny (model X.prog X.w) X.A (eval iter X.env) (fun v s1=>wpAny (model X.prog X.w) X.A (pyIter v) (PIE X pins σ tg R) X.xe s1) X.xe s
theorem c1z {M : Model} {A : Around} {E : Value → Shared → Prop} {s : Shared} {tg : Expr} {it : Addr} {u : Value} {o : Obj} {n : String} {vs : Array Value} {Q : Unit → Shared → Prop} (ho : s.heap.get? it = some o) (hc : o.cls = .type n) (hd : o.data = .fields vs)
    (hn : ["enumerate", "zip", "dict_itemiterator", "dict_reverseitemiterator", "odict_iterator", "itertools.zip_longest", "itertools.pairwise"].contains n = false) (hQ : Q () s) : wpAny M A (letOwnedTupleGo tg (.ref it) u) Q E s := by
  unfold letOwnedTupleGo
  cases tg <;> first
    | exact Γb hQ
    | (cases u <;> first
        | exact Γb hQ
        | (refine Γa (wpAny_load ho ?_)
           rw [hc, hd]
           show wpAny M A (if (["enumerate", "zip", "dict_itemiterator", "dict_reverseitemiterator", "odict_iterator", "itertools.zip_longest", "itertools.pairwise"].contains n && vs[0]? == some (rawInt _)) = true then _ else _) Q E s
           rw [if_neg (by intro h; rw [hn, Bool.false_and] at h; cases h)]
           exact Γb hQ))
def Itl (K:Γd) (a:Addr):It :=
 ⟨fun i H=>∃ xs x,SqL K H a xs∧xs[i]?=some x,fun i H x H'=>H'=H∧∀ xs,SqL K H a xs→xs[i]?=some x,fun i H=>∃ xs,SqL K H a xs∧xs.length≤i⟩
def Itt (K:Γd) (a:Addr):It :=
 ⟨fun i H=>∃ xs x,SqT K H a xs∧xs[i]?=some x,fun i H x H'=>H'=H∧∀ xs,SqT K H a xs→xs[i]?=some x,fun i H=>∃ xs,SqT K H a xs∧xs.length≤i⟩
def Itr (lo:Int) (n:Nat):It:=⟨fun i _=>i < n,fun i H x H'=>H'=H∧x=.int (lo + i),fun i _=>n≤i⟩
theorem b5c {P:Program} {w:World} {K:Γd} {tg:Expr} (a it:Addr):Turn P w K tg (Itl K a) [it] it (fun i h=>h.IsListIter it a i) where
 mem:=by simp
 obj:=fun i h st b hb=>by
  have e:b=it:=by simpa using hb
  subst e
  obtain ⟨o,e,c,d⟩:=st
  exact ⟨o,e,fun v z=>by rw [d] at z; cases z⟩
 keep:=fun i h h' st k=>st.at fun o e=>k it (by simp) o e
 item:=by
  intro X hP hw hK hc i pins s σ H E I hf st hg
  subst hP hw hK
  obtain ⟨xs,x,hq,hx⟩:=hg
  obtain ⟨its,rv,p,hz⟩:=I.list hq
  obtain ⟨u,hu,ru⟩:=rv.get hx
  obtain ⟨f0,f1,f2,f3,f4,f5⟩:=hf it (by simp)
  refine wpAny_pyNext_list_item st p.isList (x:=u) (by simpa using hu) fun h' st' sb=>?_
  have I1:Inv X pins σ H { s with heap:=h' }:=I.turned (t':=s.toks) (fun b o hb e=>(sb.2 b hb).trans e) f0 f1 f3 f4 f5
  obtain ⟨o,e,c,d⟩:=id st'
  exact ⟨u,rfl,c1z (s:={ s with heap:=h' }) e c d (by decide) ⟨x,H,I1,ru,⟨rfl,fun ys hy=>by rw [I.list_inj hy hq]; exact hx⟩,st',fun b hb=>(hf b hb).1⟩⟩
 done:=by
  intro X hP hw hK hc i pins s σ H E I hf st hg
  subst hP hw hK
  obtain ⟨xs,hq,hx⟩:=hg
  obtain ⟨its,rv,p,hz⟩:=I.list hq
  obtain ⟨f0,f1,f2,f3,f4,f5⟩:=hf it (by simp)
  have hl:=rv.length
  exact wpAny_pyNext_list_end (I.ok.hd hc) st p.isList (by simp; lia) fun h' eb=>⟨rfl,I.turned (t':=s.toks) (fun b o hb e=>eb b o hb e) f0 f1 f3 f4 f5⟩
 self:=fun _ _ _ _ _ st h=>wpAny_pyIter_listiter st h
theorem b3m {P:Program} {w:World} {K:Γd} {tg:Expr} (a it:Addr):Turn P w K tg (Itt K a) [it] it (fun i h=>h.IsTupleIter it a i) where
 mem:=by simp
 obj:=fun i h st b hb=>by
  have e:b=it:=by simpa using hb
  subst e
  obtain ⟨o,e,c,d⟩:=st
  exact ⟨o,e,fun v z=>by rw [d] at z; cases z⟩
 keep:=fun i h h' st k=>st.at fun o e=>k it (by simp) o e
 item:=by
  intro X hP hw hK hc i pins s σ H E I hf st hg
  subst hP hw hK
  obtain ⟨xs,x,hq,hx⟩:=hg
  obtain ⟨its,rv,p,hz⟩:=I.tuple hq
  obtain ⟨u,hu,ru⟩:=rv.get hx
  obtain ⟨f0,f1,f2,f3,f4,f5⟩:=hf it (by simp)
  refine wpAny_pyNext_tuple_item st (show s.heap.IsTuple a its.toArray from p) (x:=u) (by simpa using hu) fun h' st' sb=>?_
  have I1:Inv X pins σ H { s with heap:=h' }:=I.turned (t':=s.toks) (fun b o hb e=>(sb.2 b hb).trans e) f0 f1 f3 f4 f5
  obtain ⟨o,e,c,d⟩:=id st'
  exact ⟨u,rfl,c1z (s:={ s with heap:=h' }) e c d (by decide) ⟨x,H,I1,ru,⟨rfl,fun ys hy=>by rw [I.tuple_inj hy hq]; exact hx⟩,st',fun b hb=>(hf b hb).1⟩⟩
 done:=by
  intro X hP hw hK hc i pins s σ H E I hf st hg
  subst hP hw hK
  obtain ⟨xs,hq,hx⟩:=hg
  obtain ⟨its,rv,p,hz⟩:=I.tuple hq
  obtain ⟨f0,f1,f2,f3,f4,f5⟩:=hf it (by simp)
  have hl:=rv.length
  exact wpAny_pyNext_tuple_end (I.ok.hd hc) st (show s.heap.IsTuple a its.toArray from p) (by simp; lia) fun h' eb=>⟨rfl,I.turned (t':=s.toks) (fun b o hb e=>eb b o hb e) f0 f1 f3 f4 f5⟩
 self:=fun _ _ _ _ _ st h=>wpAny_pyIter_tupleiter st h
theorem b3n {P:Program} {w:World} {K:Γd} {tg:Expr} (it:Addr) (lo:Int) (n:Nat):Turn P w K tg (Itr lo n) [it] it (fun i h=>IsRangeIter h it (lo + (i:Nat) * 1) ((n:Int) - (i:Nat)) 1) where
 mem:=by simp
 obj:=fun i h st b hb=>by
  have e:b=it:=by simpa using hb
  subst e
  exact ⟨_,st,fun v z=>by
   have z':Data.fields _=Data.cell v:=z
   cases z'⟩
 keep:=fun i h h' st k=>k it (by simp) _ st
 item:=by
  intro X hP hw hK hc i pins s σ H E I hf st hg
  subst hP hw hK
  obtain ⟨f0,f1,f2,f3,f4,f5⟩:=hf it (by simp)
  have W:=Walks.range (prog:=X.prog) (w:=X.w) (I.ok.hd hc) it lo 1 n
  refine W.item i s _ _ hg st fun v h' tk hv st' kk=>?_
  obtain ⟨t,rfl⟩:=hv
  have I1:Inv X pins σ H { s with heap:=h',toks:=tk }:=I.turned (fun b o hb e=>kk b o (by simpa using hb) e) f0 f1 f3 f4 f5
  refine ⟨_,rfl,c1z (s:={ s with heap:=h',toks:=tk }) (n:="range_iterator") st' rfl rfl (by decide) ⟨.int (lo + i),H,I1,⟨t,?_⟩,⟨rfl,rfl⟩,st',fun b hb=>(hf b hb).1⟩⟩
  rw [Int.mul_one]
 done:=by
  intro X hP hw hK hc i pins s σ H E I hf st hg
  subst hP hw hK
  obtain ⟨f0,f1,f2,f3,f4,f5⟩:=hf it (by simp)
  exact wpAny_pyNext_range_end (I.ok.hd hc) st (by have:n≤i:=hg; lia) fun h' eb=>⟨rfl,I.turned (t':=s.toks) (fun b o hb e=>eb b o hb e) f0 f1 f3 f4 f5⟩
 self:=fun _ _ _ _ _ st h=>wpAny_pyIter_rangeiter st h
end L2
namespace L2
open PySem PySem.Spec PyProof.Rows
section
variable {X:Cx} {tg:Expr}
theorem b2j {pins:List (Addr×Obj)} {σ:St} {H:Hp} {s:Shared} {R:It→Hp→Prop} {E:Value→Shared→Prop} {lo hi:Int} {t u v:Tok} {tk:Nat} (I:Inv X pins σ H s) (h1:-(2 ^ 62)≤lo) (h2:lo < 2 ^ 62) (h3:-(2 ^ 62)≤hi) (h4:hi < 2 ^ 62)
  (q:R (Itr lo (hi - lo).toNat) H):wpAny (model X.prog X.w) X.A (pyIter (.ref s.heap.objs.size)) (PIE X pins σ tg R) E { s with heap:=s.heap.push { cls:=.type "range",data:=.fields #[.int lo t,.int hi u,.int 1 v] },toks:=tk }:=by
 refine wpAny_pyIter_range (IsRange.new ..) (small_one h1 h2 h3 h4) ?_
 have I1:Inv X pins σ H { s with heap:=s.heap.push { cls:=.type "range",data:=.fields #[.int lo t,.int hi u,.int 1 v] },toks:=tk }:=I.kept fun b o e=>Γc _ e
 refine ⟨(s.heap.push { cls:=.type "range",data:=.fields #[.int lo t,.int hi u,.int 1 v] }).objs.size,[(s.heap.push { cls:=.type "range",data:=.fields #[.int lo t,.int hi u,.int 1 v] }).objs.size],_,_,H,rfl,
  I1.kept (t':=tk) fun b o e=>Γc _ e,b3n _ lo (hi - lo).toNat,?_,fun b hb=>?_,q⟩
 ·have e1:lo + ((0:Nat):Int) * 1=lo:=by simp
  have e2:(((hi - lo).toNat:Nat):Int) - ((0:Nat):Int)=Builtin.Range.rangeSize lo hi 1:=by rw [rangeSize_one]; split <;> lia
  show IsRangeIter _ _ (lo + ((0:Nat):Int) * 1) ((((hi - lo).toNat:Nat):Int) - ((0:Nat):Int)) 1
  rw [e1,e2]
  exact Γm _ rfl
 ·have e:b=(s.heap.push { cls:=.type "range",data:=.fields #[.int lo t,.int hi u,.int 1 v] }).objs.size:=by simpa using hb
  subst e
  exact I1.fpOk (Γi _) (I1.hok.fresh (Γi _))
def d7y (ta:TA):TI:=fun σ H R=>ta σ H fun vs H1=>∃ j:Int,vs=[.int j]∧-(2 ^ 62)≤j∧j < 2 ^ 62∧R (Itr 0 j.toNat) H1
def iRng2 (ta:TA):TI:=fun σ H R=>ta σ H fun vs H1=>∃ i j:Int,vs=[.int i,.int j]∧(-(2 ^ 62)≤i∧i < 2 ^ 62∧-(2 ^ 62)≤j∧j < 2 ^ 62)∧R (Itr i (j - i).toNat) H1
theorem b6i {a:Expr} {ta:TA} {p pos:Pos} (hg:Gl X "range") (hm:X.mg "range" = none) (ha:PA X [a] ta) (hs:starEach [a] X.env=[(false,eval a X.env)]:=by rfl):PI X tg (.Call (.Name "range" p) [a] [] pos) (d7y ta):=by
 intro pins s σ H R I h
 refine Call_ (a3o I hg hm boot_range (PyProof.Rows.callWith_type1 (thn (ha pos pins s σ H _ I h) fun us s1 ⟨vs,H1,I1,r1,q1⟩=>?_) hs rfl))
 obtain ⟨j,e,q1,q2,q⟩:=q1
 subst e
 cases r1 with
 | cons r rr =>
  cases rr
  obtain ⟨t,rfl⟩:=r
  exact call_range_1 (b2j I1 (by lia) (by lia) q1 q2 (by simpa using q))
theorem b6h {a b:Expr} {ta:TA} {p pos:Pos} (hg:Gl X "range") (hm:X.mg "range" = none) (ha:PA X [a,b] ta) (hs:starEach [a,b] X.env=[(false,eval a X.env),(false,eval b X.env)]:=by rfl) (hs2:starEach [b] X.env=[(false,eval b X.env)]:=by rfl) :
  PI X tg (.Call (.Name "range" p) [a,b] [] pos) (iRng2 ta):=by
 intro pins s σ H R I h
 refine Call_ (a3o I hg hm boot_range (PyProof.Rows.callWith_type1 (thn (ha pos pins s σ H _ I h) fun us s1 ⟨vs,H1,I1,r1,q1⟩=>?_) (by rw [hs,hs2]) (by rw [hs2]; rfl)))
 obtain ⟨i,j,e,⟨q1,q2,q3,q4⟩,q⟩:=q1
 subst e
 cases r1 with
 | cons r rr =>
  cases rr with
  | cons r' rr =>
   cases rr
   obtain ⟨t,rfl⟩:=r
   obtain ⟨t',rfl⟩:=r'
   exact call_range_2 (b2j I1 q1 q2 q3 q4 q)
def tFor (wi:TI) (g:TG) (tb:TS):TS:=fun D σ H=>wi σ H fun J H1=>∃ W:Nat→Nat→St→Hp→Prop,(∃ m,W 0 m σ H1)∧∀ i m σ H,W i m σ H →
 (J.stop i H∧D.nx σ H) ∨ (J.go i H∧∃ N:St→Hp→Prop,(∀ σ' H',N σ' H'→∃ m',m' < m∧W (i + 1) m' σ' H')∧∀ x H',J.yld i H x H'→g x σ H' fun σ2 H2=>tb { D with nx:=N,ct:=N,bk:=D.nx } σ2 H2)
def a5s (fp:List Addr) (h:Heap):List (Addr×Obj):=fp.filterMap fun b=>(h.get? b).map fun o=>(b,o)
theorem a2b {fp:List Addr} {h:Heap} {b:Addr} {o:Obj} (hb:b∈fp) (e:h.get? b=some o):(b,o)∈a5s fp h:=List.mem_filterMap.mpr ⟨b,hb,by rw [e]; rfl⟩
theorem b6x {fp:List Addr} {h:Heap} {p:Addr×Obj} (hp:p∈a5s fp h):p.1∈fp∧h.get? p.1=some p.2:=by
 obtain ⟨b,hb,e⟩:=List.mem_filterMap.mp hp
 cases q:h.get? b with
 | none=>rw [q] at e; cases e
 | some o =>
  rw [q] at e
  have e':(b,o)=p:=Option.some.inj e
  subst e'
  exact ⟨hb,q⟩
theorem Inv.pinned {pins:List (Addr×Obj)} {σ:St} {H:Hp} {s:Shared} {fp:List Addr} (I:Inv X pins σ H s) (hf:∀ b∈fp,b1w X pins H b) (ho:∀ b∈fp,∃ o,s.heap.get? b=some o∧∀ v,o.data≠.cell v):Inv X (pins++a5s fp s.heap) σ H s :=
 I.pins_of fun p hp=>(List.mem_append.mp hp).elim (fun z=>I.pin p (List.mem_append_right _ z)) fun z=>by
  obtain ⟨hb,e⟩:=b6x z
  obtain ⟨f0,f1,f2,_⟩:=hf p.1 hb
  obtain ⟨o,e',d⟩:=ho p.1 hb
  rw [e] at e'; cases e'
  exact ⟨e,f0,f1,f2,d⟩
theorem Inv.unpinned {pins pl:List (Addr×Obj)} {σ:St} {H:Hp} {s:Shared} (I:Inv X (pins++pl) σ H s):Inv X pins σ H s:=I.pins_of fun p hp=>I.pin p (List.mem_append_right _ (List.mem_append_left _ hp))
theorem c9r {iter:Expr} {body:List Stmt} {wi:TI} {g:TG} {tb:TS} {pos:Pos} (hp:PassesOwn (model X.prog X.w) X.A X.env X.xe) (hc:X.calm=true) (hi:PI X tg iter wi) (hg:PG X tg g) (hb:PSs X body tb)
  (hs:∀ x,foldedSetIterable iter X.env x=pure x:=by intro _; rfl):PS X (.For tg iter body [] pos) (tFor wi g tb):=by
 intro pins s σ H D I h
 refine wpAny_For (thn (hi pins s σ H _ I h) fun v s1 h1=>thn h1 fun itv s2 h2=>?_) hs
 obtain ⟨it,fp,tn,J,H2,e,I2,T,st2,f2,W,⟨m0,w0⟩,turn⟩:=h2
 subst e
 -- what stays true of the iterator's objects through the loop
 have stat:∀ {H':Hp},(∀ b∈fp,H' b=none)→∀ b∈fp,b1w X pins H' b:=fun hn b hb=>⟨hn b hb,(f2 b hb).2⟩
 refine codeAny_forLoop_any (fun n s'=>∃ i σ' H',Inv X pins σ' H' s'∧tn i s'.heap∧(∀ b∈fp,H' b=none)∧W i n σ' H') ?_ m0 ⟨0,σ,H2,I2,st2,fun b hb=>(f2 b hb).1,w0⟩
 rintro n s3 ⟨i,σ3,H3,I3,st3,fr3,w3⟩
 rcases turn i n σ3 H3 w3 with ⟨stop,qn⟩ | ⟨go,N,hN,step⟩
 ·refine wpAny_passesOwn hp (thn (T.done X rfl rfl rfl hc i pins s3 σ3 H3 X.xe I3 (stat fr3) st3 stop) fun r s4 ⟨hr,I4⟩=>?_)
  subst hr
  exact wpAny_execs_nil ⟨σ3,H3,I4,qn⟩
 ·refine wpAny_passesOwn hp (thn (T.item X rfl rfl rfl hc i pins s3 σ3 H3 X.xe I3 (stat fr3) st3 go) fun r s4 ⟨u,hr,h4⟩=>?_)
  subst hr
  refine wpAny_passesOwn hp (thn h4 fun _ s5 ⟨x,H5,I5,r5,y5,st5,fr5⟩=>?_)
  have I5':=I5.pinned (stat fr5) (T.obj _ _ st5)
  refine wpAny_passesOwn hp (thn (hg _ s5 σ3 H5 x u _ I5' r5 (step x H5 y5)) fun _ s6 ⟨σ6,H6,I6,q6⟩=>?_)
  refine wpAny_passesOwn hp (thn (hb _ s6 σ6 H6 _ I6 q6) fun f s7 q7=>?_)
  have again:∀ {σ7:St} {H7:Hp},Inv X (pins++a5s fp s5.heap) σ7 H7 s7→N σ7 H7→∃ m,m < n∧∃ i σ' H',Inv X pins σ' H' s7∧tn i s7.heap∧(∀ b∈fp,H' b=none)∧W i m σ' H':=fun {σ7 H7} I7 n7=>by
   obtain ⟨m',hm,w7⟩:=hN σ7 H7 n7
   refine ⟨m',hm,i + 1,σ7,H7,I7.unpinned,T.keep _ _ _ st5 fun b hb o e=>(I7.pin (b,o) (List.mem_append_right _ (List.mem_append_right _ (a2b hb e)))).1,fun b hb=>?_,w7⟩
   obtain ⟨o,e,d⟩:=T.obj _ _ st5 b hb
   exact (I7.pin (b,o) (List.mem_append_right _ (List.mem_append_right _ (a2b hb e)))).2.1
  cases f with
  | next=>obtain ⟨σ7,H7,I7,n7⟩:=q7; exact again I7 n7
  | cont=>obtain ⟨σ7,H7,I7,n7⟩:=q7; exact again I7 n7
  | brk=>obtain ⟨σ7,H7,I7,q7⟩:=q7; exact ⟨σ7,H7,I7.unpinned,q7⟩
  | ret v=>obtain ⟨x7,σ7,H7,I7,r7,q7⟩:=q7; exact ⟨x7,σ7,H7,I7.unpinned,r7,q7⟩
end
theorem while_by {c:TT} {tb:TS} {D:Ends} {σ:St} {H:Hp} (Pv:St→Hp→Prop) (μ:St→Hp→Nat) (h0:Pv σ H)
  (hs:∀ σ H,Pv σ H→c σ H fun b H1=>if b=true then tb { D with nx:=fun σ' H'=>Pv σ' H'∧μ σ' H' < μ σ H,ct:=fun σ' H'=>Pv σ' H'∧μ σ' H' < μ σ H,bk:=D.nx } σ H1 else D.nx σ H1)
  (mono:∀ σ H Q Q',(∀ b H1,Q b H1→Q' b H1)→c σ H Q→c σ H Q'):c3e c tb D σ H:=by
 refine ⟨fun m σ H=>m=μ σ H∧Pv σ H,⟨_,rfl,h0⟩,?_⟩
 rintro m σ H ⟨rfl,p⟩
 refine mono σ H _ _ (fun b H1 q=>?_) (hs σ H p)
 cases b with
 | true=>exact ⟨_,fun σ' H' ⟨p',l⟩=>⟨_,l,rfl,p'⟩,q⟩
 | false=>exact q
end L2
namespace L2
open PySem PySem.Spec PyProof.Rows
abbrev R2:=V→V→Hp→VK→Prop
def OpR (X:Cx) (f:Value→Value→Sem Value) (r:R2):Prop :=
 ∀ (pins:List (Addr×Obj)) (s:Shared) (σ:St) (H:Hp) (x y:V) (v u:Value) (Q:VK),Inv X pins σ H s→RelV x v→RelV y u→r x y H Q →
  wpAny (model X.prog X.w) X.A (f v u) (EP X pins σ Q) X.xe s
def UnR (X:Cx) (f:Value→Sem Value) (r:V→Hp→VK→Prop):Prop :=
 ∀ (pins:List (Addr×Obj)) (s:Shared) (σ:St) (H:Hp) (x:V) (v:Value) (Q:VK),Inv X pins σ H s→RelV x v→r x H Q →
  wpAny (model X.prog X.w) X.A (f v) (EP X pins σ Q) X.xe s
def a1k (X:Cx) (f:Value) (r:List V→Hp→VK→Prop):Prop :=
 ∀ (pins:List (Addr×Obj)) (s:Shared) (σ:St) (H:Hp) (xs:List V) (us:List Value) (Q:VK),Inv X pins σ H s→Vals xs us→r xs H Q →
  wpAny (model X.prog X.w) X.A (call f us) (EP X pins σ Q) X.xe s
def TruR (X:Cx) (r:V→Hp→(Bool→Hp→Prop)→Prop):Prop :=
 ∀ (pins:List (Addr×Obj)) (s:Shared) (σ:St) (H:Hp) (x:V) (v:Value) (Q:Bool→Hp→Prop),Inv X pins σ H s→RelV x v→r x H Q →
  wpAny (model X.prog X.w) X.A (truthy v) (TP X pins σ Q) X.xe s
def tOp (r:R2) (ta tb:TE):TE:=fun σ H Q=>ta σ H fun x H1=>tb σ H1 fun y H2=>r x y H2 Q
def tUn (r:V→Hp→VK→Prop) (ta:TE):TE:=fun σ H Q=>ta σ H fun x H1=>r x H1 Q
def rI (C:Int→Int→Prop) (g:Int→Int→V):R2:=fun x y H Q=>∃ i j,x=.int i∧y=.int j∧C i j∧Q (g i j) H
def rI0 (g:Int→Int→V):R2:=fun x y H Q=>∃ i j,x=.int i∧y=.int j∧Q (g i j) H
def rU (g:Int→V):V→Hp→VK→Prop:=fun x H Q=>∃ i,x=.int i∧Q (g i) H
section
variable {X:Cx} {a b c:Expr} {ta tb tc:TE} {pos:Pos}
theorem e0z (ha:PE X a ta) (hb:PE X b tb) {pins:List (Addr×Obj)} {s:Shared} {σ:St} {H:Hp} {R:V→V→Hp→Prop} (I:Inv X pins σ H s)
  (h:ta σ H fun x H1=>tb σ H1 fun y H2=>R x y H2) {Q:Value→Shared→Prop} {f:Value→Value→Sem Value}
  (hf:∀ v u s2 x y H2,Inv X pins σ H2 s2→RelV x v→RelV y u→R x y H2→wpAny (model X.prog X.w) X.A (f v u) Q X.xe s2) :
  wpAny (model X.prog X.w) X.A (eval a X.env) (fun v s₁=>wpAny (model X.prog X.w) X.A (eval b X.env) (fun u s₂=>wpAny (model X.prog X.w) X.A (f v u) Q X.xe s₂) X.xe s₁) X.xe s:=by
 refine thn (ha pins s σ H _ I h) fun v s1 ⟨x,H1,I1,r1,q1⟩=>?_
 refine thn (hb pins s1 σ H1 _ I1 q1) fun u s2 ⟨y,H2,I2,r2,q2⟩=>?_
 exact hf v u s2 x y H2 I2 r1 r2 q2
theorem d6v {op:Operator} {r:R2} (ho:OpR X (binaryOp op) r) (ha:PE X a ta) (hb:PE X b tb):PE X (.BinOp a op b pos) (tOp r ta tb):=by
 intro pins s σ H Q I h
 exact wpAny_BinOp (e0z ha hb I h fun v u s2 x y H2 I2 rx ry q=>ho pins s2 σ H2 x y v u Q I2 rx ry q)
theorem d6u {op:UnaryOp} {r:V→Hp→VK→Prop} (ho:UnR X (unaryOp op) r) (ha:PE X a ta):PE X (.UnaryOp op a pos) (tUn r ta):=by
 intro pins s σ H Q I h
 exact UnaryOp_ (thn (ha pins s σ H _ I h) fun v s1 ⟨x,H1,I1,r1,q1⟩=>ho pins s1 σ H1 x v Q I1 r1 q1)
theorem opI {f:Value→Value→Sem Value} {C:Int→Int→Prop} {g:Int→Int→Int}
  (rule:∀ (i j:Int) (t u:Tok) (s:Shared) (Q:Value→Shared→Prop) (E:Value→Shared→Prop),C i j→Q (.int (g i j) s.toks) { s with toks:=s.toks + 1 }→wpAny (model X.prog X.w) X.A (f (.int i t) (.int j u)) Q E s) :
  OpR X f (rI C fun i j=>.int (g i j)):=by
 intro pins s σ H x y v u Q I rx ry h
 obtain ⟨i,j,rfl,rfl,hc,q⟩:=h
 obtain ⟨t,rfl⟩:=rx
 obtain ⟨t',rfl⟩:=ry
 exact rule i j t t' s _ _ hc ⟨.int (g i j),H,I.tok _,⟨_,rfl⟩,q⟩
theorem opI0 {f:Value→Value→Sem Value} {g:Int→Int→Int}
  (rule:∀ (i j:Int) (t u:Tok) (s:Shared) (Q:Value→Shared→Prop) (E:Value→Shared→Prop),Q (.int (g i j) s.toks) { s with toks:=s.toks + 1 }→wpAny (model X.prog X.w) X.A (f (.int i t) (.int j u)) Q E s) :
  OpR X f (rI0 fun i j=>.int (g i j)):=by
 intro pins s σ H x y v u Q I rx ry h
 obtain ⟨i,j,rfl,rfl,q⟩:=h
 obtain ⟨t,rfl⟩:=rx
 obtain ⟨t',rfl⟩:=ry
 exact rule i j t t' s _ _ ⟨.int (g i j),H,I.tok _,⟨_,rfl⟩,q⟩
theorem d3g {f:Value→Value→Sem Value} {g:Int→Int→Bool}
  (rule:∀ (i j:Int) (t u:Tok) (s:Shared) (Q:Value→Shared→Prop) (E:Value→Shared→Prop),Q (.bool (g i j)) s→wpAny (model X.prog X.w) X.A (f (.int i t) (.int j u)) Q E s) :
  OpR X f (rI0 fun i j=>.bl (g i j)):=by
 intro pins s σ H x y v u Q I rx ry h
 obtain ⟨i,j,rfl,rfl,q⟩:=h
 obtain ⟨t,rfl⟩:=rx
 obtain ⟨t',rfl⟩:=ry
 exact rule i j t t' s _ _ ⟨.bl (g i j),H,I,rfl,q⟩
def CDiv (i j:Int):Prop:=0 < j∧j < 1073741824
def CPow (i j:Int):Prop:=0≤j∧j≤1000000∧i.natAbs < 2 ^ 64
def CMul (i j:Int):Prop:=(-(2 ^ 64) < i∧i < 2 ^ 64) ∨ (-(2 ^ 64) < j∧j < 2 ^ 64)
theorem CMul.ok {i j:Int} (h:CMul i j):IntMulOk i j:=by
 rcases h with ⟨h1,h2⟩ | ⟨h1,h2⟩
 ·exact .of_left (intBits_le_64 h1 h2)
 ·exact .of_right (intBits_le_64 h1 h2)
theorem d0p:OpR X (binaryOp .Add) (rI0 fun i j=>.int (i + j)):=opI0 fun _ _ _ _ _ _ _ q=>add_int q
theorem d0h:OpR X (binaryOp .Sub) (rI0 fun i j=>.int (i - j)):=opI0 fun _ _ _ _ _ _ _ q=>sub_int q
theorem d0k:OpR X (binaryOp .Mult) (rI CMul fun i j=>.int (i * j)):=opI fun _ _ _ _ _ _ _ hc q=>mul_int q hc.ok
theorem c5z:OpR X (binaryOp .FloorDiv) (rI CDiv fun i j=>.int (i / j)):=opI fun i j _ _ _ _ _ hc q=>by
 have h1:(0:Int) < j:=hc.1
 have h2:j < 1073741824:=hc.2
 exact floordiv_int (by lia) (by rw [Int.fdiv_eq_ediv_of_nonneg i (by lia)]; exact q) (.inl (PyProof.noPylong_small (by lia)))
theorem d0l:OpR X (binaryOp .Mod) (rI (fun _ j=>0 < j) fun i j=>.int (i % j)):=opI fun i j _ _ _ _ _ hc q=>by
 have h1:(0:Int) < j:=hc
 exact mod_int' (by lia) (by rw [Int.fmod_eq_emod_of_nonneg i (by lia)]; exact q)
theorem d0j:OpR X (binaryOp .Pow) (rI CPow fun i j=>.int (i ^ j.toNat)):=opI fun _ _ _ _ _ _ _ hc q=>pow_int_small hc.1 hc.2.1 hc.2.2 q
theorem unI {f:Value→Sem Value} {g:Int→Int}
  (rule:∀ (i:Int) (t:Tok) (s:Shared) (Q:Value→Shared→Prop) (E:Value→Shared→Prop),Q (.int (g i) s.toks) { s with toks:=s.toks + 1 }→wpAny (model X.prog X.w) X.A (f (.int i t)) Q E s) :
  UnR X f (rU fun i=>.int (g i)):=by
 intro pins s σ H x v Q I rx h
 obtain ⟨i,rfl,q⟩:=h
 obtain ⟨t,rfl⟩:=rx
 exact rule i t s _ _ ⟨.int (g i),H,I.tok _,⟨_,rfl⟩,q⟩
theorem c8u:UnR X (unaryOp .USub) (rU fun i=>.int (-i)):=unI fun _ _ _ _ _ q=>neg_int q
end
def scal:V→V→Bool
 | .non,.non=>true | .non,.int _=>true | .int _,.non=>true | .non,.bl _=>true | .bl _,.non=>true | .non,.str _=>true | .str _,.non=>true
 | .int _,.int _=>true | .bl _,.bl _=>true | .str _,.str _=>true | .byt _,.byt _=>true
 | .int _,.str _=>true | .str _,.int _=>true | .bl _,.str _=>true | .str _,.bl _=>true
 | _,_=>false
def rEq:R2:=fun x y H Q=>scal x y=true∧Q (.bl (decide (x=y))) H
def rNe:R2:=fun x y H Q=>scal x y=true∧Q (.bl (!decide (x=y))) H
theorem b9e {i j:Int}:decide (V.int i=V.int j)=(i == j):=by
 rw [Bool.eq_iff_iff]
 simp
theorem c4b {i j:Bool}:decide (V.bl i=V.bl j)=(i == j):=by
 rw [Bool.eq_iff_iff]
 simp
theorem b9d {i j:Str}:decide (V.str i=V.str j)=(i == j):=by
 rw [Bool.eq_iff_iff]
 simp
theorem b9f {i j:Array UInt8}:decide (V.byt i=V.byt j)=(i.toList == j.toList):=by
 rw [Bool.eq_iff_iff]
 cases i
 cases j
 simp
section
variable {X:Cx} {a b c:Expr} {ta tb tc:TE} {pos:Pos}
theorem a0q {pins:List (Addr×Obj)} {σ:St} {H:Hp} {s:Shared} {Q:VK} {k k':Bool} (I:Inv X pins σ H s) (q:Q (.bl k) H) (e:k=k'):EP X pins σ Q (.bool k') s:=by
 subst e
 exact ⟨.bl k,H,I,rfl,q⟩
theorem d7h:OpR X (compareOp .Eq) rEq:=by
 intro pins s σ H x y v u Q I rx ry h
 obtain ⟨hs,q⟩:=h
 cases x with
 | non =>
  cases rx
  cases y with
  | non=>cases ry; exact PySem.EqNone.eq_none_none (a0q I q (by simp))
  | bl j=>cases ry; exact PySem.EqNone.eq_none_bool (a0q I q (by simp))
  | int j=>obtain ⟨t',rfl⟩:=ry; exact PySem.EqNone.eq_none_int (a0q I q (by simp))
  | str j=>obtain ⟨t',rfl⟩:=ry; exact PySem.EqNone.eq_none_str (a0q I q (by simp))
  | _=>exact absurd (show false=true from hs) Γk
 | bl i =>
  cases rx
  cases y with
  | non=>cases ry; exact PySem.EqNone.eq_bool_none (a0q I q (by simp))
  | bl j=>cases ry; exact eq_bool (a0q I q c4b)
  | str j=>obtain ⟨t',rfl⟩:=ry; exact PySem.EqMixed.eq_bool_str (a0q I q (by simp))
  | _=>exact absurd (show false=true from hs) Γk
 | int i =>
  obtain ⟨t,rfl⟩:=rx
  cases y with
  | non=>cases ry; exact PySem.EqNone.eq_int_none (a0q I q (by simp))
  | int j=>obtain ⟨t',rfl⟩:=ry; exact eq_int (a0q I q b9e)
  | str j=>obtain ⟨t',rfl⟩:=ry; exact PySem.EqMixed.eq_int_str (a0q I q (by simp))
  | _=>exact absurd (show false=true from hs) Γk
 | str i =>
  obtain ⟨t,rfl⟩:=rx
  cases y with
  | non=>cases ry; exact PySem.EqNone.eq_str_none (a0q I q (by simp))
  | bl j=>cases ry; exact PySem.EqMixed.eq_str_bool (a0q I q (by simp))
  | int j=>obtain ⟨t',rfl⟩:=ry; exact PySem.EqMixed.eq_str_int (a0q I q (by simp))
  | str j=>obtain ⟨t',rfl⟩:=ry; exact eq_str (a0q I q b9d)
  | _=>exact absurd (show false=true from hs) Γk
 | byt i =>
  obtain ⟨t,rfl⟩:=rx
  cases y with
  | byt j=>obtain ⟨t',rfl⟩:=ry; exact PySem.W.eq_bytes (a0q I q b9f)
  | _=>exact absurd (show false=true from hs) Γk
 | _=>cases y <;> exact absurd (show false=true from hs) Γk
theorem d7c:OpR X (compareOp .NotEq) rNe:=by
 intro pins s σ H x y v u Q I rx ry h
 obtain ⟨hs,q⟩:=h
 cases x with
 | non =>
  cases rx
  cases y with
  | non=>cases ry; exact PySem.EqNone.ne_none_none (a0q I q (by simp))
  | bl j=>cases ry; exact PySem.EqNone.ne_none_bool (a0q I q (by simp))
  | int j=>obtain ⟨t',rfl⟩:=ry; exact PySem.EqNone.ne_none_int (a0q I q (by simp))
  | str j=>obtain ⟨t',rfl⟩:=ry; exact PySem.EqNone.ne_none_str (a0q I q (by simp))
  | _=>exact absurd (show false=true from hs) Γk
 | bl i =>
  cases rx
  cases y with
  | non=>cases ry; exact PySem.EqNone.ne_bool_none (a0q I q (by simp))
  | bl j=>cases ry; exact ne_bool (a0q I q (congrArg not c4b))
  | str j=>obtain ⟨t',rfl⟩:=ry; exact PySem.EqMixed.ne_bool_str (a0q I q (by simp))
  | _=>exact absurd (show false=true from hs) Γk
 | int i =>
  obtain ⟨t,rfl⟩:=rx
  cases y with
  | non=>cases ry; exact PySem.EqNone.ne_int_none (a0q I q (by simp))
  | int j=>obtain ⟨t',rfl⟩:=ry; exact ne_int (a0q I q (congrArg not b9e))
  | str j=>obtain ⟨t',rfl⟩:=ry; exact PySem.EqMixed.ne_int_str (a0q I q (by simp))
  | _=>exact absurd (show false=true from hs) Γk
 | str i =>
  obtain ⟨t,rfl⟩:=rx
  cases y with
  | non=>cases ry; exact PySem.EqNone.ne_str_none (a0q I q (by simp))
  | bl j=>cases ry; exact PySem.EqMixed.ne_str_bool (a0q I q (by simp))
  | int j=>obtain ⟨t',rfl⟩:=ry; exact PySem.EqMixed.ne_str_int (a0q I q (by simp))
  | str j=>obtain ⟨t',rfl⟩:=ry; exact ne_str (a0q I q (congrArg not b9d))
  | _=>exact absurd (show false=true from hs) Γk
 | byt i =>
  obtain ⟨t,rfl⟩:=rx
  cases y with
  | byt j=>obtain ⟨t',rfl⟩:=ry; exact PySem.W.ne_bytes (a0q I q (congrArg not b9f))
  | _=>exact absurd (show false=true from hs) Γk
 | _=>cases y <;> exact absurd (show false=true from hs) Γk
theorem d7d:OpR X (compareOp .Lt) (rI0 fun i j=>.bl (decide (i < j))):=d3g fun _ _ _ _ _ _ _ q=>lt_int q
theorem d7e:OpR X (compareOp .LtE) (rI0 fun i j=>.bl (decide (i≤j))):=d3g fun _ _ _ _ _ _ _ q=>le_int q
theorem d7f:OpR X (compareOp .Gt) (rI0 fun i j=>.bl (decide (j < i))):=d3g fun _ _ _ _ _ _ _ q=>gt_int q
theorem d7g:OpR X (compareOp .GtE) (rI0 fun i j=>.bl (decide (j≤i))):=d3g fun _ _ _ _ _ _ _ q=>ge_int q
theorem nomark (b:Expr) {op:CmpOp} (h:op≠.In:=by decide) (h2:op≠.NotIn:=by decide):behindInMarks op b=false:=by
 have e1:(op == CmpOp.In)=false:=by cases op <;> first | rfl | exact absurd rfl h
 have e2:(op == CmpOp.NotIn)=false:=by cases op <;> first | rfl | exact absurd rfl h2
 cases b <;> simp [behindInMarks,e1,e2]
theorem c5s {op:CmpOp} {r:R2} (ho:OpR X (compareOp op) r) (ha:PE X a ta) (hb:PE X b tb) (hm:behindInMarks op b=false):PE X (.Compare a [op] [b] pos) (tOp r ta tb):=by
 intro pins s σ H Q I h
 exact wpAny_Compare1 (e0z ha hb I h fun v u s2 x y H2 I2 rx ry q=>ho pins s2 σ H2 x y v u Q I2 rx ry q) hm
def d5e (t:TE):TT:=fun σ H Q=>t σ H fun x H'=>∃ k,x=.bl k∧Q k H'
theorem c5d {op:CmpOp} {r:R2} (ho:OpR X (compareOp op) r) (ha:PE X a ta) (hb:PE X b tb) (hm:behindInMarks op b=false):PT X (.Compare a [op] [b] pos) (d5e (tOp r ta tb)):=by
 intro pins s σ H Q I h
 refine wpAny_isTrue_Compare1 (thn (ha pins s σ H _ I h) fun v s1 ⟨x,H1,I1,r1,q1⟩=>thn (hb pins s1 σ H1 _ I1 q1) fun u s2 ⟨y,H2,I2,r2,q2⟩ =>
  thn (ho pins s2 σ H2 x y v u _ I2 r1 r2 q2) fun c s3 ⟨z,H3,I3,r3,k,e,q3⟩=>?_) hm
 subst e
 cases r3
 exact wpAny_truthy_bool ⟨H3,I3,q3⟩
def d2x (K:Γd) (x:V) (H:Hp) (k:Bool):Prop :=
 match x with
 | .non=>k=false
 | .bl b=>k=b
 | .int i=>k=(i != 0)
 | .str y=>y.length≤sizeLine∧k=((y.length:Int) != 0)
 | .byt y=>y.size≤sizeLine∧k=((y.size:Int) != 0)
 | .ref p=>(∃ xs,SqL K H p xs∧k = !xs.isEmpty) ∨ (∃ xs,SqT K H p xs∧k = !xs.isEmpty) ∨ ∃ kvs,H p=some (.dK kvs)∧k = !kvs.isEmpty
 | _=>False
theorem b4c {κ:Type} {kvs:List (κ×V)} {vs:List (κ×Value)} (r:KV kvs vs):(!vs.isEmpty) = !kvs.isEmpty:=by
 cases r <;> rfl
theorem a7s {xs:List V} {its:List Value} (r:Vals xs its):(!its.toArray.isEmpty) = !xs.isEmpty:=by
 cases r <;> simp
theorem b0a:(sizeLine:Nat) < 2 ^ 63:=by rw [sizeLine_eq]; decide
theorem b5g:TruR X (fun x H Q=>∃ k,d2x X.K x H k∧Q k H):=by
 intro pins s σ H x v Q I rx h
 obtain ⟨k,e,q⟩:=h
 have hl:=b0a
 have hs:sizeLine=16777216:=sizeLine_eq
 cases x with
 | non =>
  cases rx
  have e':k=false:=e
  subst e'
  exact truthy_none ⟨H,I,q⟩
 | bl b =>
  cases rx
  have e':k=b:=e
  subst e'
  exact wpAny_truthy_bool ⟨H,I,q⟩
 | int i =>
  obtain ⟨t,rfl⟩:=rx
  have e':k=(i != 0):=e
  subst e'
  exact PySem.P.truthy_int ⟨H,I,q⟩
 | str y =>
  obtain ⟨t,rfl⟩:=rx
  obtain ⟨hy,e'⟩:y.length≤sizeLine∧k=((y.length:Int) != 0):=e
  subst e'
  exact PySem.P.truthy_str (by lia) ⟨H,I.tok _,q⟩
 | byt y =>
  obtain ⟨t,rfl⟩:=rx
  obtain ⟨hy,e'⟩:y.size≤sizeLine∧k=((y.size:Int) != 0):=e
  subst e'
  exact PySem.W.truthy_bytes (by lia) ⟨H,I.tok _,q⟩
 | ref p =>
  cases rx
  have e':(∃ xs,SqL X.K H p xs∧k = !xs.isEmpty) ∨ (∃ xs,SqT X.K H p xs∧k = !xs.isEmpty) ∨ ∃ kvs,H p=some (.dK kvs)∧k = !kvs.isEmpty:=e
  rcases e' with ⟨xs,hx,e'⟩ | ⟨xs,hx,e'⟩ | ⟨kvs,hx,e'⟩
  ·subst e'
   obtain ⟨its,r,pl,hz⟩:=I.list hx
   have hlen:=r.length
   exact wpAny_truthy_list pl.isList (by simp only [List.size_toArray]; lia) ⟨H,I.tok _,by rw [a7s r]; exact q⟩
  ·subst e'
   obtain ⟨its,r,pl,hz⟩:=I.tuple hx
   have hlen:=r.length
   exact truthy_tuple pl (by simp only [List.size_toArray]; lia) ⟨H,I.tok _,by rw [a7s r]; exact q⟩
  ·subst e'
   obtain ⟨hz,hS,vs,r,m⟩:kvs.length≤sizeLine∧(p == sysModules)=false∧∃ vs,KV kvs vs∧s.heap.DictOf (a0s X.prog X.w) p vs:=I.hok p _ hx
   have hlen:kvs.length=vs.length:=Paired.length r
   exact wpAny_truthy_dict hS m (by lia) ⟨H,I.tok _,by rw [b4c r]; exact q⟩
 | _=>exact (show False from e).elim
theorem c0w (ha:PE X a ta) (he:∀ whole,isTrue a X.env whole=(do let v ← whole; standAt a.pos; holding [v] (truthy v))) :
  PT X a (fun σ H Q=>ta σ H fun x H'=>∃ k,d2x X.K x H' k∧Q k H'):=by
 intro pins s σ H Q I h
 exact isTrue_plain (thn (ha pins s σ H _ I h) fun v s1 ⟨x,H1,I1,r1,q1⟩=>b5g pins s1 σ H1 x v Q I1 r1 q1) (he _)
theorem a4c {x:V} {us:List Value} (r:Vals [x] us):∃ u,us=[u]∧RelV x u:=by
 cases r with
 | cons r1 r2=>cases r2; exact ⟨_,rfl,r1⟩
theorem c8t {x y:V} {us:List Value} (r:Vals [x,y] us):∃ u w',us=[u,w']∧RelV x u∧RelV y w':=by
 cases r with
 | cons r1 r2 =>
  cases r2 with
  | cons r3 r4=>cases r4; exact ⟨_,_,rfl,r1,r3⟩
theorem c2u:a1k X (.builtin "abs") (fun xs H Q=>∃ i,xs=[.int i]∧Q (.int (if i < 0 then -i else i)) H):=by
 intro pins s σ H xs us Q I r h
 obtain ⟨i,rfl,q⟩:=h
 obtain ⟨u,rfl,t,rfl⟩:=a4c r
 exact call_abs_int fun u tk=>⟨.int (if i < 0 then -i else i),H,I.tok _,⟨_,rfl⟩,q⟩
theorem b9u (hc:X.calm=true):a1k X (.builtin "min") (fun xs H Q=>∃ i j,xs=[.int i,.int j]∧Q (.int (if j < i then j else i)) H):=by
 intro pins s σ H xs us Q I r h
 obtain ⟨i,j,rfl,q⟩:=h
 obtain ⟨u,w',rfl,⟨t,rfl⟩,⟨t',rfl⟩⟩:=c8t r
 refine min_two_ints (I.ok.hd hc) fun h' tk k=>⟨_,H,I.kept k,?_,q⟩
 by_cases hj:j < i
 ·rw [if_pos hj,if_pos hj]; exact ⟨_,rfl⟩
 ·rw [if_neg hj,if_neg hj]; exact ⟨_,rfl⟩
theorem b0m:a1k X (.type "int") (fun xs H Q=>(∃ i,xs=[.int i]∧Q (.int i) H) ∨ ∃ k,xs=[.bl k]∧Q (.int (if k then 1 else 0)) H):=by
 intro pins s σ H xs us Q I r h
 rcases h with ⟨i,rfl,q⟩ | ⟨k,rfl,q⟩
 ·obtain ⟨u,rfl,t,rfl⟩:=a4c r
  exact call_int_int ⟨.int i,H,I,⟨_,rfl⟩,q⟩
 ·obtain ⟨u,rfl,r1⟩:=a4c r
  cases r1
  exact call_int_bool ⟨.int (if k then 1 else 0),H,I.tok _,⟨_,rfl⟩,q⟩
end
end L2
namespace L2
open PySem PySem.Spec PyProof.Rows
structure ObjM (h:Heap) (x dx C:Addr) (mA:Str→Option Value):Prop where
 obj:h.get? x=some (PySem.W.instObj C dx)
 ns:h.Ns1 dx mA
 ne:dx≠x
theorem b7m {h:Heap} {dx:Addr} {mA:Str→Option Value} (n:h.Ns1 dx mA):∃ od,h.get? dx=some od∧∀ name,PySem.W.lookIn name od=some (mA name):=by
 obtain ⟨o,es,ep,ho,hd,hk,_,hm⟩:=n
 refine ⟨o,ho,fun name=>?_⟩
 have e:=hm name
 unfold nsFind findBy at e
 rw [← Array.find?_toList] at e
 unfold PySem.W.lookIn
 rw [hd]
 dsimp only
 split
 ·rename_i y q
  rw [q] at e
  exact congrArg some e
 ·rename_i q
  rw [q] at e
  have a:es.toList.any (·.refKey)=false:=by
   rw [List.any_eq_false]
   intro y hy
   obtain ⟨z,t,hkey⟩:=hk y (Array.mem_toList_iff.mp hy)
   simp [DictEntry.refKey,hkey]
  have a':¬ es.toList.any (·.refKey)=true:=by rw [a]; exact Γk
  rw [if_neg a']
  exact congrArg some e
theorem ObjM.look {h:Heap} {x dx C:Addr} {mA:Str→Option Value} (I:ObjM h x dx C mA):∃ od,PySem.W.InstAt h x (PySem.W.instObj C dx) C (some od)∧∀ name,PySem.W.lookIn name od=some (mA name) :=
 let ⟨od,ho,hl⟩:=b7m I.ns
 ⟨od,⟨I.obj,rfl,rfl,ho⟩,hl⟩
section
variable {prog:Program} {w:World} {A:Around} {E:Value→Shared→Prop} {s:Shared} {K:Γd} {x dx C f:Addr} {mA:Str→Option Value} {name:Str} {v:Value}
theorem c6x {expr:Bool} {Q:Value→Shared→Prop} (X:K.In s.heap) (I:ObjM s.heap x dx C mA) (hg:PySem.W.plainGet K C name=true) (hh:PySem.W.hasDictIn K C=true)
  (ha:PySem.W.findIn K (.ref C) name=some none) (hv:mA name=some v) (hv':PySem.W.handedIn v=true) (h:Q v { s with toks:=s.toks + 1 }) :
  wpAny (model prog w) A (getAttr (.ref x) name expr) Q E s:=by
 obtain ⟨od,J,hl⟩:=I.look
 exact PySem.W.get_value X J (PySem.W.plainGet_of hg).1 (PySem.W.findObj_own hh ha rfl (by rw [hl,hv])) hv' h
theorem c2b {pl:Sem Bool} {Q:Value×List Value→Shared→Prop} (X:K.In s.heap) (I:ObjM s.heap x dx C mA) (hg:PySem.W.plainGet K C name=true)
  (hf:PySem.W.findIn K (.ref C) name=some (some (.ref f))) (ht:PySem.W.isFn K (.ref f)=true) (hv:mA name=none) (h:Q (.ref f,[.ref x]) s) :
  wpAny (model prog w) A (getMethod (.ref x) name pl) Q E s:=by
 obtain ⟨od,J,hl⟩:=I.look
 exact PySem.W.method_fn X J (PySem.W.plainGet_of hg).1 (PySem.W.plainGet_of hg).2 hf (beq_iff_eq.mp ht) (by show (PySem.W.lookIn name od).map (·.isSome)=some false; rw [hl,hv]; rfl) h
theorem c4t {ns:List Str} {Q:Unit→Shared→Prop} (X:K.In s.heap) (I:ObjM s.heap x dx C mA)
  (hs:PySem.W.findIn K (.ref C) "__setattr__" = some (some (.builtin "object.__setattr__"))) (hp:PySem.W.plainOver K C=true) (ht:PySem.W.takerIn K C name=some none) (hh:PySem.W.hasDictIn K C=true)
  (hw:PySem.Within mA ns) (hsz:ns.length≤sizeLine)
  (h:∀ h',ObjM h' x dx C (fun y=>if y=name then some v else mA y)→Heap.SameBut dx s.heap h'→Q () { s with heap:=h',toks:=s.toks + 2 }) :
  wpAny (model prog w) A (setAttr (.ref x) name v) Q E s:=by
 obtain ⟨od,J,hl⟩:=I.look
 refine PySem.W.set_plain X J hs (PySem.W.osa_open (s:={ s with toks:=s.toks + 1 }) (r:=none) X J hp ht fun b=>?_)
 obtain ⟨cd,hc,hd'⟩:=PySem.W.any_some hh
 have hx:s.heap.get? x=some ⟨.ref C,some dx,.plain,#[]⟩:=I.obj
 refine Γa (Γb (Γa (Γa (wpAny_loadPart hx (Γa (PySem.W.Looks.here (s:={ s with toks:=s.toks + 1 }) (PySem.W.looks_clsIn X hc) ?_))))))
 rw [hd']
 refine Γb (a:=some dx) (Γa (Γb (Γa ?_)))
 refine wpAny_nsSet1 (s:={ s with toks:=s.toks + 1 }) I.ns fun h' hn2 hs2=>?_
 obtain ⟨oD,esD,epD,hoD,hdD,hcD⟩:=hn2.count (PySem.Within.cons name v hw)
 refine Γa (wpAny_lookBehind hoD (by rw [hdD]; exact pastItsLine_dict (Nat.le_trans hcD (by rw [List.length_cons]; lia))) ?_)
 exact Γb (h _ ⟨(hs2.2 _ (Ne.symm I.ne)).trans I.obj,hn2,I.ne⟩ hs2)
theorem c1q {R:Result→Shared→Prop} {vs:List Value} {kw:List (Str×Value)} (X:K.In s.heap) (hm:PySem.W.makesIn K C=true)
  (hi:PySem.W.findIn K (.ref C) "__init__" = some (some (.ref f))) (hf:PySem.W.typeIn K (.ref f)=some (.type "function"))
  (h:codeAny (model prog w) (A.under (.builtin "type.__call__" ⟨.ref C :: vs,kw⟩)) (.call (.ref f) ⟨.ref (s.heap.objs.size + 1) :: vs,kw⟩) (PySem.W.InitBack (s.heap.objs.size + 1) R)
   { s with heap:=(s.heap.push PySem.W.emptyDict).push (PySem.W.instObj C s.heap.objs.size) }) :
  codeAny (model prog w) A (.call (.ref C) ⟨vs,kw⟩) R s:=by
 obtain ⟨hh,g,d,t,os⟩:=s
 exact PySem.W.make_core (PySem.W.makes_of X hm) (PySem.W.looks_findIn X hi) (fun self=>PySem.W.bind_fn X self hf) (.inl rfl) h
end
def a4p (f:Str) (v:V):List (Str×V)→List (Str×V)
 | []=>[(f,v)]
 | (g,x) :: r=>if g=f then (g,v) :: r else (g,x) :: a4p f v r
theorem a5y (f g:Str) (v:V):∀ fs:List (Str×V),(a4p f v fs).lookup g=if g=f then some v else fs.lookup g
 | []=>by
  show List.lookup g [(f,v)]=_
  by_cases h:g=f
  ·have hb:(g == f)=true:=beq_iff_eq.mpr h
   simp only [List.lookup,hb,if_pos h]
  ·have hb:(g == f)=false:=beq_eq_false_iff_ne.mpr h
   simp only [List.lookup,hb,if_neg h]
 | (k,x) :: r=>by
  have ih:=a5y f g v r
  rw [show a4p f v ((k,x) :: r)=(if k=f then (k,v) :: r else (k,x) :: a4p f v r) from rfl]
  by_cases hk:k=f
  ·rw [if_pos hk]
   by_cases h:g=k
   ·have hb:(g == k)=true:=beq_iff_eq.mpr h
    simp only [List.lookup,hb,if_pos (h.trans hk)]
   ·have hb:(g == k)=false:=beq_eq_false_iff_ne.mpr h
    simp only [List.lookup,hb,if_neg (fun e:g=f=>h (e.trans hk.symm))]
  ·rw [if_neg hk]
   by_cases h:g=k
   ·have hb:(g == k)=true:=beq_iff_eq.mpr h
    simp only [List.lookup,hb,if_neg (fun e:g=f=>hk (h.symm.trans e))]
   ·have hb:(g == k)=false:=beq_eq_false_iff_ne.mpr h
    simp only [List.lookup,hb]
    exact ih
theorem a6e (f:Str) (v:V):∀ fs:List (Str×V),f∈(a4p f v fs).map (·.1)∧∀ g,g∈fs.map (·.1)→g∈(a4p f v fs).map (·.1)
 | []=>⟨by simp [a4p],fun g h=>by simp at h⟩
 | (k,x) :: r=>by
  obtain ⟨i1,i2⟩:=a6e f v r
  rw [show a4p f v ((k,x) :: r)=(if k=f then (k,v) :: r else (k,x) :: a4p f v r) from rfl]
  by_cases hk:k=f
  ·rw [if_pos hk]
   subst hk
   exact ⟨by simp,fun g h=>by simpa using h⟩
  ·rw [if_neg hk]
   refine ⟨?_,fun g h=>?_⟩
   ·rw [List.map_cons]
    exact Γh _ i1
   ·rw [List.map_cons] at h ⊢
    rcases List.mem_cons.mp h with e | e
    ·exact List.mem_cons.mpr (.inl e)
    ·exact Γh _ (i2 g e)
theorem a5z (f:Str) (v:V):∀ fs:List (Str×V),(a4p f v fs).length≤fs.length + 1
 | []=>by simp [a4p]
 | (k,x) :: r=>by
  have ih:=a5z f v r
  rw [show a4p f v ((k,x) :: r)=(if k=f then (k,v) :: r else (k,x) :: a4p f v r) from rfl]
  by_cases hk:k=f
  ·rw [if_pos hk,List.length_cons,List.length_cons]; lia
  ·rw [if_neg hk,List.length_cons,List.length_cons]; lia
theorem RelO.some_of {v:V} {o:Option Value} (r:RelO (some v) o):∃ u,o=some u∧RelV v u:=by
 cases o with
 | none=>exact (show False from r).elim
 | some u=>exact ⟨u,rfl,r⟩
theorem RelO.none_of {o:Option Value} (r:RelO none o):o=none:=by
 cases o with
 | none=>rfl
 | some u=>exact (show False from r).elim
theorem b8e {v:V} {u:Value} (r:RelV v u):PySem.W.handedIn u=true:=by
 cases v with
 | non=>cases (show u=Value.none from r); rfl
 | bl b=>cases (show u=Value.bool b from r); rfl
 | int i=>obtain ⟨t,e⟩:=(show ∃ t,u=Value.int i t from r); cases e; rfl
 | str x=>obtain ⟨t,e⟩:=(show ∃ t,u=Value.str x t from r); cases e; rfl
 | byt b=>obtain ⟨t,e⟩:=(show ∃ t,u=Value.bytes b t from r); cases e; rfl
 | flt b=>obtain ⟨t,e⟩:=(show ∃ t,u=Value.float b t from r); cases e; rfl
 | ref a=>cases (show u=Value.ref a from r); rfl
 | ty n=>cases (show u=Value.type n from r); rfl
section
variable {P:Program} {w:World} {H H':Hp} {h h':Heap} {a C dx:Addr} {fs fs':List (Str×V)}
theorem a8z (hok:HOk P w H h) (e:H a=some (.ins C dx fs)):∃ mA,ObjM h a dx C mA∧(∀ f,RelO (fs.lookup f) (mA f))∧PySem.Within mA (fs.map (·.1))∧fs.length≤1000∧H dx=some (.own a):=by
 obtain ⟨d,z,ne,ob,mA,n,r,q⟩:=(show ObjOk P w H h a (.ins C dx fs) from hok a _ e)
 exact ⟨mA,⟨ob,n,ne⟩,r,q,z,d⟩
end
structure Cls (K:Γd) (C:Addr):Prop where
 pg:PySem.W.plainGet K C Str.empty=true
 hd:PySem.W.hasDictIn K C=true
 po:PySem.W.plainOver K C=true
 sa:PySem.W.findIn K (.ref C) "__setattr__" = some (some (.builtin "object.__setattr__"))
theorem Cls.get {K:Γd} {C:Addr} (c:Cls K C) (f:Str):PySem.W.plainGet K C f=true:=c.pg
def NoAttr (K:Γd) (C:Addr) (f:Str):Prop:=PySem.W.findIn K (.ref C) f=some none
theorem NoAttr.taker {K:Γd} {C:Addr} {f:Str} (n:NoAttr K C f):PySem.W.takerIn K C f=some none:=by
 unfold PySem.W.takerIn
 rw [show PySem.W.findIn K (.ref C) f=some none from n]
 rfl
structure Con (K:Γd) (C:Addr) (f:Str) (v:V) (u:Value):Prop where
 at_:PySem.W.findIn K (.ref C) f=some (some u)
 rel:RelV v u
 get:PySem.W.specialIn K u "__get__" = some none
 cp:PySem.W.copiedNames.contains f=false
structure Meth (K:Γd) (C:Addr) (m:Str) (f:Addr):Prop where
 at_:PySem.W.findIn K (.ref C) m=some (some (.ref f))
 fn:PySem.W.isFn K (.ref f)=true
 kp:PySem.W.keepIn K (.ref f)=true
section
variable {X:Cx} {pins:List (Addr×Obj)} {σ:St} {H:Hp} {s:Shared} {a C dx:Addr} {fs:List (Str×V)} {f:Str} {v:V} {A:Around} {E:Value→Shared→Prop}
theorem a7u {b:Bool} {Q:Value→Shared→Prop} (I:Inv X pins σ H s) (e:H a=some (.ins C dx fs)) (c:Cls X.K C) (n:NoAttr X.K C f) (l:fs.lookup f=some v)
  (h:∀ u s',Inv X pins σ H s'→RelV v u→Q u s'):wpAny (model X.prog X.w) A (getAttr (.ref a) f b) Q E s:=by
 obtain ⟨mA,O,r,_,_,_⟩:=a8z I.hok e
 obtain ⟨u,hu,ru⟩:=RelO.some_of (v:=v) (o:=mA f) (by rw [← l]; exact r f)
 exact c6x I.kIn O (c.get f) c.hd n hu (b8e ru) (h u _ (I.tok _) ru)
theorem a7t {m:Str} {g:Addr} {pl:Sem Bool} {Q:Value×List Value→Shared→Prop} (I:Inv X pins σ H s) (e:H a=some (.ins C dx fs)) (c:Cls X.K C) (k:Meth X.K C m g) (l:fs.lookup m=none)
  (h:Q (.ref g,[.ref a]) s):wpAny (model X.prog X.w) A (getMethod (.ref a) m pl) Q E s:=by
 obtain ⟨mA,O,r,_,_,_⟩:=a8z I.hok e
 have hn:mA m=none:=RelO.none_of (by rw [← l]; exact r m)
 exact c2b I.kIn O (c.get m) k.at_ k.fn hn h
theorem a7m {y:V} {u:Value} {Q:Unit→Shared→Prop} (I:Inv X pins σ H s) (e:H a=some (.ins C dx fs)) (c:Cls X.K C) (n:NoAttr X.K C f) (hl:fs.length < 1000) (ry:RelV y u)
  (h:∀ s',Inv X pins σ (upd H a (.ins C dx (a4p f y fs))) s'→Q () s'):wpAny (model X.prog X.w) A (setAttr (.ref a) f u) Q E s:=by
 obtain ⟨mA,O,r,wi,_,ho⟩:=a8z I.hok e
 have hz:(fs.map (·.1)).length≤sizeLine:=by rw [List.length_map,sizeLine_eq]; lia
 refine c4t I.kIn O c.sa c.po n.taker c.hd wi hz fun h' O' sb=>h _ ?_
 have hd:∃ o,h'.get? dx=some o:=let ⟨o,_,_,e',_⟩:=O'.ns; ⟨o,e'⟩
 refine I.write (x:=a) (e:=dx) (by rw [e]; exact True.intro) (.inr ho) (fun b q hb z=>(sb.2 b hb).trans z) hd ?_
 refine ⟨by rw [a0b O.ne]; exact ho,?_,O.ne,O'.obj,_,O'.ns,fun g=>?_,fun g hg=>?_⟩
 ·have:=a5z f y fs; lia
 ·show RelO ((a4p f y fs).lookup g) (if g=f then some u else mA g)
  rw [a5y]
  by_cases q:g=f
  ·rw [if_pos q,if_pos q]; exact ry
  ·rw [if_neg q,if_neg q]; exact r g
 ·by_cases q:g=f
  ·rw [q]; exact (a6e f y fs).1
  ·refine (a6e f y fs).2 g (wi g fun z=>hg ?_)
   show (if g=f then some u else mA g)=none
   rw [if_neg q]; exact z
theorem Inv.made (I:Inv X pins σ H s):Inv X pins σ (upd (upd H s.heap.objs.size (.own (s.heap.objs.size + 1))) (s.heap.objs.size + 1) (.ins C s.heap.objs.size []))
  { s with heap:=(s.heap.push PySem.W.emptyDict).push (PySem.W.instObj C s.heap.objs.size) }:=by
 have e1:(s.heap.push PySem.W.emptyDict).get? s.heap.objs.size=some PySem.W.emptyDict:=Γm s.heap rfl
 have e2:((s.heap.push PySem.W.emptyDict).push (PySem.W.instObj C s.heap.objs.size)).get? (s.heap.objs.size + 1)=some (PySem.W.instObj C s.heap.objs.size):=by
  have:=Γm (s.heap.push PySem.W.emptyDict) (o:=PySem.W.instObj C s.heap.objs.size) rfl
  rwa [Heap.size_push] at this
 have e3:(s.heap.push PySem.W.emptyDict).Ns s.heap.objs.size (fun _=>none):=⟨PySem.W.emptyDict,#[],_,e1,rfl,(fun e he=>absurd he (by simp)),fun _=>rfl⟩
 have I1:=I.laid (a:=s.heap.objs.size) (o:=.own (s.heap.objs.size + 1)) (h':=s.heap.push PySem.W.emptyDict) (t':=s.toks) (fun b u q=>Γc _ q) (Γi _) ⟨_,e1⟩
 refine I1.laid (a:=s.heap.objs.size + 1) (o:=.ins C s.heap.objs.size []) (t':=s.toks) (fun b u q=>Γc _ q) (Nat.le_of_eq (Heap.size_push _ _)) ?_
 have ne:s.heap.objs.size≠s.heap.objs.size + 1:=Γo (Nat.lt_succ_self _)
 refine ⟨by rw [a0b ne,a0d],Nat.zero_le _,ne,e2,fun _=>none,(Heap.Ns1.of_empty e3).at fun o q=>Γc _ q,fun _=>True.intro,fun y hy=>absurd rfl hy⟩
theorem c7y {prog:Program} {w:World} {env:Env} {e:Expr} {f:Str} {pos:Pos} {s:Shared} {Q:Value→Shared→Prop} (hb:attributeBase e f env (eval e env)=eval e env)
  (h:wpAny (model prog w) A (eval e env) (fun o s₁=>wpAny (model prog w) A (getAttr o f true) Q E s₁) E s):wpAny (model prog w) A (eval (.Attribute e f pos) env) Q E s :=
 Attribute_any_ h (by rw [arm_eval_Attribute,hb])
end
def InOp (X:Cx) (op:Operator) (rd:V→V→Hp→VK→Prop):Prop :=
 ∀ (pins:List (Addr×Obj)) (s:Shared) (σ:St) (H:Hp) (x y:V) (u v:Value) (Q:VK),Inv X pins σ H s→RelV x u→RelV y v→rd x y H Q→wpAny (model X.prog X.w) X.A (inplaceOp op u v) (EP X pins σ Q) X.xe s
section
variable {X:Cx} {o e value:Expr} {f:Str} {pos pos' tpos:Pos} {ta tv:TE}
end
section
variable {X:Cx} {pins:List (Addr×Obj)} {σ:St} {H:Hp} {s:Shared} {A:Around} {E:Value→Shared→Prop} {Q:Value→Shared→Prop} {c:Value} {b:Bool}
inductive TyOf (K:Γd) (H:Hp):V→Value→Prop where
 | non:TyOf K H .non (.type "NoneType")
 | bl (x:Bool):TyOf K H (.bl x) (.type "bool")
 | int (i:Int):TyOf K H (.int i) (.type "int")
 | str (x:Str):TyOf K H (.str x) (.type "str")
 | flt (x:UInt64):TyOf K H (.flt x) (.type "float")
 | lst {a:Addr} {xs:List V} (e:H a=some (.lst xs)):TyOf K H (.ref a) (.type "list")
 | frz {a:Addr} {o:Obj} {xs:List V} (e:H a=some (.frz o (.lst xs))):TyOf K H (.ref a) (.type "list")
 | tup {a:Addr} {xs:List V} (e:H a=some (.tup xs)):TyOf K H (.ref a) (.type "tuple")
 | dK {a:Addr} {kvs:List (Key×V)} (e:H a=some (.dK kvs)):TyOf K H (.ref a) (.type "dict")
 | dT {a:Addr} {kvs:List (List Key×V)} (e:H a=some (.dT kvs)):TyOf K H (.ref a) (.type "dict")
 | ins {a C dx:Addr} {fs:List (Str×V)} (e:H a=some (.ins C dx fs)) (cl:Cls K C) (ha:PySem.W.findIn K (.ref C) "__class__" = some (some (.builtin "object.__class__")))
   (hn:PySem.W.specialIn K (.builtin "object.__class__") "__get__" = some (some (.builtin "getset_descriptor.__get__"))) (htk:PySem.W.takesIn K (.builtin "object.__class__")=some true)
   (hm:PySem.W.mroIn K C (.type "object")=some true):TyOf K H (.ref a) (.ref C)
theorem b7w {x:V} {u t:Value} (I:Inv X pins σ H s) (rx:RelV x u) (ty:TyOf X.K H x t) (e:PySem.W.kitOne X.K t c=some b) (h:∀ tk,Q (.bool b) { s with toks:=tk }) :
  wpAny (model X.prog X.w) A (call (.builtin "isinstance") [u,c]) Q E s:=by
 cases ty with
 | non=>cases (show u=Value.none from rx); exact PySem.W.kia_one PySem.W.kitx_none I.kIn True.intro e (fun z=>nomatch z) h
 | bl y=>cases (show u=Value.bool y from rx); exact PySem.W.kia_one PySem.W.kitx_bool I.kIn True.intro e (fun z=>nomatch z) h
 | int i=>obtain ⟨t,q⟩:=(show ∃ t,u=Value.int i t from rx); cases q; exact PySem.W.kia_one PySem.W.kitx_int I.kIn True.intro e (fun z=>nomatch z) h
 | str y=>obtain ⟨t,q⟩:=(show ∃ t,u=Value.str y t from rx); cases q; exact PySem.W.kia_one PySem.W.kitx_str I.kIn True.intro e (fun z=>nomatch z) h
 | flt y=>obtain ⟨t,q⟩:=(show ∃ t,u=Value.float y t from rx); cases q; exact PySem.W.kia_one PySem.W.kitx_float I.kIn True.intro e (fun z=>nomatch z) h
 | @lst a xs ea =>
  cases (show u=Value.ref a from rx)
  obtain ⟨_,_,n,_,h1⟩:=(show ObjOk X.prog X.w H s.heap a (.lst xs) from I.hok a _ ea)
  exact PySem.W.kia_one PySem.W.kitx_list I.kIn ⟨_,h1,rfl⟩ e (fun z=>nomatch z) h
 | @frz a ob xs ea =>
  cases (show u=Value.ref a from rx)
  obtain ⟨_,_,_,n,_,h1⟩:=(show ObjOk X.prog X.w H s.heap a (.frz ob (.lst xs)) from I.hok a _ ea)
  exact PySem.W.kia_one PySem.W.kitx_list I.kIn ⟨_,h1,rfl⟩ e (fun z=>nomatch z) h
 | @tup a xs ea =>
  cases (show u=Value.ref a from rx)
  obtain ⟨_,_,_,p⟩:=(show ObjOk X.prog X.w H s.heap a (.tup xs) from I.hok a _ ea)
  obtain ⟨o,h1,h2,_⟩:=p
  exact PySem.W.kia_one PySem.W.kitx_tuple I.kIn ⟨o,h1,h2⟩ e (fun z=>nomatch z) h
 | @dK a kvs ea =>
  cases (show u=Value.ref a from rx)
  obtain ⟨_,_,vs,_,p⟩:=(show ObjOk X.prog X.w H s.heap a (.dK kvs) from I.hok a _ ea)
  obtain ⟨o,es,ep,h1,h2,_⟩:=p
  exact PySem.W.kia_one PySem.W.kitx_dict I.kIn ⟨o,h1,h2.1⟩ e (fun z=>nomatch z) h
 | @dT a kvs ea =>
  cases (show u=Value.ref a from rx)
  obtain ⟨_,_,xs,_,o,es,ep,h1,h2,_⟩:=(show ObjOk X.prog X.w H s.heap a (.dT kvs) from I.hok a _ ea)
  exact PySem.W.kia_one PySem.W.kitx_dict I.kIn ⟨o,h1,h2.1⟩ e (fun z=>nomatch z) h
 | @ins a C dx fs ea cl ha hn htk hm =>
  cases (show u=Value.ref a from rx)
  obtain ⟨mA,O,_⟩:=a8z I.hok ea
  obtain ⟨od,J,_⟩:=O.look
  exact PySem.W.kia_one (PySem.W.kitx_own (cl.get _) cl.hd ha hn htk hm) I.kIn J e (fun z=>nomatch z) h
end
end L2
namespace L2
open PySem PySem.Spec PyProof.Rows
structure Room (k:Nat) (A:Around):Prop where
 hd:A.handled=none
 dp:A.depth + 3 * k + 5 < recursionLimit
 un:A.units + 16 * k + 200 < cLine
 gd:A.guards=some []
theorem Room.mono {j k:Nat} {A:Around} (r:Room k A) (h:j≤k):Room j A:=⟨r.hd,by have:=r.dp; lia,by have:=r.un; lia,r.gd⟩
theorem Room.deeper {k:Nat} {A:Around} (r:Room (k + 1) A) (env:Env):Room k (A.deeper env) :=
 ⟨r.hd,by have:=r.dp; show A.depth + 1 + 3 * k + 5 < _; lia,by have:=r.un; show A.units + 3 + 16 * k + 200 < _; lia,r.gd⟩
theorem Room.in1 {k:Nat} {A:Around} (r:Room (k + 1) A):Room k A.in1 :=
 ⟨r.hd,by have:=r.dp; show A.depth + 3 * k + 5 < _; lia,by have:=r.un; show A.units + 1 + 16 * k + 200 < _; lia,r.gd⟩
structure RoomS (k:Nat) (A:Around):Prop extends Room k A where
 dp2:A.depth + 3 * k + 7 < recursionLimit
 un2:A.units + 16 * k + 210 < cLine
theorem Room.deeperS {k:Nat} {A:Around} (r:Room (k + 1) A) (env:Env):RoomS k (A.deeper env) :=
 ⟨r.deeper env,by have:=r.dp; show A.depth + 1 + 3 * k + 7 < _; lia,by have:=r.un; show A.units + 3 + 16 * k + 210 < _; lia⟩
theorem b3w {A:Around} {C:Addr} {us:List Value} {kw:List (Str×Value)}:(A.under (.builtin "type.__call__" ⟨.ref C :: us,kw⟩)).depth=A.depth + 1:=by
 first | rfl | simp [Around.under,Code.weight,Code.isCreation,Code.isGuard,Code.isCaller,Code.frames,Code.isFrame,guardIds]
theorem b3v {A:Around} {C:Addr} {us:List Value} {kw:List (Str×Value)}:(A.under (.builtin "type.__call__" ⟨.ref C :: us,kw⟩)).units=A.units + 1:=by
 first | rfl | simp [Around.under,Code.cUnits,Code.frames,Code.isFrame]
theorem b1g {A:Around} {C:Addr} {us:List Value} {kw:List (Str×Value)}:(A.under (.builtin "type.__call__" ⟨.ref C :: us,kw⟩)).guards=A.guards:=by
 cases h:A.guards <;> simp [Around.under,Code.guards,Code.isGuard,guardIds,pushGuards,h]
theorem RoomS.make {k:Nat} {A:Around} (r:RoomS k A) (C:Addr) (us:List Value) (kw:List (Str×Value)):Room k (A.under (.builtin "type.__call__" ⟨.ref C :: us,kw⟩)) :=
 ⟨r.hd,by have:=r.dp2; rw [b3w]; lia,by have:=r.un2; rw [b3v]; lia,by rw [b1g]; exact r.gd⟩
theorem Room.depth {k:Nat} {A:Around} (r:Room k A):A.depth < recursionLimit:=by have:=r.dp; lia
theorem Room.units {k:Nat} {A:Around} (r:Room k A):A.units + 64 < cLine:=by have:=r.un; lia
def tNil:TA:=fun _ H Q=>Q [] H
def c0n (ta:TE) (tr:TA):TA:=fun σ H Q=>ta σ H fun x H1=>tr σ H1 fun xs H2=>Q (x :: xs) H2
section
variable {X:Cx} {e:Expr} {es:List Expr} {te:TE} {t:TA} {pos:Pos}
theorem a1o:PA X [] tNil:=fun _ _ _ _ H Q I h=>Calls.spliced_nil ⟨[],H,I,.nil,h⟩
theorem a0n (ha:PE X e te) (hr:PA X es t) (hs:starEach (e :: es) X.env=(false,eval e X.env) :: starEach es X.env:=by rfl):PA X (e :: es) (c0n te t):=by
 intro pos pins s σ H Q I h
 rw [hs]
 show wpAny _ _ (spliced ((false,eval e X.env) :: backTo pos (starEach es X.env))) _ _ s
 refine Calls.spliced_cons (thn (ha pins s σ H _ I h) fun u s1 ⟨x,H1,I1,r1,q1⟩=>?_)
 exact thn (hr pos pins s1 σ H1 _ I1 q1) fun us s2 ⟨xs,H2,I2,r2,q2⟩=>⟨x :: xs,H2,I2,.cons r1 r2,q2⟩
def tTup (t:TA):TE:=fun σ H Q=>t σ H fun xs H1=>xs.length≤sizeLine∧∀ p,H1 p=none→Q (.ref p) (upd H1 p (.tup xs))
def tLst (t:TA):TE:=fun σ H Q=>t σ H fun xs H1=>xs.length≤sizeLine∧∀ p,H1 p=none→Q (.ref p) (upd H1 p (.lst xs))
theorem c9v {x1} (h:PA X es t):PE X (.Tuple es x1 pos) (tTup t):=by
 intro pins s σ H Q I hq
 refine wpAny_Tuple_spliced (thn (h pos pins s σ H _ I hq) fun us s1 ⟨xs,H1,I1,r,z,q⟩=>⟨by rw [← r.length]; exact z,?_⟩)
 have hf:H1 s1.heap.objs.size=none:=I1.hok.fresh (Γi _)
 refine ⟨.ref s1.heap.objs.size,upd H1 s1.heap.objs.size (.tup xs),I1.laid (t':=s1.toks) (fun b u e=>Γc _ e) (Γi _) ?_,rfl,q _ hf⟩
 exact ⟨z,us,r,⟨_,Γm _ rfl,rfl,_,rfl⟩⟩
theorem b6m (h:PA X es t):PE X (.List es pos) (tLst t):=by
 intro pins s σ H Q I hq
 refine wpAny_List_spliced (thn (h pos pins s σ H _ I hq) fun us s1 ⟨xs,H1,I1,r,z,q⟩=>⟨by rw [← r.length]; exact z,?_⟩)
 have hf:H1 s1.heap.objs.size=none:=I1.hok.fresh (Γi _)
 refine ⟨.ref s1.heap.objs.size,upd H1 s1.heap.objs.size (.lst xs),I1.laid (t':=s1.toks) (fun b u e=>Γc _ e) (Γi _) ?_,rfl,q _ hf⟩
 exact ⟨z,us,0,r,Γm _ rfl⟩
end
abbrev Sp:=List V→Hp→VK→XK→Prop
abbrev CXT:=List Env→Hp→Shared→XK→Value→Shared→Prop
structure Env0 (P:Program) (w:World) (K:Γd) (mg:Str→Option Value) (base:Heap) (A:Around) (outer:List Env) (s:Shared) (H:Hp):Prop where
 frames:A.frames=some outer
 mod:Mod K mg base
 bs:∀ b o,base.get? b=some o→s.heap.get? b=some o∧H b=none
 bsz:base.objs.size≤s.heap.objs.size
 funs:s.heap.FunFrames base outer
 frf:∀ b∈frs outer,H b=none
 hok:HOk P w H s.heap
 bare:AllBare s.gens
def CE (outer:List Env) (P:Program) (w:World) (H:Hp) (s:Shared) (Q:VK) (u:Value) (s':Shared):Prop :=
 ∃ v H',s'.os=s.os∧AllBare s'.gens∧Un (frs outer) [] H H' s.heap s'.heap∧HOk P w H' s'.heap∧RelV v u∧Q v H'
def CR (CX:CXT) (outer:List Env) (P:Program) (w:World) (H:Hp) (s:Shared) (Q:VK) (E:XK) (r:Result) (s':Shared):Prop :=
 match r with
 | .ok (.ret u)=>CE outer P w H s Q u s'
 | .ok _=>False
 | .error e=>CX outer H s E e s'
structure FnOk (P:Program) (w:World) (K:Γd) (mg:Str→Option Value) (base:Heap) (CX:CXT) (k:Nat) (f:Addr) (fd:FuncData) (ps:List Str) (sp:Sp):Prop where
 len:∀ vs H Q E,sp vs H Q E→vs.length=ps.length
 run:∀ (A:Around) (outer:List Env) (s:Shared) (H:Hp) (args:Args) (us:List Value) (vs:List V) (Q:VK) (E:XK),Room k A→Env0 P w K mg base A outer s H→BindsTo s fd args (ps.zip us)→Vals vs us→sp vs H Q E →
  codeAny (model P w) A (.call (.ref f) args) (CR CX outer P w H s Q E) s
theorem FnOk.mono {P:Program} {w:World} {K:Γd} {mg:Str→Option Value} {base:Heap} {CX:CXT} {j k:Nat} {f:Addr} {fd:FuncData} {ps:List Str} {sp:Sp} (F:FnOk P w K mg base CX j f fd ps sp) (h:j≤k) :
  FnOk P w K mg base CX k f fd ps sp:=⟨F.len,fun A outer s H args us vs Q E hr=>F.run A outer s H args us vs Q E (hr.mono h)⟩
theorem Env0.make {P:Program} {w:World} {K:Γd} {mg:Str→Option Value} {base:Heap} {A:Around} {outer:List Env} {s:Shared} {H:Hp} (e:Env0 P w K mg base A outer s H) (C:Addr) (us:List Value) (kw:List (Str×Value)) :
  Env0 P w K mg base (A.under (.builtin "type.__call__" ⟨.ref C :: us,kw⟩)) outer s H:=⟨by first | exact e.frames | (simpa [Around.under,Code.envs,Code.isFrame,pushEnvs] using e.frames),e.mod,e.bs,e.bsz,e.funs,e.frf,e.hok,e.bare⟩
theorem Env0.in1 {P:Program} {w:World} {K:Γd} {mg:Str→Option Value} {base:Heap} {A:Around} {outer:List Env} {s:Shared} {H:Hp} (e:Env0 P w K mg base A outer s H) :
  Env0 P w K mg base A.in1 outer s H:=⟨e.frames,e.mod,e.bs,e.bsz,e.funs,e.frf,e.hok,e.bare⟩
section
variable {X:Cx} {pins:List (Addr×Obj)} {σ:St} {H:Hp} {s s':Shared}
theorem Inv.env0 (I:Inv X pins σ H s):Env0 X.prog X.w X.K X.mg X.base X.A X.stack s H :=
 ⟨I.ok.frames,I.ok.mod,I.bs,Nat.le_trans I.ok.bsz I.sz,I.stack,I.stkFree,I.hok,I.bare⟩
theorem Inv.after {Q:VK} {u:Value} (I:Inv X pins σ H s) (h:CE X.stack X.prog X.w H s Q u s'):EP X pins σ Q u s':=by
 obtain ⟨v,H',os,bare,un,hok,r,q⟩:=h
 obtain ⟨hh,g,d,t,os'⟩:=s'
 obtain rfl:os'=s.os:=os
 exact ⟨v,H',I.call (h':=hh) (g':=g) (d':=d) (t':=t) (ch:=[]) un hok bare (fun b z=>absurd z (by simp)),r,q⟩
end
def d5m (sp:Sp) (dvs:List V) (E:XK) (t:TA):TE:=fun σ H Q=>t σ H fun vs H1=>sp (vs++dvs) H1 Q E
def Binds (K:Γd) (fd:FuncData) (ps:List Str) (ds:List Value):Prop :=
 ∀ (s:Shared) (us:List Value),K.In s.heap→(us++ds).length=ps.length→BindsTo s fd ⟨us,[]⟩ (ps.zip (us++ds))
theorem Binds.all {K:Γd} {fd:FuncData} {ps:List Str} (h:∀ us:List Value,us.length=ps.length→bindArgs fd ⟨us,[]⟩=pure (ps.zip us)):Binds K fd ps []:=fun s us _ hl=>by
 rw [List.append_nil] at hl ⊢
 exact .of_eq (h us hl)
def a5a (CX:CXT) (X:Cx) (E:XK):Prop:=∀ (pins:List (Addr×Obj)) (σ:St) (H:Hp) (s:Shared) (e:Value) (s':Shared),Inv X pins σ H s→CX X.stack H s E e s'→X.xe e s'
section
variable {X:Cx} {CX:CXT} {k:Nat} {f C:Addr} {fd:FuncData} {ps:List Str} {sp:Sp} {dvs:List V} {ds:List Value} {E:XK} {x m:Str} {p pos apos:Pos} {e o:Expr} {es:List Expr} {ta:TE} {t:TA}
theorem b5o {pins:List (Addr×Obj)} {σ:St} {H:Hp} {s:Shared} {Q:VK} {us:List Value} {vs:List V} (F:FnOk X.prog X.w X.K X.mg X.base CX k f fd ps sp) (hr:Room k X.A) (hb:Binds X.K fd ps ds) (hd:Vals dvs ds) (hx:a5a CX X E)
  (I:Inv X pins σ H s) (r:Vals vs us) (h:sp (vs++dvs) H Q E):wpAny (model X.prog X.w) X.A (call (.ref f) us) (EP X pins σ Q) X.xe s:=by
 have r2:Vals (vs++dvs) (us++ds):=r.append hd
 have hl:(us++ds).length=ps.length:=by rw [← r2.length]; exact F.len _ _ _ _ h
 refine wpAny_call (codeAny_mono (F.run X.A X.stack s H ⟨us,[]⟩ (us++ds) (vs++dvs) Q E hr I.env0 (hb s us I.kIn hl) r2 h) fun r s' hq=>?_)
 cases r with
 | error e=>exact hx pins σ H s e s' I hq
 | ok fl =>
  cases fl with
  | ret u=>exact I.after hq
  | next=>exact False.elim hq
  | brk=>exact False.elim hq
  | cont=>exact False.elim hq
theorem c5t (F:FnOk X.prog X.w X.K X.mg X.base CX k f fd ps sp) (hr:Room k X.A) (hg:Gl X x) (hm:X.mg x=some (.ref f)) (hk:PySem.W.keepIn X.K (.ref f)=true) (hb:Binds X.K fd ps ds) (hd:Vals dvs ds) (hx:a5a CX X E)
  (ha:PA X (e :: es) t) (hdb:(x == ("__debug__":Str))=false:=by decide) (he:starEach (e :: es) X.env=(false,eval e X.env) :: starEach es X.env:=by rfl) (hpl:(backTo pos (starEach es X.env)).any (·.1)=false:=by rfl) :
  PE X (.Call (.Name x p) (e :: es) [] pos) (d5m sp dvs E t):=by
 intro pins s σ H Q I h
 refine wpAny_Call_Name_kw (b1l I hg hm ?_ hdb)
 refine PySem.W.callWith_K (h₀:=X.base) I.ok.mod.kin hk (thn (ha pos pins s σ H _ I h) fun us s1 ⟨vs,H1,I1,r,q⟩=>⟨I1.kIn,?_⟩) he hpl
 exact b5o F hr hb hd hx I1 r q
structure Mk (K:Γd) (C f:Addr):Prop where
 makes:PySem.W.makesIn K C=true
 init:PySem.W.findIn K (.ref C) "__init__" = some (some (.ref f))
 fn:PySem.W.isFn K (.ref f)=true
 kp:PySem.W.keepIn K (.ref C)=true
end
section
variable {X:Cx} {CX:CXT} {k:Nat} {f C:Addr} {fd:FuncData} {ps ks:List Str} {sp:Sp} {E:XK} {x m:Str} {p pos apos kpos:Pos} {e o:Expr} {es:List Expr} {kws:List Keyword} {te ta:TE} {t tk:TA} {nm:Option Str}
structure KBinds (K:Γd) (fd:FuncData) (ps ks:List Str) (g:List Value→List Value→List Value) (gV:List V→List V→List V):Prop where
 to:∀ (s:Shared) (us ws:List Value),K.In s.heap→(g us ws).length=ps.length→BindsTo s fd ⟨us,ks.zip ws⟩ (ps.zip (g us ws))
 rel:∀ {vs:List V} {us:List Value} {zs:List V} {ws:List Value},Vals vs us→Vals zs ws→Vals (gV vs zs) (g us ws)
variable {g:List Value→List Value→List Value} {gV:List V→List V→List V}
end
structure FnScope (N P:List Str) (sc:Scope):Prop where
 kind:sc.kind=.function
 co:sc.isCoroutine=false
 gen:sc.isGenerator=false
 nd:N.Nodup
 pre:N.take P.length=P
 par:∀ x∈P,sc.names.lookup x=some .local ∨ sc.names.lookup x=some .cell
 nofree:∀ y∈sc.names,y.2≠.free
theorem b0o {kindOf:Str→Option NameKind} {x:Str}:∀ {binds:List (Str×Value)} {m:Str→Option Value},(∀ v,(x,v) ∉ binds)→bindL kindOf binds m x=m x
 | [],_,_=>rfl
 | (n,v) :: r,m,h=>by
  unfold bindL
  rw [b0o fun w hw=>h w (Γh _ hw)]
  split
  ·have:x≠n:=by rintro rfl; exact h v Γn
   simp [this]
  ·rfl
theorem b0q {kindOf:Str→Option NameKind} {x:Str}:∀ {binds:List (Str×Value)} {m:Str→Option Value},(∀ v,(x,v) ∉ binds)→bindC kindOf binds m x=m x
 | [],_,_=>rfl
 | (n,v) :: r,m,h=>by
  unfold bindC
  rw [b0q fun w hw=>h w (Γh _ hw)]
  split
  ·rfl
  ·have:x≠n:=by rintro rfl; exact h v Γn
   simp [this]
theorem b0p {kindOf:Str→Option NameKind} {x:Str} {v:Value}:∀ {P:List Str} {vs:List Value} {i:Nat} {m:Str→Option Value},P.Nodup→P[i]?=some x→vs[i]?=some v→kindOf x=some .local →
  bindL kindOf (P.zip vs) m x=some v
 | [],_,_,_,_,h,_,_=>by simp at h
 | _ :: _,[],_,_,_,_,h,_=>by simp at h
 | p :: P,w :: vs,0,m,nd,h1,h2,hk=>by
  simp at h1 h2; subst h1; subst h2
  show bindL kindOf ((p,w) :: P.zip vs) m p=_
  unfold bindL
  rw [b0o fun v hv=>(List.nodup_cons.mp nd).1 (List.of_mem_zip hv).1,if_pos hk]
  simp
 | p :: P,w :: vs,i + 1,m,nd,h1,h2,hk=>by
  show bindL kindOf ((p,w) :: P.zip vs) m x=_
  unfold bindL
  exact b0p (i:=i) (List.nodup_cons.mp nd).2 (by simpa using h1) (by simpa using h2) hk
theorem b0r {kindOf:Str→Option NameKind} {x:Str} {v:Value}:∀ {P:List Str} {vs:List Value} {i:Nat} {m:Str→Option Value},P.Nodup→P[i]?=some x→vs[i]?=some v→kindOf x≠some .local →
  bindC kindOf (P.zip vs) m x=some v
 | [],_,_,_,_,h,_,_=>by simp at h
 | _ :: _,[],_,_,_,_,h,_=>by simp at h
 | p :: P,w :: vs,0,m,nd,h1,h2,hk=>by
  simp at h1 h2; subst h1; subst h2
  show bindC kindOf ((p,w) :: P.zip vs) m p=_
  unfold bindC
  rw [b0q fun v hv=>(List.nodup_cons.mp nd).1 (List.of_mem_zip hv).1,if_neg hk]
  simp
 | p :: P,w :: vs,i + 1,m,nd,h1,h2,hk=>by
  show bindC kindOf ((p,w) :: P.zip vs) m x=_
  unfold bindC
  exact b0r (i:=i) (List.nodup_cons.mp nd).2 (by simpa using h1) (by simpa using h2) hk
def start (N:List Str) (vs:List V):St:=vs.map some++Γj (N.length - vs.length) none
def c7p (CX:CXT) (P:Program) (w:World) (K:Γd) (mg:Str→Option Value) (base:Heap) (N:List Str) (qual:Str) (scope:Scope) (f:Addr) (cd:Value) (A:Around) (outer:List Env) (s:Shared) (H:Hp) (E:XK):Cx where
 prog:=P
 w:=w
 K:=K
 mg:=mg
 base:=base
 A:=A.deeper (envOfC qual scope s.heap.objs.size f cd)
 N:=N
 s₀:=s
 H₀:=H
 env:=envOfC qual scope s.heap.objs.size f cd
 outer:=outer
 stack:=envOfC qual scope s.heap.objs.size f cd :: outer
 ex:=[]
 calm:=true
 fn:=fun _=>true
 pn:=[]
 xe:=fun e s'=>wpAny (model P w) (A.deeper (envOfC qual scope s.heap.objs.size f cd)) (leaving (envOfC qual scope s.heap.objs.size f cd) e) (fun _ s''=>CX outer H s E e s'') (fun e' s''=>CX outer H s E e' s'') s'
theorem b3i {sc:Scope} {n:Nat} {x:Str} (h:sc.names.lookup x=some .cell):∃ c,(cellsFrom n sc.names []).lookup x=some c:=by
 have q:=PySem.W.cellsFrom_some sc.names n [] (.inl h)
 exact Option.isSome_iff_exists.mp q
theorem b7y {CX:CXT} {P:Program} {w:World} {K:Γd} {mg:Str→Option Value} {base:Heap} {N ps:List Str} {qual:Str} {scope:Scope} {f:Addr} {cd:Value} {A:Around} {outer:List Env} {s s1:Shared} {H:Hp} {E:XK} {us:List Value} {vs:List V}
  (S:FnScope N ps scope) (hd:A.handled=none) (e0:Env0 P w K mg base A outer s H) (hl:vs.length=ps.length) (r:Vals vs us)
  (x:InCallC s s.heap.objs.size (bindL (envOfC qual scope s.heap.objs.size f cd).kindOf (ps.zip us) fun _=>none) (cellsFrom (s.heap.objs.size + 1) scope.names []) (bindC (envOfC qual scope s.heap.objs.size f cd).kindOf (ps.zip us) fun _=>none) s1) :
  Inv (c7p CX P w K mg base N qual scope f cd A outer s H E) [] (start N vs) H s1:=by
 have hpl:ps.length≤N.length:=by have:=congrArg List.length S.pre; rw [List.length_take] at this; lia
 obtain ⟨h1,tk,rfl,hk⟩:=x.done
 have noA:∀ b:Addr,b ∉ (c7p CX P w K mg base N qual scope f cd A outer s H E).ex:=fun b z=>absurd (show b∈([]:List Addr) from z) (by simp)
 refine ⟨⟨e0.mod,S.kind,rfl,rfl,Γi _,fun y z c h1 h2=>?_,fun y hy=>?_,fun y c _ h=>?_,fun _=>hd,Around.frames_deeper e0.frames,.inr ⟨rfl,rfl⟩,fun b z=>absurd z (noA b),e0.bs,e0.bsz,fun b _ _=>noA b,fun b z=>absurd z (noA b),e0.funs,e0.frf⟩,
  rfl,e0.bare,Un.kept hk,⟨_,x.toInCall.ns,fun i y v h1 h2 h3=>?_⟩,fun y c h=>⟨_,x.cell y c h⟩,e0.hok.fresh (Γi _),fun y c h=>?_,fun p hp=>absurd (show p∈([]:List (Addr×Obj)) from hp) (by simp),e0.hok.kept hk,?_⟩
 ·exact name_of_addr x.apart (PySem.mem_of_lookup h1) (PySem.mem_of_lookup h2)
 ·have hy:scope.names.lookup y=some .cell ∨ scope.names.lookup y=some .free:=hy
  rcases hy with hy | hy
  ·exact b3i hy
  ·exact absurd rfl (S.nofree _ (PySem.mem_of_lookup hy))
 ·exact Nat.le_of_lt (x.above y c (PySem.mem_of_lookup h))
 ·have hi:i < vs.length:=by
   unfold start at h2
   by_cases hi:i < vs.length
   ·exact hi
   ·rw [List.getElem?_append_right (by simpa using hi)] at h2
    rw [List.getElem?_replicate] at h2
    split at h2 <;> cases h2
  have ha:vs[i]?=some v:=by
   unfold start at h2
   rw [List.getElem?_append_left (by simpa using hi),List.getElem?_map] at h2
   cases e:vs[i]? with
   | none=>rw [e] at h2; cases h2
   | some a=>rw [e] at h2; cases h2; rfl
  obtain ⟨u,hu,rv⟩:=r.get ha
  have hp:ps[i]?=some y:=by
   rw [← S.pre,List.getElem?_take_of_lt (by lia)]; exact h1
  have ndP:ps.Nodup:=by rw [← S.pre]; exact S.nd.sublist (List.take_sublist _ _)
  refine ⟨u,rv,?_⟩
  rcases S.par y (List.mem_of_getElem? hp) with k | k
  ·exact .inl ⟨k,b0p ndP hp hu k⟩
  ·obtain ⟨c,e⟩:=b3i (n:=s.heap.objs.size + 1) k
   refine .inr ⟨.inl k,c,e,?_⟩
   have q:=x.cell y c e
   rw [b0r ndP hp hu (by show scope.names.lookup y≠_; rw [k]; decide)] at q
   exact q
 ·exact e0.hok.fresh (Nat.le_of_lt (x.above y c (PySem.mem_of_lookup h)))
 ·unfold start
  show _=N.length
  rw [List.length_append,List.length_map,List.length_replicate]
  lia
theorem d8k {CX:CXT} {P:Program} {w:World} {K:Γd} {mg:Str→Option Value} {base:Heap} {k:Nat} {f:Addr} {name qual:Str} {params:Arguments} {body:List Stmt} {scope:Scope} {dV kV doc pm cdv ct oc:Value} {an od:Option Addr}
  {osl:Array (Option Value)} {N ps:List Str} {sp:Sp} (lk:K.lookup f=some ⟨oc,od,.func (PySem.W.fnOf name qual params body scope dV kV doc pm an cdv ct),osl⟩) (hcd:PySem.W.codeIn K cdv qual=true) (S:FnScope N ps scope)
  (len:∀ vs H Q E,sp vs H Q E→vs.length=ps.length)
  (hbody:∀ (A:Around) (outer:List Env) (s:Shared) (H:Hp) (vs:List V) (Q:VK) (E:XK),RoomS k (A.deeper (envOfC qual scope s.heap.objs.size f cdv))→sp vs H Q E →
   ∃ t,PSs (c7p CX P w K mg base N qual scope f cdv A outer s H E) body t∧t { nx:=fun _ H'=>Q .non H',rt:=Q } (start N vs) H) :
  FnOk P w K mg base CX (k + 1) f (PySem.W.fnOf name qual params body scope dV kV doc pm an cdv ct) ps sp:=by
 refine ⟨len,fun A outer s H args us vs Q E hr e0 hb r hsp=>?_⟩
 have hl:=len _ _ _ _ hsp
 have KX:K.In s.heap:=e0.mod.kin.keeps fun b o e=>(e0.bs b o e).1
 have lim:s.heap.NoLimit:=e0.mod.nolimit.keeps fun b o e=>(e0.bs b o e).1
 have hkind:∀ y∈ps.zip us,scope.names.lookup y.1=some .local ∨ (scope.names.lookup y.1=some .cell∧((cellsFrom (s.heap.objs.size + 1) scope.names []).lookup y.1).isSome=true):=fun ⟨n,v⟩ hy=>by
  rcases S.par n (List.of_mem_zip hy).1 with q | q
  ·exact .inl q
  ·exact .inr ⟨q,PySem.W.cellsFrom_some _ _ _ (.inl q)⟩
 refine codeAny_call_function hr.depth (KX _ _ lk) rfl S.co S.gen rfl (PySem.W.codeRec_of KX hcd) (hb _ _ _ _ ?_)
 refine wpAny_newFunctionEnv_cells S.kind hkind fun env he s1 x=>?_
 subst he
 refine ⟨lim.keeps x.toInCall.keep,codeAny_func ?_⟩
 obtain ⟨t,ht,hq⟩:=hbody A outer s H vs Q E (hr.deeperS _) hsp
 have I:Inv (c7p CX P w K mg base N qual scope f cdv A outer s H E) [] (start N vs) H s1:=b7y S hr.hd e0 hl r x
 refine wpAny_mono (ht [] s1 (start N vs) H _ I hq) (fun fl s' hs=>?_) fun e s' hs=>hs
 have fin:∀ {σ':St} {H':Hp} {v:V} {u:Value},Inv (c7p CX P w K mg base N qual scope f cdv A outer s H E) [] σ' H' s'→RelV v u→Q v H'→CE outer P w H s Q u s' :=
  fun {σ' H' v u} J rv q=>⟨v,H',J.os,J.bare,J.base,J.hok,rv,q⟩
 cases fl with
 | ret u =>
  obtain ⟨v,σ',H',J,rv,q⟩:=hs
  exact fin J rv q
 | next =>
  obtain ⟨σ',H',J,q⟩:=hs
  exact fin (v:=V.non) (u:=Value.none) J rfl q
 | brk =>
  obtain ⟨_,_,_,q⟩:=hs
  exact False.elim q
 | cont =>
  obtain ⟨_,_,_,q⟩:=hs
  exact False.elim q
end L2
namespace L2
open PySem PySem.Spec PyProof.Rows
section
variable {X:Cx} {x:Str} {p pos:Pos} {e:Expr} {es:List Expr} {t:TA} {id T:String} {r:List V→Hp→VK→Prop}
def tCB (r:List V→Hp→VK→Prop) (t:TA):TE:=fun σ H Q=>t σ H fun vs H1=>r vs H1 Q
theorem a4h (hc:a1k X (.builtin id) r) (hg:Gl X x) (hm:X.mg x=none) (hv:bootBuiltins x=some (.builtin id)) (ha:PA X (e :: es) t) (hn:x≠"__name__":=by decide) (hdb:(x == ("__debug__":Str))=false:=by decide)
  (he:starEach (e :: es) X.env=(false,eval e X.env) :: starEach es X.env:=by rfl) (hpl:(backTo pos (starEach es X.env)).any (·.1)=false:=by rfl):PE X (.Call (.Name x p) (e :: es) [] pos) (tCB r t):=by
 intro pins s σ H Q I h
 refine wpAny_Call_Name_kw (a3o I hg hm hv ?_ hn hdb)
 exact PyProof.Rows.callWith_builtin1 (thn (ha pos pins s σ H _ I h) fun us s1 ⟨vs,H1,I1,r1,q1⟩=>hc pins s1 σ H1 vs us Q I1 r1 q1) he hpl
theorem a9s (hc:a1k X (.type T) r) (hg:Gl X x) (hm:X.mg x=none) (hv:bootBuiltins x=some (.type T)) (ha:PA X (e :: es) t) (hn:x≠"__name__":=by decide) (hdb:(x == ("__debug__":Str))=false:=by decide)
  (he:starEach (e :: es) X.env=(false,eval e X.env) :: starEach es X.env:=by rfl) (hpl:(backTo pos (starEach es X.env)).any (·.1)=false:=by rfl):PE X (.Call (.Name x p) (e :: es) [] pos) (tCB r t):=by
 intro pins s σ H Q I h
 refine wpAny_Call_Name_kw (a3o I hg hm hv ?_ hn hdb)
 exact PyProof.Rows.callWith_type1 (thn (ha pos pins s σ H _ I h) fun us s1 ⟨vs,H1,I1,r1,q1⟩=>hc pins s1 σ H1 vs us Q I1 r1 q1) he hpl
end
end L2
namespace HT
open PySem PyProof.Rows
def lexLt:List Int→List Int→Bool
 | [],[]=>false
 | [],_ :: _=>true
 | _ :: _,[]=>false
 | x :: xs,y :: ys=>if x=y then lexLt xs ys else decide (x < y)
theorem b3x (x y:Int) (xs ys:List Int):lexLt (x :: xs) (y :: ys)=if x=y then lexLt xs ys else decide (x < y):=rfl
theorem a8x:lexLt [] []=false:=rfl
theorem a6y (y:Int) (ys:List Int):lexLt [] (y :: ys)=true:=rfl
theorem a6z (x:Int) (xs:List Int):lexLt (x :: xs) []=false:=rfl
theorem c2i (A:Around) (s:Shared) (a:Int) (t:Tok) (c:Int) (u:Tok):∃ e,SeqAt.EqAt A s (.int a t) (.int c u) e∧(e=true↔a=c) :=
 ⟨(a == c),SeqAt.EqAt.int_int a t c u,by simp⟩
theorem c0s (A:Around) (s:Shared) (a:Int) (t:Tok) (c:Int) (u:Tok) (prog:Program) (w:World) (E:Value→Shared→Prop) (Q:Value→Shared→Prop) (h:Q (.bool (decide (a < c))) s) :
  wpAny (model prog w) A (richCompare .Lt (.int a t) (.int c u)) Q E s :=
 (PyProof.Rows.lt_int h:wpAny (model prog w) A (compareOp .Lt (.int a t) (.int c u)) Q E s)
section
open PySem.SeqAt
open PySem.AutoSeq1 (wpAny_loadPart')
open PySem.MeetsSeq PySem.MeetsSeq2 PySem.MeetsSeq3
theorem a8a (l b:Addr) (items items2:Array Value) (n n2:Nat) (dd dd2:Option Addr) (sl sl2:Array (Option Value)) (ns ms:List Int) (hi:IntsAre items.toList ns) (hj:IntsAre items2.toList ms) :
  Meets (Builtin.«tuple.__lt__» ⟨[.ref l,.ref b],[]⟩)
   (fun _ R s=>s.heap.get? l=some { cls:=.type "tuple",dict:=dd,data:=.seq items n,slots:=sl }∧s.heap.get? b=some { cls:=.type "tuple",dict:=dd2,data:=.seq items2 n2,slots:=sl2 } ∧
    R (.ok (.ret (.bool (lexLt ns ms)))) s) :=
 .of_wp fun prog w A R s h=>by
  obtain ⟨hp,g,d,tk,os⟩:=s; obtain ⟨hl,hb,h⟩:=h
  have f2:=AutoSeq1.sub_tuple_tuple
  have z1:items.size=ns.length:=by rw [← hi.length]; simp
  have z2:items2.size=ms.length:=by rw [← hj.length]; simp
  wp_walk using wpAny_loadPart' hl,wpAny_loadPart' hb,wpAny_forIn_list _ (fun rest b s'=>b.1=none∧s'=⟨hp,g,d,tk,os⟩∧∃ (vs ws:List Value) (ns' ms':List Int),rest=vs.zip ws ∧
   IntsAre vs ns'∧IntsAre ws ms'∧ns'.length + items2.size=ms'.length + items.size∧R (.ok (.ret (.bool (lexLt ns' ms')))) ⟨hp,g,d,tk,os⟩) _
  case turn =>
   rintro ⟨y,x⟩ rest b s' ⟨hb',rfl,vs,ws,ns',ms',hz,hvi,hwi,hlen,hR⟩
   cases hvi with
   | nil=>rw [List.zip_nil_left] at hz; cases hz
   | cons a t hvi' =>
    cases hwi with
    | nil=>rw [List.zip_nil_right] at hz; cases hz
    | cons c u hwi' =>
     rw [List.zip_cons_cons] at hz
     injection hz with hyx hrest
     injection hyx with hy hx
     subst hy hx
     rw [b3x] at hR
     simp only [List.length_cons] at hlen
     obtain ⟨e,he,hiff⟩:=c2i A.in1 ⟨hp,g,d,tk,os⟩ a t c u
     refine Γa (he prog w _ _ ?_)
     cases e with
     | true =>
      rw [if_pos (hiff.mp rfl)] at hR
      wp_walk
      exact ⟨rfl,rfl,_,_,_,_,hrest,hvi',hwi',by lia,hR⟩
     | false =>
      rw [if_neg (fun q=>absurd (hiff.mpr q) Γk)] at hR
      have hri:=c0s A.in1 ⟨hp,g,d,tk,os⟩ a t c u prog w
      wp_walk using hri
      exact ⟨_,rfl,by simpa using hR⟩
  case fin =>
   rintro ⟨b1,b2⟩ s' ⟨hb',rfl,vs,ws,ns',ms',hz,hvi,hwi,hlen,hR⟩
   simp only at hb'
   subst hb'
   have hv:lexLt ns' ms'=decide (items.size < items2.size):=by
    cases hvi with
    | nil =>
     cases hwi with
     | nil =>
      simp only [List.length_nil] at hlen
      rw [a8x]
      exact (decide_eq_false (by lia)).symm
     | cons c u hw =>
      simp only [List.length_nil,List.length_cons] at hlen
      rw [a6y]
      exact (decide_eq_true (by lia)).symm
    | cons a t hv =>
     cases hwi with
     | nil =>
      simp only [List.length_nil,List.length_cons] at hlen
      rw [a6z]
      exact (decide_eq_false (by lia)).symm
     | cons c u hw =>
      rw [List.zip_cons_cons] at hz
      cases hz
   rw [hv] at hR
   wp_walk
   exact ⟨_,rfl,by simpa [Builtin.Tuple.tupleCompareSizes] using hR⟩
  case h =>
   exact ⟨rfl,rfl,items.toList,items2.toList,ns,ms,rfl,hi,hj,by lia,h⟩
end
section
variable {prog:Program} {w:World} {A:Around} {E:Value→Shared→Prop} {s:Shared}
theorem lt_tupInts {l b:Addr} {items items2:Array Value} {ns ms:List Int} {Q:Value→Shared→Prop} (hl:IsTup s.heap l items) (hb:IsTup s.heap b items2) (hi:IntsAre items.toList ns) (hj:IntsAre items2.toList ms)
  (hu:A.units < cLine) (h:Q (.bool (lexLt ns ms)) s):wpAny (model prog w) A (compareOp .Lt (.ref l) (.ref b)) Q E s:=by
 obtain ⟨⟨cls,dd,data,sl⟩,ho,hc,n,hd⟩:=id hl
 obtain ⟨⟨cls2,dd2,data2,sl2⟩,ho2,hc2,n2,hd2⟩:=id hb
 simp only at hc hd hc2 hd2
 subst hc hd hc2 hd2
 exact richCompare_meets_room (op:=.Lt) ⟨_,ho,rfl⟩ ⟨_,ho2,rfl⟩ PySem.F.slot_tuple_lt PySem.F.entry_tuple_lt (PySem.F.args_tuple_lt_2 _ _) (a8a l b items items2 n n2 dd dd2 sl sl2 ns ms hi hj)
  ⟨ho,ho2,show Value.bool (lexLt ns ms)≠Value.notImplemented∧Q (.bool (lexLt ns ms)) s from ⟨(fun x=>nomatch x),h⟩⟩ hu
theorem cat_tup {t b:Addr} {vs ws:List Value} {Q:Value→Shared→Prop} (ht:IsTup s.heap t vs.toArray) (hb:IsTup s.heap b ws.toArray) (hv:vs≠[])
  (h1:ws=[]→Q (.ref t) s) (h2:ws≠[]→Q (.ref s.heap.objs.size) { s with heap:=s.heap.push { cls:=.type "tuple",data:=.seq (vs++ws).toArray } })
  (hsz:vs.length + ws.length≤sizeLine):wpAny (model prog w) A (binaryOp .Add (.ref t) (.ref b)) Q E s:=by
 obtain ⟨⟨cls,dd,data,sl⟩,ho,hc,n,hd⟩:=id ht
 obtain ⟨⟨cls2,dd2,data2,sl2⟩,ho2,hc2,n2,hd2⟩:=id hb
 simp only at hc hd hc2 hd2
 subst hc hd hc2 hd2
 have e:vs.toArray++ws.toArray=(vs++ws).toArray:=by simp
 by_cases hw:ws=[]
 ·exact concat_meets ⟨_,ho,rfl⟩ ⟨_,ho2,rfl⟩ noFill_tuple_add seq_tuple_add PySem.F.slot_tuple_add PySem.F.entry_tuple_add (PySem.F.args_tuple_add_2 _ _)
   (tuple_addW1 t b vs.toArray ws.toArray n n2 dd dd2 sl sl2 (by simpa using hv) (by simp [hw])) ⟨ho,ho2,h1 hw⟩
 ·refine concat_meets ⟨_,ho,rfl⟩ ⟨_,ho2,rfl⟩ noFill_tuple_add seq_tuple_add PySem.F.slot_tuple_add PySem.F.entry_tuple_add (PySem.F.args_tuple_add_2 _ _)
   (tuple_addW2 t b vs.toArray ws.toArray n n2 dd dd2 sl sl2 (by simpa using hv) (by simpa using hw) (by rw [List.size_toArray,List.size_toArray]; exact hsz)) ⟨ho,ho2,?_⟩
  rw [e]
  exact h2 hw
def sIx (n d:Nat):Option Int→Nat
 | none=>d
 | some v=>if v < 0 then (v + (n:Int)).toNat else min v.toNat n
theorem c9f (n d:Nat) (hd:d≤n) (o:Option Int):sIx n d o≤n:=by
 cases o with
 | none=>exact hd
 | some v =>
  show (if v < 0 then (v + (n:Int)).toNat else min v.toNat n)≤n
  by_cases hv:v < 0
  ·rw [if_pos hv]; lia
  ·rw [if_neg hv]; exact Nat.min_le_right _ _
theorem b9s (v:Int) (n d:Nat):(if v < 0 then max (v + (n:Int)) 0 else min v (n:Int))=((sIx n d (some v):Nat):Int):=by
 show (if v < 0 then max (v + (n:Int)) 0 else min v (n:Int))=(((if v < 0 then (v + (n:Int)).toNat else min v.toNat n):Nat):Int)
 by_cases hv:v < 0
 ·simp only [if_pos hv]; lia
 ·simp only [if_neg hv]; lia
theorem b4t (lo hi:Option Int) (n:Nat):Builtin.Slice.sliceAdjust lo hi 1 (n:Int)=(((sIx n 0 lo:Nat):Int),((sIx n n hi:Nat):Int)):=by
 have h1:¬ ((1:Int) < 0):=by lia
 unfold Builtin.Slice.sliceAdjust
 simp only [h1,if_false]
 refine Prod.ext ?_ ?_
 ·cases lo with
  | none=>rfl
  | some v=>exact b9s v n 0
 ·cases hi with
  | none=>rfl
  | some v=>exact b9s v n n
theorem b3s (i j:Nat):Builtin.Slice.slicePlaces (i:Int) (j:Int) 1=j - i:=by
 unfold Builtin.Slice.slicePlaces
 have h1:(1:Int) > 0:=by lia
 simp only [h1,if_true,Int.ediv_one]
 split <;> lia
theorem a7k {v:Value} {o:Option Int} {Q:Option Int→Shared→Prop} (p:IsPart v o) (h:Q o s):wpAny (model prog w) A (Builtin.Slice.slicePartIndex v) Q E s:=by
 cases p with
 | none=>exact slicePart_none h
 | int i t=>exact slicePart_int h
theorem sliceApplied_gen {sl:Addr} {vl vu:Value} {lo hi:Option Int} {n:Nat} {Q:Int×Int×Nat→Shared→Prop} (hs:s.heap.IsSliceOf sl vl vu .none) (pl:IsPart vl lo) (pu:IsPart vu hi)
  (h:Q (((sIx n 0 lo:Nat):Int),1,sIx n n hi - sIx n 0 lo) s):wpAny (model prog w) A (Builtin.Slice.sliceApplied (.ref sl) (pure (n:Int))) Q E s:=by
 obtain ⟨os,hos,hcs,hds⟩:=id hs
 unfold Builtin.Slice.sliceApplied Builtin.Slice.sliceFields
 refine Γa (Γa (wpAny_field hos hds (x:=vl) rfl (Γa (wpAny_field hos hds (x:=vu) rfl (Γa (wpAny_field hos hds (x:=.none) rfl (Γb ?_)))))))
 refine Γa (slicePart_none ?_)
 show wpAny _ _ (if ((1:Int) == 0)=true then _ else _) _ _ s
 rw [if_neg (by decide)]
 refine Γa (a7k pl (Γa (a7k pu (Γa (Γb ?_)))))
 show wpAny _ _ (match Builtin.Slice.sliceAdjust lo hi 1 (n:Int) with | (lo,hi)=>pure (lo,(1:Int),Builtin.Slice.slicePlaces lo hi 1)) _ _ s
 rw [b4t lo hi n]
 show wpAny _ _ (pure (((sIx n 0 lo:Nat):Int),(1:Int),Builtin.Slice.slicePlaces ((sIx n 0 lo:Nat):Int) ((sIx n n hi:Nat):Int) 1)) _ _ s
 rw [b3s]
 exact Γb h
theorem c1a (xs:Array Value) (i k:Nat):((List.range k).filterMap fun (m:Nat)=>xs[((i:Int) + (m:Int) * 1).toNat]?).toArray=((xs.toList.drop i).take k).toArray:=by
 have e:(fun (m:Nat)=>xs[((i:Int) + (m:Int) * 1).toNat]?)=fun m=>xs[i + m]?:=by
  funext m
  have:((i:Int) + (m:Int) * 1).toNat=i + m:=by lia
  rw [this]
 rw [e]
 have:=pick_run xs i k
 rw [List.filterMap_map] at this
 have e2:((fun x=>xs[x]?) ∘ fun x=>i + x)=fun m=>xs[i + m]?:=rfl
 rw [e2] at this
 rw [this]
theorem getItem_tuple_cut {t sl:Addr} {items:Array Value} {vl vu:Value} {lo hi:Option Int} {Q:Value→Shared→Prop} (ht:IsTup s.heap t items) (hs:s.heap.IsSliceOf sl vl vu .none) (pl:IsPart vl lo) (pu:IsPart vu hi)
  (hw:¬ (sIx items.size 0 lo=0∧sIx items.size items.size hi=items.size))
  (h:Q (.ref s.heap.objs.size) { s with heap:=s.heap.push { cls:=.type "tuple",data:=.seq ((items.toList.drop (sIx items.size 0 lo)).take (sIx items.size items.size hi - sIx items.size 0 lo)).toArray } })
  (hsz:items.size≤sizeLine):wpAny (model prog w) A (getItem (.ref t) (.ref sl)) Q E s:=by
 have htake:sizeOk (.seq ((items.toList.drop (sIx items.size 0 lo)).take (sIx items.size items.size hi - sIx items.size 0 lo)).toArray):=by
  show ((items.toList.drop (sIx items.size 0 lo)).take (sIx items.size items.size hi - sIx items.size 0 lo)).toArray.size≤sizeLine
  rw [List.size_toArray,List.length_take,List.length_drop,Array.length_toList]
  lia
 have hj:sIx items.size items.size hi≤items.size:=c9f _ _ (Γi _) hi
 obtain ⟨os,hos,hcs,hds⟩:=id hs
 have hTs:s.TypeIs (.ref sl) "slice":=⟨os,hos,hcs⟩
 unfold getItem
 try with_reducible refine Γg ?_
 first | refine Γa (Γb ?_) | skip
 refine Γa (wpAny_sequenceKey ht.typeIs (by decide) ?_)
 refine Γa (wpAny_callSpecial?_slot (name:=Γe "__getitem__") ht.typeIs PyProof.Rows.slot_tuple_getitem
  (wpAny_call_entry PyProof.Rows.slot_tuple_getitem ht.typeIs entry_tuple_getitem ?_ (args_tuple_getitem _ _)))
 show wpAny _ _ (Builtin.Tuple.tupleItemsOf (.ref t) >>= _) _ _ s
 refine Γa (tupleItemsOf_ ht ?_)
 refine Γa (wpAny_typeOf hTs ?_)
 rw [if_pos (by decide)]
 refine Γa (sliceApplied_gen hs pl pu ?_)
 have hno:¬ ((((sIx items.size 0 lo:Nat):Int) == 0 && (1:Int) == 1 && (sIx items.size items.size hi - sIx items.size 0 lo) == items.size)=true):=by
  intro q
  rw [Bool.and_eq_true,Bool.and_eq_true] at q
  have q1:((sIx items.size 0 lo:Nat):Int)=0:=eq_of_beq q.1.1
  have q2:sIx items.size items.size hi - sIx items.size 0 lo=items.size:=eq_of_beq q.2
  exact hw ⟨by lia,by lia⟩
 show wpAny _ _ (if (((sIx items.size 0 lo:Nat):Int) == 0 && (1:Int) == 1 && (sIx items.size items.size hi - sIx items.size 0 lo) == items.size)=true then _ else _) _ _ s
 rw [if_neg hno,c1a]
 first
  | exact Γa (m:=Builtin.Tuple.tupleExact _) (wpAny_newObj_type (Γb ⟨_,rfl,Γb h⟩) htake)
  | exact Γa (m:=Builtin.Tuple.tupleExact _) (wpAny_newObj_type (Γa (Γb (Γb ⟨_,rfl,Γb h⟩))) htake)
  | exact Γa (Γa (m:=Builtin.Tuple.tupleExact _) (wpAny_newObj_type (Γb (Γb ⟨_,rfl,Γb h⟩)) htake))
  | exact Γa (Γa (m:=Builtin.Tuple.tupleExact _) (wpAny_newObj_type (Γb ⟨_,rfl,Γb h⟩) htake))
end
end HT
namespace L2
open PySem PySem.Spec PyProof.Rows
abbrev TO:=St→Hp→(Option Int→Hp→Prop)→Prop
def PO (X:Cx) (e:Option Expr) (t:TO):Prop :=
 ∀ (pins:List (Addr×Obj)) (s:Shared) (σ:St) (H:Hp) (Q:Option Int→Hp→Prop),Inv X pins σ H s→t σ H Q →
  wpAny (model X.prog X.w) X.A (evalPart e X.env) (fun u s'=>∃ o H',Inv X pins σ H' s'∧IsPart u o∧Q o H') X.xe s
def c4j:TO:=fun _ H Q=>Q none H
def d5f (t:TE):TO:=fun σ H Q=>t σ H fun x H1=>∃ i,x=.int i∧Q (some i) H1
theorem a3h {ns:List Int}:∀ {us:List Value},Vals (ns.map V.int) us→IntsAre us ns:=by
 induction ns with
 | nil=>intro us r; rw [List.map_nil] at r; cases r; exact .nil
 | cons n ns ih =>
  intro us r
  rw [List.map_cons] at r
  cases r with
  | cons r1 r2 =>
   obtain ⟨t,e⟩:=r1
   subst e
   exact .cons n t (ih r2)
section
variable {X:Cx} {e:Expr} {te:TE} {lo hi:Option Expr} {tl th:TO} {pos p2:Pos}
theorem c5m:PO X none c4j:=by
 intro pins s σ H Q I h
 rw [evalPart_none]
 exact Γb ⟨none,H,I,.none,h⟩
theorem c5l (h:PE X e te):PO X (some e) (d5f te):=by
 intro pins s σ H Q I hw
 rw [evalPart_some]
 refine thn (h pins s σ H _ I hw) fun u s1 ⟨x,H1,I1,r1,q1⟩=>?_
 obtain ⟨i,rfl,q⟩:=q1
 obtain ⟨t,rfl⟩:=r1
 exact ⟨some i,H1,I1,.int i t,q⟩
def SlR (X:Cx) (r:V→Option Int→Option Int→Hp→VK→Prop):Prop :=
 ∀ (pins:List (Addr×Obj)) (s:Shared) (σ:St) (H:Hp) (x:V) (v vl vu:Value) (lo hi:Option Int) (sl:Addr) (Q:VK),Inv X pins σ H s→RelV x v→s.heap.IsSliceOf sl vl vu .none→IsPart vl lo→IsPart vu hi→r x lo hi H Q →
  ∃ T id,typeLookup (.type T) "__getitem__" = pure (some (.builtin id))∧s.TypeIs v T∧wpAny (model X.prog X.w) X.A (getItem v (.ref sl)) (EP X pins σ Q) X.xe s
def tSl (r:V→Option Int→Option Int→Hp→VK→Prop) (te:TE) (tl th:TO):TE:=fun σ H Q=>te σ H fun x H1=>tl σ H1 fun l H2=>th σ H2 fun u H3=>r x l u H3 Q
theorem c1c {r:V→Option Int→Option Int→Hp→VK→Prop} (hr:SlR X r) (he:PE X e te) (hl:PO X lo tl) (hu:PO X hi th):PE X (.Subscript e (.Slice lo hi none p2) pos) (tSl r te tl th):=by
 intro pins s σ H Q I h
 refine Subscript_ (thn (he pins s σ H _ I h) fun v s1 ⟨x,H1,I1,r1,q1⟩=>?_)
 refine wpAny_Slice (thn (hl pins s1 σ H1 _ I1 q1) fun vl s2 ⟨l,H2,I2,pl,q2⟩=>thn (hu pins s2 σ H2 _ I2 q2) fun vu s3 ⟨u,H3,I3,pu,q3⟩=>?_)
 rw [evalPart_none]
 refine Γb ?_
 have I4:Inv X pins σ H3 { s3 with heap:=s3.heap.push { cls:=.type "slice",data:=.fields #[vl,vu,.none] } }:=I3.kept (t':=s3.toks) fun b ob q=>Γc _ q
 obtain ⟨T,id,hT,ht,hg⟩:=hr pins { s3 with heap:=s3.heap.push { cls:=.type "slice",data:=.fields #[vl,vu,.none] } } σ H3 x v vl vu l u s3.heap.objs.size Q I4 r1 (Heap.IsSliceOf.new ..) pl pu q3
 show wpAny (model X.prog X.w) X.A (subscriptTail e (.Slice lo hi none p2) v (.ref s3.heap.objs.size)) (EP X pins σ Q) X.xe { s3 with heap:=s3.heap.push { cls:=.type "slice",data:=.fields #[vl,vu,.none] } }
 exact tail_any (ops:=[.ref s3.heap.objs.size,v]) ht hT hg (by with_unfolding_all rfl)
def c4c (xs:List V) (lo hi:Option Int):List V:=(xs.drop (HT.sIx xs.length 0 lo)).take (HT.sIx xs.length xs.length hi - HT.sIx xs.length 0 lo)
theorem a6o (xs:List V) (lo hi:Option Int):(c4c xs lo hi).length≤xs.length:=by
 unfold c4c
 rw [List.length_take,List.length_drop]
 lia
def rSlT (K:Γd):V→Option Int→Option Int→Hp→VK→Prop:=fun x lo hi H Q=>∃ a xs,x=.ref a∧SqT K H a xs ∧
 ¬ (HT.sIx xs.length 0 lo=0∧HT.sIx xs.length xs.length hi=xs.length)∧∀ p,H p=none→Q (.ref p) (upd H p (.tup (c4c xs lo hi)))
theorem c9c:SlR X (rSlT X.K):=by
 intro pins s σ H x v vl vu lo hi sl Q I rx hs pl pu h
 obtain ⟨a,xs,rfl,hx,hw,q⟩:=h
 cases rx
 obtain ⟨its,r,ht,hz⟩:=I.tuple hx
 have hlen:its.toArray.size=xs.length:=by rw [List.size_toArray]; exact r.length.symm
 refine ⟨"tuple",_,PyProof.Rows.slot_tuple_getitem.lookup,ht.typeIs,?_⟩
 refine HT.getItem_tuple_cut ht hs pl pu (by rw [hlen]; exact hw) ?_ (by rw [hlen]; exact hz)
 rw [hlen]
 refine ⟨.ref s.heap.objs.size,_,I.laid (t':=s.toks) (o:=.tup (c4c xs lo hi)) (fun b ob q=>Γc _ q) (Γi _) ?_,rfl,q _ (I.hok.fresh (Γi _))⟩
 exact ⟨Nat.le_trans (a6o xs lo hi) hz,_,(r.drop (HT.sIx xs.length 0 lo)).take (HT.sIx xs.length xs.length hi - HT.sIx xs.length 0 lo),IsTup.new _ _⟩
def rLtT (K:Γd):R2:=fun x y H Q=>∃ a b ns ms,x=.ref a∧y=.ref b∧SqT K H a (ns.map V.int)∧SqT K H b (ms.map V.int)∧Q (.bl (HT.lexLt ns ms)) H
theorem d0m (hu:X.A.units < cLine):OpR X (compareOp .Lt) (rLtT X.K):=by
 intro pins s σ H x y v u Q I rx ry h
 obtain ⟨a,b,ns,ms,rfl,rfl,ha,hb,q⟩:=h
 cases rx
 cases ry
 obtain ⟨its,r1,p1,_⟩:=I.tuple ha
 obtain ⟨its2,r2,p2,_⟩:=I.tuple hb
 have i1:IntsAre its.toArray.toList ns:=a3h r1
 have i2:IntsAre its2.toArray.toList ms:=a3h r2
 exact HT.lt_tupInts p1 p2 i1 i2 hu ⟨.bl (HT.lexLt ns ms),H,I,rfl,q⟩
def d6h (K:Γd):R2:=fun x y H Q=>∃ a b xs ys,x=.ref a∧y=.ref b∧SqT K H a xs∧SqT K H b ys∧xs≠[]∧xs.length + ys.length≤sizeLine ∧
 (ys=[]→Q (.ref a) H)∧(ys≠[]→∀ p,H p=none→Q (.ref p) (upd H p (.tup (xs++ys))))
theorem Vals.nil_iff {xs:List V} {us:List Value} (r:Vals xs us):us=[]↔xs=[]:=by
 cases r with
 | nil=>simp
 | cons _ _=>simp
theorem c6a:OpR X (binaryOp .Add) (d6h X.K):=by
 intro pins s σ H x y v u Q I rx ry h
 obtain ⟨a,b,xs,ys,rfl,rfl,ha,hb,hx,hz,q1,q2⟩:=h
 cases rx
 cases ry
 obtain ⟨its,r1,p1,_⟩:=I.tuple ha
 obtain ⟨its2,r2,p2,_⟩:=I.tuple hb
 refine HT.cat_tup p1 p2 (fun z=>hx (r1.nil_iff.mp z)) (fun z=>⟨.ref a,H,I,rfl,q1 (r2.nil_iff.mp z)⟩) (fun z=>?_) (by rw [← r1.length,← r2.length]; exact hz)
 refine ⟨.ref s.heap.objs.size,_,I.laid (t':=s.toks) (o:=.tup (xs++ys)) (fun b ob q=>Γc _ q) (Γi _) ?_,rfl,q2 (fun w=>z (r2.nil_iff.mpr w)) _ (I.hok.fresh (Γi _))⟩
 exact ⟨by rw [List.length_append]; exact hz,_,r1.append r2,IsTup.new _ _⟩
end
end L2
namespace L2
open PySem PySem.Spec PyProof.Rows
def ixN (n:Nat) (i:Int):Option Nat:=if 0≤i then (if i < n then some i.toNat else none) else if -(n:Int)≤i then some (i + n).toNat else none
def atI {α:Type} (xs:List α) (i:Int):Option α:=(ixN xs.length i).bind fun j=>xs[j]?
theorem b7u {n:Nat} {i:Int} {j:Nat} (h:ixN n i=some j):seqIndex? i n=some j∧j < n∧-(n:Int)≤i∧i < n:=by
 unfold ixN at h
 by_cases h0:0≤i
 ·rw [if_pos h0] at h
  by_cases h1:i < n
  ·rw [if_pos h1] at h
   have e:i.toNat=j:=Option.some.inj h
   exact ⟨by rw [seqIndex_of h0 h1,e],by lia,by lia,h1⟩
  ·rw [if_neg h1] at h; cases h
 ·rw [if_neg h0] at h
  by_cases h1:-(n:Int)≤i
  ·rw [if_pos h1] at h
   have e:(i + n).toNat=j:=Option.some.inj h
   exact ⟨by rw [seqIndex_neg (by lia) h1,e],by lia,h1,by lia⟩
  ·rw [if_neg h1] at h; cases h
theorem b9y {α:Type} {xs:List α} {i:Int} {v:α} (h:atI xs i=some v):∃ j,seqIndex? i xs.length=some j∧xs[j]?=some v∧j < xs.length∧-(xs.length:Int)≤i∧i < xs.length:=by
 unfold atI at h
 cases e:ixN xs.length i with
 | none=>rw [e] at h; cases h
 | some j =>
  rw [e] at h
  obtain ⟨h1,h2,h3,h4⟩:=b7u e
  exact ⟨j,h1,h,h2,h3,h4⟩
def c0a (b:Expr):Prop:=∀ o i,subscripted b false o i=operate [o,i] (getItem o i)
def IxR (X:Cx) (r:R2):Prop :=
 ∀ (value slice:Expr) (pins:List (Addr×Obj)) (s:Shared) (σ:St) (H:Hp) (x y:V) (v u:Value) (Q:VK),Inv X pins σ H s→RelV x v→RelV y u→r x y H Q →
  subscripted slice false v u=operate [v,u] (getItem v u)→wpAny (model X.prog X.w) X.A (subscriptTail value slice v u) (EP X pins σ Q) X.xe s
def MtR (X:Cx) (id:String) (r:V→List V→Hp→VK→Prop):Prop :=
 ∀ (pins:List (Addr×Obj)) (s:Shared) (σ:St) (H:Hp) (x:V) (xs:List V) (v:Value) (us:List Value) (Q:VK),Inv X pins σ H s→RelV x v→Vals xs us→r x xs H Q →
  wpAny (model X.prog X.w) X.A (call (.builtin id) (v :: us)) (EP X pins σ Q) X.xe s
section
variable {X:Cx} {a b:Expr} {ta tb:TE} {pos:Pos}
theorem d0a {r:R2} (hr:IxR X r) (ha:PE X a ta) (hb:PE X b tb) (hs:c0a b):PE X (.Subscript a b pos) (tOp r ta tb):=by
 intro pins s σ H Q I h
 exact Subscript_ (e0z ha hb I h fun v u s2 x y H2 I2 rx ry q=>hr a b pins s2 σ H2 x y v u Q I2 rx ry q (hs _ _))
def rIxL (K:Γd):R2:=fun x y H Q=>∃ p xs i v,x=.ref p∧y=.int i∧SqL K H p xs∧atI xs i=some v∧Q v H
def rIxT (K:Γd):R2:=fun x y H Q=>∃ p xs i v,x=.ref p∧y=.int i∧SqT K H p xs∧atI xs i=some v∧Q v H
theorem c6n:IxR X (rIxL X.K):=by
 intro value slice pins s σ H x y v u Q I rx ry h hs
 obtain ⟨p,xs,i,z,rfl,rfl,hq,he,q⟩:=h
 cases rx
 obtain ⟨t,rfl⟩:=ry
 obtain ⟨its,r,pl,hz⟩:=I.list hq
 obtain ⟨j,h1,h2,h3,h4,h5⟩:=b9y he
 obtain ⟨w,ew,rw'⟩:=r.get h2
 have hl:=r.length
 have hn:=b0a
 have fin:EP X pins σ Q w s:=⟨z,H,I,rw',q⟩
 by_cases h0:0≤i
 ·have hj:i.toNat=j:=by
   rw [seqIndex_of h0 h5] at h1
   exact Option.some.inj h1
  exact item_listR pl.isList h0 (by lia) (by rw [hj]; simpa using ew) fin hs
 ·have hj:(i + (its.toArray.size:Int)).toNat=j:=by
   rw [seqIndex_neg (by lia) h4] at h1
   rw [List.size_toArray,← hl]
   exact Option.some.inj h1
  exact subscriptTail_builtinR (x:=w) pl.isList.typeIs slot_list_getitem.lookup
   (wpAny_getItem_list_neg (Q:=fun r s'=>r=w∧EP X pins σ Q r s') pl.isList (by lia) (by rw [List.size_toArray] <;> lia) (by lia) (by rw [hj]; simpa using ew) ⟨rfl,fin⟩) hs
theorem d1c:IxR X (rIxT X.K):=by
 intro value slice pins s σ H x y v u Q I rx ry h hs
 obtain ⟨p,xs,i,z,rfl,rfl,hq,he,q⟩:=h
 cases rx
 obtain ⟨t,rfl⟩:=ry
 obtain ⟨its,r,pl,hz⟩:=I.tuple hq
 obtain ⟨j,h1,h2,h3,h4,h5⟩:=b9y he
 obtain ⟨w,ew,rw'⟩:=r.get h2
 have hl:=r.length
 have hn:=b0a
 have fin:EP X pins σ Q w s:=⟨z,H,I,rw',q⟩
 exact subscriptTail_builtinR (x:=w) pl.typeIs slot_tuple_getitem.lookup
  (getItem_tuple (j:=j) (Q:=fun r s'=>r=w∧EP X pins σ Q r s') pl (by lia) (by lia) (by rw [List.size_toArray,← hl]; exact h1) (by simpa using ew) ⟨rfl,fin⟩) hs
theorem b3u (its:List Value) (n j:Nat) (u:Value):Obj.mapSeq (·.setIfInBounds j u) { cls:=.type "list",data:=.seq its.toArray n } = { cls:=.type "list",data:=.seq (its.set j u).toArray n }:=by
 simp [Obj.mapSeq]
theorem Inv.lst {pins:List (Addr×Obj)} {σ:St} {H:Hp} {s:Shared} {p:Addr} {xs:List V} (I:Inv X pins σ H s) (h:H p=some (.lst xs)) :
  ∃ (its:List Value) (n:Nat),Vals xs its∧s.heap.get? p=some { cls:=.type "list",data:=.seq its.toArray n }∧xs.length≤sizeLine:=by
 obtain ⟨z,its,n,r,e⟩:=I.hok p _ h
 exact ⟨its,n,r,e,z⟩
theorem Inv.lstUpd {pins:List (Addr×Obj)} {σ:St} {H:Hp} {s:Shared} {p:Addr} {xs ys:List V} {its its':List Value} {n n':Nat} {f:Obj→Obj} (I:Inv X pins σ H s) (h:H p=some (.lst xs))
  (ho:s.heap.get? p=some { cls:=.type "list",data:=.seq its.toArray n }) (hf:f { cls:=.type "list",data:=.seq its.toArray n } = { cls:=.type "list",data:=.seq its'.toArray n' }) (r:Vals ys its') (hz:ys.length≤sizeLine) (t:Nat) :
  Inv X pins σ (upd H p (.lst ys)) { s with heap:=s.heap.update p f,toks:=t }:=by
 have e:(s.heap.update p f).get? p=some { cls:=.type "list",data:=.seq its'.toArray n' }:=by
  rw [Heap.get?_update_self f ho (by rw [hf] <;> rfl),hf]
 refine I.write (x:=p) (e:=p) (by rw [h]; trivial) (.inl rfl) (fun b u hb q=>(Γf _ _ (Ne.symm hb)).trans q) ⟨_,e⟩ ?_
 exact ⟨hz,its',n',r,e⟩
def d6g:V→V→V→Hp→(Hp→Prop)→Prop:=fun o i v H Q=>∃ p xs k j,o=.ref p∧i=.int k∧H p=some (.lst xs)∧ixN xs.length k=some j∧Q (upd H p (.lst (xs.set j v)))
theorem b2e:d4y X d6g:=by
 intro pins s σ H o i v ov iv u Q I ro ri rv h
 obtain ⟨p,xs,k,j,rfl,rfl,hp,hj,q⟩:=h
 cases ro
 obtain ⟨t,rfl⟩:=ri
 obtain ⟨its,n,r,ho,hz⟩:=I.lst hp
 obtain ⟨h1,h2,h3,h4⟩:=b7u hj
 have hl:=r.length
 have hn:=b0a
 have I':Inv X pins σ (upd H p (.lst (xs.set j v))) { s with heap:=s.heap.update p (Obj.mapSeq (·.setIfInBounds j u)) } :=
  I.lstUpd hp ho (b3u its n j u) (r.set rv j) (by rw [List.length_set]; exact hz) s.toks
 by_cases h0:0≤k
 ·have hk:k.toNat=j:=by
   rw [seqIndex_of h0 h4] at h1
   exact Option.some.inj h1
  exact PySem.W.ki_setAt ho h0 (by lia) (by rw [List.size_toArray,← hl]; exact h4) (by rw [hk]; exact ⟨_,I',q⟩)
 ·have hk:(k + (its.toArray.size:Int)).toNat=j:=by
   rw [seqIndex_neg (by lia) h3] at h1
   rw [List.size_toArray,← hl]
   exact Option.some.inj h1
  exact PySem.W.ki_setBack ho (by lia) (by rw [List.size_toArray,← hl]; exact h3) (by lia) (by rw [hk]; exact ⟨_,I',q⟩)
theorem a9l (lo hi:Option Int) (n:Nat):(sliceBounds lo hi none n).1=((HT.sIx n 0 lo:Nat):Int)∧(sliceBounds lo hi none n).2.1=((HT.sIx n n hi:Nat):Int)∧(sliceBounds lo hi none n).2.2=1:=by
 refine ⟨?_,?_,rfl⟩
 ·cases lo with
  | none=>simp [sliceBounds,HT.sIx]
  | some i =>
   simp only [sliceBounds,HT.sIx,Option.getD_none,show (1:Int) > 0 by decide,if_true]
   by_cases h:i < 0
   ·simp only [h,if_true] <;> lia
   ·simp only [h,if_false] <;> lia
 ·cases hi with
  | none=>simp [sliceBounds,HT.sIx]
  | some i =>
   simp only [sliceBounds,HT.sIx,Option.getD_none,show (1:Int) > 0 by decide,if_true]
   by_cases h:i < 0
   ·simp only [h,if_true] <;> lia
   ·simp only [h,if_false] <;> lia
theorem a8f (its:List Value) (lo hi:Option Int):slicePick its.toArray lo hi none=((its.drop (HT.sIx its.length 0 lo)).take (HT.sIx its.length its.length hi - HT.sIx its.length 0 lo)).toArray:=by
 obtain ⟨h1,h2,h3⟩:=a9l lo hi its.toArray.size
 unfold slicePick
 rw [h1,h2,h3]
 simp only [sliceRange_one,pick_run,List.size_toArray] <;> rfl
def rSlL (K:Γd):V→Option Int→Option Int→Hp→VK→Prop:=fun x lo hi H Q=>∃ a xs,x=.ref a∧SqL K H a xs∧∀ p,H p=none→Q (.ref p) (upd H p (.lst (c4c xs lo hi)))
theorem c4s:SlR X (rSlL X.K):=by
 intro pins s σ H x v vl vu lo hi sl Q I rx hs pl pu h
 obtain ⟨a,xs,rfl,hx,q⟩:=h
 cases rx
 obtain ⟨its,r,ht,hz⟩:=I.list hx
 have hlen:=r.length
 refine ⟨"list",_,slot_list_getitem.lookup,ht.isList.typeIs,?_⟩
 refine wpAny_getItem_list_slice ht.isList hs pl pu .none (by simp) ?_ (by rw [List.size_toArray] <;> lia)
 rw [a8f,← hlen]
 refine ⟨.ref s.heap.objs.size,_,I.laid (t':=s.toks) (o:=.lst (c4c xs lo hi)) (fun b ob q=>Γc _ q) (Γi _) ?_,rfl,q _ (I.hok.fresh (Γi _))⟩
 exact ⟨Nat.le_trans (a6o xs lo hi) hz,_,0,(r.drop (HT.sIx xs.length 0 lo)).take (HT.sIx xs.length xs.length hi - HT.sIx xs.length 0 lo),Γm _ rfl⟩
theorem b0l:a1k X (.builtin "len") (fun xs H Q=>∃ p ys,xs=[.ref p]∧(SqL X.K H p ys ∨ SqT X.K H p ys)∧Q (.int ys.length) H):=by
 intro pins s σ H xs us Q I r h
 obtain ⟨p,ys,rfl,hq,q⟩:=h
 obtain ⟨u,rfl,rx⟩:=a4c r
 cases rx
 have hn:=b0a
 rcases hq with hq | hq
 ·obtain ⟨its,r',pl,hz⟩:=I.list hq
  have hlen:=r'.length
  exact Calls.call_len_list pl.isList (by simp only [List.size_toArray] <;> lia) ⟨.int ys.length,H,I.tok _,⟨s.toks + 1,by rw [List.size_toArray,hlen]⟩,q⟩
 ·obtain ⟨its,r',pl,hz⟩:=I.tuple hq
  have hlen:=r'.length
  exact len_tuple pl (by simp only [List.size_toArray] <;> lia) ⟨.int ys.length,H,I.tok _,⟨s.toks + 1,by rw [List.size_toArray,hlen]⟩,q⟩
theorem a2u:a1k X (.type "tuple") (fun xs H Q=>∃ p ys,xs=[.ref p]∧((SqL X.K H p ys∧∀ l,H l=none→Q (.ref l) (upd H l (.tup ys))) ∨ (SqT X.K H p ys∧Q (.ref p) H))):=by
 intro pins s σ H xs us Q I r h
 obtain ⟨p,ys,rfl,h⟩:=h
 obtain ⟨u,rfl,rx⟩:=a4c r
 cases rx
 rcases h with ⟨hq,q⟩ | ⟨hq,q⟩
 ·obtain ⟨its,r',pl,hz⟩:=I.list hq
  have hlen:=r'.length
  refine call_tuple_list pl.isList (fun h' kp=>?_) (by simp only [List.size_toArray] <;> lia)
  have I1:Inv X pins σ H { s with heap:=h' }:=I.kept (t':=s.toks) kp
  have I2:Inv X pins σ (upd H h'.objs.size (.tup ys)) { s with heap:=h'.push { cls:=.type "tuple",data:=.seq its.toArray } } :=
   I1.laid (t':=s.toks) (fun b o e=>Γc _ e) (Γi _) (show ObjOk X.prog X.w _ _ _ (.tup ys) from ⟨hz,its,r',IsTup.new _ _⟩)
  exact ⟨.ref h'.objs.size,_,I2,rfl,q _ (I1.hok.fresh (Γi _))⟩
 ·obtain ⟨its,r',pl,hz⟩:=I.tuple hq
  exact call_tuple_same pl ⟨.ref p,H,I,rfl,q⟩
def tyV (K:Γd) (T:String) (x:V) (H:Hp):Prop:=match x with
 | .str _=>T = "str"
 | .int _=>T = "int"
 | .ref p=>(T = "list"∧∃ xs,SqL K H p xs) ∨ (T = "tuple"∧∃ o,K.lookup p=some o∧o.cls=.type "tuple"∧o.dict=none) ∨
   (T = "dict"∧((∃ kvs,H p=some (.dK kvs)) ∨ ∃ kvs,H p=some (.dT kvs))) ∨ (T = "set"∧∃ S n,H p=some (.set S n))
 | _=>False
theorem c3c {pins:List (Addr×Obj)} {σ:St} {H:Hp} {s:Shared} {T:String} {x:V} {v:Value} (I:Inv X pins σ H s) (r:RelV x v) (ty:tyV X.K T x H) :
  s.TypeIs v T∧∀ a,v=.ref a→∃ ob,s.heap.get? a=some ob∧ob.dict=none:=by
 cases x with
 | str z =>
  obtain ⟨t,rfl⟩:=r
  cases (show T = "str" from ty)
  exact ⟨typeIs_str s z t,fun _ e=>nomatch e⟩
 | int i =>
  obtain ⟨t,rfl⟩:=r
  cases (show T = "int" from ty)
  exact ⟨typeIs_int s i t,fun _ e=>nomatch e⟩
 | ref p =>
  cases r
  rcases ty with ⟨rfl,xs,hq⟩ | ⟨rfl,o,hk,hc,hd⟩ | ⟨rfl,hk⟩ | ⟨rfl,S,n,hk⟩
  ·obtain ⟨its,_,pl,_⟩:=I.list hq
   refine ⟨pl.isList.typeIs,fun a e=>?_⟩
   cases e
   obtain ⟨o,n,e,c,hd,_⟩:=pl
   exact ⟨o,e,hd⟩
  ·refine ⟨⟨o,I.kIn p o hk,hc⟩,fun a e=>?_⟩
   cases e
   exact ⟨o,I.kIn _ o hk,hd⟩
  ·have z:∃ o,s.heap.get? p=some o∧o.ExactDict:=by
    rcases hk with ⟨kvs,hk⟩ | ⟨kvs,hk⟩
    ·obtain ⟨_,_,_,_,o,_,_,e,ex,_⟩:=I.hok p _ hk
     exact ⟨o,e,ex⟩
    ·obtain ⟨_,_,_,_,o,_,_,e,ex,_⟩:=I.hok p _ hk
     exact ⟨o,e,ex⟩
   obtain ⟨o,e,ex⟩:=z
   refine ⟨⟨o,e,ex.1⟩,fun a e2=>?_⟩
   cases e2
   exact ⟨o,e,ex.2.1⟩
  ·obtain ⟨o,_,_,_,e,ex,_⟩:=I.hok p _ hk
   refine ⟨⟨o,e,ex.1⟩,fun a e2=>?_⟩
   cases e2
   exact ⟨o,e,ex.2.1⟩
 | _=>exact False.elim ty
def tBM (K:Γd) (T:String) (r:V→List V→Hp→VK→Prop) (to:TE) (t:TA):TE:=fun σ H Q=>to σ H fun x H1=>tyV K T x H1∧t σ H1 fun xs H2=>r x xs H2 Q
variable {o e:Expr} {es:List Expr} {to:TE} {t:TA} {name:Str} {apos cpos:Pos} {T id:String} {r:V→List V→Hp→VK→Prop}
theorem d6w (pa:PlainAttrs T) (slot:Slot T name id) (hty:typeOf (.builtin id)=pure (.type "method_descriptor")) (hm:MtR X id r) (ho:PE X o to) (ha:PA X (e :: es) t)
  (hbase:attributeBase o name X.env (eval o X.env)=eval o X.env:=by rfl)
  (hfew:((backTo cpos (starEach (e :: es) X.env)).all (fun x=>!x.1) && (backToKw cpos (keywordEach [] X.env)).all (fun x=>x.1.isSome)
   && decide ((e :: es).length + ([]:List Keyword).length + (if ([]:List Keyword).isEmpty then 0 else 1) < 30))=true:=by rfl)
  (hline:(apos.endLine == cpos.line)=true:=by rfl) (hs:starEach (e :: es) X.env=(false,eval e X.env) :: starEach es X.env:=by rfl) (hplain:(backTo cpos (starEach es X.env)).any (·.1)=false:=by rfl) :
  PE X (.Call (.Attribute o name apos) (e :: es) [] cpos) (tBM X.K T r to t):=by
 intro pins s σ H Q I h
 refine wpAny_Call_method_late hbase hfew hline rfl (thn (ho pins s σ H _ I h) fun v s1 ⟨x,H1,I1,r1,ty,q1⟩=>?_)
 obtain ⟨h1,h2⟩:=c3c I1 r1 ty
 refine ⟨T,id,pa,slot,hty,h1,h2,?_⟩
 have hA:=ha cpos pins s1 σ H1 _ I1 q1
 rw [hs] at hA ⊢
 refine Calls.callWith_builtin (by show (false || (backTo cpos (starEach es X.env)).any (·.1))=false; rw [hplain] <;> rfl) (Calls.evalArgs_plain ?_)
 exact thn hA fun us s2 ⟨vs,H2,I2,r2,q2⟩=>hm pins s2 σ H2 x vs v us Q I2 r1 r2 q2
/- xs.append(e),list.index on a module's tuple .. are MtR facts of 06m -/
end
end L2
namespace L2
open PySem PySem.Spec PyProof.Rows
def MtM (X:Cx) (id:String) (r:V→List V→Hp→VK→Prop):Prop :=
 ∀ (pins:List (Addr×Obj)) (s:Shared) (σ:St) (H:Hp) (x:V) (xs:List V) (v:Value) (us:List Value) (Q:VK),Inv X pins σ H s→RelV x v→Vals xs us→r x xs H Q →
  wpAny (model X.prog X.w) X.A (call (.builtin id) (v :: us)) (EP X pins σ Q) X.xe s
theorem Vals.one:∀ {x:V} {us:List Value},Vals [x] us→∃ u,us=[u]∧RelV x u
 | _,_,.cons r .nil=>⟨_,rfl,r⟩
theorem Vals.dropLast {xs:List V} {us:List Value} (h:Vals xs us):Vals xs.dropLast us.dropLast:=by
 induction h with
 | nil=>exact .nil
 | cons r t ih =>
  cases t with
  | nil=>exact .nil
  | cons q t'=>exact .cons r ih
theorem Vals.eraseIdx:∀ {xs:List V} {us:List Value} (i:Nat),Vals xs us→Vals (xs.eraseIdx i) (us.eraseIdx i)
 | _,_,_,.nil=>.nil
 | _,_,0,.cons _ t=>t
 | _,_,i + 1,.cons r t=>.cons r (Vals.eraseIdx i t)
theorem Vals.reverse {xs:List V} {us:List Value} (h:Vals xs us):Vals xs.reverse us.reverse:=by
 induction h with
 | nil=>exact .nil
 | cons r t ih=>rw [List.reverse_cons,List.reverse_cons]; exact Vals.append ih (.cons r .nil)
theorem Vals.rep {xs:List V} {us:List Value} (h:Vals xs us):∀ k:Nat,Vals (Γj k xs).flatten (Γj k us).flatten
 | 0=>.nil
 | k + 1=>by
  rw [List.replicate_succ,List.replicate_succ,List.flatten_cons,List.flatten_cons]
  exact Vals.append h (Vals.rep h k)
theorem b0g (its:List Value):∀ (k:Nat) (acc:List Value),
  List.foldl (fun x1 x2=>x1++x2) acc.toArray (Γj k its.toArray)=(acc++(Γj k its).flatten).toArray
 | 0,acc=>by simp
 | k + 1,acc=>by
  have e:acc.toArray++its.toArray=(acc++its).toArray:=by simp
  have e2:(acc++its)++(Γj k its).flatten=acc++(Γj (k + 1) its).flatten:=by
   rw [List.replicate_succ,List.flatten_cons,List.append_assoc]
  rw [← e2,← b0g its k (acc++its),← e,List.replicate_succ,List.foldl_cons]
section
variable {X:Cx} {pins:List (Addr×Obj)} {σ:St} {H:Hp} {s:Shared} {l b:Addr} {xs ys zs:List V}
theorem Inv.lset {its its':List Value} {n:Nat} {f:Array Value→Array Value} {t':Nat} (I:Inv X pins σ H s) (hH:H l=some (.lst xs))
  (e:s.heap.get? l=some { cls:=.type "list",data:=.seq its.toArray n }) (hf:f its.toArray=its'.toArray) (hv:Vals ys its') (hz:ys.length≤sizeLine) :
  Inv X pins σ (upd H l (.lst ys)) { s with heap:=s.heap.update l (Obj.mapSeq f),toks:=t' }:=by
 have q:=PySem.IsL.update e f
 rw [hf] at q
 refine I.write (x:=l) (e:=l) (by rw [hH]; exact trivial) (.inl rfl) (fun b' u hb hu=>(Γf s.heap (Obj.mapSeq f) (Ne.symm hb)).trans hu) ⟨_,q⟩ ?_
 exact ⟨hz,its',_,hv,q⟩
theorem Inv.lnew {its:List Value} {t':Nat} (I:Inv X pins σ H s) (hv:Vals ys its) (hz:ys.length≤sizeLine) :
  Inv X pins σ (upd H s.heap.objs.size (.lst ys)) { s with heap:=s.heap.push { cls:=.type "list",data:=.seq its.toArray },toks:=t' } :=
 I.laid (fun _ _ q=>Γc _ q) (Γi _) ⟨hz,its,0,hv,Γm _ rfl⟩
theorem Inv.fresh (I:Inv X pins σ H s):H s.heap.objs.size=none:=I.hok.fresh (Γi _)
theorem Inv.lstM (I:Inv X pins σ H s) (hH:H l=some (.lst xs)):xs.length≤sizeLine∧∃ (its:List Value) (n:Nat),Vals xs its∧xs.length=its.length∧s.heap.get? l=some { cls:=.type "list",data:=.seq its.toArray n }:=by
 obtain ⟨z,its,n,r,e⟩:=I.hok l _ hH
 exact ⟨z,its,n,r,r.length,e⟩
theorem c1m {n:Nat} (h:n≤sizeLine):Builtin.List.listTooLong n=false:=by
 unfold Builtin.List.listTooLong
 exact decide_eq_false (by lia)
end
section
variable {X:Cx}
def c5b:V→List V→Hp→VK→Prop:=fun x vs H Q=>∃ l xs y,x=.ref l∧vs=[y]∧H l=some (.lst xs)∧xs.length < sizeLine∧Q .non (upd H l (.lst (xs++[y])))
theorem a5v:MtM X "list.append" c5b:=by
 intro pins s σ H x vs v us Q I rx rv h
 obtain ⟨l,xs,y,rfl,rfl,hH,hz,q⟩:=h
 cases rx
 obtain ⟨u,rfl,ru⟩:=rv.one
 obtain ⟨z,its,n,r,hl,e⟩:=I.lstM hH
 refine call_meets F.slot_list_append ⟨_,e,rfl⟩ F.entry_list_append (F.args_list_append_2 _ _) (PySem.list_append l its.toArray n u (by rw [List.size_toArray]; lia)) ⟨e,?_⟩
 refine ⟨.non,_,I.lset (its':=its++[u]) hH e (by simp) (r.append (.cons ru .nil)) ?_,rfl,q⟩
 rw [List.length_append,List.length_singleton]
 lia
def rCat:R2:=fun x y H Q=>∃ l b xs zs,x=.ref l∧y=.ref b∧H l=some (.lst xs)∧H b=some (.lst zs)∧xs.length + zs.length≤sizeLine∧∀ p,H p=none→Q (.ref p) (upd H p (.lst (xs++zs)))
theorem d0o:OpR X (binaryOp .Add) rCat:=by
 intro pins s σ H x y v u Q I rx ry h
 obtain ⟨l,b,xs,zs,rfl,rfl,hH,hB,hz,q⟩:=h
 cases rx
 cases ry
 obtain ⟨z,its,n,r,hl,e⟩:=I.lstM hH
 obtain ⟨z2,its2,n2,r2,hl2,e2⟩:=I.lstM hB
 refine PySem.P.add_list e e2 ?_ (by rw [List.size_toArray,List.size_toArray]; lia)
 have ea:its.toArray++its2.toArray=(its++its2).toArray:=by simp
 rw [ea]
 exact ⟨.ref _,_,I.lnew (t':=s.toks) (r.append r2) (by rw [List.length_append]; lia),rfl,q _ I.fresh⟩
def rRep:R2:=fun x y H Q=>∃ l k xs,x=.ref l∧y=.int k∧H l=some (.lst xs)∧-(2 ^ 63)≤k∧k < 2 ^ 63∧xs.length * k.toNat≤sizeLine ∧
 ∀ p,H p=none→Q (.ref p) (upd H p (.lst (Γj k.toNat xs).flatten))
theorem c6k {α:Type} (xs:List α) (k:Nat):(Γj k xs).flatten.length=k * xs.length:=by
 induction k with
 | zero=>simp
 | succ k ih=>rw [List.replicate_succ,List.flatten_cons,List.length_append,ih,Nat.succ_mul,Nat.add_comm]
theorem d0i:OpR X (binaryOp .Mult) rRep:=by
 intro pins s σ H x y v u Q I rx ry h
 obtain ⟨l,k,xs,rfl,rfl,hH,h1,h2,hz,q⟩:=h
 cases rx
 obtain ⟨t,rfl⟩:=ry
 obtain ⟨z,its,n,r,hl,e⟩:=I.lstM hH
 have hlen:its.toArray.size * k.toNat≤sizeLine:=by rw [List.size_toArray,← hl]; exact hz
 have hcap:¬ its.toArray.size * k.toNat > (2 ^ 63 - 1) / 8:=by
  have:(sizeLine:Nat)≤(2 ^ 63 - 1) / 8:=by decide
  lia
 have hfit:¬ (!Builtin.List.listFitsIndex k)=true:=by
  rw [fitsIndex_both h1 h2]
  exact Γk
 have hlong:¬ Builtin.List.listTooLong (its.toArray.size * k.toNat)=true:=by
  rw [c1m hlen]
  exact Γk
 have hnew:List.foldl (fun x1 x2=>x1++x2) #[] (Γj (if its.toArray.isEmpty=true then 0 else k.toNat) its.toArray)=(Γj k.toNat its).flatten.toArray:=by
  have f0:∀ m:Nat,List.foldl (fun x1 x2=>x1++x2) #[] (Γj m its.toArray)=(Γj m its).flatten.toArray:=fun m=>by
   have:=b0g its m []
   rw [List.nil_append] at this
   exact this
  rw [f0]
  cases its with
  | nil=>simp
  | cons a r'=>rw [if_neg (by simp)]
 refine wpAny_binaryOp_repeat_ref (T:="list") (U:="int") (by decide) ⟨_,e,rfl⟩ (fun s'=>typeIs_int s' k t) noFill_list_mul F.fills_int_mul F.slot_int_rmul repeat_list F.slot_int_index.lookup
  (call_meets F.slot_int_rmul (typeIs_int s k t) F.entry_int_rmul (F.args_int_rmul_2 _ _) (int___rmul___int_list k t l its.toArray n)
   ⟨e,rfl,⟨_,e,rfl⟩,call_meets F.slot_list_mul ⟨_,e,rfl⟩ F.entry_list_mul (F.args_list_mul_2 _ _) (AutoListH.list___mul___list_int_3 l its.toArray n k t hfit hcap hlong) ⟨e,?_⟩⟩)
 rw [hnew]
 exact ⟨.ref _,_,I.lnew (t':=s.toks) (r.rep k.toNat) (by rw [c6k,Nat.mul_comm]; exact hz),rfl,q _ I.fresh⟩
end
section
variable {prog:Program} {w:World} {A:Around} {E:Value→Shared→Prop} {s:Shared}
set_option maxRecDepth 100000 in
end
section
variable {X:Cx}
end
end L2
namespace Att
open PySem PySem.W PySem.Calls PyProof.Rows
theorem a6f {P:Params} {h:Heap}:∀ (ns:List Int) (vs:List Value),WellAll P h vs (ns.map WData.int)→IntsAre vs ns:=by
 intro ns
 induction ns with
 | nil =>
  intro vs w
  rw [List.map_nil] at w
  cases w
  exact .nil
 | cons n ns ih =>
  intro vs w
  rw [List.map_cons] at w
  cases w with
  | cons a b =>
   cases a
   exact .cons _ _ (ih _ b)
theorem b5m {l:OpenLaw} {n:Nat} (hn:l.most=some n) {P:Params} {h:Heap} {args:List WData} {vals:List Value}
  (hpre:l.row.toRowW.claim.pre args=true) (hwl:WellAll P h vals args) :
  ∃ a vs ns,vals=[Value.ref a]∧args=[WData.list (ns.map WData.int)]∧h.get? a=some { cls:=.type "list",data:=.seq vs.toArray }∧IntsAre vs ns∧ns.length≤n:=by
 have hsh:WShape.hasAll [] args [.list .int]=true:=(pre_splitW hpre).1
 have hc:l.pre.holds [] { args:=args } = true:=(pre_splitW hpre).2
 obtain ⟨d,r,rfl,h1,h2⟩:=hasAllW_cons hsh
 obtain rfl:=hasAllW_nil h2
 obtain ⟨xs,rfl,h3⟩:=hasW_list h1
 obtain ⟨ns,rfl⟩:=items_int h3
 have hlen:ns.length≤n:=by
  unfold OpenLaw.pre at hc
  have h4:(WTm.not (.lt (.lit (.int (n:Int))) (.len (.arg 0)))).holds [] { args:=[.list (ns.map .int)] } = true:=by
   have h4:=(holds_andW hc).1
   rw [hn] at h4
   exact h4
  have h5:=condW_of h4 (w_not (w_lt w_lit (w_len_list (w_arg rfl))))
  rw [List.length_map] at h5
  refine Nat.le_of_not_lt fun q=>?_
  have q':(n:Int) < ((ns.length:Nat):Int):=by lia
  first
   | (rw [decide_eq_true q'] at h5; exact absurd h5 (by decide))
   | (simp at h5; lia)
 cases hwl with
 | cons w1 w2 =>
  cases w2
  cases w1 with
  | list ho hall=>exact ⟨_,_,ns,rfl,rfl,ho,a6f ns _ hall,hlen⟩
theorem b6e (l:OpenLaw) (args:List WData):l.row.toRowW.claim.post args (.bool true) args=true :=
 postW_of (r:=l.row.toRowW) (X:=(true == true))
  (show WShape.has [] (.bool true) .bool=true by first | rfl | decide | simp [WShape.has,WShape.arms,WShape.armsAll])
  (show (WTm.eq .res (.lit (.bool true))).value [] { args:=args,res:=some (.bool true),after:=args } = some (.bool (true == true)) from w_eq_bool (w_res rfl) w_lit) rfl
theorem attach_call {l:OpenLaw} {n:Nat} {q:Program} {loose:List Str} {XP:(Str→Option Value)→Heap→Prop} {YP:World→Heap→Prop} {d:DefRec}
  (hn:l.most=some n) (hdf:d.params.defaults=[])
  (call:∀ (w:World) (s₀ s₁:Shared) (mg mb:Str→Option Value) (fa:Addr) (o:Obj) (pm cd doc:Value) (a:Addr) (vs:List Value) (ns:List Int),
   Ground q loose [] XP w s₀ mg mb s₁.heap→YP w s₁.heap →
   s₁.heap.get? fa=some o→o.data=.func (docDef d.name d.params d.body d.scope pm cd doc)→s₁.heap.CodeRec cd d.name→mg d.name=some (.ref fa) →
   s₁.heap.get? a=some { cls:=.type "list",data:=.seq vs.toArray }→IntsAre vs ns→ns.length≤n→s₁.gens = #[] →
   codeAny (model l.prog w) callerA (.call (.ref fa) ⟨[.ref a],[]⟩) (fun r s'=>r=.ok (.ret (.bool true))∧OldK s₁.heap s'.heap∧s'.os=s₁.os∧AllBare s'.gens) s₁) :
  WalkO q loose XP YP l.row.toRowW d [] (fun f vs=>PySem.call f vs):=by
 intro w s₀ s₁ mg mb G Y fa o pm cd doc dV kV ho hd hcd hD hmg hg args vals as hpre hlay hrd hwl hlo
 obtain rfl:dV=.none:=Dflts.none hD hdf
 obtain rfl:kV=.none:=Dflts.noKw hD
 obtain ⟨a,vs,ns,rfl,rfl,hobj,hints,hlen⟩:=b5m hn hpre hwl
 refine enter_call (codeAny_mono (call w s₀ s₁ mg mb fa o pm cd doc a vs ns G Y ho (fd_plain hd) hcd hmg hobj hints hlen hg) fun r s' hq=>?_)
 obtain ⟨rfl,h2,h3,h4⟩:=hq
 exact ⟨.inl ⟨.bool true,.bool true,[],rfl,fun _=>rfl,.bool true,b6e l _,fun _=>⟨List.Pairwise.nil,fun _ hm=>(nomatch hm)⟩⟩,h2,h3,h4⟩
section
variable {prog:Program} {w:World} {A:Around} {E:Value→Shared→Prop} {s:Shared} {K:Frag}
theorem e0u {R:Result→Shared→Prop} {name qual:Str} {params:Arguments} {body:List Stmt} {scope:Scope} {dV kV doc pm cdv ct oc:Value} {an od:Option Addr} {osl:Array (Option Value)} {f:Addr} {args:Args} {binds:List (Str×Value)}
  (X:K.In s.heap) (hlim:s.heap.NoLimit) (ho:K.lookup f=some ⟨oc,od,.func (fnOf name qual params body scope dV kV doc pm an cdv ct),osl⟩) (hcd:codeIn K cdv qual=true) (hroom:A.depth < recursionLimit)
  (hbind:BindsTo s (fnOf name qual params body scope dV kV doc pm an cdv ct) args binds)
  (hkind:(binds.all fun y=>scope.names.lookup y.1 == some .local || scope.names.lookup y.1 == some .cell)=true)
  (h:∀ s₁,InCallC s s.heap.objs.size (bindL (envOfC qual scope s.heap.objs.size f cdv).kindOf binds fun _=>none) (cellsFrom (s.heap.objs.size + 1) scope.names [])
    (bindC (envOfC qual scope s.heap.objs.size f cdv).kindOf binds fun _=>none) s₁ →
   wpAny (model prog w) (A.deeper (envOfC qual scope s.heap.objs.size f cdv)) (execs body (envOfC qual scope s.heap.objs.size f cdv))
    (fun fl s'=>R (.ok (.ret (match fl with | .ret v=>v | _=>.none))) s')
    (fun e s'=>wpAny (model prog w) (A.deeper (envOfC qual scope s.heap.objs.size f cdv)) (leaving (envOfC qual scope s.heap.objs.size f cdv) e) (fun _ s''=>R (.error e) s'') (fun e' s''=>R (.error e') s'') s') s₁)
  (hco:scope.isCoroutine=false) (hgen:scope.isGenerator=false) (hk:scope.kind=.function):codeAny (model prog w) A (.call (.ref f) args) R s:=by
 refine codeAny_call_function hroom (X _ _ ho) rfl hco hgen rfl (codeRec_of X hcd) (hbind _ _ _ _ ?_)
 refine wpAny_newFunctionEnv_cells hk (kindsX hkind _) fun env he s₁ x=>?_
 subst he
 exact ⟨hlim.keeps x.toInCall.keep,codeAny_func (h s₁ x)⟩
def ledger (h:Heap) (L d:Addr):List (Addr×Obj):=(List.range h.objs.size).filterMap fun a=>if a=L ∨ a=d then none else (h.get? a).map fun o=>(a,o)
end
end Att
namespace L2
open PySem PySem.Spec PyProof.Rows
theorem a9i:∀ {vs:List Value} {ns:List Int},IntsAre vs ns→Vals (ns.map V.int) vs
 | _,_,.nil=>.nil
 | _,_,.cons n t h=>.cons ⟨t,rfl⟩ (a9i h)
def d2y (H:Hp):Prop:=∀ b,H b=none ∨ ∃ o xs,H b=some (.frz o (.lst xs))
theorem b2w {P:Program} {w:World} {K:Γd} {mg mb:Str→Option Value} {CX:CXT} {k:Nat} {fa a:Addr} {fd:FuncData} {x:Str} {sp:Sp} {s₁:Shared} {vs:List Value} {ns:List Int}
  (KX:K.In s₁.heap) (hns:s₁.heap.Ns mainGlobals mg) (hb:s₁.heap.Ns builtinsNs mb) (hbb:∀ x:Str,x≠"__name__"→mb x=bootBuiltins x) (hlim:s₁.heap.NoLimit) (hg:s₁.gens = #[])
  (ha:s₁.heap.get? a=some { cls:=.type "list",data:=.seq vs.toArray }) (hi:IntsAre vs ns) (hl:ns.length≤sizeLine) (hr:Room k callerA)
  (F:∀ base:Heap,K.In base→base.Ns mainGlobals mg→FnOk P w K mg base CX k fa fd [x] sp) (hbind:∀ (s:Shared) (u:Value),BindsTo s fd ⟨[u],[]⟩ [(x,u)])
  (hsp:∀ H:Hp,d2y H→SqL K H a (ns.map V.int)→sp [.ref a] H (fun v _=>v=.bl true) fun _ _ _=>False)
  (hCX:∀ H e s',CX [] H s₁ (fun _ _ _=>False) e s'→False) :
  codeAny (model P w) callerA (.call (.ref fa) ⟨[.ref a],[]⟩) (fun r s'=>r=.ok (.ret (.bool true))∧OldK s₁.heap s'.heap∧s'.os=s₁.os∧AllBare s'.gens) s₁:=by
 have rv:=a9i hi
 have lenV:=hi.length
 -- from an abstract heap in which nothing but the script may be tracked
 have core:∀ H:Hp,d2y H→SqL K H a (ns.map V.int)→HOk P w H s₁.heap→(∀ b,H b≠none→b=a)→(H a≠none→K.lookup a=none) →
   codeAny (model P w) callerA (.call (.ref fa) ⟨[.ref a],[]⟩) (fun r s'=>r=.ok (.ret (.bool true))∧OldK s₁.heap s'.heap∧s'.os=s₁.os∧AllBare s'.gens) s₁:=by
  intro H hO hS hok hA hK
  have base_of:∀ {b:Addr} {o:Obj},s₁.heap.get? b=some o→H b=none→(c1x s₁.heap H).get? b=some o:=fun e n=>c1w e n
  have noA:∀ {b:Addr} {o:Obj} {es:Array DictEntry} {ep:Nat},s₁.heap.get? b=some o→o.data=.dict es ep→H b=none:=fun {b o es ep} e d=>by
   cases q:H b with
   | none=>rfl
   | some u =>
    have e':b=a:=hA b (by rw [q]; simp)
    subst e'
    rw [ha] at e; cases e
    have d':Data.seq vs.toArray _=Data.dict es ep:=d
    cases d'
  have nsK:∀ {b:Addr} {m:Str→Option Value},s₁.heap.Ns b m→(c1x s₁.heap H).Ns b m:=fun {b m} ⟨o,es,ep,e,d,r⟩=>⟨o,es,ep,base_of e (noA e d),d,r⟩
  have hKb:K.In (c1x s₁.heap H):=fun b o e=>base_of (KX b o e) (by
   cases q:H b with
   | none=>rfl
   | some u =>
    have e':b=a:=hA b (by rw [q]; simp)
    subst e'
    rw [hK (by rw [q]; simp)] at e; cases e)
  have hM:Mod K mg (c1x s₁.heap H):=⟨hKb,nsK hns,⟨mb,nsK hb,hbb⟩,let ⟨mc,h1,h2⟩:=hlim; ⟨mc,nsK h1,h2⟩⟩
  have e0:Env0 P w K mg (c1x s₁.heap H) callerA [] s₁ H:=⟨rfl,hM,fun b o e=>c6b e,Nat.le_of_eq (b8c _ _),trivial,fun b hb=>absurd (show b∈([]:List Addr) from hb) (by simp),hok,.of_eq hg⟩
  refine codeAny_mono ((F _ hKb (nsK hns)).run callerA [] s₁ H ⟨[.ref a],[]⟩ [.ref a] [.ref a] _ _ hr e0 (hbind s₁ (.ref a)) (.cons rfl .nil) (hsp H hO hS)) fun r s' h=>?_
  cases r with
  | error e=>exact (hCX H e s' h).elim
  | ok fl =>
   cases fl with
   | next=>exact False.elim h
   | brk=>exact False.elim h
   | cont=>exact False.elim h
   | ret u =>
    obtain ⟨v,H',os,bare,un,hok',r',q⟩:=h
    have q':v=.bl true:=q
    subst q'
    obtain rfl:u=Value.bool true:=r'
    refine ⟨rfl,OldK.of_keep fun b o e=>?_,os,bare⟩
    cases q:H b with
    | none=>exact un.keep b o e q (by intro z; exact absurd (show b∈([]:List Addr) from z) (by simp)) (by simp)
    | some u =>
     rcases hO b with z | ⟨ob,xs,z⟩
     ·rw [q] at z; cases z
     ·have z2:=un.frzs b ob _ z
      obtain ⟨e1,_⟩:=hok b _ z
      obtain ⟨e2,_⟩:=hok' b _ z2
      rw [e] at e1; cases e1
      exact e2
 cases hk:K.lookup a with
 | some o =>
  -- the script is one of the module's own objects
  have e:=KX a o hk
  rw [ha] at e
  cases e
  refine core (fun _=>none) (fun _=>.inl rfl) (.inr ⟨_,vs.toArray,_,hk,rfl,rfl,rfl,by rw [List.size_toArray,lenV]; exact hl,by simpa using rv⟩) (fun b u z=>by have z':(none:Option HO)=some u:=z; cases z') (fun b z=>absurd rfl z) fun z=>absurd rfl z
 | none =>
  refine core (fun b=>if b=a then some (.frz { cls:=.type "list",data:=.seq vs.toArray } (.lst (ns.map V.int))) else none) (fun b=>?_) (.inl (.inr ⟨{ cls:=.type "list",data:=.seq vs.toArray },if_pos rfl⟩)) (fun b u z=>?_) (fun b z=>?_) fun _=>hk
  ·by_cases hb:b=a
   ·exact .inr ⟨_,_,if_pos hb⟩
   ·exact .inl (if_neg hb)
  ·by_cases hb:b=a
   ·have z':=(if_pos hb).symm.trans z
    cases z'
    subst hb
    exact ⟨ha,by rw [List.length_map]; exact hl,vs,_,rv,ha⟩
   ·have z':=(if_neg hb).symm.trans z
    cases z'
  ·by_cases hb:b=a
   ·exact hb
   ·exact absurd (if_neg hb) z
end L2
namespace L2
open PySem PySem.Spec PyProof.Rows
abbrev KOf {K:Γd} {h:Heap} (_:K.In h):Γd:=K
theorem walk_of {l:PySem.W.OpenLaw} {n k:Nat} {q:Program} {loose:List Str} {XP:(Str→Option Value)→Heap→Prop} {YP:World→Heap→Prop} {d:DefRec} {K:Params→Γd} {CX:World→CXT} {sp:World→Sp} {x:Str}
  (hn:l.most=some n) (hn2:n≤sizeLine) (hdf:d.params.defaults=[]) (hr:Room k callerA)
  (hY:∀ (w:World) (h:Heap),YP w h→(K w.params).In h)
  (F:∀ (w:World) (mg:Str→Option Value) (fa:Addr) (h:Heap),(K w.params).In h→h.Ns mainGlobals mg→mg d.name=some (.ref fa) →
   ∃ fd:FuncData,(∀ (s:Shared) (u:Value),BindsTo s fd ⟨[u],[]⟩ [(x,u)]) ∧
    ∀ base:Heap,(K w.params).In base→base.Ns mainGlobals mg→FnOk l.prog w (K w.params) mg base (CX w) k fa fd [x] (sp w))
  (hsp:∀ (w:World) (H:Hp) (a:Addr) (ns:List Int),ns.length≤n→d2y H→SqL (K w.params) H a (ns.map V.int)→sp w [.ref a] H (fun v _=>v=.bl true) fun _ _ _=>False)
  (hCX:∀ (w:World) (H:Hp) (s:Shared) (e:Value) (s':Shared),CX w [] H s (fun _ _ _=>False) e s'→False) :
  PySem.W.WalkO q loose XP YP l.row.toRowW d [] (fun f vs=>PySem.call f vs):=by
 refine Att.attach_call hn hdf fun w s₀ s₁ mg mb fa o pm cd doc a vs ns G Y ho hd hcd hmg hobj hints hlen hg=>?_
 have KX:=hY w _ Y
 obtain ⟨fd,hb,hF⟩:=F w mg fa _ KX G.T.g hmg
 exact b2w KX G.T.g G.T.b G.T.builtins G.T.nolimit hg hobj hints (Nat.le_trans hlen hn2) hr hF hb (fun H hO hS=>hsp w H a ns hlen hO hS) fun H e s'=>hCX w H s₁ e s'
end L2
/- THE LAST THEOREM (shape; LID, My.* are yours):
   My.Adr: a structure of the addresses that your layer names (classes, functions); My.Txt K t: a structure (Prop) of the equations over K;
   My.txt_mk : {K} {implicit addresses ..} (e1 : nsIn K mainGlobals "law" = some (some (.ref f))) (e2 : K.lookup f = some ⟨oc, od, .func (fnOf "law" "law" params body scope dV kV doc pm an cdv ct), sl⟩) (e3 : codeIn K cdv "law" = true) .. : ∃ t, My.Txt K t
set_option maxRecDepth 100000 in
set_option maxHeartbeats 0 in
theorem PySem.Challenge.cw_LID_holds:PySem.Challenge.rw_LID.Holds:=by
 w_on; o_law; k_head; (case hw=>w_witness2)
 k_fill
 refine L2.walk_of (l:=PySem.Challenge.rw_LID) (n:=63) (k:=40) (x:="script") (CX:=fun w=>..) (sp:=fun _=>My.sp_law) rfl (by decide) rfl ⟨rfl,by decide,by decide⟩ (fun w h Y=>PySem.W.kIn_of Y) ?F ?S ?C
 case F =>
  intro w mg fa h KX G hmg
  have T:∃ t,My.Txt (L2.KOf KX) t:=by
   dsimp only [L2.KOf]                          -- K must stand as «<heap const> w.params» for k_is
   refine' My.txt_mk ?e1 ?e2 ?e3 ..
   (case e1=>PySem.W.k_is)                    -- in the order: a name -> its address -> its object -> its parts
   (case e2=>PySem.W.k_is)
   ..
  obtain ⟨t,T⟩:=T
  have e0:=hmg.symm.trans (PySem.W.mg_of KX G T.law)
  cases e0                                       -- fa is the law's own address
  exact ⟨_,fun s u=>.of_eq rfl,fun base kb nb=>My.law_fn T kb nb⟩     -- if «.of_eq rfl» comes too early: refine' ⟨_,?b,fun base kb nb=>My.law_fn T kb nb⟩; exact fun s u=>.of_eq rfl
 case S=>exact fun w H a ns hl hO hS=>..
 case C=>exact ..
(the tactic k_is has no namespace: write k_is) -/
namespace L2
open PySem PySem.Spec PyProof.Rows
abbrev CX0:CXT:=fun _ _ _ _ _ _=>False
abbrev E0:XK:=fun _ _ _=>False
theorem b6q {X:Cx}:a5a CX0 X E0:=fun _ _ _ _ _ _ _ h=>h.elim
structure Fun (K:Γd) (x qual:Str) (st:Stmt) (f:Addr) (fd:FuncData):Prop where
 ex:∃ (oc:Value) (od:Option Addr) (kV doc pm:Value) (an:Option Addr) (cdv ct:Value) (osl:Array (Option Value)),
  fd=PySem.W.fnOf x qual (a3x st) (a1m st) (a0m st) .none kV doc pm an cdv ct∧K.lookup f=some ⟨oc,od,.func fd,osl⟩∧PySem.W.codeIn K cdv qual=true
 kp:PySem.W.keepIn K (.ref f)=true
section
variable {P:Program} {w:World} {K:Γd} {mg:Str→Option Value} {base:Heap}
theorem Fun.ok {x qual:Str} {st:Stmt} {f:Addr} {fd:FuncData} {N ps:List Str} {k:Nat} {sp:Sp} (F:Fun K x qual st f fd) (S:FnScope N ps (a0m st)) (len:∀ vs H Q E,sp vs H Q E→vs.length=ps.length)
  (hbody:∀ (cdv:Value) (A:Around) (outer:List Env) (s:Shared) (H:Hp) (vs:List V) (Q:VK) (E:XK),RoomS k (A.deeper (envOfC qual (a0m st) s.heap.objs.size f cdv))→sp vs H Q E →
   ∃ t,PSs (c7p CX0 P w K mg base N qual (a0m st) f cdv A outer s H E).nox (a1m st) t∧t { nx:=fun _ H'=>Q .non H',rt:=Q } (start N vs) H):FnOk P w K mg base CX0 (k + 1) f fd ps sp:=by
 obtain ⟨oc,od,kV,doc,pm,an,cdv,ct,osl,rfl,lk,hcd⟩:=F.ex
 refine d8k lk hcd S len fun A outer s H vs Q E hr hsp=>?_
 obtain ⟨t,h,q⟩:=hbody cdv A outer s H vs Q E hr hsp
 exact ⟨t,h.nox,q⟩
theorem Fun.binds {x qual:Str} {st:Stmt} {f:Addr} {fd:FuncData} {ps:List Str} (F:Fun K x qual st f fd)
  (h:∀ (kV doc pm:Value) (an:Option Addr) (cdv ct:Value) (us:List Value),us.length=ps.length→bindArgs (PySem.W.fnOf x qual (a3x st) (a1m st) (a0m st) .none kV doc pm an cdv ct) ⟨us,[]⟩=pure (ps.zip us)):Binds K fd ps []:=by
 obtain ⟨oc,od,kV,doc,pm,an,cdv,ct,osl,rfl,lk,hcd⟩:=F.ex
 exact .all (h kV doc pm an cdv ct)
theorem c3x {x qual:Str} {st:Stmt} {f:Addr} {oc:Value} {od an:Option Addr} {osl:Array (Option Value)} {kV doc pm cdv ct:Value} (l:K.lookup f=some ⟨oc,od,.func (PySem.W.fnOf x qual (a3x st) (a1m st) (a0m st) .none kV doc pm an cdv ct),osl⟩)
  (c:PySem.W.codeIn K cdv qual=true) (k:PySem.W.keepIn K (.ref f)=true):Fun K x qual st f (PySem.W.fnOf x qual (a3x st) (a1m st) (a0m st) .none kV doc pm an cdv ct):=⟨⟨oc,od,kV,doc,pm,an,cdv,ct,osl,rfl,l,c⟩,k⟩
end
section
variable {X:Cx}
end
theorem ite2 {c A B:Prop} [Decidable c] (h1:c→A) (h2:¬ c→B):if c then A else B:=by
 by_cases h:c
 ·rw [if_pos h]
  exact h1 h
 ·rw [if_neg h]
  exact h2 h
def Same (H H':Hp):Prop:=∀ b o,H b=some o→H' b=some o
theorem Same.refl (H:Hp):Same H H:=fun _ _ h=>h
theorem Same.trans {H H1 H2:Hp} (a:Same H H1) (b:Same H1 H2):Same H H2:=fun c o h=>b c o (a c o h)
theorem Same.free {H H':Hp} (e:Same H H') {l:Addr} (h:H' l=Option.none):H l=Option.none:=by
 cases q:H l with
 | none=>rfl
 | some o =>
  rw [e l o q] at h
  cases h
theorem Same.seq {K:Γd} {H H':Hp} {a:Addr} {xs:List V} (e:Same H H') (h:SqL K H a xs):SqL K H' a xs:=by
 rcases h with (h | ⟨o,h⟩) | h
 ·exact .inl (.inl (e _ _ h))
 ·exact .inl (.inr ⟨o,e _ _ h⟩)
 ·exact .inr h
end L2
end
section
namespace L2
open PySem PySem.Spec PyProof.Rows
section
variable {κ:Type} [DecidableEq κ]
def b0t (kvs:List (κ×V)) (k:κ):Option V:=(kvs.find? fun kv=>decide (kv.1=k)).map (·.2)
def a5b (kvs:List (κ×V)) (k:κ) (v:V):List (κ×V) :=
 if (kvs.any fun kv=>decide (kv.1=k))=true then kvs.map (fun kv=>if kv.1=k then (kv.1,v) else kv) else kvs++[(k,v)]
def d2g (kvs:List (κ×V)) (k:κ):List (κ×V):=kvs.filter fun kv=>decide (kv.1≠k)
theorem a4d {p:κ×V} {r:List (κ×V)} {k:κ} (e:p.1=k):b0t (p :: r) k=some p.2:=by simp [b0t,List.find?_cons,e]
theorem a4e {p:κ×V} {r:List (κ×V)} {k:κ} (e:¬ p.1=k):b0t (p :: r) k=b0t r k:=by simp [b0t,List.find?_cons,e]
theorem a5d (k:κ):∀ kvs:List (κ×V),(kvs.any fun kv=>decide (kv.1=k))=(b0t kvs k).isSome
 | []=>rfl
 | p :: r=>by
  rw [List.any_cons]
  by_cases e:p.1=k
  ·simp only [a4d e,decide_eq_true e,Bool.true_or,Option.isSome_some]
  ·rw [a4e e,decide_eq_false e,Bool.false_or]; exact a5d k r
theorem a2s (kvs:List (κ×V)) (k:κ) (v:V):(a5b kvs k v).length≤kvs.length + 1:=by
 unfold a5b
 split
 ·rw [List.length_map]; lia
 ·rw [List.length_append,List.length_cons,List.length_nil]; lia
theorem RelO.isSome_eq {o:Option V} {u:Option Value} (r:RelO o u):o.isSome=u.isSome:=by
 cases o with
 | none=>cases u with
  | none=>rfl
  | some _=>exact (show False from r).elim
 | some _=>cases u with
  | none=>exact (show False from r).elim
  | some _=>rfl
theorem RelO.getD {o:Option V} {u:Option Value} {d:V} {d':Value} (r:RelO o u) (rd:RelV d d'):RelV (o.getD d) (u.getD d'):=by
 cases o with
 | none=>cases u with
  | none=>exact rd
  | some _=>exact (show False from r).elim
 | some _=>cases u with
  | none=>exact (show False from r).elim
  | some _=>exact r
theorem KV.val {kvs:List (κ×V)} {vs:List (κ×Value)} (r:KV kvs vs) (k:κ):RelO (b0t kvs k) (valueAt vs k):=by
 unfold KV at r
 induction r with
 | nil=>exact True.intro
 | @cons p q ps qs h t ih =>
  obtain ⟨h1,h2⟩:=h
  by_cases e:p.1=k
  ·have e':q.1=k:=h1.symm.trans e
   have b:valueAt (q :: qs) k=some q.2:=by simp [valueAt,List.find?_cons,e']
   rw [a4d e,b]; exact h2
  ·have e':¬ q.1=k:=fun z=>e (h1.trans z)
   have b:valueAt (q :: qs) k=valueAt qs k:=by simp [valueAt,List.find?_cons,e']
   rw [a4e e,b]; exact ih
theorem KV.any {kvs:List (κ×V)} {vs:List (κ×Value)} (r:KV kvs vs) (k:κ):(kvs.any fun kv=>decide (kv.1=k))=vs.any fun kv=>decide (kv.1=k):=by
 unfold KV at r
 induction r with
 | nil=>rfl
 | cons h t ih=>rw [List.any_cons,List.any_cons,ih,h.1]
theorem KV.repl {kvs:List (κ×V)} {vs:List (κ×Value)} (r:KV kvs vs) (k:κ) {y:V} {u:Value} (ry:RelV y u) :
  KV (kvs.map fun kv=>if kv.1=k then (kv.1,y) else kv) (vs.map fun kv=>if kv.1=k then (kv.1,u) else kv):=by
 unfold KV at r ⊢
 induction r with
 | nil=>exact .nil
 | @cons p q ps qs h t ih =>
  rw [List.map_cons,List.map_cons]
  refine .cons ?_ ih
  obtain ⟨h1,h2⟩:=h
  by_cases e:p.1=k
  ·rw [if_pos e,if_pos (h1.symm.trans e)]; exact ⟨h1,ry⟩
  ·rw [if_neg e,if_neg (fun z=>e (h1.trans z))]; exact ⟨h1,h2⟩
theorem KV.put {kvs:List (κ×V)} {vs:List (κ×Value)} (r:KV kvs vs) (k:κ) {y:V} {u:Value} (ry:RelV y u):KV (a5b kvs k y) (stored vs k u):=by
 unfold a5b stored
 rw [r.any k]
 by_cases e:(vs.any fun kv=>decide (kv.1=k))=true
 ·rw [if_pos e,if_pos e]; exact r.repl k ry
 ·rw [if_neg e,if_neg e]; exact Paired.snoc r ⟨rfl,ry⟩
theorem KV.drop {kvs:List (κ×V)} {vs:List (κ×Value)} (r:KV kvs vs) (k:κ):KV (d2g kvs k) (without vs k):=by
 unfold KV at r ⊢
 unfold d2g without
 induction r with
 | nil=>exact .nil
 | @cons p q ps qs h t ih =>
  obtain ⟨h1,h2⟩:=h
  rw [List.filter_cons,List.filter_cons]
  by_cases e:p.1=k
  ·have a:¬ decide (p.1≠k)=true:=by simp [e]
   have b:¬ decide (q.1≠k)=true:=by simp [h1.symm.trans e]
   rw [if_neg a,if_neg b]; exact ih
  ·have e':¬ q.1=k:=fun z=>e (h1.trans z)
   have a:decide (p.1≠k)=true:=by simp [e]
   have b:decide (q.1≠k)=true:=by simp [e']
   rw [if_pos a,if_pos b]; exact .cons ⟨h1,h2⟩ ih
theorem KV.length {kvs:List (κ×V)} {vs:List (κ×Value)} (r:KV kvs vs):kvs.length=vs.length:=Paired.length r
end
theorem b4b {P:Program} {w:World} {k:Key} {u:Value} (r:RelV (kV k) u):(a0s P w).is k u=true:=by
 rcases k with i | x | x
 ·obtain ⟨t,e⟩:=(show ∃ t,u=Value.int i t from r); subst e; exact b1e P w i t
 ·cases (show u=Value.none from r); exact a9v P w
 ·obtain ⟨t,e⟩:=(show ∃ t,u=Value.str x t from r); subst e; exact b1d P w x t
theorem b0f {P:Program} {w:World}:∀ {ks:List Key} {us:List Value},Vals (ks.map kV) us→ItemsAre (a0s P w) ks us
 | [],_,r=>by rw [List.map_nil] at r; cases r; exact .nil
 | k :: ks,_,r=>by
  rw [List.map_cons] at r
  cases r with
  | cons h t=>exact .cons (b4b h) (b0f t)
abbrev KT (H:Hp):List (List Key×V)→List (List Key×Addr×Value)→Prop:=Paired fun p q=>p.1=q.1∧H q.2.1=some (.tup (p.1.map kV))∧RelV p.2 q.2.2
theorem KT.val {H:Hp} {kvs:List (List Key×V)} {xs:List (List Key×Addr×Value)} (r:KT H kvs xs) (k:List Key):RelO (b0t kvs k) ((atKey xs k).map (·.2)):=by
 induction r with
 | nil=>exact True.intro
 | @cons p q ps qs h t ih =>
  obtain ⟨h1,_,h2⟩:=h
  by_cases e:p.1=k
  ·have e':q.1=k:=h1.symm.trans e
   have b:atKey (q :: qs) k=some q.2:=by simp [atKey,List.find?_cons,e']
   rw [a4d e,b]; exact h2
  ·have e':¬ q.1=k:=fun z=>e (h1.trans z)
   have b:atKey (q :: qs) k=atKey qs k:=by simp [atKey,List.find?_cons,e']
   rw [a4e e,b]; exact ih
theorem KT.repl {H:Hp} {kvs:List (List Key×V)} {xs:List (List Key×Addr×Value)} (r:KT H kvs xs) (k:List Key) {y:V} {u:Value} (ry:RelV y u) :
  KT H (kvs.map fun kv=>if kv.1=k then (kv.1,y) else kv) (xs.map (putAt k u)):=by
 induction r with
 | nil=>exact .nil
 | @cons p q ps qs h t ih =>
  rw [List.map_cons,List.map_cons]
  refine .cons ?_ ih
  obtain ⟨h1,h2,h3⟩:=h
  unfold putAt
  by_cases e:p.1=k
  ·rw [if_pos e,if_pos (h1.symm.trans e)]; exact ⟨h1,h2,ry⟩
  ·rw [if_neg e,if_neg (fun z=>e (h1.trans z))]; exact ⟨h1,h2,h3⟩
theorem KT.put {H:Hp} {kvs:List (List Key×V)} {xs:List (List Key×Addr×Value)} (r:KT H kvs xs) (k:List Key) {b:Addr} {y:V} {u:Value} (hb:H b=some (.tup (k.map kV))) (ry:RelV y u) :
  KT H (a5b kvs k y) (storedH xs k b u):=by
 have e:(kvs.any fun kv=>decide (kv.1=k))=(atKey xs k).isSome:=by
  rw [a5d,(r.val k).isSome_eq,Option.isSome_map]
 unfold a5b storedH
 rw [e]
 by_cases q:(atKey xs k).isSome=true
 ·rw [if_pos q,if_pos q]; exact r.repl k ry
 ·rw [if_neg q,if_neg q]; exact Paired.snoc r ⟨rfl,hb,ry⟩
theorem KT.keeps {H H':Hp} {kvs:List (List Key×V)} {xs:List (List Key×Addr×Value)} (r:KT H kvs xs) (ht:∀ b ys,H b=some (.tup ys)→H' b=some (.tup ys)):KT H' kvs xs :=
 Paired.mapP r fun _ _ z=>⟨z.1,ht _ _ z.2.1,z.2.2⟩
section
variable {P:Program} {w:World} {H:Hp} {h:Heap} {a:Addr}
theorem c9h {u:HO} (ok:HOk P w H h) (e:Rd H a u):ObjOk P w H h a u:=e.ok ok
theorem b4l {kvs:List (Key×V)} (ok:HOk P w H h) (e:Rd H a (.dK kvs)):kvs.length≤sizeLine∧(a == sysModules)=false∧∃ vs,KV kvs vs∧h.DictOf (a0s P w) a vs :=
 show ObjOk P w H h a (.dK kvs) from c9h ok e
theorem d2i {kvs:List (Key×V)} (ok:HOk P w H h) (e:H a=some (.dK kvs)):kvs.length≤sizeLine∧(a == sysModules)=false∧∃ vs,KV kvs vs∧h.DictOf (a0s P w) a vs:=b4l ok (.inl e)
theorem a7r {ks:List Key} (ok:HOk P w H h) (e:H a=some (.tup (ks.map kV))):(tupleKind (a0s P w)).is h ks a:=by
 obtain ⟨_,its,r,o,h1,h2,n,h3⟩:=(show ObjOk P w H h a (.tup (ks.map kV)) from ok a _ e)
 exact ⟨o,its.toArray,n,h1,h2,h3,by simpa using b0f r⟩
theorem b4k {kvs:List (List Key×V)} (ok:HOk P w H h) (e:Rd H a (.dT kvs)):kvs.length≤sizeLine∧(a == sysModules)=false ∧
  ∃ xs,KT H kvs xs∧h.DictOfH (tupleKind (a0s P w)) a xs:=by
 obtain ⟨z,y,xs,r,o,es,ep,h1,h2,h3,h4,h5⟩:=(show ObjOk P w H h a (.dT kvs) from c9h ok e)
 refine ⟨z,y,xs,r,o,es,ep,h1,h2,h3,h4,fun x hx=>?_,h5⟩
 have all:∀ {l:List (List Key×V)} {m:List (List Key×Addr×Value)},KT H l m→∀ x∈m,(tupleKind (a0s P w)).is h x.1 x.2.1:=by
  intro l m q
  induction q with
  | nil=>intro x hx; exact nomatch hx
  | @cons p q ps qs hq t ih =>
   intro x hx
   rcases List.mem_cons.mp hx with e | hx
   ·subst e
    exact a7r ok (by rw [← hq.1]; exact hq.2.1)
   ·exact ih x hx
 exact all r x hx
theorem d2f {kvs:List (List Key×V)} (ok:HOk P w H h) (e:H a=some (.dT kvs)):kvs.length≤sizeLine∧(a == sysModules)=false ∧
  ∃ xs,KT H kvs xs∧h.DictOfH (tupleKind (a0s P w)) a xs:=b4k ok (.inl e)
end
def DGet (H:Hp) (a:Addr) (y:V) (r:Option V):Prop :=
 (∃ kvs k,Rd H a (.dK kvs)∧y=kV k∧r=b0t kvs k) ∨ ∃ kvs k b,Rd H a (.dT kvs)∧y=.ref b∧H b=some (.tup (k.map kV))∧r=b0t kvs k
def DPut (H:Hp) (a:Addr) (y v:V) (H':Hp):Prop :=
 (∃ kvs k,H a=some (.dK kvs)∧y=kV k∧kvs.length < sizeLine∧H'=upd H a (.dK (a5b kvs k v))) ∨
 ∃ kvs k b,H a=some (.dT kvs)∧y=.ref b∧H b=some (.tup (k.map kV))∧kvs.length < sizeLine∧H'=upd H a (.dT (a5b kvs k v))
theorem DGet.k {H:Hp} {a:Addr} {kvs:List (Key×V)} {k:Key} (e:H a=some (.dK kvs)):DGet H a (kV k) (b0t kvs k):=.inl ⟨kvs,k,.inl e,rfl,rfl⟩
theorem DGet.t {H:Hp} {a b:Addr} {kvs:List (List Key×V)} {k:List Key} (e:H a=some (.dT kvs)) (eb:H b=some (.tup (k.map kV))):DGet H a (.ref b) (b0t kvs k):=.inr ⟨kvs,k,b,.inl e,rfl,eb,rfl⟩
theorem DPut.k {H:Hp} {a:Addr} {kvs:List (Key×V)} {k:Key} {v:V} (e:H a=some (.dK kvs)) (hl:kvs.length < sizeLine):DPut H a (kV k) v (upd H a (.dK (a5b kvs k v))):=.inl ⟨kvs,k,e,rfl,hl,rfl⟩
theorem DPut.t {H:Hp} {a b:Addr} {kvs:List (List Key×V)} {k:List Key} {v:V} (e:H a=some (.dT kvs)) (eb:H b=some (.tup (k.map kV))) (hl:kvs.length < sizeLine) :
  DPut H a (.ref b) v (upd H a (.dT (a5b kvs k v))):=.inr ⟨kvs,k,b,e,rfl,eb,hl,rfl⟩
section
variable {X:Cx} {pins:List (Addr×Obj)} {σ:St} {H:Hp} {s:Shared} {a:Addr} {y v:V} {u r:Value} {o:Option V} {A:Around} {E:Value→Shared→Prop}
theorem Inv.big (I:Inv X pins σ H s):sysModules < s.heap.objs.size:=by
 have h:mainGlobals < s.heap.objs.size:=(I.mod.glob.keeps I.bk).lt
 exact Nat.lt_trans (by decide) h
theorem b9h {Q:Value→Shared→Prop} (hu:A.units + 1 < cLine) (I:Inv X pins σ H s) (g:DGet H a y (some v)) (ry:RelV y u) (h:∀ w' s',Inv X pins σ H s'→RelV v w'→Q w' s') :
  wpAny (model X.prog X.w) A (getItem (.ref a) u) Q E s:=by
 rcases g with ⟨kvs,k,e,ey,l⟩ | ⟨kvs,k,b,e,ey,eb,l⟩
 ·subst ey
  obtain ⟨z,hd,vs,rel,dd⟩:=b4l I.hok e
  obtain ⟨w',hw,rw'⟩:=RelO.some_of (v:=v) (o:=valueAt vs k) (by rw [l]; exact rel.val k)
  exact wpAny_getItem_of (b4b ry) dd.mapOf hw (h w' _ (I.tok _) rw')
 ·subst ey
  cases (show u=Value.ref b from ry)
  obtain ⟨z,hd,xs,rel,dd⟩:=b4k I.hok e
  obtain ⟨w',hw,rw'⟩:=RelO.some_of (v:=v) (o:=(atKey xs k).map (·.2)) (by rw [l]; exact rel.val k)
  obtain ⟨p,hp,hp2⟩:=Option.map_eq_some_iff.mp hw
  refine wpAny_getItem_heap (tupleKind_room_in1 hu) (a7r I.hok eb) dd hp ?_
  rw [hp2]
  exact h w' _ (I.tok _) rw'
theorem d_in {Q:Value→Shared→Prop} (hu:A.units + 1 < cLine) (I:Inv X pins σ H s) (g:DGet H a y o) (ry:RelV y u) (h:∀ s',Inv X pins σ H s'→Q (.bool o.isSome) s') :
  wpAny (model X.prog X.w) A (compareOp .In u (.ref a)) Q E s:=by
 rcases g with ⟨kvs,k,e,ey,l⟩ | ⟨kvs,k,b,e,ey,eb,l⟩
 ·subst ey
  obtain ⟨z,hd,vs,rel,dd⟩:=b4l I.hok e
  refine wpAny_in_of (b4b ry) hd dd.mapOf ?_
  rw [← (rel.val k).isSome_eq,← l]
  exact h _ (I.tok _)
 ·subst ey
  cases (show u=Value.ref b from ry)
  obtain ⟨z,hd,xs,rel,dd⟩:=b4k I.hok e
  refine wpAny_in_heap (tupleKind_room_in1 hu) (a7r I.hok eb) hd dd ?_
  have q:=(rel.val k).isSome_eq
  rw [Option.isSome_map] at q
  rw [← q,← l]
  exact h _ (I.tok _)
theorem a9b {h':Heap} {t':Nat} {ob:HO} (I:Inv X pins σ H s) (mu:Mut (H a)) (hs:Heap.SameBut a s.heap h') (he:∃ q,h'.get? a=some q) (new:ObjOk X.prog X.w (upd H a ob) h' a ob) :
  Inv X pins σ (upd H a ob) { s with heap:=h',toks:=t' } :=
 I.write (x:=a) (e:=a) mu (.inl rfl) (fun b q hb z=>(hs.2 b hb).trans z) he new
theorem c4a {P:Program} {w:World} {H':Hp} {h':Heap} {kvs:List (Key×V)} {vs:List (Key×Value)} (z:kvs.length≤sizeLine) (hd:(a == sysModules)=false) (rel:KV kvs vs) (dd:h'.DictOf (a0s P w) a vs) :
  ObjOk P w H' h' a (.dK kvs):=⟨z,hd,vs,rel,dd⟩
theorem b9g {H':Hp} {Q:Unit→Shared→Prop} (hu:A.units + 1 < cLine) (I:Inv X pins σ H s) (g:DPut H a y v H') (ry:RelV y u) (rv:RelV v r) (h:∀ s',Inv X pins σ H' s'→Q () s') :
  wpAny (model X.prog X.w) A (setItem (.ref a) u r) Q E s:=by
 rcases g with ⟨kvs,k,e,ey,l,eH⟩ | ⟨kvs,k,b,e,ey,eb,l,eH⟩
 ·subst ey eH
  obtain ⟨z,hd,vs,rel,dd⟩:=d2i I.hok e
  have hz:vs.length≤sizeLine:=by rw [← rel.length]; exact z
  have hl:(a5b kvs k v).length≤sizeLine:=by have:=a2s kvs k v; lia
  refine wpAny_setItem_pairs (hsz:=hz) (b4b ry) dd fun h' dd' hs=>h _ ?_
  have he:∃ q,h'.get? a=some q:=let ⟨q,_,_,hq,_⟩:=dd'; ⟨q,hq⟩
  exact a9b I (by rw [e]; exact True.intro) hs he (c4a hl hd (rel.put k rv) dd')
 ·subst ey eH
  cases (show u=Value.ref b from ry)
  obtain ⟨z,hd,xs,rel,dd⟩:=d2f I.hok e
  have hz:xs.length≤sizeLine:=by rw [← Paired.length rel]; exact z
  have hl:(a5b kvs k v).length≤sizeLine:=by have:=a2s kvs k v; lia
  refine wpAny_setItem_heap (hsz:=hz) (tupleKind_room_in1 hu) (a7r I.hok eb) dd fun h' dd' hs=>h _ ?_
  obtain ⟨q,es,ep,hq,h2,h3,h4,_,h5⟩:=dd'
  refine a9b I (by rw [e]; exact True.intro) hs ⟨q,hq⟩ ⟨hl,hd,_,(rel.put k eb rv).keeps fun c ys ec=>?_,q,es,ep,hq,h2,h3,h4,h5⟩
  rw [a0b (d0u ec e (fun z=>nomatch z))]
  exact ec
end
section
variable {X:Cx} {pins:List (Addr×Obj)} {σ:St} {H:Hp} {s:Shared} {a:Addr} {kvs:List (Key×V)} {k:Key} {u:Value} {A:Around} {E:Value→Shared→Prop}
end
def NoSl (i:Expr):Prop:=∀ ov iv,subscripted i false ov iv=operate [ov,iv] (getItem ov iv)
theorem c4o {prog:Program} {w:World} {A:Around} {E:Value→Shared→Prop} {s:Shared} {env:Env} {value slice:Expr} {pos:Pos} {T id:String} {Q:Value→Shared→Prop}
  (hl:typeLookup (.type T) "__getitem__" = pure (some (.builtin id))) (hs:NoSl slice)
  (h:wpAny (model prog w) A (eval value env) (fun o s₁=>wpAny (model prog w) A (eval slice env) (fun i s₂=>s₂.TypeIs o T∧wpAny (model prog w) A (getItem o i) Q E s₂) E s₁) E s) :
  wpAny (model prog w) A (eval (.Subscript value slice pos) env) Q E s:=by
 refine Subscript_ (wpAny_mono h (fun o s₁ h₁=>wpAny_mono h₁ (fun i s₂ h₂=>?_) fun _ _ x=>x) fun _ _ x=>x)
 obtain ⟨hT,h₂⟩:=h₂
 unfold subscriptTail
 refine Γa ?_
 rw [getitemInPython_of_ne hT.not_modules]
 refine Γa (wpAny_specialOf hT hl ?_)
 have fin:wpAny (model prog w) A (subscripted slice false o i) (fun r s₃=>wpAny (model prog w) A (letTemporaryGo value o r >>= fun _=>pure r) Q E s₃) E s₂:=by
  rw [hs o i]
  exact wpAny_operating (wpAny_mono h₂ (fun r s₃ h₃=>Γa (wpAny_letTemporaryGo (Γb h₃))) fun _ _ x=>x)
 first
  | exact Γb (Γa fin)
  | exact Γa (Γb (Γa fin))
  | exact Γa fin
theorem b1r {X:Cx} {pins:List (Addr×Obj)} {σ:St} {H:Hp} {s:Shared} {a:Addr} {y:V} {o:Option V} (I:Inv X pins σ H s) (g:DGet H a y o):s.TypeIs (.ref a) "dict":=by
 rcases g with ⟨kvs,k,e,_,_⟩ | ⟨kvs,k,b,e,_,_,_⟩
 ·obtain ⟨_,_,vs,_,dd⟩:=b4l I.hok e
  exact dd.typeIs
 ·obtain ⟨_,_,xs,_,dd⟩:=b4k I.hok e
  exact dd.typeIs
def d5l (td ty:TE):TE:=fun σ H Q=>td σ H fun x H1=>ty σ H1 fun y H2=>∃ a v,x=.ref a∧DGet H2 a y (some v)∧Q v H2
def d6d (td ty tv:TE):TS:=fun D σ H=>tv σ H fun v H1=>td σ H1 fun x H2=>ty σ H2 fun y H3=>∃ a H4,x=.ref a∧DPut H3 a y v H4∧D.nx σ H4
section
variable {X:Cx} {o i e value:Expr} {pos pos' tpos:Pos} {td ty tv:TE}
theorem b6n (hu:X.A.units + 1 < cLine) (ho:PE X o td) (hi:PE X i ty) (hs:NoSl i):PE X (.Subscript o i pos) (d5l td ty):=by
 intro pins s σ H Q I h
 refine c4o PySem.F.slot_dict_getitem.lookup hs (thn (ho pins s σ H _ I h) fun u s1 ⟨x,H1,I1,rx,q1⟩=>thn (hi pins s1 σ H1 _ I1 q1) fun iv s2 ⟨y,H2,I2,ry,a,v,ex,g,q2⟩=>?_)
 subst ex
 obtain rfl:u=Value.ref a:=rx
 exact ⟨b1r I2 g,b9h hu I2 g ry fun w' s3 I3 rw'=>⟨v,H2,I3,rw',q2⟩⟩
theorem c5i (hu:X.A.units + 1 < cLine) (ho:PE X o td) (hi:PE X i ty) (hv:PE X value tv) (hs:swapsWith value (some (.Subscript o i pos')) pos.line X.env=pure false) :
  PS X (.Assign [.Subscript o i pos'] value pos) (d6d td ty tv):=by
 intro pins s σ H D I h
 refine wpAny_Assign_Subscript (thn (hv pins s σ H _ I h) fun r s1 ⟨v,H1,I1,rv,q1⟩=>thn (ho pins s1 σ H1 _ I1 q1) fun u s2 ⟨x,H2,I2,rx,q2⟩=>thn (hi pins s2 σ H2 _ I2 q2) fun iv s3 ⟨y,H3,I3,ry,a,H4,ex,g,q3⟩=>?_) hs
 subst ex
 obtain rfl:u=Value.ref a:=rx
 exact b9g hu I3 g ry rv fun s4 I4=>⟨σ,H4,I4,q3⟩
end
theorem c2q {P:Program} {w:World} {H:Hp} (h:Heap) (hb:sysModules < h.objs.size):ObjOk P w H (h.push { cls:=.type "dict",data:=.dict #[] }) h.objs.size (.dK []) :=
 ⟨Nat.zero_le _,beq_eq_false_iff_ne.mpr (Ne.symm (Γo hb)),[],.nil,Heap.DictOf.new h⟩
theorem c2n {P:Program} {w:World} {H:Hp} (h:Heap) (hb:sysModules < h.objs.size):ObjOk P w H (h.push { cls:=.type "dict",data:=.dict #[] }) h.objs.size (.dT []) :=
 ⟨Nat.zero_le _,beq_eq_false_iff_ne.mpr (Ne.symm (Γo hb)),[],.nil,_,#[],0,Γm _ rfl,⟨rfl,rfl,rfl⟩,rfl,rfl,List.nodup_nil⟩
section
variable {X:Cx} {pos:Pos}
end
def b5i:List (TE×TE)→St→Hp→(List (V×V)→Hp→Prop)→Prop
 | [],_,H,Q=>Q [] H
 | (tk,tv) :: r,σ,H,Q=>tk σ H fun x H1=>tv σ H1 fun y H2=>b5i r σ H2 fun ps H3=>Q ((x,y) :: ps) H3
abbrev VV:List (V×V)→List (Value×Value)→Prop:=Paired fun p q=>RelV p.1 q.1∧RelV p.2 q.2
def PPs (X:Cx) (pos:Pos) (keys:List (Option Expr)) (values:List Expr) (trs:List (TE×TE)):Prop :=
 ∀ (pins:List (Addr×Obj)) (s:Shared) (σ:St) (H:Hp) (Q:List (V×V)→Hp→Prop),Inv X pins σ H s→b5i trs σ H Q →
  wpAny (model X.prog X.w) X.A (evalPairs (pairTrees keys values X.env pos)) (fun vs s'=>∃ ps H',Inv X pins σ H' s'∧VV ps vs∧Q ps H') X.xe s
theorem c5k {X:Cx} {pos:Pos}:PPs X pos [] [] []:=fun pins s σ H Q I h=>pairTrees_nil_walk ⟨[],H,I,.nil,h⟩
theorem c0z {X:Cx} {pos:Pos} {k v:Expr} {ks:List (Option Expr)} {vs:List Expr} {tk tv:TE} {trs:List (TE×TE)} (hk:PE X k tk) (hv:PE X v tv) (hr:PPs X pos ks vs trs) :
  PPs X pos (some k :: ks) (v :: vs) ((tk,tv) :: trs):=fun pins s σ H Q I h =>
 pairTrees_cons_walk (thn (hk pins s σ H _ I h) fun u s1 ⟨x,H1,I1,rx,q1⟩=>thn (hv pins s1 σ H1 _ I1 q1) fun w2 s2 ⟨y,H2,I2,ry,q2⟩ =>
  thn (hr pins s2 σ H2 _ I2 q2) fun ws s3 ⟨ps,H3,I3,rel,q3⟩=>⟨(x,y) :: ps,H3,I3,.cons ⟨rx,ry⟩ rel,q3⟩)
def a7n (kvs more:List (Key×V)):List (Key×V):=more.foldl (fun acc kv=>a5b acc kv.1 kv.2) kvs
theorem KV.merge:∀ {more:List (Key×V)} {rs:List (Key×Value)} {kvs:List (Key×V)} {vs:List (Key×Value)},KV more rs→KV kvs vs→KV (a7n kvs more) (merged vs rs):=by
 intro more rs kvs vs r
 unfold KV at r
 induction r generalizing kvs vs with
 | nil=>intro q; exact q
 | @cons p q ps qs h t ih =>
  intro r0
  have e:KV (a5b kvs p.1 p.2) (stored vs q.1 q.2):=by
   have:=r0.put p.1 h.2
   rw [← h.1]; exact this
  exact ih e
theorem a4j:∀ (more kvs:List (Key×V)),(a7n kvs more).length≤kvs.length + more.length
 | [],kvs=>by show kvs.length≤kvs.length + 0; lia
 | p :: r,kvs=>by
  have h1:=a4j r (a5b kvs p.1 p.2)
  have h2:=a2s kvs p.1 p.2
  show (a7n (a5b kvs p.1 p.2) r).length≤_
  rw [List.length_cons]; lia
theorem a7y {P:Program} {w:World}:∀ {kvs:List (Key×V)} {ws:List (Value×Value)},VV (kvs.map fun kv=>(kV kv.1,kv.2)) ws→∃ rs,Carries (a0s P w) ws rs∧KV kvs rs
 | [],_,r=>by rw [List.map_nil] at r; cases r; exact ⟨[],True.intro,.nil⟩
 | p :: kvs,_,r=>by
  rw [List.map_cons] at r
  cases r with
  | @cons a b as bs h t =>
   obtain ⟨rs,c,q⟩:=a7y (P:=P) (w:=w) t
   obtain ⟨b1,b2⟩:=b
   exact ⟨(p.1,b2) :: rs,⟨b4b h.1,rfl,c⟩,.cons ⟨rfl,h.2⟩ q⟩
def d5k (trs:List (TE×TE)):TE:=fun σ H Q=>∀ p,H p=none→b5i trs σ (upd H p (.dK [])) fun ps H2=>H2 p=some (.dK [])∧∃ kvs:List (Key×V),ps=kvs.map (fun kv=>(kV kv.1,kv.2))∧kvs.length≤15∧Q (.ref p) (upd H2 p (.dK (a7n [] kvs)))
theorem c5r {X:Cx} {pos:Pos} {keys:List (Option Expr)} {values:List Expr} {trs:List (TE×TE)} (h:PPs X pos keys values trs) (hall:keys.all (·.isSome)=true) (hl:keys.length=values.length) (h0:keys≠[])
  (h15:keys.length≤15):PE X (.Dict keys values pos) (d5k trs):=by
 intro pins s σ H Q I q
 have hn:=I.hok.fresh (Γi s.heap.objs.size)
 have I1:=I.laid (a:=s.heap.objs.size) (o:=.dK []) (h':=s.heap.push { cls:=.type "dict",data:=.dict #[] }) (t':=s.toks) (fun _ _ q=>Γc _ q) (Γi _) (c2q s.heap I.big)
 refine wpAny_Dict_walk (knd:=a0s X.prog X.w) hall hl h0 h15 (thn (h pins _ σ _ _ I1 (q _ hn)) fun ws s2 ⟨ps,H2,I2,rel,e,kvs,ep,lk,q2⟩=>?_)
 subst ep
 obtain ⟨rs,c,rk⟩:=a7y (P:=X.prog) (w:=X.w) rel
 obtain ⟨z,hd,vs0,r0,dd⟩:=d2i I2.hok e
 cases r0
 refine ⟨rs,c,dd,fun h' dd' hs=>⟨.ref s.heap.objs.size,_,?_,rfl,q2⟩⟩
 have hz:(a7n [] kvs).length≤sizeLine:=by
  have h1:=a4j kvs []
  rw [List.length_nil] at h1
  rw [sizeLine_eq]; lia
 have he:∃ q,h'.get? s.heap.objs.size=some q:=let ⟨q,_,_,hq,_⟩:=dd'; ⟨q,hq⟩
 exact a9b I2 (by rw [e]; exact True.intro) hs he (c4a hz hd (rk.merge .nil) dd')
structure M1 (X:Cx) (o:Expr) (m:Str) (apos:Pos) (e:Expr) (cpos:Pos):Prop where
 base:attributeBase o m X.env (eval o X.env)=eval o X.env
 few:((backTo cpos (starEach [e] X.env)).all (fun x=>!x.1) && (backToKw cpos (keywordEach [] X.env)).all (fun x=>x.1.isSome)
  && decide (([e]:List Expr).length + ([]:List Keyword).length + (if ([]:List Keyword).isEmpty then 0 else 1) < 30))=true
 line:(apos.endLine == cpos.line)=true
 trees:backTo cpos (starEach [e] X.env)=[(false,eval e X.env)]
structure M2 (X:Cx) (o:Expr) (m:Str) (apos:Pos) (e f:Expr) (cpos:Pos):Prop where
 base:attributeBase o m X.env (eval o X.env)=eval o X.env
 few:((backTo cpos (starEach [e,f] X.env)).all (fun x=>!x.1) && (backToKw cpos (keywordEach [] X.env)).all (fun x=>x.1.isSome)
  && decide (([e,f]:List Expr).length + ([]:List Keyword).length + (if ([]:List Keyword).isEmpty then 0 else 1) < 30))=true
 line:(apos.endLine == cpos.line)=true
 trees:backTo cpos (starEach [e,f] X.env)=[(false,eval e X.env),(false,eval f X.env)]
def IsD (H:Hp) (a:Addr):Prop:=(∃ kvs,Rd H a (.dK kvs)) ∨ ∃ kvs,Rd H a (.dT kvs)
theorem d1g {X:Cx} {pins:List (Addr×Obj)} {σ:St} {H:Hp} {s:Shared} {a:Addr} (I:Inv X pins σ H s) (d:IsD H a) :
  s.TypeIs (.ref a) "dict"∧(∀ b,Value.ref a=.ref b→∃ ob,s.heap.get? b=some ob∧ob.dict=none)∧(a == sysModules)=false:=by
 rcases d with ⟨kvs,e⟩ | ⟨kvs,e⟩
 ·obtain ⟨_,hd,vs,_,dd⟩:=b4l I.hok e
  refine ⟨dd.typeIs,fun b q=>?_,hd⟩
  cases q
  obtain ⟨ob,_,_,h1,h2,_⟩:=dd
  exact ⟨ob,h1,h2.2.1⟩
 ·obtain ⟨_,hd,xs,_,dd⟩:=b4k I.hok e
  refine ⟨dd.typeIs,fun b q=>?_,hd⟩
  cases q
  obtain ⟨ob,_,_,h1,h2,_⟩:=dd
  exact ⟨ob,h1,h2.2.1⟩
section
variable {X:Cx} {pins:List (Addr×Obj)} {σ:St} {H:Hp} {s:Shared} {a:Addr} {y d:V} {u r:Value} {o:Option V} {A:Around} {E:Value→Shared→Prop}
theorem d2k {Q:Value→Shared→Prop} (hu:A.units + 1 < cLine) (I:Inv X pins σ H s) (g:DGet H a y o) (ry:RelV y u) (h:∀ w' s',Inv X pins σ H s'→RelV (o.getD .non) w'→Q w' s') :
  wpAny (model X.prog X.w) A (call (.builtin "dict.get") [.ref a,u]) Q E s:=by
 rcases g with ⟨kvs,k,e,ey,l⟩ | ⟨kvs,k,b,e,ey,eb,l⟩
 ·subst ey
  obtain ⟨z,hd,vs,rel,dd⟩:=b4l I.hok e
  refine call_meetsIn PySem.F.slot_dict_get dd.typeIs PySem.F.entry_dict_get (PySem.F.args_dict_get_2 _ _) (meets_dict_get (a0s X.prog X.w) a (b4b ry) hd) ⟨_,dd.mapOf,h _ _ (I.tok _) ?_⟩
  rw [l]
  exact (rel.val k).getD rfl
 ·subst ey
  cases (show u=Value.ref b from ry)
  obtain ⟨z,hd,xs,rel,dd⟩:=b4k I.hok e
  refine call_meetsIn PySem.F.slot_dict_get dd.typeIs PySem.F.entry_dict_get (PySem.F.args_dict_get_2 _ _) (meetsH_dict_get (tupleKind (a0s X.prog X.w)) a b hd) ⟨tupleKind_room_in1 hu,k,xs,a7r I.hok eb,dd,h _ _ (I.tok _) ?_⟩
  rw [l]
  exact (rel.val k).getD rfl
end
def c8y (td ty:TE):TE:=fun σ H Q=>td σ H fun x H1=>∃ a,x=.ref a∧IsD H1 a∧ty σ H1 fun y H2=>∃ o,DGet H2 a y o∧Q (o.getD .non) H2
section
variable {X:Cx} {o e f:Expr} {apos cpos:Pos} {td ty tx:TE}
theorem c1g (hu:X.A.units + 1 < cLine) (ho:PE X o td) (he:PE X e ty) (m:M1 X o "get" apos e cpos):PE X (.Call (.Attribute o "get" apos) [e] [] cpos) (c8y td ty):=by
 intro pins s σ H Q I h
 refine wpAny_Call_method m.base m.few m.line PySem.F.plainAttrs_dict PySem.F.slot_dict_get PySem.F.type_dict_get (thn (ho pins s σ H _ I h) fun u s1 ⟨x,H1,I1,rx,a,ex,d,q1⟩=>?_)
 subst ex
 obtain rfl:u=Value.ref a:=rx
 obtain ⟨t1,t2,_⟩:=d1g I1 d
 refine ⟨t1,t2,?_⟩
 rw [m.trees]
 refine Calls.callWith_builtin rfl (Calls.evalArgs_plain (Calls.spliced_cons (thn (he pins s1 σ H1 _ I1 q1) fun iv s2 ⟨y,H2,I2,ry,ov,g,q2⟩=>Calls.spliced_nil ?_)))
 exact d2k hu I2 g ry fun w' s3 I3 rw'=>⟨_,H2,I3,rw',q2⟩
end
section
variable {X:Cx} {pins:List (Addr×Obj)} {σ:St} {H:Hp} {s:Shared} {a:Addr} {kvs:List (Key×V)} {A:Around} {E:Value→Shared→Prop}
end
section
variable {X:Cx} {pins:List (Addr×Obj)} {σ:St} {H:Hp} {s:Shared} {a:Addr} {y:V} {u:Value} {A:Around} {E:Value→Shared→Prop}
end
end L2
namespace L2
open PySem PySem.Spec PyProof.Rows
section
variable {κ:Type} [DecidableEq κ]
end
end L2
end
section
namespace HT
open PySem PyProof.Rows
def lexLe:List Int→List Int→Bool
 | [],[]=>true
 | [],_ :: _=>true
 | _ :: _,[]=>false
 | x :: xs,y :: ys=>if x=y then lexLe xs ys else decide (x≤y)
theorem b3y (x y:Int) (xs ys:List Int):lexLe (x :: xs) (y :: ys)=if x=y then lexLe xs ys else decide (x≤y):=rfl
theorem a8y:lexLe [] []=true:=rfl
theorem a7a (y:Int) (ys:List Int):lexLe [] (y :: ys)=true:=rfl
theorem a7b (x:Int) (xs:List Int):lexLe (x :: xs) []=false:=rfl
theorem b8o (A:Around) (s:Shared) (a:Int) (t:Tok) (c:Int) (u:Tok):∃ e,SeqAt.EqAt A s (.int a t) (.int c u) e∧(e=true↔a=c) :=
 ⟨(a == c),SeqAt.EqAt.int_int a t c u,by simp⟩
theorem c0t (A:Around) (s:Shared) (a:Int) (t:Tok) (c:Int) (u:Tok) (prog:Program) (w:World) (E:Value→Shared→Prop) (Q:Value→Shared→Prop) (h:Q (.bool (decide (a≤c))) s) :
  wpAny (model prog w) A (richCompare .LtE (.int a t) (.int c u)) Q E s :=
 (PyProof.Rows.le_int h:wpAny (model prog w) A (compareOp .LtE (.int a t) (.int c u)) Q E s)
section
open PySem.SeqAt
open PySem.AutoSeq1 (wpAny_loadPart')
open PySem.MeetsSeq PySem.MeetsSeq2 PySem.MeetsSeq3
theorem a8b (l b:Addr) (items items2:Array Value) (n n2:Nat) (dd dd2:Option Addr) (sl sl2:Array (Option Value)) (ns ms:List Int) (hi:IntsAre items.toList ns) (hj:IntsAre items2.toList ms) :
  Meets (Builtin.«tuple.__le__» ⟨[.ref l,.ref b],[]⟩)
   (fun _ R s=>s.heap.get? l=some { cls:=.type "tuple",dict:=dd,data:=.seq items n,slots:=sl }∧s.heap.get? b=some { cls:=.type "tuple",dict:=dd2,data:=.seq items2 n2,slots:=sl2 } ∧
    R (.ok (.ret (.bool (lexLe ns ms)))) s) :=
 .of_wp fun prog w A R s h=>by
  obtain ⟨hp,g,d,tk,os⟩:=s; obtain ⟨hl,hb,h⟩:=h
  have f2:=AutoSeq1.sub_tuple_tuple
  have z1:items.size=ns.length:=by rw [← hi.length]; simp
  have z2:items2.size=ms.length:=by rw [← hj.length]; simp
  wp_walk using wpAny_loadPart' hl,wpAny_loadPart' hb,wpAny_forIn_list _ (fun rest b s'=>b.1=none∧s'=⟨hp,g,d,tk,os⟩∧∃ (vs ws:List Value) (ns' ms':List Int),rest=vs.zip ws ∧
   IntsAre vs ns'∧IntsAre ws ms'∧ns'.length + items2.size=ms'.length + items.size∧R (.ok (.ret (.bool (lexLe ns' ms')))) ⟨hp,g,d,tk,os⟩) _
  case turn =>
   rintro ⟨y,x⟩ rest b s' ⟨hb',rfl,vs,ws,ns',ms',hz,hvi,hwi,hlen,hR⟩
   cases hvi with
   | nil=>rw [List.zip_nil_left] at hz; cases hz
   | cons a t hvi' =>
    cases hwi with
    | nil=>rw [List.zip_nil_right] at hz; cases hz
    | cons c u hwi' =>
     rw [List.zip_cons_cons] at hz
     injection hz with hyx hrest
     injection hyx with hy hx
     subst hy hx
     rw [b3y] at hR
     simp only [List.length_cons] at hlen
     obtain ⟨e,he,hiff⟩:=b8o A.in1 ⟨hp,g,d,tk,os⟩ a t c u
     refine Γa (he prog w _ _ ?_)
     cases e with
     | true =>
      rw [if_pos (hiff.mp rfl)] at hR
      wp_walk
      exact ⟨rfl,rfl,_,_,_,_,hrest,hvi',hwi',by lia,hR⟩
     | false =>
      rw [if_neg (fun q=>absurd (hiff.mpr q) Γk)] at hR
      have hri:=c0t A.in1 ⟨hp,g,d,tk,os⟩ a t c u prog w
      wp_walk using hri
      exact ⟨_,rfl,by simpa using hR⟩
  case fin =>
   rintro ⟨b1,b2⟩ s' ⟨hb',rfl,vs,ws,ns',ms',hz,hvi,hwi,hlen,hR⟩
   simp only at hb'
   subst hb'
   have hv:lexLe ns' ms'=decide (items.size≤items2.size):=by
    cases hvi with
    | nil =>
     cases hwi with
     | nil =>
      simp only [List.length_nil] at hlen
      rw [a8y]
      exact (decide_eq_true (by lia)).symm
     | cons c u hw =>
      simp only [List.length_nil,List.length_cons] at hlen
      rw [a7a]
      exact (decide_eq_true (by lia)).symm
    | cons a t hv =>
     cases hwi with
     | nil =>
      simp only [List.length_nil,List.length_cons] at hlen
      rw [a7b]
      exact (decide_eq_false (by lia)).symm
     | cons c u hw =>
      rw [List.zip_cons_cons] at hz
      cases hz
   rw [hv] at hR
   wp_walk
   exact ⟨_,rfl,by simpa [Builtin.Tuple.tupleCompareSizes] using hR⟩
  case h =>
   exact ⟨rfl,rfl,items.toList,items2.toList,ns,ms,rfl,hi,hj,by lia,h⟩
end
section
variable {prog:Program} {w:World} {A:Around} {E:Value→Shared→Prop} {s:Shared}
theorem le_tupInts {l b:Addr} {items items2:Array Value} {ns ms:List Int} {Q:Value→Shared→Prop} (hl:IsTup s.heap l items) (hb:IsTup s.heap b items2) (hi:IntsAre items.toList ns) (hj:IntsAre items2.toList ms)
  (hu:A.units < cLine) (h:Q (.bool (lexLe ns ms)) s):wpAny (model prog w) A (compareOp .LtE (.ref l) (.ref b)) Q E s:=by
 obtain ⟨⟨cls,dd,data,sl⟩,ho,hc,n,hd⟩:=id hl
 obtain ⟨⟨cls2,dd2,data2,sl2⟩,ho2,hc2,n2,hd2⟩:=id hb
 simp only at hc hd hc2 hd2
 subst hc hd hc2 hd2
 exact richCompare_meets_room (op:=.LtE) ⟨_,ho,rfl⟩ ⟨_,ho2,rfl⟩ PySem.F.slot_tuple_le PySem.F.entry_tuple_le (PySem.F.args_tuple_le_2 _ _) (a8b l b items items2 n n2 dd dd2 sl sl2 ns ms hi hj)
  ⟨ho,ho2,show Value.bool (lexLe ns ms)≠Value.notImplemented∧Q (.bool (lexLe ns ms)) s from ⟨(fun x=>nomatch x),h⟩⟩ hu
end
end HT
namespace L2
open PySem PySem.Spec PyProof.Rows
section
variable {X:Cx}
def rLeT (K:Γd):R2:=fun x y H Q=>∃ a b ns ms,x=.ref a∧y=.ref b∧SqT K H a (ns.map V.int)∧SqT K H b (ms.map V.int)∧Q (.bl (HT.lexLe ns ms)) H
theorem d0n (hu:X.A.units < cLine):OpR X (compareOp .LtE) (rLeT X.K):=by
 intro pins s σ H x y v u Q I rx ry h
 obtain ⟨a,b,ns,ms,rfl,rfl,ha,hb,q⟩:=h
 cases rx
 cases ry
 obtain ⟨its,r1,p1,_⟩:=I.tuple ha
 obtain ⟨its2,r2,p2,_⟩:=I.tuple hb
 have i1:IntsAre its.toArray.toList ns:=a3h r1
 have i2:IntsAre its2.toArray.toList ms:=a3h r2
 exact HT.le_tupInts p1 p2 i1 i2 hu ⟨.bl (HT.lexLe ns ms),H,I,rfl,q⟩
end
end L2
end
set_option maxHeartbeats 4000000
section
namespace L2
open PySem PySem.Spec PyProof.Rows
open AutoSeq1 (wpAny_loadPart')
section
variable {X:Cx}
theorem c1k:OpR X (binaryOp .Add) (fun x y H Q=>∃ a b ys,x=.ref a∧y=.ref b∧SqT X.K H a []∧SqT X.K H b ys∧Q (.ref b) H):=by
 intro pins s σ H x y v u Q I rx ry h
 obtain ⟨a,b,ys,rfl,rfl,ha,hb,q⟩:=h
 cases rx; cases ry
 obtain ⟨its,r1,⟨⟨oc,od,odt,os⟩,e1,ec,n,ed⟩,_⟩:=I.tuple ha
 obtain ⟨its2,r2,⟨⟨oc2,od2,odt2,os2⟩,e2,ec2,n2,ed2⟩,_⟩:=I.tuple hb
 simp only at ec ed ec2 ed2
 subst ec ed ec2 ed2
 cases r1
 exact concat_meets ⟨_,e1,rfl⟩ ⟨_,e2,rfl⟩ noFill_tuple_add seq_tuple_add F.slot_tuple_add F.entry_tuple_add (F.args_tuple_add_2 _ _) (tuple_addW0 a b #[] its2.toArray n n2 od od2 os os2 rfl) ⟨e1,e2,.ref b,H,I,rfl,q⟩
theorem c0p:SlR X (fun x lo hi H Q=>∃ a xs,x=.ref a∧SqT X.K H a xs∧HT.sIx xs.length 0 lo=0∧HT.sIx xs.length xs.length hi=xs.length∧Q (.ref a) H):=by
 intro pins s σ H x v vl vu lo hi sl Q I rx hs pl pu h
 obtain ⟨t,xs,rfl,hx,h1,h2,q⟩:=h
 cases rx
 obtain ⟨its,r,ht,hz⟩:=I.tuple hx
 have hlen:its.toArray.size=xs.length:=by rw [List.size_toArray]; exact r.length.symm
 refine ⟨"tuple",_,PyProof.Rows.slot_tuple_getitem.lookup,ht.typeIs,?_⟩
 obtain ⟨os,eo,co,do'⟩:=id hs
 have ty:s.TypeIs (.ref sl) "slice":=⟨os,eo,co⟩
 rw [← hlen] at h1 h2
 unfold getItem
 try with_reducible refine Γg ?_
 first | refine Γa (Γb ?_) | skip
 refine Γa (wpAny_sequenceKey ht.typeIs (by decide) (Γa (wpAny_callSpecial?_slot (name:=Γe "__getitem__") ht.typeIs PyProof.Rows.slot_tuple_getitem (wpAny_call_entry PyProof.Rows.slot_tuple_getitem ht.typeIs entry_tuple_getitem ?_ (args_tuple_getitem _ _)))))
 show wpAny _ _ (Builtin.Tuple.tupleItemsOf (.ref t) >>= _) _ _ s; refine Γa (tupleItemsOf_ ht (Γa (wpAny_typeOf ty ?_)))
 rw [if_pos (by decide)]; refine Γa (HT.sliceApplied_gen hs pl pu ?_)
 show wpAny _ _ (if (((HT.sIx its.toArray.size 0 lo:Nat):Int) == 0 && (1:Int) == 1 && (HT.sIx its.toArray.size its.toArray.size hi - HT.sIx its.toArray.size 0 lo) == its.toArray.size)=true then _ else _) _ _ s
 rw [if_pos (by rw [h1,h2]; simp)]
 refine Γa (m:=Builtin.Tuple.tupleIsExact (.ref t)) ?_
 unfold Builtin.Tuple.tupleIsExact
 refine Γa (wpAny_typeOf ht.typeIs (Γb ?_))
 rw [if_pos (by decide)]
 exact Γa (wpAny_rule (Γb ⟨_,rfl,Γb ⟨.ref t,H,I,rfl,q⟩⟩))
end
def Kept (h0 h:Heap) (N:Nat):Prop:=∀ b o,b < N→h0.get? b=some o→h.get? b=some o
def c8f (P:Program) (w:World) (A:Around) (I:Nat→Value→Prop) (bt:Nat→Nat→Bool) (h0:Heap) (N:Nat):Prop :=
 ∀ i j u v (s:Shared) (Q:Value→Shared→Prop) (E:Value→Shared→Prop),Kept h0 s.heap N→I i u→I j v→Q (.bool (bt i j)) s→wpAny (model P w) A (richCompare .Lt u v) Q E s
section
variable {P:Program} {w:World} {A:Around} {R:Result→Shared→Prop} {it S N:Addr} {fp wr:List Addr} {n:Nat} {V:Nat→Value→Prop} {St:Nat→Heap→Prop} {bt:Nat→Nat→Bool} {h0:Heap}
theorem b3z (W:Walks P w A.in1 it fp wr n V St) (C:c8f P w A.in1 V bt h0 N) (sf:S ∉ fp) (nw:∀ b∈wr,N≤b) (nS:N≤S) :
  ∀ (k j:Nat) (s:Shared) (best:Value) (c:Nat),n - (j + 1)=k→j + 1≤n→St (j + 1) s.heap→V (argBest bt j) best→Kept h0 s.heap N→s.heap.get? S=some { cls:=.type "list",dict:=none,data:=.seq #[best,best] c,slots:=#[] } →
  (∀ v h' tk,V (argBest bt (n - 1)) v→(∀ b o,b ∉ wr→b≠S→s.heap.get? b=some o→h'.get? b=some o)→R (.ok (.ret v)) { s with heap:=h',toks:=tk })→codeAny (model P w) A (.builtin "min.loop" ⟨[.ref it,.none,.ref S],[]⟩) R s:=by
 have sw:S ∉ wr:=fun h=>sf (W.sub _ h)
 have nm:(toString "min"++toString ".loop":String) = "min.loop":=by decide
 have low:∀ {b:Addr},b < N→b ∉ wr∧b≠S:=fun {b} hb=>⟨fun z=>absurd (nw b z) (Nat.not_le.mpr hb),fun z=>absurd nS (by rw [← z]; exact Nat.not_le.mpr hb)⟩
 intro k
 induction k with
 | zero =>
  intro j s best c hk hj hst hV kp hS hR
  have en:j + 1=n:=by lia
  refine codeAny_builtin F.entry_min_loop ?_; rw [Around.under_plainId F.plain_min_loop _]
  show wpAny _ A.in1 (seqItems? (.ref S) >>= _) _ _ s; refine Γa (wpAny_seqItems hS rfl ?_)
  show wpAny _ A.in1 (tryCatch (pyNext (.ref it)) _ >>= _) _ _ s; refine Γa (wpAny_tryCatch (W.done s _ _ (en ▸ hst) fun g tk kk=>?_))
  have S1:=kk S _ sw hS
  show wpAny _ A.in1 (updateSeq S (fun _=>#[]) >>= _) _ _ _; refine Γa (wpAny_updateSeq S1 rfl (Γa (wpAny_letGo (Γb ?_))))
  exact hR best _ tk (by rw [← en]; exact hV) fun b o c1 c2 e=>(Γf _ _ (Ne.symm c2)).trans (kk b o c1 e)
 | succ k ih =>
  intro j s best c hk hj hst hV kp hS hR
  have lt:j + 1 < n:=by lia
  refine codeAny_builtin F.entry_min_loop ?_; rw [Around.under_plainId F.plain_min_loop _]
  show wpAny _ A.in1 (seqItems? (.ref S) >>= _) _ _ s; refine Γa (wpAny_seqItems hS rfl ?_)
  show wpAny _ A.in1 (tryCatch (pyNext (.ref it)) _ >>= _) _ _ s; refine Γa (wpAny_tryCatch (W.item (j + 1) s _ _ lt hst fun v g tk vP st1 kk=>?_))
  have S1:=kk S _ sw hS
  have kp1:Kept h0 g N:=fun b o hb e=>kk b o (low hb).1 (kp b o hb e)
  show wpAny _ A.in1 (tryCatch (holding [v,v] (richCompare .Lt v best >>= _)) _ >>= _) _ _ _
  refine Γa (wpAny_tryCatch (Γg (Γa (C (j + 1) (argBest bt j) v best _ _ _ kp1 vP hV (Γa (Γg (wpAny_truthy_bool (Γa (wpAny_letGo (Γb ?_))))))))))
  cases hb:bt (j + 1) (argBest bt j) with
  | true =>
   simp only [if_true]; refine Γa (wpAny_updateSeq S1 rfl (Γa (wpAny_letGo ?_))); rw [nm]
   refine Γb ⟨plainId_quiet F.plain_min_loop _,ih (j + 1) _ v _ (by lia) lt (W.frame _ _ _ st1 fun b bf o e=>(Γf _ _ (fun h:S=b=>sf (by rw [h]; exact bf))).trans e) (by simp only [argBest,hb,if_true]; exact vP)
    (fun b o l e=>(Γf _ _ (Ne.symm (low l).2)).trans (kp1 b o l e)) (Heap.get?_update_self _ S1 rfl) fun v' g' tk' p' k'=>?_⟩
   exact hR v' g' tk' p' fun b o c1 c2 e=>k' b o c1 c2 ((Γf _ _ (Ne.symm c2)).trans (kk b o c1 e))
  | false =>
   simp only [Γp,if_false]; refine Γa (wpAny_letGo ?_); rw [nm]
   refine Γb ⟨plainId_quiet F.plain_min_loop _,ih (j + 1) _ best c (by lia) lt st1 (by simp only [argBest,hb,Γp,if_false]; exact hV) kp1 S1 fun v' g' tk' p' k'=>?_⟩
   exact hR v' g' tk' p' fun b o c1 c2 e=>k' b o c1 c2 (kk b o c1 e)
theorem b1k (W:Walks P w A.in1 it fp wr n V St) (C:c8f P w A.in1 V bt h0 N) (sf:S ∉ fp) (nw:∀ b∈wr,N≤b) (nS:N≤S) (hn:0 < n) {s:Shared} {c:Nat} (hst:St 0 s.heap) (kp:Kept h0 s.heap N)
  (hS:s.heap.get? S=some { cls:=.type "list",dict:=none,data:=.seq #[] c,slots:=#[] })
  (hR:∀ v h' tk,V (argBest bt (n - 1)) v→(∀ b o,b ∉ wr→b≠S→s.heap.get? b=some o→h'.get? b=some o)→R (.ok (.ret v)) { s with heap:=h',toks:=tk }):codeAny (model P w) A (.builtin "min.loop" ⟨[.ref it,.none,.ref S],[]⟩) R s:=by
 have sw:S ∉ wr:=fun h=>sf (W.sub _ h)
 have nm:(toString "min"++toString ".loop":String) = "min.loop":=by decide
 have low:∀ {b:Addr},b < N→b ∉ wr∧b≠S:=fun {b} hb=>⟨fun z=>absurd (nw b z) (Nat.not_le.mpr hb),fun z=>absurd nS (by rw [← z]; exact Nat.not_le.mpr hb)⟩
 refine codeAny_builtin F.entry_min_loop ?_; rw [Around.under_plainId F.plain_min_loop _]
 show wpAny _ A.in1 (seqItems? (.ref S) >>= _) _ _ s; refine Γa (wpAny_seqItems hS rfl ?_)
 show wpAny _ A.in1 (tryCatch (pyNext (.ref it)) _ >>= _) _ _ s; refine Γa (wpAny_tryCatch (W.item 0 s _ _ hn hst fun v g tk vP st1 kk=>?_))
 have S1:=kk S _ sw hS
 show wpAny _ A.in1 (updateSeq S (fun _=>#[v,v]) >>= _) _ _ _; refine Γa (wpAny_updateSeq S1 rfl ?_); rw [nm]
 refine Γb ⟨plainId_quiet F.plain_min_loop _,b3z W C sf nw nS _ 0 _ v _ rfl hn (W.frame _ _ _ st1 fun b bf o e=>(Γf _ _ (fun h:S=b=>sf (by rw [h]; exact bf))).trans e) vP
  (fun b o l e=>(Γf _ _ (Ne.symm (low l).2)).trans (kk b o (low l).1 (kp b o l e))) (Heap.get?_update_self _ S1 rfl) fun v' g' tk' p' k'=>?_⟩
 exact hR v' g' tk' p' fun b o c1 c2 e=>k' b o c1 c2 ((Γf _ _ (Ne.symm c2)).trans (kk b o c1 e))
end
section
variable {P:Program} {w:World} {A:Around} {E:Value→Shared→Prop} {s:Shared}
theorem a7z {l:Addr} {xs:Array Value} {bt:Nat→Nat→Bool} {Q:Value→Shared→Prop} (hh:A.in1.handled=none) (hl:s.heap.IsList l xs) (hn:0 < xs.size) (C:c8f P w A.in1 (fun i v=>xs[i]?=some v) bt s.heap s.heap.objs.size)
  (K:∀ v h' tk,xs[argBest bt (xs.size - 1)]?=some v→(∀ b o,s.heap.get? b=some o→h'.get? b=some o)→Q v { s with heap:=h',toks:=tk }):wpAny (model P w) A (call (.builtin "min") [.ref l]) Q E s:=by
 have nm:(toString "min"++toString ".loop":String) = "min.loop":=by decide
 have ll:l < s.heap.objs.size:=by obtain ⟨_,e,_⟩:=hl; exact Γl e
 refine call_function_tree F.kind_min F.plain_min F.entry_min (F.args_min1 _) ?_
 show wpAny _ A.in1 (Builtin.Builtins.bindParams "min" ["key","default"] 0 ⟨[],[]⟩ >>= _) _ _ s
 refine Γa (wpAny_of_eq (show Builtin.Builtins.bindParams "min" ["key","default"] 0 ⟨[],[]⟩=pure [none,none] from rfl) (Γa (Γb (Γa (wpAny_pyIter_list hl ?_)))))
 have W:=Walks.list (prog:=P) (w:=w) hh s.heap.objs.size l (Γo ll) xs
 refine Γa (wpAny_newObj_type ?_)
 rw [nm]
 have z1:(s.heap.push { cls:=.type "list_iterator",data:=.fields #[.ref l,.int 0 0] }).objs.size=s.heap.objs.size + 1:=Heap.size_push ..
 refine Γb ⟨plainId_quiet F.plain_min_loop _,b1k (S:=(s.heap.push { cls:=.type "list_iterator",data:=.fields #[.ref l,.int 0 0] }).objs.size) W C ?_ ?_ ?_ hn ⟨⟨_,Γc _ (Γm _ rfl),rfl,rfl⟩,(hl.push _).push _⟩
  (fun b o hb e=>Γc _ (Γc _ e)) (Γm _ rfl) fun v h' tk hv hk=>?_⟩
 ·rw [z1]; intro z; simp only [List.mem_cons,List.not_mem_nil,or_false] at z; rcases z with z | z
  ·exact absurd z (Nat.ne_of_gt (Nat.lt_succ_self _))
  ·exact absurd z (Nat.ne_of_gt (Nat.lt_succ_of_lt ll))
 ·intro b hb; simp at hb; rw [hb]; exact Γi _
 ·rw [z1]; exact Nat.le_succ _
 ·refine K v h' tk hv fun b o e=>hk b o (by simp; exact Γo (Γl e)) ?_ (Γc _ (Γc _ e))
  rw [z1]; exact Γo (Nat.lt_succ_of_lt (Γl e))
end
end L2
end
section
namespace L2
open PySem PySem.Spec PyProof.Rows
section
variable {prog:Program} {w:World} {A:Around} {E:Value→Shared→Prop} {s:Shared}
end
section
variable {X:Cx} {a e k:Expr} {ta te tk:TE} {pos p2:Pos}
end
end L2
end
section
namespace L2
open PySem PySem.Spec PyProof.Rows
def a9h (cells:List (Str×Addr)):List (Str×NameKind)→List (Str×Addr)→List (Str×Addr)
 | [],acc=>acc
 | (n,k) :: r,acc=>if (k == NameKind.free)=true then a9h cells r ((n,(cells.lookup n).getD 0) :: acc) else a9h cells r acc
theorem b3h {env:Env}:∀ (names:List (Str×NameKind)) (acc:List (Str×Addr)),(∀ p∈names,p.2=.free→∃ c,env.cells.lookup p.1=some c) →
  (forIn names acc fun (x:Str×NameKind) (cs:List (Str×Addr))=>if (x.2 == NameKind.free)=true then cellOf env x.1 >>= fun c=>pure (ForInStep.yield ((x.1,c) :: cs)) else pure (ForInStep.yield cs):Sem (List (Str×Addr)))=pure (a9h env.cells names acc)
 | [],acc,_=>rfl
 | (n,k) :: r,acc,h=>by
  have ih:=b3h (env:=env) r
  rw [List.forIn_cons]
  unfold a9h
  by_cases hk:(k == NameKind.free)=true
  ·obtain ⟨c,hc⟩:=h (n,k) Γn (by simpa using hk)
   have hcell:cellOf env n=pure c:=by
    have hc':env.cells.lookup n=some c:=hc
    unfold cellOf; rw [hc']
   have hc':env.cells.lookup n=some c:=hc
   simp only [hk,if_true,hcell,hc',Option.getD_some,pure_bind]
   exact ih _ fun p hp=>h p (Γh _ hp)
  ·simp only [hk,if_false,pure_bind,Γp]
   exact ih _ fun p hp=>h p (Γh _ hp)
theorem a4r {scope:Scope} {env:Env} (h:∀ p∈scope.names,p.2=.free→∃ c,env.cells.lookup p.1=some c):closureFor scope env=pure (a9h env.cells scope.names []):=by
 have q:=b3h (env:=env) scope.names [] h
 unfold closureFor
 first
  | exact (by rw [q]; rfl)
  | (simp only [bind_pure]; exact q)
theorem a4a {cells:List (Str×Addr)} {x:Str} {c:Addr}:∀ (names:List (Str×NameKind)) (acc:List (Str×Addr)),(∀ p∈names,p.2=.free→∃ c,cells.lookup p.1=some c)→(∀ y d,acc.lookup y=some d→cells.lookup y=some d) →
  (a9h cells names acc).lookup x=some c→cells.lookup x=some c
 | [],acc,_,ha,h=>ha x c h
 | (n,k) :: r,acc,hn,ha,h=>by
  unfold a9h at h
  split at h
  ·rename_i hk
   refine a4a r _ (fun p hp=>hn p (Γh _ hp)) (fun y d hy=>?_) h
   rw [List.lookup_cons] at hy
   obtain ⟨c',hc'⟩:=hn (n,k) Γn (by simpa using hk)
   have hc'':cells.lookup n=some c':=hc'
   split at hy
   ·rename_i hyn
    have e:y=n:=by simpa using hyn
    subst e
    rw [hc''] at hy ⊢
    exact hy
   ·exact ha y d hy
  ·exact a4a r _ (fun p hp=>hn p (Γh _ hp)) ha h
theorem a9d {cells:List (Str×Addr)} {x:Str}:∀ (names:List (Str×NameKind)) (acc:List (Str×Addr)),((x,NameKind.free)∈names ∨ ∃ c,acc.lookup x=some c)→∃ c,(a9h cells names acc).lookup x=some c
 | [],acc,h=>by
  rcases h with h | h
  ·simp at h
  ·exact h
 | (n,k) :: r,acc,h=>by
  unfold a9h
  split
  ·refine a9d r _ ?_
   by_cases hx:x=n
   ·subst hx
    exact .inr ⟨(cells.lookup x).getD 0,by rw [List.lookup_cons]; simp⟩
   ·rcases h with h | ⟨c,h⟩
    ·rcases List.mem_cons.mp h with h | h
     ·cases h; exact absurd rfl hx
     ·exact .inl h
    ·refine .inr ⟨c,?_⟩
     rw [List.lookup_cons]
     have:(x == n)=false:=by simpa using hx
     rw [this]
     exact h
  ·rename_i hk
   refine a9d r _ ?_
   rcases h with h | h
   ·rcases List.mem_cons.mp h with h | h
    ·cases h; simp at hk
    ·exact .inl h
   ·exact .inr h
theorem a2z {env : Env} {x : Str} : ∀ {names : List (Str × NameKind)},
    ((names.map fun (n, k) => if (k == NameKind.free && env.scope.kind == .function && env.kindOf n == some .cell) then (n, NameKind.cell) else (n, k)).lookup x = some .cell ∨
     (names.map fun (n, k) => if (k == NameKind.free && env.scope.kind == .function && env.kindOf n == some .cell) then (n, NameKind.cell) else (n, k)).lookup x = some .free) → names.lookup x = some .cell ∨ names.lookup x = some .free
  | [], h => by rcases h with h | h <;> simp at h
  | (n, k) :: r, h => by
    have ih := @a2z env x r
    rw [List.map_cons] at h
    rw [List.lookup_cons]
    by_cases hk : (k == NameKind.free && env.scope.kind == .function && env.kindOf n == some .cell) = true
    · simp only [hk, if_true] at h
      cases hx : x == n with
      | true =>
        have : k = .free := by simp only [Bool.and_eq_true] at hk; simpa using hk.1.1
        exact .inr (by rw [this])
      | false =>
        simp only [List.lookup_cons, hx] at h
        exact ih h
    · simp only [hk, if_false, Γp] at h
      cases hx : x == n with
      | true => simpa only [List.lookup_cons, hx] using h
      | false =>
        simp only [List.lookup_cons, hx] at h
        exact ih h
theorem a0z:∀ (names:List (Str×NameKind)) (b:Nat) (acc:List (Str×Addr)),cellsFrom b names acc=cellsFrom b names []++acc
 | [],_,_=>rfl
 | (n,k) :: r,b,acc=>by
  unfold cellsFrom
  split
  ·rw [a0z r _ ((n,b) :: acc),a0z r _ [(n,b)],List.append_assoc]; rfl
  ·exact a0z r b acc
theorem a3e:∀ (names:List (Str×NameKind)) (b:Nat) {x:Str} {c:Addr},(x,c)∈cellsFrom b names []→(x,NameKind.cell)∈names
 | [],_,_,_,h=>by simp [cellsFrom] at h
 | (n,k) :: r,b,x,c,h=>by
  unfold cellsFrom at h
  split at h
  ·rename_i hk
   rw [a0z] at h
   rcases List.mem_append.mp h with h | h
   ·exact Γh _ (a3e r _ h)
   ·simp at h
    have:k=.cell:=by simpa using hk
    rw [h.1,this]; exact Γn
  ·exact Γh _ (a3e r _ h)
theorem a8w {x:Str} {c:Addr}:∀ {l l':List (Str×Addr)},(l++l').lookup x=some c→l.lookup x=some c ∨ (l.lookup x=none∧l'.lookup x=some c)
 | [],_,h=>.inr ⟨rfl,h⟩
 | (n,d) :: r,l',h=>by
  rw [List.cons_append,List.lookup_cons] at h
  rw [List.lookup_cons]
  cases hx:x == n with
  | true=>rw [hx] at h; exact .inl h
  | false=>rw [hx] at h; exact a8w h
theorem b7l {x:Str}:∀ {l l':List (Str×Addr)},((∃ c,l.lookup x=some c) ∨ ∃ c,l'.lookup x=some c)→∃ c,(l++l').lookup x=some c
 | [],_,h=>by
  rcases h with ⟨c,h⟩ | h
  ·cases h
  ·exact h
 | (n,d) :: r,l',h=>by
  rw [List.cons_append,List.lookup_cons]
  cases hx:x == n with
  | true=>exact ⟨d,rfl⟩
  | false =>
   refine b7l ?_
   rcases h with ⟨c,h⟩ | h
   ·rw [List.lookup_cons,hx] at h; exact .inl ⟨c,h⟩
   ·exact .inr h
theorem a4u {M:Model} {A:Around} {E:Value→Shared→Prop} {s:Shared} {scope:Scope} {globals:Addr} {cl:List (Str×Addr)} {qual:Str} {env:Env} {Q:Env→Shared→Prop}
  (hQ:∀ h4:Heap,h4.Ns s.heap.objs.size (fun _=>none)→(∀ b o,s.heap.get? b=some o→h4.get? b=some o)→CellsOk h4 (s.heap.objs.size + 1) (cellsFrom (s.heap.objs.size + 1) scope.names []) →
   Q (newEnv scope s.heap.objs.size globals (cellsFrom (s.heap.objs.size + 1) scope.names cl) qual none .none (some env) builtinsNs) { s with heap:=h4,toks:=s.toks + ([]:List (Str×Value)).length }) :
  wpAny M A (newFunctionEnv scope globals cl [] qual none .none (some env)) Q E s:=by
 simp only [newFunctionEnv,Option.isSome_some,if_true]
 refine Γa (wpAny_alloc ?_)
 refine Γa (wpAny_layCells _ (fun name kind cells=>by cases hkc:kind == NameKind.cell <;> simp [hkc]) _ _ _ _ ?_)
 have ok:=cellsFrom_ok scope.names (s.heap.push { cls:=.type "dict",data:=.dict #[] }) (s.heap.objs.size + 1) [] ⟨fun _ _ hm=>(nomatch hm),List.Pairwise.nil⟩ (by rw [Heap.size_push]; exact Γi _)
 rw [Heap.size_push] at ok
 rw [show ({ s with heap:=s.heap.push { cls:=.type "dict",data:=.dict #[] } }:Shared).heap.objs.size=s.heap.objs.size + 1 from Heap.size_push ..]
 simp only [List.forIn_nil]
 exact Γa (Γb (Γb (hQ _ ((Heap.Ns.new s.heap (.type "dict")).keeps (pushCells_keeps _ _)) (fun b o e=>pushCells_keeps _ _ b o (Γc _ e)) ok)))
def d3q (x:Str):Str:=Γe "#"++x
def a8s (own:List Str) (x:Str):Str:=if own.contains x then d3q x else x
def cxC (X:Cx) (scope:Scope) (own:List Str) (fp:List Addr) (C:Addr) (s:Shared) (H:Hp):Cx :=
 { X with N:=X.N.map (a8s own)++own,s₀:=s,H₀:=H,env:=compEnvC scope (cellsFrom (C + 1) scope.names (a9h X.env.cells scope.names [])) C X.env,outer:=X.stack,stack:=X.stack,ex:=fp,fn:=fun x=>scope.names.lookup x == some .cell,pn:=[],xe:=fun _ _=>False }
structure CScope (X:Cx) (scope:Scope) (own:List Str):Prop where
 kind:scope.kind=.function
 nocell:∀ p∈scope.names,p.2=.cell→scope.names.lookup p.1=some .cell
 names:∀ p∈scope.names,p.2=.local→scope.names.lookup p.1=some .local
 free:∀ p∈scope.names,p.2=.free→X.env.kindOf p.1=some .cell ∨ X.env.kindOf p.1=some .free
 apart:∀ x∈X.N,own.contains x=false→scope.names.lookup x≠some .local∧scope.names.lookup x≠some .cell
 hid:∀ x∈X.N,own.contains x=true→scope.names.lookup (d3q x)=none
section
variable {X:Cx}
theorem a7o {names:List (Str×NameKind)} {x:Str} {k:NameKind} (h:names.lookup x=some k):(x,k)∈names:=PySem.mem_of_lookup h
theorem a4g {env:Env} {x:Str}:∀ {names:List (Str×NameKind)},
  (names.map fun (n,k)=>if (k == NameKind.free && env.scope.kind == .function && env.kindOf n == some .cell) then (n,NameKind.cell) else (n,k)).lookup x=some .local→names.lookup x=some .local
 | [],h=>by simp at h
 | (n,k) :: r,h=>by
  have ih:=@a4g env x r
  rw [List.map_cons] at h
  rw [List.lookup_cons]
  by_cases hk:(k == NameKind.free && env.scope.kind == .function && env.kindOf n == some .cell)=true
  ·simp only [hk,if_true] at h
   cases hx:x == n with
   | true=>simp [List.lookup_cons,hx] at h
   | false =>
    simp only [List.lookup_cons,hx] at h
    exact ih h
  ·simp only [hk,if_false,Γp] at h
   cases hx:x == n with
   | true=>simpa [List.lookup_cons,hx] using h
   | false =>
    simp only [List.lookup_cons,hx] at h
    exact ih h
theorem a9o {env:Env} {scope:Scope} {x:Str} (h:scope.names.lookup x=none):(relabel scope env).names.lookup x=none:=by
 unfold relabel
 simp only
 generalize scope.names=l at h
 induction l with
 | nil=>rfl
 | cons p r ih =>
  obtain ⟨n,k⟩:=p
  rw [List.lookup_cons] at h
  cases e:(x == n) with
  | true=>rw [e] at h; cases h
  | false =>
   rw [e] at h
   rw [List.map_cons]
   split
   ·rw [List.lookup_cons,e]; exact ih h
   ·rw [List.lookup_cons,e]; exact ih h
theorem b2y {scope:Scope} {own:List Str} {fp:List Addr} {pins:List (Addr×Obj)} {σ:St} {H:Hp} {s:Shared} {h4:Heap} {t4:Nat} (I:Inv X pins σ H s) (SC:CScope X scope own) (hc:X.calm=true)
  (hf:∀ b∈fp,b1w X pins H b) (hfo:∀ b∈fp,∃ o,s.heap.get? b=some o)
  (hns:h4.Ns s.heap.objs.size (fun _=>none)) (hk:∀ b o,s.heap.get? b=some o→h4.get? b=some o) (ok:CellsOk h4 (s.heap.objs.size + 1) (cellsFrom (s.heap.objs.size + 1) scope.names [])) :
  Inv (cxC X scope own fp s.heap.objs.size s H) [] (σ++Γj own.length none) H { s with heap:=h4,toks:=t4 }:=by
 have fr:∀ p∈scope.names,p.2=.free→∃ c,X.env.cells.lookup p.1=some c:=fun p hp hq=>I.ok.has p.1 (SC.free p hp hq)
 have cl0:∀ {x:Str} {c:Addr},(a9h X.env.cells scope.names []).lookup x=some c→X.env.cells.lookup x=some c:=fun h=>a4a scope.names [] fr (fun y d hy=>by simp at hy) h
 have cl:∀ {x:Str} {c:Addr},(cellsFrom (s.heap.objs.size + 1) scope.names (a9h X.env.cells scope.names [])).lookup x=some c→((x,c)∈cellsFrom (s.heap.objs.size + 1) scope.names []∧s.heap.objs.size + 1≤c) ∨ X.env.cells.lookup x=some c:=fun h=>by
  rw [a0z] at h
  rcases a8w h with z | z
  ·exact .inl ⟨PySem.mem_of_lookup z,(ok.empty _ _ (PySem.mem_of_lookup z)).2⟩
  ·exact .inr (cl0 z.2)
 have hasC:∀ {x:Str},(scope.names.lookup x=some .cell ∨ scope.names.lookup x=some .free)→∃ c,(cellsFrom (s.heap.objs.size + 1) scope.names (a9h X.env.cells scope.names [])).lookup x=some c:=fun {x} h=>by
  rw [a0z]
  refine b7l ?_
  rcases h with h | h
  ·exact .inl (Option.isSome_iff_exists.mp (PySem.W.cellsFrom_some _ _ _ (.inl h)))
  ·exact .inr (a9d scope.names [] (.inl (a7o h)))
 have clt:∀ {x:Str} {c:Addr},X.env.cells.lookup x=some c→c < s.heap.objs.size:=fun h=>by obtain ⟨v,q⟩:=I.cell _ _ h; exact q.lt
 refine ⟨⟨I.ok.mod,SC.kind,I.ok.glob,I.ok.blt,Γi _,fun x y c h1 h2=>?_,fun x hx=>?_,fun x c hf' h=>?_,fun _=>I.ok.hd hc,I.ok.frames,.inl rfl,fun b hb=>?_,
   fun b o e=>I.bs b o e,Nat.le_trans I.ok.bsz I.sz,fun b o e hb=>?_,fun b hb hz=>?_,I.stack,I.stkFree⟩,
  rfl,I.bare,Un.kept hk,⟨_,hns,fun i x v e1 e2 e3=>?_⟩,fun x c h=>?_,I.fresh,fun x c h=>(cl h).elim (fun z=>I.hok.fresh (by lia)) (I.freeC x c),fun p hp=>absurd (show p∈([]:List (Addr×Obj)) from hp) (by simp),I.hok.kept hk,?_⟩
 ·rcases cl h1 with z1 | z1 <;> rcases cl h2 with z2 | z2
  ·exact name_of_addr ok.apart z1.1 z2.1
  ·exact absurd (clt z2) (Nat.not_lt.mpr (Nat.le_of_succ_le z1.2))
  ·exact absurd (clt z1) (Nat.not_lt.mpr (Nat.le_of_succ_le z2.2))
  ·exact I.ok.inj x y c z1 z2
 ·have hx:(relabel scope X.env).names.lookup x=some .cell ∨ (relabel scope X.env).names.lookup x=some .free:=hx
  exact hasC (a2z hx)
 ·have hf':(scope.names.lookup x == some .cell)=true:=hf'
  have h:(cellsFrom (s.heap.objs.size + 1) scope.names (a9h X.env.cells scope.names [])).lookup x=some c:=h
  obtain ⟨c',hc'⟩:=Option.isSome_iff_exists.mp (PySem.W.cellsFrom_some scope.names (s.heap.objs.size + 1) [] (.inl (by simpa using hf')))
  rw [a0z] at h
  rcases a8w h with z | z
  ·have:=(ok.empty _ _ (PySem.mem_of_lookup z)).2
   show s.heap.objs.size≤c
   lia
  ·rw [hc'] at z; cases z.1
 ·have hb:b∈fp:=hb
  obtain ⟨o,ho⟩:=hfo b hb
  exact ⟨Γo (Γl ho),fun x c h=>(cl h).elim (fun z e=>absurd (e ▸ Γl ho:c < s.heap.objs.size) (Nat.not_lt.mpr (Nat.le_of_succ_le z.2))) ((hf b hb).2.2.2.2.1 x c)⟩
 ·have hb:b∈fp:=hb
  have e:X.base.get? b=some o:=e
  rcases (hf b hb).2.2.2.1 with z | z
  ·exact I.ok.noex b o e z
  ·exact absurd (Nat.lt_of_lt_of_le (Γl e) (Nat.le_trans I.ok.bsz z)) (Nat.lt_irrefl _)
 ·have hb:b∈fp:=hb
  have hz:b∈frs X.stack:=hz
  rcases List.mem_cons.mp (I.stkSub b hz) with z | z
  ·exact (hf b hb).2.1 z
  ·exact (hf b hb).2.2.1 z
 ·have e1:(X.N.map (a8s own)++own)[i]?=some x:=e1
  have e3:Vis (relabel scope X.env) x:=e3
  have hi:i < σ.length:=by
   by_cases hi:i < σ.length
   ·exact hi
   ·rw [List.getElem?_append_right (by lia),List.getElem?_replicate] at e2
    split at e2 <;> cases e2
  rw [List.getElem?_append_left hi] at e2
  rw [List.getElem?_append_left (by rw [List.length_map,← I.len]; exact hi),List.getElem?_map] at e1
  obtain ⟨y,e1,ey⟩:=Option.map_eq_some_iff.mp e1
  have hny:own.contains y=false:=by
   cases hy:own.contains y with
   | false=>rfl
   | true =>
    exfalso
    have hh:=SC.hid y (List.mem_of_getElem? e1) hy
    have ex:x=d3q y:=by rw [← ey]; unfold a8s; rw [if_pos hy]
    rw [← ex] at hh
    have e4:(relabel scope X.env).names.lookup x=none:=a9o hh
    rcases e3 with z | z | z <;> (rw [e4] at z; cases z)
  have ex:x=y:=by rw [← ey]; unfold a8s; rw [if_neg (by rw [hny]; exact Γk)]
  rw [← ex] at e1 hny
  have hnl:(relabel scope X.env).names.lookup x≠some .local:=fun z=>(SC.apart x (List.mem_of_getElem? e1) hny).1 (a4g z)
  have hv:(relabel scope X.env).names.lookup x=some .cell ∨ (relabel scope X.env).names.lookup x=some .free:=by
   rcases e3 with z | z | z
   ·exact absurd z hnl
   ·exact .inl z
   ·exact .inr z
  have hfr:scope.names.lookup x=some .free:=(a2z hv).resolve_left (SC.apart x (List.mem_of_getElem? e1) hny).2
  have hm:=a7o hfr
  have hkx:=SC.free (x,.free) hm rfl
  obtain ⟨m,hn,hl⟩:=I.loc
  have hkx':X.env.scope.names.lookup x=some .cell ∨ X.env.scope.names.lookup x=some .free:=hkx
  obtain ⟨u,r,l⟩:=hl i x v e1 e2 (hkx'.elim (fun z=>.inr (.inl z)) fun z=>.inr (.inr z))
  refine ⟨u,r,.inr ⟨hv,?_⟩⟩
  obtain ⟨c,hcl⟩:=hasC (.inr hfr)
  refine ⟨c,hcl,?_⟩
  rcases l with ⟨z,_⟩ | ⟨z,c',hc',q⟩
  ·rcases hkx with y | y <;> (rw [z] at y; cases y)
  ·rcases cl hcl with y | y
   ·have:=SC.nocell _ (a3e _ _ y.1) rfl
    rw [hfr] at this; cases this
   ·rw [hc'] at y; cases y
    obtain ⟨o,ho,hd⟩:=q
    exact ⟨o,hk _ _ ho,hd⟩
 ·rcases cl h with z | z
  ·exact ⟨_,(ok.empty _ _ z.1).1⟩
  obtain ⟨v,o,ho,hd⟩:=I.cell x c z
  exact ⟨v,o,hk _ _ ho,hd⟩
 ·show (σ++Γj own.length none).length=(X.N.map (a8s own)++own).length
  rw [List.length_append,List.length_append,List.length_map,List.length_replicate,I.len]
end
def a8d (ifs:List Expr) (env:Env):Sem Bool :=
 forIn ifs true fun c r=>if r=true then do let ok ← isTrue c env (eval c env); pure (ForInStep.yield ok) else pure (ForInStep.yield r)
def PTs (X:Cx) (ifs:List Expr) (t:TT):Prop :=
 ∀ (pins:List (Addr×Obj)) (s:Shared) (σ:St) (H:Hp) (Q:Bool→Hp→Prop),Inv X pins σ H s→t σ H Q→wpAny (model X.prog X.w) X.A (a8d ifs X.env) (TP X pins σ Q) X.xe s
theorem a5n {M:Model} {A:Around} {E:Value→Shared→Prop} {env:Env} {Q:Bool→Shared→Prop} {s:Shared} (h:Q false s):∀ ifs:List Expr,
  wpAny M A (forIn ifs false fun c r=>if r=true then do let ok ← isTrue c env (eval c env); pure (ForInStep.yield ok) else pure (ForInStep.yield r)) Q E s
 | []=>Γb h
 | c :: r=>by
  rw [List.forIn_cons]
  simp only [Γp,if_false]
  exact Γa (Γb (a5n h r))
section
variable {X:Cx}
def d5d:TT:=fun _ H Q=>Q true H
theorem b6b:PTs X [] d5d:=fun _ _ _ H _ I h=>Γb ⟨H,I,h⟩
theorem c0v {c:Expr} {r:List Expr} {t u:TT} (h1:PT X c t) (h2:PTs X r u):PTs X (c :: r) (fun σ H Q=>t σ H fun b H1=>if b=true then u σ H1 Q else Q false H1):=by
 intro pins s σ H Q I h
 unfold a8d
 rw [List.forIn_cons]
 simp only [if_true]
 refine Γa (Γa (thn (h1 pins s σ H _ I h) fun b s1 ⟨H1,I1,q1⟩=>Γb ?_))
 cases b with
 | true =>
  rw [if_pos rfl] at q1
  exact h2 pins s1 σ H1 Q I1 q1
 | false =>
  rw [if_neg Γk] at q1
  exact a5n ⟨H1,I1,q1⟩ r
end
section
variable {prog:Program} {w:World} {A:Around} {R:Result→Shared→Prop} {s:Shared}
theorem b4m {elt target iter:Expr} {ifs:List Expr} {scope:Scope} {pos:Pos} {it acc:Value} {env:Env} (I:Nat→Shared→Prop)
  (turn:∀ n s,I n s→wpAny (model prog w) A (pyNext it) (fun r s1=>match r with
   | none=>R (.ok .next) s1
   | some v=>wpAny (model prog w) A (letOwnedTupleGo target it v) (fun _ s2=>wpAny (model prog w) A (assign target env v) (fun _ s3=>wpAny (model prog w) A (a8d ifs env) (fun ok s4 =>
     if ok=true then wpAny (model prog w) A (eval elt env) (fun x s5=>wpAny (model prog w) A (call (.builtin "list.append") [acc,x]) (fun _ s6=>∃ m,m < n∧I m s6) (fun _ _=>False) s5) (fun _ _=>False) s4
     else ∃ m,m < n∧I m s4) (fun _ _=>False) s3) (fun _ _=>False) s2) (fun _ _=>False) s1) (fun _ _=>False) s)
  (n:Nat) (h:I n s):codeAny (model prog w) A (.compLoop (.ListComp elt [⟨target,iter,ifs,0⟩] scope pos) 0 it acc env) R s:=by
 refine codeAny_loop rfl I (fun n s hI=>?_) n h
 show wpAny _ A ((compTurn (.ListComp elt [⟨target,iter,ifs,0⟩] scope pos) 0 it acc env).onRaise (fun x=>do noteFrame x env; theTreesLotGoes x)) _ _ s
 refine wpAny_noted ?_
 rw [compTurn_list]
 have no:∀ (e:Value) (s':Shared),(fun (_:Value) (_:Shared)=>False) e s'→notedBy (model prog w) A env (fun e s'=>R (.error e) s') e s':=fun _ _ z=>z.elim
 refine Γa (wpAny_standAt (Γa (wpAny_mono (turn n s hI) (fun r s1 h1=>?_) no)))
 cases r with
 | none=>exact Γb h1
 | some v =>
  refine Γa (wpAny_mono h1 (fun _ s2 h2=>Γa (wpAny_mono h2 (fun _ s3 h3=>Γa (wpAny_mono h3 (fun ok s4 h4=>?_) no)) no)) no)
  cases ok with
  | true =>
   rw [if_pos rfl] at h4
   simp only [if_true]
   exact Γa (Γa (wpAny_mono h4 (fun x s5 h5=>Γa (wpAny_mono h5 (fun _ s6 h6=>Γb (Γb ⟨rfl,h6⟩)) no)) no))
  | false =>
   rw [if_neg Γk] at h4
   simp only [Γp,if_false]
   first
    | exact Γb ⟨rfl,h4⟩
    | exact Γa (Γb (Γb ⟨rfl,h4⟩))
end
def Wk (σ σ2:St):Prop:=σ2.length=σ.length∧∀ (j:Nat) (v:V),σ[j]?=some (some v)→σ2[j]?=some (some v)
def c4k (wi:TI) (g:TG) (tt:TT) (te:TE) (own:Nat):TE:=fun σ H Q=>wi σ H fun J H1=>∀ acc,H1 acc=none→∃ W:Nat→Nat→Hp→Prop,(∃ m,W 0 m (upd H1 acc (.lst [])))∧∀ i m H,W i m H →
 (J.stop i H∧Q (.ref acc) H) ∨ (J.go i H∧∀ x H',J.yld i H x H'→g x (σ++Γj own none) H' fun σ2 H2=>Wk (σ++Γj own none) σ2∧tt σ2 H2 fun b H3 =>
  if b=true then te σ2 H3 fun v H4=>∃ ys,H4 acc=some (.lst ys)∧ys.length < sizeLine∧∃ m',m' < m∧W (i + 1) m' (upd H4 acc (.lst (ys++[v]))) else ∃ m',m' < m∧W (i + 1) m' H3)
section
variable {X:Cx} {elt tg iter:Expr} {ifs:List Expr} {scope:Scope} {own:List Str} {pos:Pos} {wi:TI} {g:TG} {tt:TT} {te:TE}
theorem b3f {pins:List (Addr×Obj)} {σ:St} {H2:Hp} {s2:Shared} {Q:VK} {it:Addr} {fp:List Addr} {tn:Nat→Heap→Prop} {J:It} {RR:Value→Addr→Result→Shared→Prop}
  (hc:X.calm=true) (SC:CScope X scope own)
  (hblock:∀ C s H,PG (cxC X scope own fp C s H) tg g∧PTs (cxC X scope own fp C s H) ifs tt∧PE (cxC X scope own fp C s H) elt te)
  (I2:Inv X pins σ H2 s2) (T:Turn X.prog X.w X.K tg J fp it tn) (st2:tn 0 s2.heap) (f2:∀ b∈fp,b1w X pins H2 b)
  (h:∀ acc,H2 acc=none→∃ W:Nat→Nat→Hp→Prop,(∃ m,W 0 m (upd H2 acc (.lst [])))∧∀ i m H,W i m H →
   (J.stop i H∧Q (.ref acc) H) ∨ (J.go i H∧∀ x H',J.yld i H x H'→g x (σ++Γj own.length none) H' fun σ2 H2=>Wk (σ++Γj own.length none) σ2∧tt σ2 H2 fun b H3 =>
    if b=true then te σ2 H3 fun v H4=>∃ ys,H4 acc=some (.lst ys)∧ys.length < sizeLine∧∃ m',m' < m∧W (i + 1) m' (upd H4 acc (.lst (ys++[v]))) else ∃ m',m' < m∧W (i + 1) m' H3))
  (hRR:∀ acc C H' m s',Inv X pins σ H' s'→s'.heap.Ns C m→C≠X.env.locals→(∀ x c,X.env.cells.lookup x=some c→c≠C)→s2.heap.objs.size≤C→H' C=none→Q (.ref acc) H'→RR (.ref acc) C (.ok .next) s') {E:Value→Shared→Prop} :
  wpAny (model X.prog X.w) X.A (newList []) (fun acc s3=>wpAny (model X.prog X.w) X.A (newFunctionEnv scope X.env.globals (a9h X.env.cells scope.names []) [] X.env.qual none .none (some X.env)) (fun cenv s4 =>
   codeAny (model X.prog X.w) X.A (.compStart (.ListComp elt [⟨tg,iter,ifs,0⟩] scope pos) 0 (.ref it) acc { cenv with scope:=relabel scope X.env }) (RR acc cenv.locals) s4) E s3) E s2:=by
 have hacc:=I2.fresh
 have I3:Inv X pins σ (upd H2 s2.heap.objs.size (.lst [])) { s2 with heap:=s2.heap.push { cls:=.type "list",data:=.seq ([]:List Value).toArray },toks:=s2.toks }:=I2.lnew .nil (Nat.zero_le _)
 refine wpAny_newObj_type ?_
 obtain ⟨W,⟨m0,w0⟩,turn⟩:=h _ hacc
 generalize hs3:({ s2 with heap:=s2.heap.push { cls:=.type "list",data:=.seq ([]:List Value).toArray },toks:=s2.toks }:Shared)=s3 at I3
 have keep23:∀ b o,s2.heap.get? b=some o→s3.heap.get? b=some o:=fun b o e=>by rw [← hs3]; exact Γc _ e
 have hf3:∀ b∈fp,b1w X pins (upd H2 s2.heap.objs.size (.lst [])) b:=fun b hb=>by
  obtain ⟨o,ho,_⟩:=T.obj _ _ st2 b hb
  exact ⟨by rw [a0b (Γo (Γl ho))]; exact (f2 b hb).1,(f2 b hb).2⟩
 have st3:tn 0 s3.heap:=T.keep _ _ _ st2 fun b hb o e=>keep23 b o e
 refine a4u fun h4 hns' keep34 ok34=>?_
 have I4:=b2y (t4:=s3.toks + ([]:List (Str×Value)).length) I3 SC hc hf3 (fun b hb=>by obtain ⟨o,ho,_⟩:=T.obj _ _ st3 b hb; exact ⟨o,ho⟩) hns' keep34 ok34
 have st4:tn 0 h4:=T.keep _ _ _ st3 fun b hb o e=>keep34 b o e
 obtain ⟨hg,ht,he⟩:=hblock s3.heap.objs.size s3 (upd H2 s2.heap.objs.size (.lst []))
 have e5:(cxC X scope own fp s3.heap.objs.size s3 (upd H2 s2.heap.objs.size (.lst []))).env=compEnvC scope (cellsFrom (s3.heap.objs.size + 1) scope.names (a9h X.env.cells scope.names [])) s3.heap.objs.size X.env:=rfl
 generalize hY:cxC X scope own fp s3.heap.objs.size s3 (upd H2 s2.heap.objs.size (.lst []))=Y at hg ht he I4 e5
 have fpY:∀ {H':Hp},(∀ b∈fp,H' b=none)→∀ b∈fp,b1w Y [] H' b:=fun hn b hb=>by
  obtain ⟨o,ho,_⟩:=T.obj _ _ st3 b hb
  refine ⟨hn b hb,?_,?_,?_,?_,?_⟩
  ·rw [← hY]; exact Γo (Γl ho)
  ·have:=I4.ok.exfs b (by rw [← hY]; exact hb)
   exact this
  ·exact .inl (by rw [← hY]; exact hb)
  ·exact fun x c h=>(I4.ok.exf b (by rw [← hY]; exact hb)).2 x c h
  ·intro p hp; rw [← hY] at hp; exact absurd (show p∈([]:List (Addr×Obj)) from hp) (by simp)
 have hYp:Y.prog=X.prog∧Y.w=X.w∧Y.K=X.K∧Y.calm=true∧Y.A=X.A∧Y.xe=(fun _ _=>False)∧Y.s₀=s3∧Y.H₀=upd H2 s2.heap.objs.size (.lst [])∧Y.outer=X.stack∧Y.ex=fp:=by rw [← hY]; exact ⟨rfl,rfl,rfl,hc,rfl,rfl,rfl,rfl,rfl,rfl⟩
 obtain ⟨y1,y2,y3,y4,y5,y6,y7,y8,y9,y10⟩:=hYp
 have loop:∀ s5:Shared,s5 = { s3 with heap:=h4,toks:=s3.toks + ([]:List (Str×Value)).length } →
   codeAny (model X.prog X.w) X.A (.compLoop (.ListComp elt [⟨tg,iter,ifs,0⟩] scope pos) 0 (.ref it) (.ref s2.heap.objs.size) Y.env) (RR (.ref s2.heap.objs.size) s3.heap.objs.size) s5:=by
  rintro s5 rfl
  refine b4m (fun n s'=>∃ i H',Inv Y [] (σ++Γj own.length none) H' s'∧tn i s'.heap∧(∀ b∈fp,H' b=none)∧W i n H') ?_ m0 ⟨0,_,I4,st4,fun b hb=>(hf3 b hb).1,w0⟩
  rintro n s6 ⟨i,H6,I6,st6,fr6,w6⟩
  rcases turn i n H6 w6 with ⟨stop,q⟩ | ⟨go,step⟩
  ·have d:=T.done Y y1 y2 y3 y4 i [] s6 _ H6 (fun _ _=>False) I6 (fpY fr6) st6 stop
   rw [y5] at d
   refine thn d fun r s7 ⟨hr,I7⟩=>?_
   subst hr
   obtain ⟨m,hn,_⟩:=I7.loc
   have hL:Y.env.locals=s3.heap.objs.size:=by rw [e5]; rfl
   rw [hL] at hn
   have b7:=I7.base
   rw [y7,y8,y10] at b7
   have b7':Un (frs X.stack) fp (upd H2 s2.heap.objs.size (.lst [])) H6 s3.heap s7.heap:=by
    have z:Y.fs=frs X.stack:=by show frs Y.outer=_; rw [y9]
    rw [z] at b7
    exact b7
   have hok7:=I7.hok
   rw [y1,y2] at hok7
   have os7:=I7.os
   rw [y7] at os7
   have I8:Inv X pins σ H6 s7:=I3.call' os7 b7' hok7 I7.bare fun b hb=>⟨(hf3 b hb).2.2.2.1,(hf3 b hb).2.1,(hf3 b hb).2.2.2.2.1,(hf3 b hb).2.2.2.2.2⟩
   have hfree:=I7.free
   rw [hL] at hfree
   refine hRR _ _ H6 m s7 I8 hn (Nat.ne_of_gt I3.lt) (fun x c h z=>?_) ?_ hfree q
   ·obtain ⟨v,y⟩:=I3.cell x c h
    exact absurd y.lt (by rw [z]; exact Nat.lt_irrefl _)
   ·rw [← hs3,Heap.size_push]; exact Nat.le_succ _
  ·have d:=T.item Y y1 y2 y3 y4 i [] s6 _ H6 (fun _ _=>False) I6 (fpY fr6) st6 go
   rw [y5] at d
   refine thn d fun r s7 ⟨u,hr,h7⟩=>?_
   subst hr
   refine thn h7 fun _ s8 ⟨x,H8,I8,r8,y8',st8,fr8⟩=>?_
   have I8':=I8.pinned (fpY fr8) (T.obj _ _ st8)
   have pinK:∀ {σ':St} {H':Hp} {s':Shared},Inv Y ([]++a5s fp s8.heap) σ' H' s'→tn (i + 1) s'.heap∧∀ b∈fp,H' b=none:=fun {σ' H' s'} I' =>
    ⟨T.keep _ _ _ st8 fun b hb o e=>(I'.pin (b,o) (List.mem_append_right _ (List.mem_append_right _ (a2b hb e)))).1,fun b hb=>by
     obtain ⟨o,e,_⟩:=T.obj _ _ st8 b hb
     exact (I'.pin (b,o) (List.mem_append_right _ (List.mem_append_right _ (a2b hb e)))).2.1⟩
   have dg:=hg _ s8 _ H8 x u _ I8' r8 (step x H8 y8')
   rw [y1,y2,y5,y6] at dg
   refine thn dg fun _ s9 ⟨σ9,H9,I9,wk,q9⟩=>?_
   have dt:=ht _ s9 σ9 H9 _ I9 q9
   rw [y1,y2,y5,y6] at dt
   refine thn dt fun ok s10 ⟨H10,I10,q10⟩=>?_
   cases ok with
   | true =>
    rw [if_pos rfl] at q10 ⊢
    have de:=he _ s10 σ9 H10 _ I10 q10
    rw [y1,y2,y5,y6] at de
    refine thn de fun y s11 ⟨v11,H11,I11,r11,ys,hys,hz,m',hm,w11⟩=>?_
    have da:=a5v (X:=Y) _ s11 σ9 H11 (.ref s2.heap.objs.size) [v11] (.ref s2.heap.objs.size) [y] (fun _ H'=>H'=upd H11 s2.heap.objs.size (.lst (ys++[v11]))) I11 rfl (.cons r11 .nil) ⟨_,ys,v11,rfl,rfl,hys,hz,rfl⟩
    rw [y1,y2,y5,y6] at da
    refine thn da fun _ s12 ⟨v12,H12,I12,r12,e12⟩=>?_
    subst e12
    obtain ⟨t12,f12⟩:=pinK I12
    exact ⟨m',hm,i + 1,_,(I12.unpinned).weak wk.1.symm wk.2,t12,f12,w11⟩
   | false =>
    rw [if_neg Γk] at q10 ⊢
    obtain ⟨m',hm,w10⟩:=q10
    obtain ⟨t10,f10⟩:=pinK I10
    exact ⟨m',hm,i + 1,_,(I10.unpinned).weak wk.1.symm wk.2,t10,f10,w10⟩
 rw [e5] at loop
 exact codeAny_compStart_list (loop _ rfl) (T.self _ 0 _ _ _ st4 (loop _ rfl))
theorem b6o (hc:X.calm=true) (SC:CScope X scope own) (hi:PI X.nox tg iter wi)
  (hblock:∀ fp C s H,PG (cxC X scope own fp C s H) tg g∧PTs (cxC X scope own fp C s H) ifs tt∧PE (cxC X scope own fp C s H) elt te)
  (hs:∀ x,foldedSetIterable iter X.env x=pure x:=by intro _; rfl) :
  PE X.nox (.ListComp elt [⟨tg,iter,ifs,0⟩] scope pos) (c4k wi g tt te own.length):=by
 intro pins s σ H Q I h
 have fr:∀ p∈scope.names,p.2=.free→∃ c,X.env.cells.lookup p.1=some c:=fun p hp hq=>I.ok.has p.1 (SC.free p hp hq)
 rw [eval_ListComp]
 refine wpAny_comprehension_free (use:=none) rfl hs (a4r fr) SC.kind SC.names (thn (hi pins s σ H _ I h) fun v s1 h1=>thn h1 fun itv s2 h2=>?_)
 obtain ⟨it,fp,tn,J,H2,e,I2,T,st2,f2,h2⟩:=h2
 subst e
 refine b3f (X:=X.nox) (own:=own) (RR:=fun acc C=>compPost (model X.prog X.w) X.A (fun _ _=>False) none (EP X.nox pins σ Q) acc C) hc ⟨SC.kind,SC.nocell,SC.names,SC.free,SC.apart,SC.hid⟩ (fun C s H=>hblock fp C s H) I2 T st2 f2 h2 ?_
 intro acc C H' m s' I' hn hL hcl hC hH q
 obtain ⟨f0,f1,f2',f3,f4,f5⟩:=I2.fpOk hC hH
 refine ⟨m,hn,fun h' hsb=>⟨.ref acc,H',?_,rfl,q⟩⟩
 exact I'.turned (t':=s'.toks) (fun b o hb e=>(hsb.2 b hb).trans e) f0 f1 f3 f4 f5
theorem b3r {i:Nat} {x:Str} {px:Pos} {spos:Pos} (hc:X.calm=true) (SC:CScope X scope own) (hN:X.N.Nodup) (hx:X.N[i]?=some x) (hl:X.env.scope.names.lookup x=some .local) (hi:PI X.nox tg iter wi)
  (hblock:∀ fp C s H,PG (cxC X scope own fp C s H) tg g∧PTs (cxC X scope own fp C s H) ifs tt∧PE (cxC X scope own fp C s H) elt te)
  (hsw:swapsWith (.ListComp elt [⟨tg,iter,ifs,0⟩] scope pos) (some (.Name x px)) spos.line X.env=pure true)
  (hs:∀ x,foldedSetIterable iter X.env x=pure x:=by intro _; rfl) :
  PS X.nox (.Assign [.Name x px] (.ListComp elt [⟨tg,iter,ifs,0⟩] scope pos) spos) (c3f (c4k wi g tt te own.length) (a6h i)):=by
 intro pins s σ H D I h
 have fr:∀ p∈scope.names,p.2=.free→∃ c,X.env.cells.lookup p.1=some c:=fun p hp hq=>I.ok.has p.1 (SC.free p hp hq)
 show wpAny (model X.prog X.w) X.A (exec _ X.env) _ _ s
 rw [exec_Assign_Name_used _ _ _ _ hsw]
 refine Γa (wpAny_standAt (Γa ?_))
 show wpAny _ X.A (do let _ ← comprehension (.ListComp elt [⟨tg,iter,ifs,0⟩] scope pos) scope X.env _ (newList []) false (eval iter X.env) (some (assign (.Name x px) X.env))) _ _ s
 refine Γa (wpAny_mono (wpAny_comprehension_free (use:=some (assign (.Name x px) X.env)) (Q:=fun _ s'=>SP X.nox pins D .next s') rfl hs (a4r fr) SC.kind SC.names
  (thn (hi pins s σ H _ I h) fun v s1 h1=>thn h1 fun itv s2 h2=>?_)) (fun _ s' hq=>Γb (Γb hq)) fun _ _ e=>e)
 obtain ⟨it,fp,tn,J,H2,e,I2,T,st2,f2,h2⟩:=h2
 subst e
 refine b3f (X:=X.nox) (own:=own) (Q:=fun v H1=>a6h i v σ H1 D.nx) (RR:=fun acc C=>compPost (model X.prog X.w) X.A (fun _ _=>False) (some (assign (.Name x px) X.env)) (fun _ s'=>SP X.nox pins D .next s') acc C) hc ⟨SC.kind,SC.nocell,SC.names,SC.free,SC.apart,SC.hid⟩ (fun C s H=>hblock fp C s H) I2 T st2 f2 h2 ?_
 intro acc C H' m s' I' hn hL hcl hC hH q
 obtain ⟨f0,f1,f2',f3,f4,f5⟩:=I2.fpOk hC hH
 show wpAny (model X.prog X.w) X.A (assign (.Name x px) X.env (.ref acc)) _ _ s'
 refine wpAny_assign_Name (a9k (X:=X.nox) I' hN hx (.inl hl) (v:=.ref acc) rfl (fun s'' I'' hch=>?_) (.inr hl))
 obtain ⟨a,hsa,ha⟩:=hch
 have hCa:C≠a:=by
  rcases ha with z | z
  ·rw [z]; exact hL
  ·exact fun y=>hcl x a z y.symm
 refine ⟨m,hn.sameBut hsa hCa,fun h' hsb=>?_⟩
 exact ⟨_,H',I''.turned (t':=s''.toks) (fun b o hb e=>(hsb.2 b hb).trans e) f0 f1 f3 f4 f5,q⟩
end
end L2
end
section
namespace L2
open PySem PySem.Spec PyProof.Rows
section
variable {X:Cx} {pins:List (Addr×Obj)} {σ:St} {H:Hp} {s:Shared} {h':Heap}
theorem Inv.turnedNew {t':Nat} {ch:List Addr} {p:Addr} {o:HO} (I:Inv X pins σ H s) (hp:s.heap.objs.size≤p) (k:∀ b ob,b ∉ ch→s.heap.get? b=some ob→h'.get? b=some ob) (hf:∀ b∈ch,b1w X pins H b)
  (new:ObjOk X.prog X.w (upd H p o) h' p o):Inv X pins σ (upd H p o) { s with heap:=h',toks:=t' }:=by
 have hn:H p=none:=I.hok.fresh hp
 have nit:∀ b u,H b=some u→b ∉ ch:=fun b u e z=>by rw [(hf b z).1] at e; cases e
 have nep:∀ {b ob},s.heap.get? b=some ob→b≠p:=fun e=>Γo (Nat.lt_of_lt_of_le (Γl e) hp)
 refine I.step (g':=s.gens) (d':=s.drawn) (ch:=ch) (fun b hb=>⟨(hf b hb).2.2.2.1,(hf b hb).2.1,(hf b hb).2.2.2.2.1,(hf b hb).2.2.2.2.2⟩) (fun b ob _ _ hc e _=>k b ob hc e) (fun b ob _ _ hc e _=>⟨ob.slots,k b ob hc e⟩)
  (fun b ob hc e n=>by rw [a0b (nep e)]; exact n) (fun b ob hc e=>⟨ob,k b ob hc e⟩) (fun b xs e=>by rw [a0b (a0u e hn)]; exact e) (fun b u xs e=>by rw [a0b (a0u e hn)]; exact e)
  (fun b ps e=>⟨#[],by rw [a0b (a0u e hn),e]; simp⟩) (fun m hm=>?_) (fun b u e=>?_) I.bare
 ·obtain ⟨ob,es,ep,ho,r⟩:=hm
  exact ⟨ob,es,ep,k _ ob (fun z=>(hf _ z).2.1 rfl) ho,r⟩
 ·by_cases hb:b=p
  ·subst hb; rw [a0d] at e; cases e; exact new
  ·rw [a0b hb] at e
   refine (I.hok b u e).stay (fun c v hc q=>k c v ?_ q) (fun c q=>by rw [a0b (a0u q hn)]; exact q) fun c xs q=>by rw [a0b (a0u q hn)]; exact q
   rcases hc with z | z
   ·rw [z]; exact nit b u e
   ·exact nit c _ z
theorem Inv.turnedL {t':Nat} {ch:List Addr} (I:Inv X pins σ H s) (k:∀ b ob,b ∉ ch→s.heap.get? b=some ob→h'.get? b=some ob) (hf:∀ b∈ch,b1w X pins H b):Inv X pins σ H { s with heap:=h',toks:=t' }:=by
 have nit:∀ b u,H b=some u→b ∉ ch:=fun b u e z=>by rw [(hf b z).1] at e; cases e
 refine I.step (g':=s.gens) (d':=s.drawn) (ch:=ch) (fun b hb=>⟨(hf b hb).2.2.2.1,(hf b hb).2.1,(hf b hb).2.2.2.2.1,(hf b hb).2.2.2.2.2⟩) (fun b ob _ _ hc e _=>k b ob hc e) (fun b ob _ _ hc e _=>⟨ob.slots,k b ob hc e⟩)
  (fun _ _ _ _ n=>n) (fun b ob hc e=>⟨ob,k b ob hc e⟩) (fun _ _ e=>e) (fun _ _ _ e=>e) (fun b ps e=>⟨#[],by rw [e]; simp⟩) (fun m hm=>?_) (fun b u e=>?_) I.bare
 ·obtain ⟨ob,es,ep,ho,r⟩:=hm
  exact ⟨ob,es,ep,k _ ob (fun z=>(hf _ z).2.1 rfl) ho,r⟩
 ·refine (I.hok b u e).stay (fun c v hc q=>k c v ?_ q) (fun _ q=>q) fun _ _ q=>q
  rcases hc with z | z
  ·rw [z]; exact nit b u e
  ·exact nit c _ z
end
end L2
end
section
namespace L2
open PySem PySem.Spec PyProof.Rows
def SeqB (b:Bool) (h:Heap) (l:Addr) (xs:Array Value):Prop:=match b with | true=>h.IsList l xs | false=>h.IsTuple l xs
def IterB (b:Bool) (h:Heap) (it l:Addr) (i:Nat):Prop:=match b with | true=>h.IsListIter it l i | false=>h.IsTupleIter it l i
def b7v (b:Bool):String:=match b with | true=>"list_iterator" | false=>"tuple_iterator"
section
variable {b:Bool} {h h':Heap} {it l c:Addr} {i:Nat} {xs:Array Value}
theorem SeqB.push {o:Obj} (x:SeqB b h l xs):SeqB b (h.push o) l xs:=by
 cases b
 ·exact Heap.IsTuple.push x o
 ·exact Heap.IsList.push x o
theorem IterB.move (x:IterB b h it l i) (e:Heap.ExtBut c h h') (n:it≠c):IterB b h' it l i:=by
 cases b
 ·exact Heap.IsTupleIter.extBut x e n
 ·exact Heap.IsListIter.extBut x e n
theorem IterB.to (x:IterB b h it l i) (k:∀ o,h.get? it=some o→h'.get? it=some o):IterB b h' it l i:=by
 cases b <;> (obtain ⟨o,e,r⟩:=x; exact ⟨o,k o e,r⟩)
theorem IterB.obj (x:IterB b h it l i):∃ o,h.get? it=some o∧∀ v,o.data≠.cell v:=by
 cases b <;> (obtain ⟨o,e,_,d⟩:=x; exact ⟨o,e,fun v z=>by rw [d] at z; cases z⟩)
theorem IterB.lt (x:IterB b h it l i):it < h.objs.size:=let ⟨_,e,_⟩:=x.obj; Γl e
end
section
variable {P:Program} {w:World} {A:Around} {E:Value→Shared→Prop} {s:Shared} {b:Bool} {it l:Addr} {i:Nat} {xs:Array Value} {Q:Value→Shared→Prop}
theorem c6o (x:SeqB b s.heap l xs) (q:Q (.ref s.heap.objs.size) { s with heap:=s.heap.push { cls:=.type (b7v b),data:=.fields #[.ref l,.int 0 0] } }):wpAny (model P w) A (pyIter (.ref l)) Q E s:=by
 cases b
 ·exact wpAny_pyIter_tuple x q
 ·exact wpAny_pyIter_list x q
theorem d7j {x:Value} (hi:s.heap.IsTupleIter it l i) (hl:s.heap.IsTuple l xs) (hx:xs[i]?=some x) (q:∀ h',h'.IsTupleIter it l (i + 1)→Heap.SameBut it s.heap h'→Q x { s with heap:=h' }):wpAny (model P w) A (Builtin.SmallTypes.nextOf (.ref it)) Q E s:=by
 obtain ⟨oi,ei,ci,di⟩:=id hi
 obtain ⟨os,es,_,ns,ds⟩:=hl
 unfold Builtin.SmallTypes.nextOf
 refine Γa (wpAny_callSpecial?_slot (name:=Γe "__next__") hi.typeIs F.slot_tuple_iterator_next (wpAny_call_entry F.slot_tuple_iterator_next hi.typeIs F.entry_tuple_iterator_next ?_ (F.args_tuple_iterator_next_1 _)))
 show wpAny _ _ (field (.ref it) 0 >>= _) _ _ s; refine Γa (wpAny_field ei di (x:=.ref l) rfl ?_)
 show wpAny _ _ (if (Value.ref l == Value.none)=true then _ else _) _ _ s; rw [if_neg (show ¬ ((Value.ref l == Value.none)=true) from Γk)]
 show wpAny _ _ (field (.ref it) 1 >>= _) _ _ s; refine Γa (wpAny_field ei di (x:=.int i 0) rfl ?_)
 show wpAny _ _ (seqItems? (.ref l) >>= _) _ _ s; refine Γa (wpAny_seqItems es ds ?_)
 simp only [Int.toNat_natCast,hx]
 refine Γa (wpAny_setField ei di (by simp) (Γb ⟨x,rfl,Γb (q _ ⟨_,Heap.get?_update_self _ ei (Obj.isFreed_of_fields (Obj.data_mapFields di _)),(Obj.cls_mapFields ..).trans ci,?_⟩ (Heap.SameBut.update ..))⟩))
 rw [Obj.data_mapFields di]; simp [rawInt]
theorem d5p (hh:A.handled=none) (hi:s.heap.IsTupleIter it l i) (hl:s.heap.IsTuple l xs) (hx:xs[i]?=none)
  (q:∀ h' e,Heap.ExtBut it s.heap h'→(∃ o,h'.get? e=some o∧o.cls=.type "StopIteration")→E (.ref e) { s with heap:=h' }):wpAny (model P w) A (Builtin.SmallTypes.nextOf (.ref it)) Q E s:=by
 obtain ⟨oi,ei,ci,di⟩:=id hi
 obtain ⟨os,es,_,ns,ds⟩:=hl
 unfold Builtin.SmallTypes.nextOf
 refine Γa (wpAny_callSpecial?_slot (name:=Γe "__next__") hi.typeIs F.slot_tuple_iterator_next (wpAny_call_entry F.slot_tuple_iterator_next hi.typeIs F.entry_tuple_iterator_next ?_ (F.args_tuple_iterator_next_1 _)))
 show wpAny _ _ (field (.ref it) 0 >>= _) _ _ s; refine Γa (wpAny_field ei di (x:=.ref l) rfl ?_)
 show wpAny _ _ (if (Value.ref l == Value.none)=true then _ else _) _ _ s; rw [if_neg (show ¬ ((Value.ref l == Value.none)=true) from Γk)]
 show wpAny _ _ (field (.ref it) 1 >>= _) _ _ s; refine Γa (wpAny_field ei di (x:=.int i 0) rfl ?_)
 show wpAny _ _ (seqItems? (.ref l) >>= _) _ _ s; refine Γa (wpAny_seqItems es ds ?_)
 simp only [Int.toNat_natCast,hx]
 refine Γa (wpAny_rule (Γa (wpAny_setField ei di (by simp) ?_))); show wpAny _ _ (newExc (.type "StopIteration") [] >>= _) _ _ _
 refine Γa ?_; simp only [newExc,newTuple]
 refine Γa (wpAny_newObj_type ?_ (by size_fits)); refine Γa (m:=firstArgMember _ _) (wpAny_of_eq (a:=Value.none) (by first | rfl | (simp only [firstArgMember]; rfl)) ?_)
 refine wpAny_newObj_type ?_ (by size_fits); simp only [raiseNew]; refine Γa (wpAny_handled ?_)
 first | rw [show A.in1.handled=none from hh] | rw [hh]
 exact Γa (Γb (wpAny_throw (q _ _ (((Heap.SameBut.update ..).extBut.push _).push _) ⟨_,Γm _ rfl,rfl⟩)))
theorem d7k {x:Value} (hi:IterB b s.heap it l i) (hl:SeqB b s.heap l xs) (hx:xs[i]?=some x) (q:∀ h',IterB b h' it l (i + 1)→Heap.SameBut it s.heap h'→Q x { s with heap:=h' }):wpAny (model P w) A (Builtin.SmallTypes.nextOf (.ref it)) Q E s:=by
 cases b
 ·exact d7j hi hl hx q
 ·exact wpAny_nextOf_list_item hi hl hx q
theorem d5q (hh:A.handled=none) (hi:IterB b s.heap it l i) (hl:SeqB b s.heap l xs) (hx:xs[i]?=none)
  (q:∀ h' e,Heap.ExtBut it s.heap h'→(∃ o,h'.get? e=some o∧o.cls=.type "StopIteration")→E (.ref e) { s with heap:=h' }):wpAny (model P w) A (Builtin.SmallTypes.nextOf (.ref it)) Q E s:=by
 cases b
 ·exact d5p hh hi hl hx q
 ·exact wpAny_nextOf_list_end hh hi hl hx q
end
section
variable {P:Program} {w:World} {A:Around} {E:Value→Shared→Prop} {s:Shared} {p q:Bool} {z TI TO i1 i2 l1 l2:Addr} {k1 k2:Nat} {xs ys:Array Value} {x y a b:Value}
end
abbrev zb1 (p:Bool) (h:Heap) (l1:Addr):Heap:=h.push { cls:=.type (b7v p),data:=.fields #[.ref l1,.int 0 0] }
section
variable {P:Program} {w:World} {A:Around} {E:Value→Shared→Prop} {s:Shared}
end
end L2
end
section
namespace L2
open PySem PySem.Spec PyProof.Rows
open AutoSeq1 (wpAny_loadPart')
section
variable {P:Program} {w:World} {A:Around} {E:Value→Shared→Prop} {s:Shared} {p:Bool} {e it l:Addr} {i:Nat} {xs:Array Value} {x old:Value}
theorem b4h {Q:Value→Shared→Prop} (ee:IsEnum s.heap e it i old) (t1:IterB p s.heap it l i) (m1:SeqB p s.heap l xs) (ex:xs[i]?=some x) (ne:e≠it)
  (K:∀ h',IsEnumOut h' e it ((i:Int) + 1) x s.heap.objs.size→IterB p h' it l (i + 1)→h'.get? s.heap.objs.size=some { cls:=.type "tuple",data:=.seq #[.int i s.toks,x] } →
   (∀ b o,b≠e→b≠it→s.heap.get? b=some o→h'.get? b=some o)→Q (.ref s.heap.objs.size) { s with heap:=h',toks:=s.toks + 1 }) :
  wpAny (model P w) A (Builtin.«enumerate.__next__» ⟨[.ref e],[]⟩) (fun fin s'=>∃ v,fin=.done (.ret v)∧Q v s') E s:=by
 obtain ⟨hp,g,d,tk,os⟩:=s
 show wpAny _ _ (field (.ref e) 2 >>= _) _ _ _; refine Γa (wpAny_field ee rfl (x:=.ref it) rfl (Γa (d7k t1 m1 ex fun g1 t11 b1=>?_)))
 replace b1:Heap.SameBut it hp g1:=b1
 have e1:IsEnum g1 e it i old:=(b1.2 e ne).trans ee
 show wpAny _ _ (field (.ref e) 3 >>= _) _ _ ⟨g1,g,d,tk,os⟩; refine Γa (wpAny_field e1 rfl (x:=rawInt i) rfl ?_)
 show wpAny _ _ (field (.ref e) 4 >>= _) _ _ ⟨g1,g,d,tk,os⟩; refine Γa (wpAny_field e1 rfl (x:=.none) rfl ?_)
 show wpAny _ _ (mkInt i >>= _) _ _ ⟨g1,g,d,tk,os⟩; refine Γa (wpAny_mkInt ?_)
 show wpAny _ _ (setField (.ref e) 3 (rawInt ((i:Int) + 1)) >>= _) _ _ ⟨g1,g,d,tk + 1,os⟩; refine Γa (wpAny_setField_rec e1 (by simp) fun g2 e2 b2=>?_)
 replace b2:Heap.SameBut e g1 g2:=b2
 replace e2:IsEnum g2 e it ((i:Int) + 1) old:=e2
 show wpAny _ _ (setField (.ref e) 4 .none >>= _) _ _ ⟨g2,g,d,tk + 1,os⟩; refine Γa (wpAny_setField_rec e2 (by simp) fun g3 e3 b3=>?_)
 replace b3:Heap.SameBut e g2 g3:=b3
 replace e3:IsEnum g3 e it ((i:Int) + 1) old:=e3
 show wpAny _ _ (newTuple [.int i tk,x] >>= _) _ _ ⟨g3,g,d,tk + 1,os⟩; refine Γa (wpAny_newTuple ?_)
 have e4:IsEnum (g3.push { cls:=.type "tuple",data:=.seq #[.int i tk,x] }) e it ((i:Int) + 1) old:=Γc _ e3
 generalize hg4:g3.push { cls:=.type "tuple",data:=.seq #[.int i tk,x] } = g4 at e4
 have sz:g3.objs.size=hp.objs.size:=by rw [b3.1,b2.1,b1.1]
 have el:e < hp.objs.size:=Γl ee
 have t4:g4.get? hp.objs.size=some { cls:=.type "tuple",data:=.seq #[.int i tk,x] }:=by rw [← hg4,← sz]; exact Γm _ rfl
 have k4:∀ b o,b≠e→b≠it→hp.get? b=some o→g4.get? b=some o:=fun b o c1 c2 h=>by rw [← hg4]; exact Γc _ (b3.extBut b o c1 (b2.extBut b o c1 (b1.extBut b o c2 h)))
 have i4:IterB p g4 it l (i + 1):=by
  rw [← hg4]; exact ((t11.move b2.extBut (Ne.symm ne)).move b3.extBut (Ne.symm ne)).to fun o h=>Γc _ h
 show wpAny _ _ (Builtin.SmallTypes.ownedTupleIsFree (.ref e) >>= _) _ _ ⟨g4,g,d,tk + 1,os⟩
 rw [sz]
 clear hg4 e3 b3 e2 b2 e1 b1 t11 sz g3 g2 g1
 refine Γa ?_; unfold Builtin.SmallTypes.ownedTupleIsFree
 refine Γa (wpAny_field e4 rfl (x:=.none) rfl (Γb ?_)); simp only [if_true]
 refine Γa (wpAny_rule (Γa (wpAny_field e4 rfl (x:=old) rfl (Γa (wpAny_setField_rec e4 (by simp) fun g5 e5 b5=>?_)))))
 replace b5:Heap.SameBut e g4 g5:=b5
 replace e5:IsEnum g5 e it ((i:Int) + 1) x:=e5
 show wpAny _ _ (Builtin.SmallTypes.ownedTupleHandOut (.ref e) (.ref hp.objs.size) >>= _) _ _ ⟨g5,g,d,tk + 1,os⟩; refine Γa ?_; unfold Builtin.SmallTypes.ownedTupleHandOut
 refine Γa (wpAny_setField_rec e5 (by simp) fun g6 e6 b6=>?_)
 replace b6:Heap.SameBut e g5 g6:=b6
 replace e6:IsEnumOut g6 e it ((i:Int) + 1) x hp.objs.size:=e6
 refine wpAny_setField_rec e6 (by simp) fun g7 e7 b7=>?_
 replace b7:Heap.SameBut e g6 g7:=b7
 replace e7:IsEnumOut g7 e it ((i:Int) + 1) x hp.objs.size:=e7
 refine Γa (wpAny_letGo (Γb ⟨_,rfl,K g7 e7 (((i4.move b5.extBut (Ne.symm ne)).move b6.extBut (Ne.symm ne)).move b7.extBut (Ne.symm ne)) ?_ fun b o c1 c2 h=>b7.extBut b o c1 (b6.extBut b o c1 (b5.extBut b o c1 (k4 b o c1 c2 h)))⟩))
 exact b7.extBut _ _ (Nat.ne_of_gt el) (b6.extBut _ _ (Nat.ne_of_gt el) (b5.extBut _ _ (Nat.ne_of_gt el) t4))
theorem b4g {Q:Option Value→Shared→Prop} (ee:IsEnum s.heap e it i old) (t1:IterB p s.heap it l i) (m1:SeqB p s.heap l xs) (ex:xs[i]?=some x) (ne:e≠it)
  (K:∀ h',IsEnumOut h' e it ((i:Int) + 1) x s.heap.objs.size→IterB p h' it l (i + 1)→h'.get? s.heap.objs.size=some { cls:=.type "tuple",data:=.seq #[.int i s.toks,x] } →
   (∀ b o,b≠e→b≠it→s.heap.get? b=some o→h'.get? b=some o)→Q (some (.ref s.heap.objs.size)) { s with heap:=h',toks:=s.toks + 1 }):wpAny (model P w) A (pyNext (.ref e)) Q E s:=by
 have ty:s.TypeIs (.ref e) "enumerate":=⟨_,ee,rfl⟩
 unfold pyNext
 exact Γa (wpAny_attempt (wpAny_callSpecial?_slot (name:=Γe "__next__") ty F.slot_enumerate_next (wpAny_call_entry F.slot_enumerate_next ty F.entry_enumerate_next (b4h ee t1 m1 ex ne fun h' a b c d=>Γb (K h' a b c d)) (F.args_enumerate_next_1 _))))
theorem b4f {Q:Option Value→Shared→Prop} (hh:A.handled=none) (ee:IsEnum s.heap e it i old) (t1:IterB p s.heap it l i) (m1:SeqB p s.heap l xs) (ex:xs[i]?=none) (K:∀ h',Heap.ExtBut it s.heap h'→Q none { s with heap:=h' }):wpAny (model P w) A (pyNext (.ref e)) Q E s:=by
 have ty:s.TypeIs (.ref e) "enumerate":=⟨_,ee,rfl⟩
 unfold pyNext
 refine Γa (wpAny_attempt (wpAny_callSpecial?_slot (name:=Γe "__next__") ty F.slot_enumerate_next (wpAny_call_entry F.slot_enumerate_next ty F.entry_enumerate_next ?_ (F.args_enumerate_next_1 _))))
 show wpAny _ _ (field (.ref e) 2 >>= _) _ _ _; refine Γa (wpAny_field ee rfl (x:=.ref it) rfl (Γa (d5q hh t1 m1 ex fun h' v k hv=>?_)))
 obtain ⟨o,e1,e2⟩:=hv
 exact Γa (wpAny_isInstance (T:="StopIteration") (b:=true) ⟨o,e1,e2⟩ isSubtype_stop (Γb (K _ k)))
end
theorem b1f (p:Bool) (l:Addr) (xs:Array Value) :
  Meets (Builtin.«enumerate.__new__» ⟨[.type "enumerate",.ref l],[]⟩) (fun _ R s=>SeqB p s.heap l xs ∧
   R (.ok (.ret (.ref (zb1 p s.heap l).objs.size))) { s with heap:=(zb1 p s.heap l).push { cls:=.type "enumerate",data:=.fields #[.none,.bool false,.ref s.heap.objs.size,rawInt 0,.none,.none] } }) :=
 .of_wp fun prog w A R s h=>by
  obtain ⟨hp,g,d,tk,os⟩:=s; obtain ⟨m1,h⟩:=h
  have hsub:=sub_enumerate
  have M1:SeqB p (Shared.heap ⟨hp,g,d,tk,os⟩) l xs:=m1
  have hob:∃ o,hp.get? l=some o:=by cases p <;> (obtain ⟨o,e,_⟩:=m1; exact ⟨o,e⟩)
  obtain ⟨ob,hl⟩:=hob
  wp_walk using wpAny_loadPart' hl
  refine wpAny_stack_any fun st=>Γb ?_
  split
  ·rename_i c _ _ _ _ _
   cases (c == Value.type "enumerate")
   ·wp_walk using wpAny_loadPart' hl,c6o M1
    exact ⟨_,rfl,h⟩
   ·wp_walk using wpAny_loadPart' hl,c6o M1
    exact ⟨_,rfl,h⟩
  ·wp_walk using wpAny_loadPart' hl,c6o M1
   exact ⟨_,rfl,h⟩
section
variable {P:Program} {w:World} {A:Around} {E:Value→Shared→Prop} {s:Shared}
theorem b4p {p:Bool} {l:Addr} {xs:Array Value} {Q:Value→Shared→Prop} (m1:SeqB p s.heap l xs)
  (K:∀ h',IsEnum h' (s.heap.objs.size + 1) s.heap.objs.size 0 .none→IterB p h' s.heap.objs.size l 0→(∀ b o,s.heap.get? b=some o→h'.get? b=some o)→Q (.ref (s.heap.objs.size + 1)) { s with heap:=h' }) :
  wpAny (model P w) A (call (.type "enumerate") [.ref l]) Q E s:=by
 refine callType_new F.called_enumerate (by decide) (F.typeCall_enumerate_1 _) (F.newCall_enumerate_1 _) (fun obj=>F.args_object_init_2 obj _) F.entry_enumerate_new (b1f p l xs) ⟨m1,?_⟩
 have z1:(zb1 p s.heap l).objs.size=s.heap.objs.size + 1:=Heap.size_push ..
 show _∧_
 rw [z1]
 have f2:IsEnum ((zb1 p s.heap l).push { cls:=.type "enumerate",data:=.fields #[.none,.bool false,.ref s.heap.objs.size,rawInt 0,.none,.none] }) (s.heap.objs.size + 1) s.heap.objs.size 0 .none:=by
  have:=Γm (zb1 p s.heap l) (o:={ cls:=.type "enumerate",data:=.fields #[.none,.bool false,.ref s.heap.objs.size,rawInt 0,.none,.none] }) rfl
  rw [z1] at this; exact this
 refine ⟨⟨_,f2,rfl⟩,K _ f2 ?_ fun b o x=>Γc _ (Γc _ x)⟩
 cases p <;> exact ⟨_,Γc _ (Γm _ rfl),rfl,rfl⟩
end
def SqB (b:Bool) (K:Γd) (H:Hp) (a:Addr) (xs:List V):Prop:=match b with | true=>SqL K H a xs | false=>SqT K H a xs
section
variable {X:Cx} {pins:List (Addr×Obj)} {σ:St} {H:Hp} {s:Shared} {a:Addr} {xs ys:List V} {b:Bool}
theorem Inv.seqB (I:Inv X pins σ H s) (h:SqB b X.K H a xs):∃ its:List Value,Vals xs its∧SeqB b s.heap a its.toArray∧xs.length=its.length:=by
 cases b
 ·obtain ⟨its,r,q,_⟩:=I.tuple h
  exact ⟨its,r,q,r.length⟩
 ·obtain ⟨its,r,q,_⟩:=I.list h
  exact ⟨its,r,q.isList,r.length⟩
theorem Inv.seqB_inj (I:Inv X pins σ H s) (h:SqB b X.K H a xs) (h':SqB b X.K H a ys):xs=ys:=by
 cases b
 ·exact I.tuple_inj h h'
 ·exact I.list_inj h h'
end
def Ien (K : Γd) (p : Bool) (a : Addr) : It :=
  ⟨fun i H => ∃ xs x, SqB p K H a xs ∧ xs[i]? = some x,
   fun i H v H' => ∃ c, H c = none ∧ v = .ref c ∧ ∀ xs x, SqB p K H a xs → xs[i]? = some x → H' = upd H c (.tup [.int i, x]),
   fun i H => ∃ xs, SqB p K H a xs ∧ xs.length ≤ i⟩
theorem c4h {P:Program} {w:World} {K:Γd} {p:Bool} {elts:List Expr} {k:Nat} {pos:Pos} {a e it:Addr} (ne:e≠it) :
  Turn P w K (.Tuple elts k pos) (Ien K p a) [e,it] e (fun i h=>(∃ old,IsEnum h e it i old)∧IterB p h it a i) where
 mem:=by simp
 obj:=fun i h st c hc=>by
  obtain ⟨⟨old,ee⟩,t1⟩:=st
  simp only [List.mem_cons,List.not_mem_nil,or_false] at hc
  rcases hc with rfl | rfl
  ·exact ⟨_,ee,fun v z=>by cases z⟩
  ·exact t1.obj
 keep:=fun i h h' st kk=>by
  obtain ⟨⟨old,ee⟩,t1⟩:=st
  exact ⟨⟨old,kk e (by simp) _ ee⟩,t1.to fun o q=>kk it (by simp) o q⟩
 item:=by
  intro X hP hw hK hc i pins s σ H E I hf st hg
  subst hP hw hK
  obtain ⟨xs,x,q1,hx⟩:=hg
  obtain ⟨⟨old,ee⟩,t1⟩:=st
  obtain ⟨its,rv,m1,_⟩:=I.seqB q1
  obtain ⟨u,hu,ru⟩:=rv.get hx
  refine b4g ee t1 m1 (x:=u) (by simpa using hu) ne fun h' a1 a2 a3 hk=>?_
  refine ⟨_,rfl,wpAny_letOwnedTupleGo_enum a1 fun h'' z'' hs''=>?_⟩
  have szn:e≠s.heap.objs.size:=Γo (Γl ee)
  have T'':=hs''.extBut _ _ (Ne.symm szn) a3
  have I1:Inv X pins σ (upd H s.heap.objs.size (.tup [.int i,x])) { s with heap:=h'',toks:=s.toks + 1 }:=I.turnedNew (t':=s.toks + 1) (ch:=[e,it]) (Γi _)
   (fun c ob hc q=>by simp only [List.mem_cons,List.not_mem_nil,or_false,not_or] at hc; exact hs''.extBut _ _ hc.1 (hk c ob hc.1 hc.2 q))
   (fun c hc=>hf c hc) ⟨by show 2≤sizeLine; decide,[.int i s.toks,u],.cons ⟨_,rfl⟩ (.cons ru .nil),⟨_,T'',rfl,_,rfl⟩⟩
  refine ⟨.ref s.heap.objs.size,_,I1,rfl,⟨_,I.fresh,rfl,fun xs' x' r1 hx'=>?_⟩,⟨⟨_,z''⟩,a2.move hs''.extBut (Ne.symm ne)⟩,fun c hc=>?_⟩
  ·have e1:=I.seqB_inj r1 q1
   subst e1
   rw [hx] at hx'; cases hx'; rfl
  ·have:c≠s.heap.objs.size:=by
    have hlt:c < s.heap.objs.size:=by
     simp only [List.mem_cons,List.not_mem_nil,or_false] at hc
     rcases hc with rfl | rfl
     ·exact Γl ee
     ·exact t1.lt
    exact Γo hlt
   rw [a0b this]; exact (hf c hc).1
 done:=by
  intro X hP hw hK hc i pins s σ H E I hf st hg
  subst hP hw hK
  obtain ⟨xs,q1,hx⟩:=hg
  obtain ⟨⟨old,ee⟩,t1⟩:=st
  obtain ⟨its,rv,m1,l1⟩:=I.seqB q1
  refine b4f (I.ok.hd hc) ee t1 m1 (by simp; lia) fun h' hk=>⟨rfl,?_⟩
  exact I.turnedL (t':=s.toks) (ch:=[it]) (fun c ob hc q=>hk c ob (by simpa using hc) q) (fun c hc=>hf c (by simp at hc; simp [hc]))
 self:=fun _ _ _ _ _ st h=>wpAny_pyIter_enum st.1.choose_spec h
section
variable {X:Cx}
def iEn (K:Γd) (ta:TA):TI:=fun σ H R=>ta σ H fun vs H1=>∃ p a,vs=[.ref a]∧(∃ xs,SqB p K H1 a xs)∧R (Ien K p a) H1
theorem d6t {elts:List Expr} {k:Nat} {tp:Pos} {e1:Expr} {ta:TA} {p pos:Pos} (hg:Gl X "enumerate") (hm:X.mg "enumerate" = none) (ha:PA X [e1] ta) (hs:starEach [e1] X.env=[(false,eval e1 X.env)]) :
  PI X (.Tuple elts k tp) (.Call (.Name "enumerate" p) [e1] [] pos) (iEn X.K ta):=by
 intro pins s σ H R I h
 refine wpAny_Call_Name_kw (a3o I hg hm PyProof.Rows.boot_enumerate ?_ (by decide) (by decide))
 refine PyProof.Rows.callWith_type1 (thn (ha pos pins s σ H _ I h) fun us s1 ⟨vs,H1,I1,r1,q1⟩=>?_) (by rw [hs]; rfl) rfl
 obtain ⟨p,a,e,⟨xs,hq1⟩,kk⟩:=q1
 subst e
 obtain ⟨u1,rfl,ra⟩:=a4c r1
 cases ra
 obtain ⟨its,rv,m1,_⟩:=I1.seqB hq1
 refine b4p m1 fun h' ee t1 hk=>wpAny_pyIter_enum ee ?_
 have I2:Inv X pins σ H1 { s1 with heap:=h' }:=I1.kept (t':=s1.toks) fun c o e=>hk c o e
 refine ⟨_,_,_,Ien X.K p a,H1,rfl,I2,c4h (Nat.ne_of_gt (Nat.lt_succ_self _)),⟨⟨_,ee⟩,t1⟩,fun c hc=>?_,kk⟩
 have hge:s1.heap.objs.size≤c:=by
  simp only [List.mem_cons,List.not_mem_nil,or_false] at hc
  rcases hc with rfl | rfl <;> first | exact Γi _ | exact Nat.le_add_right _ _
 exact I1.fpOk hge (I1.hok.fresh hge)
end
end L2
end
section
namespace L2
open PySem PySem.Spec PyProof.Rows
section
variable {prog:Program} {w:World} {A:Around} {R:Result→Shared→Prop} {s:Shared}
theorem b1s {kx vx target iter:Expr} {ifs:List Expr} {scope:Scope} {pos:Pos} {it:Value} {D:Addr} {env:Env} (I:Nat→Shared→Prop)
  (turn:∀ n s,I n s→wpAny (model prog w) A (pyNext it) (fun r s1=>match r with
   | none=>R (.ok .next) s1
   | some v=>wpAny (model prog w) A (letOwnedTupleGo target it v) (fun _ s2=>wpAny (model prog w) A (assign target env v) (fun _ s3=>wpAny (model prog w) A (a8d ifs env) (fun ok s4 =>
     if ok=true then wpAny (model prog w) A (eval kx env) (fun kv s5=>wpAny (model prog w) A (eval vx env) (fun vv s6=>wpAny (model prog w) A (dictSet D kv vv) (fun _ s7=>∃ m,m < n∧I m s7) (fun _ _=>False) s6) (fun _ _=>False) s5) (fun _ _=>False) s4
     else ∃ m,m < n∧I m s4) (fun _ _=>False) s3) (fun _ _=>False) s2) (fun _ _=>False) s1) (fun _ _=>False) s)
  (n:Nat) (h:I n s):codeAny (model prog w) A (.compLoop (.DictComp kx vx [⟨target,iter,ifs,0⟩] scope pos) 0 it (.ref D) env) R s:=by
 refine codeAny_loop rfl I (fun n s hI=>?_) n h
 show wpAny _ A ((compTurn (.DictComp kx vx [⟨target,iter,ifs,0⟩] scope pos) 0 it (.ref D) env).onRaise (fun x=>do noteFrame x env; theTreesLotGoes x)) _ _ s
 refine wpAny_noted ?_
 rw [compTurn_dict]
 have no:∀ (e:Value) (s':Shared),(fun (_:Value) (_:Shared)=>False) e s'→notedBy (model prog w) A env (fun e s'=>R (.error e) s') e s':=fun _ _ z=>z.elim
 refine Γa (wpAny_standAt (Γa (wpAny_mono (turn n s hI) (fun r s1 h1=>?_) no)))
 cases r with
 | none=>exact Γb h1
 | some v =>
  refine Γa (wpAny_mono h1 (fun _ s2 h2=>Γa (wpAny_mono h2 (fun _ s3 h3=>Γa (wpAny_mono h3 (fun ok s4 h4=>?_) no)) no)) no)
  cases ok with
  | true =>
   rw [if_pos rfl] at h4
   simp only [if_true]
   exact Γa (Γa (wpAny_mono h4 (fun kv s5 h5=>Γa (Γg (wpAny_mono h5 (fun vv s6 h6=>Γa (wpAny_standAt (Γg (wpAny_mono h6 (fun _ s7 h7=>Γb ⟨rfl,h7⟩) no)))) no))) no))
  | false =>
   rw [if_neg Γk] at h4
   simp only [Γp,if_false]
   first
    | exact Γb ⟨rfl,h4⟩
    | exact Γa (Γb (Γb ⟨rfl,h4⟩))
end
def c8z (wi:TI) (g:TG) (tt:TT) (tk tv:TE) (own:Nat):TE:=fun σ H Q=>wi σ H fun J H1=>∀ acc,H1 acc=none→∃ W:Nat→Nat→Hp→Prop,(∃ m,W 0 m (upd H1 acc (.dT [])))∧∀ i m H,W i m H →
 (J.stop i H∧Q (.ref acc) H) ∨ (J.go i H∧∀ x H',J.yld i H x H'→g x (σ++Γj own none) H' fun σ2 H2=>Wk (σ++Γj own none) σ2∧tt σ2 H2 fun b H3 =>
  if b=true then tk σ2 H3 fun y H4=>tv σ2 H4 fun v H5=>∃ kvs k b,H5 acc=some (.dT kvs)∧y=.ref b∧H5 b=some (.tup (k.map kV))∧kvs.length < sizeLine∧∃ m',m' < m∧W (i + 1) m' (upd H5 acc (.dT (a5b kvs k v))) else ∃ m',m' < m∧W (i + 1) m' H3)
section
variable {X:Cx} {kx vx tg iter:Expr} {ifs:List Expr} {scope:Scope} {own:List Str} {pos:Pos} {wi:TI} {g:TG} {tt:TT} {tk tv:TE}
theorem b9q {pins:List (Addr×Obj)} {σ:St} {H2:Hp} {s2:Shared} {Q:VK} {it:Addr} {fp:List Addr} {tn:Nat→Heap→Prop} {J:It} {RR:Value→Addr→Result→Shared→Prop}
  (hu:X.A.units + 1 < cLine) (hc:X.calm=true) (SC:CScope X scope own)
  (hblock:∀ C s H,PG (cxC X scope own fp C s H) tg g∧PTs (cxC X scope own fp C s H) ifs tt∧PE (cxC X scope own fp C s H) kx tk∧PE (cxC X scope own fp C s H) vx tv)
  (I2:Inv X pins σ H2 s2) (T:Turn X.prog X.w X.K tg J fp it tn) (st2:tn 0 s2.heap) (f2:∀ b∈fp,b1w X pins H2 b)
  (h:∀ acc,H2 acc=none→∃ W:Nat→Nat→Hp→Prop,(∃ m,W 0 m (upd H2 acc (.dT [])))∧∀ i m H,W i m H →
   (J.stop i H∧Q (.ref acc) H) ∨ (J.go i H∧∀ x H',J.yld i H x H'→g x (σ++Γj own.length none) H' fun σ2 H2=>Wk (σ++Γj own.length none) σ2∧tt σ2 H2 fun b H3 =>
    if b=true then tk σ2 H3 fun y H4=>tv σ2 H4 fun v H5=>∃ kvs k b,H5 acc=some (.dT kvs)∧y=.ref b∧H5 b=some (.tup (k.map kV))∧kvs.length < sizeLine∧∃ m',m' < m∧W (i + 1) m' (upd H5 acc (.dT (a5b kvs k v))) else ∃ m',m' < m∧W (i + 1) m' H3))
  (hRR:∀ acc C H' m s',Inv X pins σ H' s'→s'.heap.Ns C m→C≠X.env.locals→(∀ x c,X.env.cells.lookup x=some c→c≠C)→s2.heap.objs.size≤C→H' C=none→Q (.ref acc) H'→RR (.ref acc) C (.ok .next) s') {E:Value→Shared→Prop} :
  wpAny (model X.prog X.w) X.A (newDict) (fun acc s3=>wpAny (model X.prog X.w) X.A (newFunctionEnv scope X.env.globals (a9h X.env.cells scope.names []) [] X.env.qual none .none (some X.env)) (fun cenv s4 =>
   codeAny (model X.prog X.w) X.A (.compStart (.DictComp kx vx [⟨tg,iter,ifs,0⟩] scope pos) 0 (.ref it) acc { cenv with scope:=relabel scope X.env }) (RR acc cenv.locals) s4) E s3) E s2:=by
 have hacc:=I2.fresh
 have I3:Inv X pins σ (upd H2 s2.heap.objs.size (.dT [])) { s2 with heap:=s2.heap.push { cls:=.type "dict",data:=.dict #[] },toks:=s2.toks }:=I2.laid (a:=s2.heap.objs.size) (o:=.dT []) (t':=s2.toks) (fun _ _ q=>Γc _ q) (Γi _) (c2n s2.heap I2.big)
 refine wpAny_newObj_type ?_
 obtain ⟨W,⟨m0,w0⟩,turn⟩:=h _ hacc
 generalize hs3:({ s2 with heap:=s2.heap.push { cls:=.type "dict",data:=.dict #[] },toks:=s2.toks }:Shared)=s3 at I3
 have keep23:∀ b o,s2.heap.get? b=some o→s3.heap.get? b=some o:=fun b o e=>by rw [← hs3]; exact Γc _ e
 have hf3:∀ b∈fp,b1w X pins (upd H2 s2.heap.objs.size (.dT [])) b:=fun b hb=>by
  obtain ⟨o,ho,_⟩:=T.obj _ _ st2 b hb
  exact ⟨by rw [a0b (Γo (Γl ho))]; exact (f2 b hb).1,(f2 b hb).2⟩
 have st3:tn 0 s3.heap:=T.keep _ _ _ st2 fun b hb o e=>keep23 b o e
 refine a4u fun h4 hns' keep34 ok34=>?_
 have I4:=b2y (t4:=s3.toks + ([]:List (Str×Value)).length) I3 SC hc hf3 (fun b hb=>by obtain ⟨o,ho,_⟩:=T.obj _ _ st3 b hb; exact ⟨o,ho⟩) hns' keep34 ok34
 have st4:tn 0 h4:=T.keep _ _ _ st3 fun b hb o e=>keep34 b o e
 obtain ⟨hg,ht,hk',hv'⟩:=hblock s3.heap.objs.size s3 (upd H2 s2.heap.objs.size (.dT []))
 have e5:(cxC X scope own fp s3.heap.objs.size s3 (upd H2 s2.heap.objs.size (.dT []))).env=compEnvC scope (cellsFrom (s3.heap.objs.size + 1) scope.names (a9h X.env.cells scope.names [])) s3.heap.objs.size X.env:=rfl
 generalize hY:cxC X scope own fp s3.heap.objs.size s3 (upd H2 s2.heap.objs.size (.dT []))=Y at hg ht hk' hv' I4 e5
 have fpY:∀ {H':Hp},(∀ b∈fp,H' b=none)→∀ b∈fp,b1w Y [] H' b:=fun hn b hb=>by
  obtain ⟨o,ho,_⟩:=T.obj _ _ st3 b hb
  refine ⟨hn b hb,?_,?_,?_,?_,?_⟩
  ·rw [← hY]; exact Γo (Γl ho)
  ·have:=I4.ok.exfs b (by rw [← hY]; exact hb)
   exact this
  ·exact .inl (by rw [← hY]; exact hb)
  ·exact fun x c h=>(I4.ok.exf b (by rw [← hY]; exact hb)).2 x c h
  ·intro p hp; rw [← hY] at hp; exact absurd (show p∈([]:List (Addr×Obj)) from hp) (by simp)
 have hYp:Y.prog=X.prog∧Y.w=X.w∧Y.K=X.K∧Y.calm=true∧Y.A=X.A∧Y.xe=(fun _ _=>False)∧Y.s₀=s3∧Y.H₀=upd H2 s2.heap.objs.size (.dT [])∧Y.outer=X.stack∧Y.ex=fp:=by rw [← hY]; exact ⟨rfl,rfl,rfl,hc,rfl,rfl,rfl,rfl,rfl,rfl⟩
 obtain ⟨y1,y2,y3,y4,y5,y6,y7,y8,y9,y10⟩:=hYp
 have loop:∀ s5:Shared,s5 = { s3 with heap:=h4,toks:=s3.toks + ([]:List (Str×Value)).length } →
   codeAny (model X.prog X.w) X.A (.compLoop (.DictComp kx vx [⟨tg,iter,ifs,0⟩] scope pos) 0 (.ref it) (.ref s2.heap.objs.size) Y.env) (RR (.ref s2.heap.objs.size) s3.heap.objs.size) s5:=by
  rintro s5 rfl
  refine b1s (fun n s'=>∃ i H',Inv Y [] (σ++Γj own.length none) H' s'∧tn i s'.heap∧(∀ b∈fp,H' b=none)∧W i n H') ?_ m0 ⟨0,_,I4,st4,fun b hb=>(hf3 b hb).1,w0⟩
  rintro n s6 ⟨i,H6,I6,st6,fr6,w6⟩
  rcases turn i n H6 w6 with ⟨stop,q⟩ | ⟨go,step⟩
  ·have d:=T.done Y y1 y2 y3 y4 i [] s6 _ H6 (fun _ _=>False) I6 (fpY fr6) st6 stop
   rw [y5] at d
   refine thn d fun r s7 ⟨hr,I7⟩=>?_
   subst hr
   obtain ⟨m,hn,_⟩:=I7.loc
   have hL:Y.env.locals=s3.heap.objs.size:=by rw [e5]; rfl
   rw [hL] at hn
   have b7:=I7.base
   rw [y7,y8,y10] at b7
   have b7':Un (frs X.stack) fp (upd H2 s2.heap.objs.size (.dT [])) H6 s3.heap s7.heap:=by
    have z:Y.fs=frs X.stack:=by show frs Y.outer=_; rw [y9]
    rw [z] at b7
    exact b7
   have hok7:=I7.hok
   rw [y1,y2] at hok7
   have os7:=I7.os
   rw [y7] at os7
   have I8:Inv X pins σ H6 s7:=I3.call' os7 b7' hok7 I7.bare fun b hb=>⟨(hf3 b hb).2.2.2.1,(hf3 b hb).2.1,(hf3 b hb).2.2.2.2.1,(hf3 b hb).2.2.2.2.2⟩
   have hfree:=I7.free
   rw [hL] at hfree
   refine hRR _ _ H6 m s7 I8 hn (Nat.ne_of_gt I3.lt) (fun x c h z=>?_) ?_ hfree q
   ·obtain ⟨v,y⟩:=I3.cell x c h
    exact absurd y.lt (by rw [z]; exact Nat.lt_irrefl _)
   ·rw [← hs3,Heap.size_push]; exact Nat.le_succ _
  ·have d:=T.item Y y1 y2 y3 y4 i [] s6 _ H6 (fun _ _=>False) I6 (fpY fr6) st6 go
   rw [y5] at d
   refine thn d fun r s7 ⟨u,hr,h7⟩=>?_
   subst hr
   refine thn h7 fun _ s8 ⟨x,H8,I8,r8,y8',st8,fr8⟩=>?_
   have I8':=I8.pinned (fpY fr8) (T.obj _ _ st8)
   have pinK:∀ {σ':St} {H':Hp} {s':Shared},Inv Y ([]++a5s fp s8.heap) σ' H' s'→tn (i + 1) s'.heap∧∀ b∈fp,H' b=none:=fun {σ' H' s'} I' =>
    ⟨T.keep _ _ _ st8 fun b hb o e=>(I'.pin (b,o) (List.mem_append_right _ (List.mem_append_right _ (a2b hb e)))).1,fun b hb=>by
     obtain ⟨o,e,_⟩:=T.obj _ _ st8 b hb
     exact (I'.pin (b,o) (List.mem_append_right _ (List.mem_append_right _ (a2b hb e)))).2.1⟩
   have dg:=hg _ s8 _ H8 x u _ I8' r8 (step x H8 y8')
   rw [y1,y2,y5,y6] at dg
   refine thn dg fun _ s9 ⟨σ9,H9,I9,wk,q9⟩=>?_
   have dt:=ht _ s9 σ9 H9 _ I9 q9
   rw [y1,y2,y5,y6] at dt
   refine thn dt fun ok s10 ⟨H10,I10,q10⟩=>?_
   cases ok with
   | true =>
    rw [if_pos rfl] at q10 ⊢
    have dk:=hk' _ s10 σ9 H10 _ I10 q10
    rw [y1,y2,y5,y6] at dk
    refine thn dk fun ky s11 ⟨v11,H11,I11,r11,q11⟩=>?_
    have dv:=hv' _ s11 σ9 H11 _ I11 q11
    rw [y1,y2,y5,y6] at dv
    refine thn dv fun y s12 ⟨v12,H12,I12,r12,kvs,k,b,hys,hyb,hkb,hz,m',hm,w12⟩=>?_
    subst hyb
    cases (show ky=Value.ref b from r11)
    obtain ⟨z,hd,xs,rel,dd⟩:=d2f I12.hok hys
    rw [y1,y2] at dd
    have hz':xs.length≤sizeLine:=by rw [← Paired.length rel]; exact z
    have hl:(a5b kvs k v12).length≤sizeLine:=by have:=a2s kvs k v12; lia
    have ko:=a7r I12.hok hkb
    rw [y1,y2] at ko
    refine wpAny_dictSet_heap (knd:=tupleKind (a0s X.prog X.w)) (hsz:=hz') (show X.A.units < cLine by lia) ko dd fun h' dd' hs=>?_
    obtain ⟨q,es,ep,hq,h2',h3',h4',h5',h6'⟩:=dd'
    rw [← y1,← y2] at h4'
    have I13:Inv Y ([]++a5s fp s8.heap) σ9 (upd H12 s2.heap.objs.size (.dT (a5b kvs k v12))) { s12 with heap:=h',toks:=s12.toks + (tupleKind (a0s X.prog X.w)).draws k }:=by
     refine a9b I12 (by rw [hys]; exact True.intro) hs ⟨q,hq⟩ ⟨hl,hd,_,(rel.put k hkb r12).keeps fun c ys ec=>?_,q,es,ep,hq,h2',h3',h4',h6'⟩
     rw [a0b (d0u ec hys (fun z=>nomatch z))]
     exact ec
    obtain ⟨t13,f13⟩:=pinK I13
    exact ⟨m',hm,i + 1,_,(I13.unpinned).weak wk.1.symm wk.2,t13,f13,w12⟩
   | false =>
    rw [if_neg Γk] at q10 ⊢
    obtain ⟨m',hm,w10⟩:=q10
    obtain ⟨t10,f10⟩:=pinK I10
    exact ⟨m',hm,i + 1,_,(I10.unpinned).weak wk.1.symm wk.2,t10,f10,w10⟩
 rw [e5] at loop
 exact codeAny_compStart_dict (loop _ rfl) (T.self _ 0 _ _ _ st4 (loop _ rfl))
theorem c1h (hu:X.A.units + 1 < cLine) (hc:X.calm=true) (SC:CScope X scope own) (hi:PI X.nox tg iter wi)
  (hblock:∀ fp C s H,PG (cxC X scope own fp C s H) tg g∧PTs (cxC X scope own fp C s H) ifs tt∧PE (cxC X scope own fp C s H) kx tk∧PE (cxC X scope own fp C s H) vx tv)
  (hs:∀ x,foldedSetIterable iter X.env x=pure x:=by intro _; rfl) :
  PE X.nox (.DictComp kx vx [⟨tg,iter,ifs,0⟩] scope pos) (c8z wi g tt tk tv own.length):=by
 intro pins s σ H Q I h
 have fr:∀ p∈scope.names,p.2=.free→∃ c,X.env.cells.lookup p.1=some c:=fun p hp hq=>I.ok.has p.1 (SC.free p hp hq)
 rw [arm_eval_DictComp]
 refine wpAny_comprehension_free (use:=none) rfl hs (a4r fr) SC.kind SC.names (thn (hi pins s σ H _ I h) fun v s1 h1=>thn h1 fun itv s2 h2=>?_)
 obtain ⟨it,fp,tn,J,H2,e,I2,T,st2,f2,h2⟩:=h2
 subst e
 refine b9q (X:=X.nox) (own:=own) (RR:=fun acc C=>compPost (model X.prog X.w) X.A (fun _ _=>False) none (EP X.nox pins σ Q) acc C) hu hc ⟨SC.kind,SC.nocell,SC.names,SC.free,SC.apart,SC.hid⟩ (fun C s H=>hblock fp C s H) I2 T st2 f2 h2 ?_
 intro acc C H' m s' I' hn hL hcl hC hH q
 obtain ⟨f0,f1,f2',f3,f4,f5⟩:=I2.fpOk hC hH
 refine ⟨m,hn,fun h' hsb=>⟨.ref acc,H',?_,rfl,q⟩⟩
 exact I'.turned (t':=s'.toks) (fun b o hb e=>(hsb.2 b hb).trans e) f0 f1 f3 f4 f5
end
end L2
end
section
namespace L2
open PySem PySem.Spec PyProof.Rows
section
variable {prog:Program} {w:World} {A:Around} {R:Result→Shared→Prop} {s:Shared}
end
def tIn (wi:TI) (g:TG) (tt:TT) (te:TE) (acc:Addr) (σ:St) (H:Hp) (R:St→Hp→Prop):Prop:=wi σ H fun J H1=>∃ W:Nat→Nat→St→Hp→Prop,(∃ m,W 0 m σ H1)∧∀ i m σ H,W i m σ H →
 (J.stop i H∧R σ H) ∨ (J.go i H∧∀ x H',J.yld i H x H'→g x σ H' fun σ2 H2=>tt σ2 H2 fun b H3 =>
  if b=true then te σ2 H3 fun v H4=>∃ ys,H4 acc=some (.lst ys)∧ys.length < sizeLine∧∃ m',m' < m∧W (i + 1) m' σ2 (upd H4 acc (.lst (ys++[v]))) else ∃ m',m' < m∧W (i + 1) m' σ2 H3)
def c9a (wi:TI) (g:TG) (tt:TT) (wi2:TI) (g2:TG) (tt2:TT) (te:TE) (own:Nat):TE:=fun σ H Q=>wi σ H fun J H1=>∀ acc,H1 acc=none→∃ W:Nat→Nat→Hp→Prop,(∃ m,W 0 m (upd H1 acc (.lst [])))∧∀ i m H,W i m H →
 (J.stop i H∧Q (.ref acc) H) ∨ (J.go i H∧∀ x H',J.yld i H x H'→g x (σ++Γj own none) H' fun σ2 H2=>Wk (σ++Γj own none) σ2∧tt σ2 H2 fun b H3 =>
  if b=true then tIn wi2 g2 tt2 te acc σ2 H3 fun σ3 H4=>Wk (σ++Γj own none) σ3∧∃ m',m' < m∧W (i + 1) m' H4 else ∃ m',m' < m∧W (i + 1) m' H3)
section
variable {X:Cx} {elt tg iter tg2 iter2:Expr} {ifs ifs2:List Expr} {scope:Scope} {own:List Str} {pos:Pos} {wi wi2:TI} {g g2:TG} {tt tt2:TT} {te:TE}
end
end L2
end
section
namespace Kq
open PySem PySem.Spec PyProof.Rows L2
inductive D where
 | non | bl (b:Bool) | int (i:Int) | str (x:String) | tup (xs:List D) | lst (xs:List D)
mutual
noncomputable def D.eqv:D→D→Bool
 | .non,.non=>true
 | .bl a,.bl b=>a == b
 | .bl a,.int j=>(if a then 1 else 0) == j
 | .int i,.bl b=>i == (if b then 1 else 0)
 | .int a,.int b=>a == b
 | .str a,.str b=>a == b
 | .tup a,.tup b=>D.eqvs a b
 | .lst a,.lst b=>D.eqvs a b
 | _,_=>false
noncomputable def D.eqvs:List D→List D→Bool
 | [],[]=>true
 | a :: r,b :: q=>D.eqv a b && D.eqvs r q
 | _,_=>false
end
mutual
noncomputable def D.wt:D→Nat
 | .non=>0 | .bl _=>0
 | .int i=>if -(2 ^ 40) < i∧i < 2 ^ 40 then 41 else 151
 | .str x=>x.length
 | .tup xs=>D.wts xs
 | .lst xs=>D.wts xs
noncomputable def D.wts:List D→Nat
 | []=>0
 | a :: r=>D.wt a + 1 + D.wts r
end
mutual
noncomputable def D.fit:D→Bool
 | .int i=>decide (-(2 ^ 150) < i∧i < 2 ^ 150)
 | .tup xs=>D.fits xs
 | .lst xs=>D.fits xs
 | _=>true
noncomputable def D.fits:List D→Bool
 | []=>true
 | a :: r=>D.fit a && D.fits r
end
inductive FV where
 | non | bl (b:Bool) | int (i:Int) | str (x:String) | tup (xs:List FV) | lst (xs:List FV)
 | scr (ns:List Int)
 | shn (d:D)
 | dct (ks:List (List Int)) (vs:List FV)
 | dci (ks:List Int) (vs:List FV)
 | dcz (o:Obj) (ks:List (List Int)) (vs:List FV)
 | dcn (z:Option Obj) (ks:List (List (Option Int))) (vs:List FV)
 | obj (C dx:Addr) (fs:List (Str×V)) (gs:List (Addr×List V))
noncomputable def big:Nat:=100000
inductive Mo where | imm | own | frz | ob | gst (i:Nat) (x:Str)
 deriving DecidableEq
noncomputable def Mo.w:Mo→Bool | .imm=>false | .frz=>false | _=>true
noncomputable def Mo.g:Mo→Bool | .gst _ _=>true | _=>false
theorem Mo.w_imm {m:Mo} (h:m.w=true):m≠.imm:=fun z=>by rw [z] at h; cases h
theorem Mo.w_frz {m:Mo} (h:m.w=true):m≠.frz:=fun z=>by rw [z] at h; cases h
theorem Mo.w_own {m:Mo} (h:m=.own):m.w=true:=by rw [h]; rfl
abbrev Md:=List Mo
abbrev a0c:=List (Option FV)
noncomputable def a0i:Md→Nat→Mo
 | [],_=>.imm
 | m :: _,0=>m
 | _ :: ms,n + 1=>a0i ms n
noncomputable def lk:a0c→Nat→Option FV
 | [],_=>none
 | x :: _,0=>x
 | _ :: L,n + 1=>lk L n
theorem a4i:∀ (L:a0c) (i:Nat) (v:FV),lk L i=some v↔L[i]?=some (some v)
 | [],i,v=>by simp [lk]
 | x :: L,0,v=>by simp [lk]
 | x :: L,i + 1,v=>by simpa [lk] using a4i L i v
noncomputable def wp {α:Type} (r:Option α) (Q:α→Prop):Prop:=match r with
 | some x=>Q x
 | none=>False
theorem wpx {α:Type} {r:Option α} {Q:α→Prop} (h:wp r Q):∃ x,r=some x∧Q x:=by
 cases r with
 | none=>exact h.elim
 | some x=>exact ⟨x,rfl,h⟩
mutual
noncomputable def dPy:D→PyData
 | .non=>.none
 | .bl b=>.bool b
 | .int i=>.int i
 | .str x=>.str (Γe x)
 | .tup xs=>.tuple (a3p xs)
 | .lst xs=>.list (a3p xs)
noncomputable def a3p:List D→List PyData
 | []=>[]
 | a :: r=>dPy a :: a3p r
end
noncomputable def a1r (ks:List (List Int)):List (List (Int ⊕ Option Str)):=ks.map fun k=>k.map Sum.inl
noncomputable def a3l (ks:List Int):List (Int ⊕ Option Str):=ks.map Sum.inl
noncomputable def oK:Option Int→Int ⊕ Option Str
 | some i=>.inl i
 | none=>.inr none
noncomputable def c6f (ks:List (List (Option Int))):List (List (Int ⊕ Option Str)):=ks.map fun k=>k.map oK
noncomputable def hoN (u:HO):Option Obj→HO
 | none=>u
 | some o=>.frz o u
noncomputable def ScrAt (K:Γd) (S:Hp) (a:Addr) (ns:List Int):Prop:=(∃ o,S a=some (.frz o (.lst (ns.map V.int)))) ∨ SqL K (fun _=>none) a (ns.map V.int)
mutual
noncomputable def RV (K:Γd) (S:Hp):FV→V→Prop
 | .non,v=>v=.non
 | .bl b,v=>v=.bl b
 | .int i,v=>v=.int i
 | .str x,v=>v=.str (Γe x)
 | .tup ps,v=>∃ a xs,v=.ref a∧S a=some (.tup xs)∧RVs K S ps xs
 | .lst ps,v=>∃ a xs,v=.ref a∧S a=some (.lst xs)∧RVs K S ps xs
 | .scr ns,v=>∃ a,v=.ref a∧ScrAt K S a ns
 | .shn d,v=>v=.str (dPy d).shown
 | .dct ks vs,v=>∃ a xs,v=.ref a∧ks.length=vs.length∧S a=some (.dT ((a1r ks).zip xs))∧RVs K S vs xs
 | .dci ks vs,v=>∃ a xs,v=.ref a∧ks.length=vs.length∧S a=some (.dK ((a3l ks).zip xs))∧RVs K S vs xs
 | .dcz o ks vs,v=>∃ a xs,v=.ref a∧ks.length=vs.length∧S a=some (.frz o (.dT ((a1r ks).zip xs)))∧RVs K S vs xs
 | .dcn z ks vs,v=>∃ a xs,v=.ref a∧ks.length=vs.length∧S a=some (hoN (.dT ((c6f ks).zip xs)) z)∧RVs K S vs xs
 | .obj C dx fs gs,v=>∃ a,v=.ref a∧S a=some (.big C dx fs gs)
noncomputable def RVs (K:Γd) (S:Hp):List FV→List V→Prop
 | [],vs=>vs=[]
 | p :: ps,vs=>∃ v r,vs=v :: r∧RV K S p v∧RVs K S ps r
end
mutual
theorem RV.mono {K:Γd} {S S':Hp} (x:Same S S'):∀ {p:FV} {v:V},RV K S p v→RV K S' p v
 | .non,v,h=>h
 | .bl b,v,h=>h
 | .int i,v,h=>h
 | .str _,v,h=>h
 | .shn _,v,h=>h
 | .tup ps,v,⟨a,xs,e,h1,h2⟩=>⟨a,xs,e,x _ _ h1,RVs.mono x h2⟩
 | .lst ps,v,⟨a,xs,e,h1,h2⟩=>⟨a,xs,e,x _ _ h1,RVs.mono x h2⟩
 | .dct ks vs,v,⟨a,xs,e,h0,h1,h2⟩=>⟨a,xs,e,h0,x _ _ h1,RVs.mono x h2⟩
 | .dci ks vs,v,⟨a,xs,e,h0,h1,h2⟩=>⟨a,xs,e,h0,x _ _ h1,RVs.mono x h2⟩
 | .dcz o ks vs,v,⟨a,xs,e,h0,h1,h2⟩=>⟨a,xs,e,h0,x _ _ h1,RVs.mono x h2⟩
 | .dcn z ks vs,v,⟨a,xs,e,h0,h1,h2⟩=>⟨a,xs,e,h0,x _ _ h1,RVs.mono x h2⟩
 | .obj _ _ _ _,v,⟨a,e,h⟩=>⟨a,e,x _ _ h⟩
 | .scr ns,v,⟨a,e,h⟩=>⟨a,e,h.elim (fun ⟨o,h⟩=>.inl ⟨o,x _ _ h⟩) .inr⟩
theorem RVs.mono {K:Γd} {S S':Hp} (x:Same S S'):∀ {ps:List FV} {vs:List V},RVs K S ps vs→RVs K S' ps vs
 | [],vs,h=>h
 | p :: ps,vs,⟨v,r,e,h1,h2⟩=>⟨v,r,e,RV.mono x h1,RVs.mono x h2⟩
end
section
variable {K:Γd} {S H:Hp}
theorem RVs.length:∀ {ps:List FV} {vs:List V},RVs K S ps vs→ps.length=vs.length
 | [],vs,h=>by cases (show vs=[] from h); rfl
 | p :: ps,vs,h=>by
  obtain ⟨v,r,e,_,h2⟩:=h
  subst e
  rw [List.length_cons,List.length_cons,RVs.length h2]
theorem RVs.get:∀ {ps:List FV} {vs:List V} {i:Nat} {p:FV},RVs K S ps vs→ps[i]?=some p→∃ v,vs[i]?=some v∧RV K S p v
 | [],vs,i,p,_,e=>by simp at e
 | q :: ps,vs,0,p,⟨v,r,e',h1,_⟩,e=>by
  subst e'
  simp at e; subst e
  exact ⟨v,rfl,h1⟩
 | q :: ps,vs,i + 1,p,⟨v,r,e',_,h2⟩,e=>by
  subst e'
  simpa using RVs.get (i:=i) (p:=p) h2 (by simpa using e)
theorem RVs.append:∀ {ps qs:List FV} {vs us:List V},RVs K S ps vs→RVs K S qs us→RVs K S (ps++qs) (vs++us)
 | [],qs,vs,us,h,g=>by cases (show vs=[] from h); exact g
 | p :: ps,qs,vs,us,⟨v,r,e,h1,h2⟩,g=>by
  subst e
  exact ⟨v,r++us,rfl,h1,RVs.append h2 g⟩
theorem RVs.one {p:FV} {v:V} (h:RV K S p v):RVs K S [p] [v]:=⟨v,[],rfl,h,rfl⟩
theorem RVs.take:∀ {ps:List FV} {vs:List V} (n:Nat),RVs K S ps vs→RVs K S (ps.take n) (vs.take n)
 | [],vs,n,h=>by cases (show vs=[] from h); simp [RVs]
 | p :: ps,vs,0,h=>by simp [RVs]
 | p :: ps,vs,n + 1,⟨v,r,e,h1,h2⟩=>by
  subst e
  exact ⟨v,r.take n,rfl,h1,RVs.take n h2⟩
theorem RVs.drop:∀ {ps:List FV} {vs:List V} (n:Nat),RVs K S ps vs→RVs K S (ps.drop n) (vs.drop n)
 | [],vs,n,h=>by cases (show vs=[] from h); simp [RVs]
 | p :: ps,vs,0,h=>h
 | p :: ps,vs,n + 1,⟨v,r,e,h1,h2⟩=>by
  subst e
  exact RVs.drop n h2
theorem RVs.set:∀ {ps:List FV} {vs:List V} (n:Nat) {p:FV} {v:V},RVs K S ps vs→RV K S p v→RVs K S (ps.set n p) (vs.set n v)
 | [],vs,n,p,v,h,_=>by cases (show vs=[] from h); simp [RVs]
 | q :: ps,vs,0,p,v,⟨v',r,e,h1,h2⟩,g=>by
  subst e
  exact ⟨v,r,rfl,g,h2⟩
 | q :: ps,vs,n + 1,p,v,⟨v',r,e,h1,h2⟩,g=>by
  subst e
  exact ⟨v',r.set n v,rfl,h1,RVs.set n h2 g⟩
theorem RVs.rev:∀ {ps:List FV} {vs:List V},RVs K S ps vs→RVs K S ps.reverse vs.reverse
 | [],vs,h=>by cases (show vs=[] from h); exact h
 | p :: ps,vs,⟨v,r,e,h1,h2⟩=>by
  subst e
  rw [List.reverse_cons,List.reverse_cons]
  exact (RVs.rev h2).append (RVs.one h1)
theorem RVs.rep {ps:List FV} {vs:List V} (h:RVs K S ps vs):∀ k:Nat,RVs K S (Γj k ps).flatten (Γj k vs).flatten
 | 0=>rfl
 | k + 1=>by
  rw [List.replicate_succ,List.replicate_succ,List.flatten_cons,List.flatten_cons]
  exact h.append (h.rep k)
theorem RVs.ns:∀ (ns:List Int),RVs K S (ns.map .int) (ns.map V.int)
 | []=>rfl
 | n :: ns=>⟨_,_,rfl,rfl,RVs.ns ns⟩
theorem RVs.one_of {p:FV} {us:List V} (h:RVs K S [p] us):∃ u,us=[u]∧RV K S p u:=by
 obtain ⟨v,r,rfl,h1,h2⟩:=h
 cases (show r=[] from h2)
 exact ⟨v,rfl,h1⟩
theorem RVs.two_of {p q:FV} {us:List V} (h:RVs K S [p,q] us):∃ u v,us=[u,v]∧RV K S p u∧RV K S q v:=by
 obtain ⟨v,r,rfl,h1,h2⟩:=h
 obtain ⟨u,rfl,h3⟩:=h2.one_of
 exact ⟨v,u,rfl,h1,h3⟩
noncomputable def d3f:FV→Option (List FV)
 | .lst ps=>some ps
 | .dct ks vs=>if ks.length=vs.length then some vs else none
 | .dci ks vs=>if ks.length=vs.length then some vs else none
 | .dcz _ ks vs=>if ks.length=vs.length then some vs else none
 | .dcn _ ks vs=>if ks.length=vs.length then some vs else none
 | .obj _ _ _ _=>some []
 | _=>none
noncomputable def c8l:FV→List V→HO
 | .dct ks _,xs=>.dT ((a1r ks).zip xs)
 | .dci ks _,xs=>.dK ((a3l ks).zip xs)
 | .dcz o ks _,xs=>.frz o (.dT ((a1r ks).zip xs))
 | .dcn z ks _,xs=>hoN (.dT ((c6f ks).zip xs)) z
 | .obj C dx fs gs,_=>.big C dx fs gs
 | _,xs=>.lst xs
noncomputable def a2x (K:Γd) (S H:Hp) (a:Addr) (v:FV):Prop:=S a=none∧∃ ps xs,d3f v=some ps∧H a=some (c8l v xs)∧RVs K S ps xs
noncomputable def RH (K:Γd) (S H:Hp) (v:FV) (x:V):Prop:=RV K S v x ∨ ∃ a,x=.ref a∧a2x K S H a v
theorem RH.lst {ps:List FV} {x:V} (s:Same S H) (h:RH K S H (.lst ps) x):∃ a xs,x=.ref a∧H a=some (.lst xs)∧RVs K S ps xs:=by
 rcases h with ⟨a,xs,e,h1,h2⟩ | ⟨a,e,_,qs,xs,e2,h1,h2⟩
 ·exact ⟨a,xs,e,s _ _ h1,h2⟩
 ·cases e2; exact ⟨a,xs,e,h1,h2⟩
theorem RH.val {v:FV} {x:V} (h:RH K S H v x) (n:d3f v=none):RV K S v x:=by
 rcases h with h | ⟨a,_,_,ps,xs,e,_⟩
 ·exact h
 ·rw [n] at e; cases e
theorem RH.tup {ps:List FV} {x:V} (s:Same S H) (h:RH K S H (.tup ps) x):∃ a xs,x=.ref a∧H a=some (.tup xs)∧RVs K S ps xs:=by
 obtain ⟨a,xs,e,h1,h2⟩:=h.val rfl
 exact ⟨a,xs,e,s _ _ h1,h2⟩
theorem ScrAt.sq {a:Addr} {ns:List Int} (s:Same S H) (h:ScrAt K S a ns):SqL K H a (ns.map V.int):=by
 rcases h with ⟨o,h⟩ | h
 ·exact .inl (.inr ⟨o,s _ _ h⟩)
 ·rcases h with (h | ⟨o,h⟩) | h
  ·cases h
  ·cases h
  ·exact .inr h
noncomputable def a1w:FV→Option (List FV)
 | .lst xs=>some xs
 | .scr ns=>some (ns.map .int)
 | _=>none
noncomputable def a3r:FV→Option (List FV)
 | .tup xs=>some xs
 | v=>a1w v
theorem RH.list {v:FV} {ps:List FV} {x:V} (s:Same S H) (h:RH K S H v x) (e:a1w v=some ps):∃ a xs,x=.ref a∧SqL K H a xs∧RVs K S ps xs:=by
 cases v with
 | lst qs =>
  cases e
  obtain ⟨a,xs,rfl,h1,h2⟩:=h.lst s
  exact ⟨a,xs,rfl,SqL.of h1,h2⟩
 | scr ns =>
  cases e
  obtain ⟨a,rfl,g⟩:=h.val rfl
  exact ⟨a,_,rfl,ScrAt.sq s g,RVs.ns ns⟩
 | _=>cases e
noncomputable def isL:FV→Bool
 | .tup _=>false
 | _=>true
theorem RH.seq {v:FV} {ps:List FV} {x:V} (s:Same S H) (h:RH K S H v x) (e:a3r v=some ps):∃ a xs,x=.ref a∧SqB (isL v) K H a xs∧RVs K S ps xs:=by
 cases v with
 | tup qs =>
  cases e
  obtain ⟨a,xs,rfl,h1,h2⟩:=h.tup s
  exact ⟨a,xs,rfl,SqT.of h1,h2⟩
 | lst qs=>exact h.list s e
 | scr qs=>exact h.list s e
 | _=>cases e
end
noncomputable def a7c:HO→Bool
 | .tup _=>true
 | _=>false
theorem a5t (v:FV) (xs:List V):a7c (c8l v xs)=false:=by
 cases v with
 | dcn z ks vs=>cases z <;> rfl
 | _=>rfl
structure Cn where
 H0:Hp
 S0:Hp
 P0:Option Addr
 fz:List (Nat×Addr)
 pr:List (Addr×HO)
 P1:List (Nat×Addr)
structure Iv (K:Γd) (c:Cn) (md:Md) (L:a0c) (σ:L2.St) (S H:Hp):Prop where
 len:L.length=σ.length
 imm:∀ i v,a0i md i=.imm→L[i]?=some (some v)→∃ x,σ[i]?=some (some x)∧RV K S v x
 own:∀ i v,a0i md i≠.imm→L[i]?=some (some v)→∃ a,σ[i]?=some (some (.ref a))∧a2x K S H a v∧(c.P0=some a ∨ c.H0 a=none ∨ ∃ j,(j,a)∈c.P1)
 dis:∀ i j v w a,a0i md i≠.imm→a0i md j≠.imm→L[i]?=some (some v)→L[j]?=some (some w)→σ[i]?=some (some (.ref a))→σ[j]?=some (some (.ref a))→i=j
 sub:Same S H
 frame:∀ a o,c.H0 a=some o→c.P0≠some a→(∀ j,(j,a) ∉ c.P1)→H a=some o
 s0:Same c.S0 S
 grow:∀ a o,S a=some o→c.S0 a=some o ∨ c.H0 a=none ∨ a7c o=true
 lent:∀ a,c.P0=some a→a0i md 0≠.imm∧σ[0]?=some (some (.ref a))∧∃ v,L[0]?=some (some v)
 fzs:∀ p∈c.fz,a0i md p.1=.frz∧σ[p.1]?=some (some (.ref p.2))∧∃ v,L[p.1]?=some (some v)
 fzm:∀ i v,a0i md i=.frz→L[i]?=some (some v)→∃ a,(i,a)∈c.fz
 fzp:∀ p∈c.fz,∃ o,(p.2,o)∈c.pr
 prs:∀ p∈c.pr,H p.1=some p.2∧S p.1=none∧∀ i v,(a0i md i).w=true→L[i]?=some (some v)→σ[i]?≠some (some (.ref p.1))
 ntp:∀ p∈c.pr,a7c p.2=false
 lnt1:∀ q∈c.P1,(a0i md q.1).g=true∧σ[q.1]?=some (some (.ref q.2))∧∃ v,L[q.1]?=some (some v)
 tie:∀ j i x C dx fs v,a0i md j=.gst i x→a0i md i=.ob→L[i]?=some (some (.obj C dx fs []))→L[j]?=some (some v)→∃ u,fs.lookup x=some u∧σ[j]?=some (some u)
section
variable {K:Γd} {c:Cn} {md:Md} {L:a0c} {σ:L2.St} {S H S' H':Hp}
theorem Iv.h0 (I:Iv K c md L σ S H) {p:Addr} (h:H p=none):c.H0 p=none:=by
 cases e:c.H0 p with
 | none=>rfl
 | some o =>
  by_cases z:c.P0=some p
  ·obtain ⟨m,e1,v,e2⟩:=I.lent p z
   obtain ⟨a,e3,⟨_,_,_,_,e4,_⟩,_⟩:=I.own 0 v m e2
   rw [e1] at e3; cases e3
   rw [h] at e4; cases e4
  ·by_cases z1:∃ j,(j,p)∈c.P1
   ·obtain ⟨j,hj⟩:=z1
    obtain ⟨g,e1,v,e2⟩:=I.lnt1 _ hj
    obtain ⟨a,e3,⟨_,_,_,_,e4,_⟩,_⟩:=I.own j v (fun z=>by rw [z] at g; cases g) e2
    rw [e1] at e3; cases e3
    rw [h] at e4; cases e4
   ·rw [I.frame p o e z fun j hj=>z1 ⟨j,hj⟩] at h; cases h
theorem Iv.sn (I:Iv K c md L σ S H) {p:Addr} (h:H p=none):S p=none:=by
 cases e:S p with
 | none=>rfl
 | some o=>rw [I.sub p o e] at h; cases h
theorem Iv.go3 (I:Iv K c md L σ S H) (s:Same S S') (sub:Same S' H') (g:∀ a o,S' a=some o→S a=some o ∨ H a=none ∨ a7c o=true) (k:∀ a o,H a=some o→H' a=some o):Iv K c md L σ S' H' where
 len:=I.len
 imm:=fun i v h e=>let ⟨x,e1,r⟩:=I.imm i v h e; ⟨x,e1,r.mono s⟩
 own:=fun i v h e=>by
  obtain ⟨a,e1,⟨h1,ps,xs,e2,h2,h3⟩,h4⟩:=I.own i v h e
  refine ⟨a,e1,⟨?_,ps,xs,e2,k _ _ h2,h3.mono s⟩,h4⟩
  cases q:S' a with
  | none=>rfl
  | some o =>
   rcases g a o q with z | z | z
   ·rw [h1] at z; cases z
   ·rw [h2] at z; cases z
   ·have:=sub a o q
    rw [k _ _ h2] at this
    rw [← Option.some.inj this,a5t] at z; cases z
 dis:=I.dis
 sub:=sub
 frame:=fun a o h n n1=>k _ _ (I.frame a o h n n1)
 s0:=I.s0.trans s
 grow:=fun a o h=>(g a o h).elim (I.grow a o) fun z=>z.elim (fun z=>.inr (.inl (I.h0 z))) fun z=>.inr (.inr z)
 lent:=I.lent
 fzs:=I.fzs
 fzm:=I.fzm
 fzp:=I.fzp
 prs:=fun p hp=>by
  obtain ⟨h1,h2,h3⟩:=I.prs p hp
  refine ⟨k _ _ h1,?_,h3⟩
  cases q:S' p.1 with
  | none=>rfl
  | some o =>
   rcases g _ o q with z | z | z
   ·rw [h2] at z; cases z
   ·rw [h1] at z; cases z
   ·have:=sub _ o q
    rw [k _ _ h1] at this
    rw [← Option.some.inj this,I.ntp p hp] at z; cases z
 ntp:=I.ntp
 lnt1:=I.lnt1
 tie:=I.tie
theorem Iv.go (I:Iv K c md L σ S H) (s:Same S S') (sub:Same S' H') (g:∀ a o,S' a=some o→S a=some o ∨ H a=none) (k:∀ a o,H a=some o→H' a=some o):Iv K c md L σ S' H':=I.go3 s sub (fun a o e=>(g a o e).imp_right .inl) k
theorem a0r {p:Addr} {o:HO} (h:H p=none):Same H (upd H p o):=fun a u e=>by rw [a0b (a0u e h)]; exact e
theorem Iv.new (I:Iv K c md L σ S H) {p:Addr} (h:H p=none) (o:HO):Iv K c md L σ (upd S p o) (upd H p o) :=
 I.go (a0r (I.sn h)) (fun a u e=>by
  by_cases z:a=p
  ·subst z; rw [a0d] at e ⊢; exact e
  ·rw [a0b z] at e ⊢; exact I.sub a u e) (fun a u e=>by
  by_cases z:a=p
  ·subst z; exact .inr h
  ·rw [a0b z] at e; exact .inl e) (a0r h)
theorem Iv.lay (I:Iv K c md L σ S H) {p:Addr} (h:H p=none) (o:HO):Iv K c md L σ S (upd H p o) :=
 I.go (Same.refl S) (I.sub.trans (a0r h)) (fun a u e=>.inl e) (a0r h)
theorem Iv.back4 (I:Iv K c md L σ S H) {i:Nat} {v w:FV} {a:Addr} (m:(a0i md i).w=true) (e:L[i]?=some (some v)) (e1:σ[i]?=some (some (.ref a))) (s:Same S S') (sub:Same S' H') (g:∀ a o,S' a=some o→S a=some o ∨ H a=none ∨ a7c o=true)
  (k:∀ b o,H b=some o→b≠a→H' b=some o) (new:a2x K S' H' a w) (ht:∀ j x C dx fs u,a0i md j=.gst i x→a0i md i=.ob→w=.obj C dx fs []→L[j]?=some (some u)→∃ u,fs.lookup x=some u∧σ[j]?=some (some u)):Iv K c md (L.set i (some w)) σ S' H':=by
 have mi:=Mo.w_imm m
 have hi:=(List.getElem?_eq_some_iff.mp e).1
 obtain ⟨a',e1',⟨h1,qs,ys,_,h2,h3⟩,h4⟩:=I.own i v mi e
 rw [e1] at e1'; cases e1'
 have look:∀ j u,(L.set i (some w))[j]?=some (some u)→(j=i∧u=w) ∨ (j≠i∧L[j]?=some (some u)):=fun j u z=>by
  by_cases q:j=i
  ·subst q; rw [List.getElem?_set_self hi] at z; cases z; exact .inl ⟨rfl,rfl⟩
  ·rw [List.getElem?_set_ne (Ne.symm q)] at z; exact .inr ⟨q,z⟩
 have lookx:∀ j,(∃ u,L[j]?=some (some u))→∃ u,(L.set i (some w))[j]?=some (some u):=fun j h=>by
  obtain ⟨u,z⟩:=h
  by_cases q:j=i
  ·subst q; exact ⟨_,List.getElem?_set_self hi⟩
  ·exact ⟨u,by rw [List.getElem?_set_ne (Ne.symm q)]; exact z⟩
 have old:∀ j u,(L.set i (some w))[j]?=some (some u)→∃ u,L[j]?=some (some u):=fun j u z=>(look j u z).elim (fun q=>⟨v,by rw [q.1]; exact e⟩) fun q=>⟨u,q.2⟩
 refine ⟨by rw [List.length_set]; exact I.len,fun j u hm z=>?_,fun j u hm z=>?_,fun j k u u2 b m1 m2 z1 z2=>?_,sub,fun b o z n n1=>?_,I.s0.trans s,fun b o z=>(g b o z).elim (I.grow b o) fun z=>z.elim (fun z=>.inr (.inl (I.h0 z))) fun z=>.inr (.inr z),fun b z=>?_,fun p hp=>?_,fun j u hm z=>?_,I.fzp,fun p hp=>?_,I.ntp,fun q hq=>?_,fun j i' x C dx fs u h1 h2 h3 h4=>?_⟩
 ·rcases look j u z with ⟨q,_⟩ | ⟨_,z⟩
  ·rw [q] at hm; exact absurd hm mi
  ·obtain ⟨x,f1,f2⟩:=I.imm j u hm z
   exact ⟨x,f1,f2.mono s⟩
 ·rcases look j u z with ⟨rfl,rfl⟩ | ⟨q,z⟩
  ·exact ⟨a,e1,new,h4⟩
  ·obtain ⟨b,f1,⟨g1,rs,zs,g2,g3,g4⟩,g5⟩:=I.own j u hm z
   have hb:b≠a:=fun y=>by subst y; exact q (I.dis j i u v b hm mi z e f1 e1)
   refine ⟨b,f1,⟨?_,rs,zs,g2,k b _ g3 hb,g4.mono s⟩,g5⟩
   cases q':S' b with
   | none=>rfl
   | some o =>
    rcases g b o q' with z | z | z
    ·rw [g1] at z; cases z
    ·rw [g3] at z; cases z
    ·have:=sub b o q'
     rw [k b _ g3 hb] at this
     rw [← Option.some.inj this,a5t] at z; cases z
 ·obtain ⟨w',z1⟩:=old j u z1
  obtain ⟨u',z2⟩:=old k u2 z2
  exact I.dis j k w' u' b m1 m2 z1 z2
 ·refine k b o (I.frame b o z n n1) fun y=>?_
  subst y
  rcases h4 with y | y | ⟨j,y⟩
  ·exact n y
  ·rw [z] at y; cases y
  ·exact n1 j y
 ·obtain ⟨g1,g2,g3⟩:=I.lent b z
  exact ⟨g1,g2,lookx 0 g3⟩
 ·obtain ⟨g1,g2,g4⟩:=I.fzs p hp
  exact ⟨g1,g2,lookx _ g4⟩
 ·rcases look j u z with ⟨q,_⟩ | ⟨_,z⟩
  ·rw [q] at hm; exact absurd hm (Mo.w_frz m)
  ·exact I.fzm j u hm z
 ·obtain ⟨g1,g2,g3⟩:=I.prs p hp
  have kp:=k _ _ g1 fun y=>g3 i v m e (by rw [y]; exact e1)
  refine ⟨kp,?_,fun j u hm z=>let ⟨u',z'⟩:=old j u z; g3 j u' hm z'⟩
  cases q':S' p.1 with
  | none=>rfl
  | some o =>
   rcases g _ o q' with z | z | z
   ·rw [g2] at z; cases z
   ·rw [g1] at z; cases z
   ·have:=sub _ o q'
    rw [kp] at this
    rw [← Option.some.inj this,I.ntp p hp] at z; cases z
 ·obtain ⟨g1,g2,g3⟩:=I.lnt1 q hq
  exact ⟨g1,g2,lookx _ g3⟩
 ·obtain ⟨u',h4'⟩:=old j u h4
  rcases look i' _ h3 with ⟨rfl,e9⟩ | ⟨_,h3⟩
  ·exact ht j x C dx fs u' h1 h2 e9.symm h4'
  ·exact I.tie j i' x C dx fs u' h1 h2 h3 h4'
theorem Iv.back3 (I:Iv K c md L σ S H) {i:Nat} {v w:FV} {a:Addr} (m:a0i md i=.own) (e:L[i]?=some (some v)) (e1:σ[i]?=some (some (.ref a))) (s:Same S S') (sub:Same S' H') (g:∀ a o,S' a=some o→S a=some o ∨ H a=none ∨ a7c o=true)
  (k:∀ b o,H b=some o→b≠a→H' b=some o) (new:a2x K S' H' a w):Iv K c md (L.set i (some w)) σ S' H':=I.back4 (Mo.w_own m) e e1 s sub g k new fun _ _ _ _ _ _ _ z=>by rw [m] at z; cases z
theorem Iv.back (I:Iv K c md L σ S H) {i:Nat} {v w:FV} {a:Addr} (m:a0i md i=.own) (e:L[i]?=some (some v)) (e1:σ[i]?=some (some (.ref a))) (s:Same S S') (sub:Same S' H') (g:∀ a o,S' a=some o→S a=some o ∨ H a=none)
  (k:∀ b o,H b=some o→b≠a→H' b=some o) (new:a2x K S' H' a w):Iv K c md (L.set i (some w)) σ S' H':=I.back3 m e e1 s sub (fun a o e=>(g a o e).imp_right .inl) k new
theorem Iv.write (I:Iv K c md L σ S H) {i:Nat} {v:FV} {a:Addr} {ps:List FV} {xs:List V} (m:a0i md i=.own) (e:L[i]?=some (some v)) (e1:σ[i]?=some (some (.ref a))) (r:RVs K S ps xs) :
  Iv K c md (L.set i (some (.lst ps))) σ S (upd H a (.lst xs)):=by
 obtain ⟨a',e1',⟨h1,_⟩,_⟩:=I.own i v (fun z=>by rw [m] at z; cases z) e
 rw [e1] at e1'; cases e1'
 exact I.back m e e1 (Same.refl S) (fun b o z=>by rw [a0b fun y=>by subst y; rw [h1] at z; cases z]; exact I.sub b o z) (fun b o z=>.inl z) (fun b o z n=>by rw [a0b n]; exact z) ⟨h1,ps,xs,rfl,a0d,r⟩
theorem Iv.set (I:Iv K c md L σ S H) {i:Nat} {v:FV} {x:V} (ni:∀ a,c.P0=some a→i≠0) (nf:a0i md i≠.frz) (h:(a0i md i=.imm∧RV K S v x) ∨ (a0i md i=.own∧∃ a,x=.ref a∧a2x K S H a v∧c.H0 a=none∧(∀ p∈c.pr,p.1≠a)∧∀ j w,j≠i→a0i md j≠.imm→L[j]?=some (some w)→σ[j]?≠some (some (.ref a)))) :
  Iv K c md (L.set i (some v)) (σ.set i (some x)) S H:=by
 have look:∀ j w,(L.set i (some v))[j]?=some (some w)→(j=i∧w=v∧(σ.set i (some x))[j]?=some (some x)) ∨ (j≠i∧L[j]?=some (some w)∧(σ.set i (some x))[j]?=σ[j]?):=fun j w z=>by
  by_cases q:j=i
  ·subst q
   have hj:j < L.length:=by have:=(List.getElem?_eq_some_iff.mp z).1; rwa [List.length_set] at this
   rw [List.getElem?_set_self hj] at z; cases z
   exact .inl ⟨rfl,rfl,by rw [List.getElem?_set_self (by rw [← I.len]; exact hj)]⟩
  ·rw [List.getElem?_set_ne (Ne.symm q)] at z
   exact .inr ⟨q,z,List.getElem?_set_ne (Ne.symm q)⟩
 have far:∀ j,j≠i→(L.set i (some v))[j]?=L[j]?∧(σ.set i (some x))[j]?=σ[j]?:=fun j q=>⟨List.getElem?_set_ne (Ne.symm q),List.getElem?_set_ne (Ne.symm q)⟩
 refine ⟨by rw [List.length_set,List.length_set]; exact I.len,fun j w hm z=>?_,fun j w hm z=>?_,fun j k w u b m1 m2 z1 z2 y1 y2=>?_,I.sub,I.frame,I.s0,I.grow,fun b z=>?_,fun p hp=>?_,fun j w hm z=>?_,I.fzp,fun p hp=>?_,I.ntp,fun q hq=>?_,fun j k y C dx fs u h1 h2 h3 h4=>?_⟩
 ·rcases look j w z with ⟨rfl,rfl,y⟩ | ⟨q,z,y⟩
  ·rcases h with ⟨_,r⟩ | ⟨hm',_⟩
   ·exact ⟨x,y,r⟩
   ·rw [hm] at hm'; cases hm'
  ·rw [y]; exact I.imm j w hm z
 ·rcases look j w z with ⟨rfl,rfl,y⟩ | ⟨q,z,y⟩
  ·rcases h with ⟨hm',_⟩ | ⟨_,a,rfl,o,h0,_,_⟩
   ·exact absurd hm' hm
   ·exact ⟨a,y,o,.inr (.inl h0)⟩
  ·rw [y]; exact I.own j w hm z
 ·rcases look j w z1 with ⟨p1,p2,p3⟩ | ⟨p1,p2,p3⟩
  ·rcases look k u z2 with ⟨q1,q2,q3⟩ | ⟨q1,q2,q3⟩
   ·rw [p1,q1]
   ·rcases h with ⟨hm',_⟩ | ⟨_,a,rfl,_,_,_,n⟩
    ·rw [p1] at m1; exact absurd hm' m1
    ·rw [p3] at y1; cases y1
     rw [q3] at y2
     exact absurd y2 (n k u q1 m2 q2)
  ·rw [p3] at y1
   rcases look k u z2 with ⟨q1,q2,q3⟩ | ⟨q1,q2,q3⟩
   ·rcases h with ⟨hm',_⟩ | ⟨_,a,rfl,_,_,_,n⟩
    ·rw [q1] at m2; exact absurd hm' m2
    ·rw [q3] at y2; cases y2
     exact absurd y1 (n j w p1 m1 p2)
   ·rw [q3] at y2
    exact I.dis j k w u b m1 m2 p2 q2 y1 y2
 ·obtain ⟨g1,g2,g3⟩:=I.lent b z
  obtain ⟨f1,f2⟩:=far 0 (Ne.symm (ni b z))
  rw [f1,f2]; exact ⟨g1,g2,g3⟩
 ·obtain ⟨g1,g2,g4⟩:=I.fzs p hp
  obtain ⟨f1,f2⟩:=far p.1 fun y=>nf (by rw [← y]; exact g1)
  rw [f1,f2]; exact ⟨g1,g2,g4⟩
 ·rcases look j w z with ⟨rfl,_,_⟩ | ⟨_,z,_⟩
  ·exact absurd hm nf
  ·exact I.fzm j w hm z
 ·obtain ⟨g1,g2,g3⟩:=I.prs p hp
  refine ⟨g1,g2,fun j w hm z=>?_⟩
  rcases look j w z with ⟨q1,q2,q3⟩ | ⟨q1,q2,q3⟩
  ·rcases h with ⟨hm',_⟩ | ⟨_,a,rfl,_,_,n,_⟩
   ·rw [q1,hm'] at hm; cases hm
   ·rw [q3]; exact fun y=>n p hp (by cases y; rfl)
  ·rw [q3]; exact g3 j w hm q2
 ·obtain ⟨g1,g2,g3⟩:=I.lnt1 q hq
  obtain ⟨f1,f2⟩:=far q.1 fun y=>by
   rw [y] at g1
   rcases h with ⟨hm',_⟩ | ⟨hm',_⟩ <;> rw [hm'] at g1 <;> cases g1
  rw [f1,f2]; exact ⟨g1,g2,g3⟩
 ·have n1:j≠i:=fun y=>by
   rw [y] at h1
   rcases h with ⟨hm',_⟩ | ⟨hm',_⟩ <;> rw [hm'] at h1 <;> cases h1
  have n2:k≠i:=fun y=>by
   rw [y] at h2
   rcases h with ⟨hm',_⟩ | ⟨hm',_⟩ <;> rw [hm'] at h2 <;> cases h2
  rw [(far j n1).1] at h4
  rw [(far k n2).1] at h3
  rw [(far j n1).2]
  exact I.tie j k y C dx fs u h1 h2 h3 h4
theorem Iv.tup (I:Iv K c md L σ S H) {b:Addr} {xs:List V} (h:H b=some (.tup xs)):Iv K c md L σ (upd S b (.tup xs)) H∧Same S (upd S b (.tup xs)):=by
 have s:Same S (upd S b (.tup xs)):=fun a o e=>by
  by_cases z:a=b
  ·subst z; rw [I.sub _ _ e] at h; rw [h,a0d]
  ·rw [a0b z]; exact e
 refine ⟨I.go3 s (fun a o e=>?_) (fun a o e=>?_) fun a o e=>e,s⟩
 ·by_cases z:a=b
  ·subst z; rw [a0d] at e; rw [← e]; exact h
  ·rw [a0b z] at e; exact I.sub a o e
 ·by_cases z:a=b
  ·subst z; rw [a0d] at e; cases e; exact .inr (.inr rfl)
  ·rw [a0b z] at e; exact .inl e
end
end Kq
end
section
namespace Kq
noncomputable def a3v {α β:Type} (f:α→Option β):List α→Option (List β)
 | []=>some []
 | x :: xs=>(f x).bind fun y=>(a3v f xs).map (y :: ·)
noncomputable def fD:Nat→FV→Option D
 | 0,_=>none
 | n + 1,v=>match v with
  | .non=>some .non
  | .bl b=>some (.bl b)
  | .int i=>some (.int i)
  | .str x=>some (.str x)
  | .tup xs=>(a3v (fD n) xs).map .tup
  | .lst xs=>(a3v (fD n) xs).map .lst
  | .scr _=>none
  | .shn _=>none
  | .dct _ _=>none
  | .dci _ _=>none
  | .dcz _ _ _=>none
  | .obj _ _ _ _=>none | .dcn _ _ _=>none
noncomputable def a0j:Nat:=40
noncomputable def b0w:FV→Option Bool
 | .non=>some false
 | .bl b=>some b
 | .int i=>some (i != 0)
 | .str _=>none
 | .tup xs=>some (!xs.isEmpty)
 | .lst xs=>some (!xs.isEmpty)
 | .scr xs=>some (!xs.isEmpty)
 | .shn _=>none
 | .dct _ _=>none
 | .dci _ _=>none
 | .dcz _ _ _=>none
 | .obj _ _ _ _=>none | .dcn _ _ _=>none
noncomputable def a2n:FV→Option Int | .int i=>some i | _=>none
noncomputable def blF:FV→Option Bool | .bl b=>some b | _=>none
noncomputable def a6s:FV→Option (List FV) | .tup xs=>some xs | _=>none
noncomputable def a6x:FV→Option (List FV) | .lst xs=>some xs | _=>none
noncomputable def a1z (i:Int):Bool:=decide (-(2 ^ 64) < i∧i < 2 ^ 64)
noncomputable def a1a (i:Int):Bool:=decide (-(2 ^ 62)≤i∧i < 2 ^ 62)
noncomputable def a5o (i:Int):Bool:=decide (-(2 ^ 40)≤i∧i≤2 ^ 40)
noncomputable def eqD (a b:FV):Option Bool:=(fD a0j a).bind fun x=>(fD a0j b).bind fun y=>some (D.eqv x y)
noncomputable def eqF (a b:FV):Option Bool:=match a,b with
 | .shn x,.shn y=>open Classical in if x=y then some true else none
 | a,b=>eqD a b
noncomputable def inD:D→D→Option Bool
 | x,.lst xs=>some (xs.any fun y=>D.eqv y x)
 | x,.tup xs=>some (xs.any fun y=>D.eqv y x)
 | _,_=>none
noncomputable def inF (a b:FV):Option Bool:=(fD a0j a).bind fun x=>(fD a0j b).bind fun y=>inD x y
noncomputable def a1c:List FV→Option (List Int)
 | []=>some []
 | .int i :: r=>(a1c r).map (i :: ·)
 | _=>none
noncomputable def a4n:List FV→Option (List Bool)
 | []=>some []
 | .bl b :: r=>(a4n r).map (b :: ·)
 | _=>none
noncomputable def c8v:List FV→Option (List (List Int))
 | []=>some []
 | .tup xs :: r=>(a1c xs).bind fun t=>(c8v r).map (t :: ·)
 | _=>none
noncomputable def lexLt:List Int→List Int→Bool
 | [],[]=>false
 | [],_ :: _=>true
 | _ :: _,[]=>false
 | a :: r,b :: q=>if a=b then lexLt r q else decide (a < b)
noncomputable def lexLe:List Int→List Int→Bool
 | [],[]=>true
 | [],_ :: _=>true
 | _ :: _,[]=>false
 | a :: r,b :: q=>if a=b then lexLe r q else decide (a≤b)
noncomputable def a2w (f:Int→Int→Option FV) (v w:FV):Option FV:=(a2n v).bind fun i=>(a2n w).bind fun j=>f i j
noncomputable def a3m (v w:FV):Option FV:=match v with
 | .tup xs=>(a6s w).bind fun ys=>if xs.length + ys.length≤big then some (.tup (xs++ys)) else none
 | .lst xs=>(a6x w).bind fun ys=>if xs.length + ys.length≤big then some (.lst (xs++ys)) else none
 | v=>a2w (fun i j=>some (.int (i + j))) v w
noncomputable def b2a:FV→FV→Option FV:=a2w fun i j=>some (.int (i - j))
noncomputable def c0f (v w:FV):Option FV:=match v with
 | .lst xs=>(a2n w).bind fun k=>if -(2 ^ 63)≤k∧k < 2 ^ 63∧xs.length * k.toNat≤big then some (.lst (Γj k.toNat xs).flatten) else none
 | v=>a2w (fun i j=>if (a1z i || a1z j)=true then some (.int (i * j)) else none) v w
noncomputable def b8l:FV→FV→Option FV:=a2w fun i j=>if 0 < j∧j < 1073741824 then some (.int (i / j)) else none
noncomputable def c3o:FV→FV→Option FV:=a2w fun i j=>if 0 < j then some (.int (i % j)) else none
noncomputable def c9s:FV→FV→Option FV:=a2w fun i j=>if 0≤j∧j≤1000∧a1z i=true then some (.int (i ^ j.toNat)) else none
noncomputable def eqB (a b:FV):Option FV:=(eqF a b).map .bl
noncomputable def neB (a b:FV):Option FV:=(eqF a b).map fun r=>.bl (!r)
noncomputable def inB (a b:FV):Option FV:=(inF a b).map .bl
noncomputable def niB (a b:FV):Option FV:=(inF a b).map fun r=>.bl (!r)
noncomputable def ltB (v w:FV):Option FV:=match v with
 | .tup xs=>(a6s w).bind fun ys=>(a1c xs).bind fun a=>(a1c ys).bind fun b=>some (.bl (lexLt a b))
 | v=>a2w (fun i j=>some (.bl (decide (i < j)))) v w
noncomputable def leB (v w:FV):Option FV:=match v with
 | .tup xs=>(a6s w).bind fun ys=>(a1c xs).bind fun a=>(a1c ys).bind fun b=>some (.bl (lexLe a b))
 | v=>a2w (fun i j=>some (.bl (decide (i≤j)))) v w
noncomputable def gtB:FV→FV→Option FV:=a2w fun i j=>some (.bl (decide (j < i)))
noncomputable def geB:FV→FV→Option FV:=a2w fun i j=>some (.bl (decide (j≤i)))
noncomputable def ixN (n:Nat) (i:Int):Option Nat:=if 0≤i then (if i < n then some i.toNat else none) else if -(n:Int)≤i then some (i + n).toNat else none
noncomputable def atF (xs:List FV) (i:Int):Option FV:=(ixN xs.length i).bind fun j=>xs[j]?
noncomputable def ixF (v w:FV):Option FV:=(a2n w).bind fun j=>(a3r v).bind fun xs=>atF xs j
noncomputable def b7d:FV→FV→Option FV:=a2w fun i j=>some (.int (if j < i then j else i))
noncomputable def max2F:FV→FV→Option FV:=a2w fun i j=>some (.int (if j > i then j else i))
noncomputable def a2m:FV→Option FV | .non=>some (.bl true) | _=>some (.bl false)
noncomputable def a1s:FV→Option FV | .non=>some (.bl false) | _=>some (.bl true)
noncomputable def isBlF (c:Bool):FV→Option FV | .bl b=>some (.bl (b == c)) | _=>some (.bl false)
noncomputable def notBlF (c:Bool):FV→Option FV | .bl b=>some (.bl (b != c)) | _=>some (.bl true)
noncomputable def d7i (v:FV):Option FV:=(blF v).map fun b=>.bl (!b)
noncomputable def c8n (v:FV):Option FV:=(a2n v).map fun i=>.int (-i)
noncomputable def turnF (v:FV):Option FV:=(a6s v).map fun xs=>.tup xs.reverse
noncomputable def a6a (v:FV):Option FV:=(a3r v).map fun xs=>.int xs.length
noncomputable def d2w (v:FV):Option FV:=(a2n v).map fun i=>.int (if i < 0 then -i else i)
noncomputable def b1z:FV→Option FV | .int i=>some (.int i) | .bl b=>some (.int (if b then 1 else 0)) | _=>none
noncomputable def c4n (xs:List FV):Option Int:=(a1c xs).bind fun ns=>if ns.length≤big∧ns.all a5o=true then some ns.sum else none
noncomputable def sumF (v:FV):Option FV:=(a1w v).bind fun xs=>(c4n xs).map .int
noncomputable def d4v (v:FV):Option FV:=(a1w v).bind fun xs=>(a4n xs).map fun bs=>.bl (bs.all id)
noncomputable def d4u (v:FV):Option FV:=(a1w v).bind fun xs=>(a4n xs).map fun bs=>.bl (bs.any id)
noncomputable def a1j (b:Int):List Int→Int
 | []=>b
 | x :: r=>a1j (if x < b then x else b) r
noncomputable def c3t (b:List Int):List (List Int)→List Int
 | []=>b
 | x :: r=>c3t (if lexLt x b=true then x else b) r
noncomputable def d3l (xs:List FV):Option FV:=(a1c xs).bind fun ns=>match ns with
 | n :: r=>some (.int (a1j n r))
 | []=>none
noncomputable def minT (xs:List FV):Option FV:=(c8v xs).bind fun ns=>match ns with
 | n :: r=>some (.tup ((c3t n r).map .int))
 | []=>none
noncomputable def c1p (v:FV):Option FV:=(a1w v).bind d3l
noncomputable def minTF (v:FV):Option FV:=(a1w v).bind minT
noncomputable def a2g (v:FV):Option FV:=(a3r v).map .tup
noncomputable def d7p (v:FV):Option FV:=(a3r v).map .lst
noncomputable def shnF (v:FV):Option FV:=(fD a0j v).bind fun d=>if d.fit=true∧d.wt≤big then some (.shn d) else none
noncomputable def strF (v:FV):Option FV:=match v with
 | .non=>some (.str "None")
 | .bl b=>some (.str (if b then "True" else "False"))
 | .str x=>some (.str x)
 | .int i=>if -(2 ^ 150) < i∧i < 2 ^ 150 then some (.str (toString i)) else none
 | .tup xs=>shnF (.tup xs)
 | .lst xs=>shnF (.lst xs)
 | .scr _=>none | .shn _=>none | .dct _ _=>none | .dci _ _=>none | .dcz _ _ _=>none | .obj _ _ _ _=>none | .dcn _ _ _=>none
inductive Ty where | int | bool | str | list | tuple
 deriving DecidableEq
noncomputable def b1n:FV→Ty→Option Bool
 | .non,_=>some false
 | .bl _,t=>some (t == .int || t == .bool)
 | .int _,t=>some (t == .int)
 | .str _,t=>some (t == .str)
 | .tup _,t=>some (t == .tuple)
 | .lst _,t=>some (t == .list)
 | .scr _,_=>none
 | .shn _,t=>some (t == .str)
 | .dct _ _,_=>none
 | .dci _ _,_=>none
 | .dcz _ _ _,_=>none
 | .obj _ _ _ _,_=>none
 | .dcn _ _ _,_=>none
noncomputable def d1e (t:Ty) (v:FV):Option FV:=(b1n v t).map .bl
noncomputable def isi2F (t u:Ty) (v:FV):Option FV:=(b1n v t).bind fun a=>(b1n v u).map fun b=>.bl (a || b)
noncomputable def sIx (n d:Nat):Option Int→Nat
 | none=>d
 | some v=>if v < 0 then (v + n).toNat else min v.toNat n
noncomputable def a9g {α:Type} (xs:List α) (lo hi:Option Int):List α:=(xs.drop (sIx xs.length 0 lo)).take (sIx xs.length xs.length hi - sIx xs.length 0 lo)
noncomputable def a7l (v:FV) (lo hi:Option Int):Option FV:=match v with
 | .tup xs=>some (.tup (a9g xs lo hi))
 | .lst xs=>some (.lst (a9g xs lo hi))
 | _=>none
abbrev EW:=a0c→(FV→a0c→Prop)→Prop
abbrev BW:=a0c→(Bool→a0c→Prop)→Prop
abbrev AW:=a0c→(List FV→a0c→Prop)→Prop
abbrev OW:=a0c→(Option Int→a0c→Prop)→Prop
noncomputable def a0e (i:Nat):EW:=fun L Q=>wp (lk L i) fun x=>Q x L
noncomputable def eC (v:FV):EW:=fun L Q=>Q v L
noncomputable def eUn (f:FV→Option FV) (a:EW):EW:=fun L Q=>a L fun x L1=>wp (f x) fun z=>Q z L1
noncomputable def eOp (f:FV→FV→Option FV) (a b:EW):EW:=fun L Q=>a L fun x L1=>b L1 fun y L2=>wp (f x y) fun z=>Q z L2
noncomputable def b8t (f:FV→FV→Option FV) (i:Nat) (b:EW):EW:=fun L Q=>wp (lk L i) fun _=>b L fun y L1=>wp (lk L1 i) fun x=>wp (f x y) fun z=>Q z L1
noncomputable def eChain (f g:FV→FV→Option FV) (a b c:EW):EW:=fun L Q=>a L fun x L1=>b L1 fun y L2=>wp (f x y) fun r=>wp (blF r) fun r=>if r=true then c L2 fun z L3=>wp (g y z) fun q=>Q q L3 else Q (.bl false) L2
noncomputable def d4j (a b:EW):EW:=fun L Q=>a L fun x L1=>wp (b0w x) fun r=>if r=true then b L1 Q else Q x L1
noncomputable def eOr (a b:EW):EW:=fun L Q=>a L fun x L1=>wp (b0w x) fun r=>if r=true then Q x L1 else b L1 Q
noncomputable def eIf (c:BW) (a b:EW):EW:=fun L Q=>c L fun r L1=>if r=true then a L1 Q else b L1 Q
noncomputable def a2e (a:EW):BW:=fun L Q=>a L fun x L1=>wp (b0w x) fun b=>Q b L1
noncomputable def c7x (a b:BW):BW:=fun L Q=>a L fun r L1=>if r=true then b L1 Q else Q false L1
noncomputable def bOr (a b:BW):BW:=fun L Q=>a L fun r L1=>if r=true then Q true L1 else b L1 Q
noncomputable def c4e (a:BW):BW:=fun L Q=>a L fun r L1=>Q (!r) L1
noncomputable def a2f:BW:=fun L Q=>Q true L
noncomputable def a0p:AW:=fun L Q=>Q [] L
noncomputable def a0a (a:EW) (r:AW):AW:=fun L Q=>a L fun x L1=>r L1 fun xs L2=>Q (x :: xs) L2
noncomputable def a4y (a:AW):EW:=fun L Q=>a L fun xs L1=>xs.length≤big∧Q (.tup xs) L1
noncomputable def c0h (a:AW):EW:=fun L Q=>a L fun xs L1=>xs.length≤big∧Q (.lst xs) L1
noncomputable def b6y:OW:=fun L Q=>Q none L
noncomputable def b1b (a:EW):OW:=fun L Q=>a L fun x L1=>wp (a2n x) fun i=>Q (some i) L1
noncomputable def eSl (a:EW) (l h:OW):EW:=fun L Q=>a L fun x L1=>l L1 fun i L2=>h L2 fun j L3=>wp (a7l x i j) fun z=>Q z L3
noncomputable def eSlN (k:Nat) (l h:OW):EW:=fun L Q=>wp (lk L k) fun _=>l L fun i L2=>h L2 fun j L3=>wp (lk L3 k) fun x=>wp (a7l x i j) fun z=>Q z L3
abbrev CW:=Nat→List FV→(FV×FV→Prop)→Prop
noncomputable def a1h (call:CW) (f:Nat) (a:AW):EW:=fun L Q=>a L fun xs L1=>call f xs fun z=>Q z.1 L1
noncomputable def a1f (call:CW) (f i:Nat) (a:AW):EW:=fun L Q=>wp (lk L i) fun _=>a L fun xs L1=>wp (lk L1 i) fun x=>call f (x :: xs) fun z=>Q z.1 (L1.set i (some z.2))
noncomputable def d4t (v y:FV):Option FV:=(a6x v).bind fun xs=>if xs.length < big then some (.lst (xs++[y])) else none
noncomputable def nscF:FV→Option (List FV) | .tup xs=>some xs | .lst xs=>some xs | _=>none
noncomputable def extF (v y:FV):Option FV:=(a6x v).bind fun xs=>(nscF y).bind fun ys=>if xs.length + ys.length≤big then some (.lst (xs++ys)) else none
noncomputable def c2l (f:FV→FV→Option FV) (i:Nat) (a:EW):EW:=fun L Q=>wp (lk L i) fun v=>wp (a6x v) fun _=>a L fun y L1=>wp (lk L1 i) fun x=>wp (f x y) fun z=>Q .non (L1.set i (some z))
noncomputable def upF (lo:Int):Nat→List FV
 | 0=>[]
 | n + 1=>.int lo :: upF (lo + 1) n
noncomputable def a3a (xs ys:List FV):List FV:=xs.zipWith (fun p q=>.tup [p,q]) ys
noncomputable def c8o (a:EW):AW:=fun L Q=>a L fun x L1=>wp (a3r x) fun xs=>Q xs L1
noncomputable def b2z (a:EW):AW:=fun L Q=>a L fun x L1=>wp (a2n x) fun j=>a1a j=true∧Q (upF 0 j.toNat) L1
noncomputable def iRng2 (a b:EW):AW:=fun L Q=>a L fun x L1=>b L1 fun y L2=>wp (a2n x) fun i=>wp (a2n y) fun j=>(a1a i && a1a j)=true∧Q (upF i (j - i).toNat) L2
noncomputable def iZip (a b:EW):AW:=fun L Q=>a L fun x L1=>b L1 fun y L2=>wp (a3r x) fun xs=>wp (a3r y) fun ys=>Q (a3a xs ys) L2
noncomputable def b4d (a:EW):AW:=fun L Q=>a L fun x L1=>wp (a3r x) fun xs=>Q (a3a (upF 0 xs.length) xs) L1
inductive Tg where | nm (i:Nat) | tp (is:List Nat) | tn (i:Nat) (is:List Nat)
noncomputable def d6z:List FV→Option (FV×FV) | [a,b]=>some (a,b) | _=>none
noncomputable def a8i:a0c→List Nat→List FV→Option a0c
 | L,[],[]=>some L
 | L,i :: is,v :: vs=>a8i (L.set i (some v)) is vs
 | _,_,_=>none
noncomputable def gW (tg:Tg) (v:FV) (L:a0c) (Q:a0c→Prop):Prop:=match tg with
 | .nm i=>Q (L.set i (some v))
 | .tp is=>wp (a6s v) fun xs=>wp (a8i L is xs) Q
 | .tn i is=>wp (a6s v) fun xs=>wp (d6z xs) fun p=>wp (a6s p.2) fun ys=>wp (a8i (L.set i (some p.1)) is ys) Q
noncomputable def a3z (n m:Nat) (tg:Tg) (t:BW) (e:EW):List FV→List FV→a0c→(List FV→a0c→Prop)→Prop
 | [],acc,L,Q=>Q acc L
 | x :: xs,acc,L,Q=>gW tg x (L++Γj m none) fun L1=>t L1 fun b L2=>if b=true then e L2 fun v L3=>a3z n m tg t e xs (acc++[v]) (L3.take n) Q else a3z n m tg t e xs acc (L2.take n) Q
noncomputable def a2t (n m:Nat) (it:AW) (tg:Tg) (t:BW) (e:EW):EW:=fun L Q=>it L fun xs L1=>L1.length=n∧xs.length≤big∧a3z n m tg t e xs [] L1 fun ys L2=>Q (.lst ys) L2
inductive FFl where | next | ret (v:FV) | brk | cont
abbrev SW:=a0c→(FFl→a0c→Prop)→Prop
noncomputable def aft (k:a0c→Prop) (Q:FFl→a0c→Prop):FFl→a0c→Prop
 | .next,L=>k L
 | .ret v,L=>Q (.ret v) L
 | .brk,L=>Q .brk L
 | .cont,L=>Q .cont L
noncomputable def a6u:SW:=fun L Q=>Q .next L
noncomputable def a0t (s r:SW):SW:=fun L Q=>s L (aft (fun L1=>r L1 Q) Q)
noncomputable def a1n (e:EW) (tg:Tg):SW:=fun L Q=>e L fun x L1=>gW tg x L1 fun L2=>Q .next L2
noncomputable def d5s (v j x:FV):Option FV:=(a6x v).bind fun xs=>(a2n j).bind fun n=>(ixN xs.length n).map fun p=>.lst (xs.set p x)
noncomputable def d3e (k:Nat) (i e:EW):SW:=fun L Q=>wp (lk L k) fun _=>e L fun x L1=>i L1 fun j L2=>wp (lk L2 k) fun y=>wp (d5s y j x) fun z=>Q .next (L2.set k (some z))
noncomputable def sAug (f:FV→FV→Option FV) (i:Nat) (e:EW):SW:=fun L Q=>wp (lk L i) fun a=>e L fun x L1=>wp (f a x) fun z=>Q .next (L1.set i (some z))
noncomputable def a1y (e:EW):SW:=fun L Q=>e L fun x L1=>Q (.ret x) L1
noncomputable def sRetN:SW:=fun L Q=>Q (.ret .non) L
noncomputable def b5n (e:EW):SW:=fun L Q=>e L fun _ L1=>Q .next L1
noncomputable def sIf (c:BW) (a b:SW):SW:=fun L Q=>c L fun r L1=>if r=true then a L1 Q else b L1 Q
noncomputable def sBrk:SW:=fun L Q=>Q .brk L
noncomputable def sCont:SW:=fun L Q=>Q .cont L
noncomputable def b0v (k:a0c→Prop) (Q:FFl→a0c→Prop):FFl→a0c→Prop
 | .next,L=>k L
 | .cont,L=>k L
 | .brk,L=>Q .next L
 | .ret v,L=>Q (.ret v) L
noncomputable def c3y (tg:Tg) (b:SW):List FV→a0c→(FFl→a0c→Prop)→Prop
 | [],L,Q=>Q .next L
 | x :: xs,L,Q=>gW tg x L fun L1=>b L1 (b0v (fun L2=>c3y tg b xs L2 Q) Q)
noncomputable def c0d (it:AW) (tg:Tg) (b:SW):SW:=fun L Q=>it L fun xs L1=>c3y tg b xs L1 Q
noncomputable def c8g (c:BW) (b:SW):Nat→a0c→(FFl→a0c→Prop)→Prop
 | 0,_,_=>False
 | n + 1,L,Q=>c L fun r L1=>if r=true then b L1 (b0v (fun L2=>c8g c b n L2 Q) Q) else Q .next L1
noncomputable def d3c (c:BW) (b:SW):SW:=fun L Q=>∃ n,c8g c b n L Q
structure FD where
 np:Nat
 ns:Nat
 body:CW→SW
 io:Bool
 fr:Bool
noncomputable def b8p (io fr:Bool) (Q:FV×FV→Prop):FFl→a0c→Prop
 | .ret v,L=>match io with
  | true=>wp (lk L 0) fun x=>Q (v,x)
  | false=>Q (v,.non)
 | .next,L=>match fr with
  | true=>False
  | false=>match io with
   | true=>wp (lk L 0) fun x=>Q (.non,x)
   | false=>Q (.non,.non)
 | _,_=>False
noncomputable def callW (tb:List FD):Nat→CW
 | 0,_,_,_=>False
 | d + 1,f,args,Q=>match tb[f]? with
  | none=>False
  | some fd=>args.length=fd.np∧fd.body (callW tb d) (args.map some++Γj (fd.ns - fd.np) none) (b8p fd.io fd.fr Q)
end Kq
end
section
namespace Kq
open PySem PySem.Spec PyProof.Rows L2
theorem a9t {x y:String} (h:Γe x=Γe y):x=y:=by
 rw [Str.ofString_eq_toList,Str.ofString_eq_toList] at h
 have h2:x.toList.map Char.toNat=y.toList.map Char.toNat:=by
  injection h with h
  simpa using congrArg Array.toList h
 have inj:∀ (a b:List Char),a.map Char.toNat=b.map Char.toNat→a=b:=by
  intro a
  induction a with
  | nil=>intro b hb; cases b <;> simp_all
  | cons c a ih =>
   intro b hb
   cases b with
   | nil=>simp at hb
   | cons d b =>
    simp only [List.map_cons,List.cons.injEq] at hb
    rw [ih b hb.2,Char.toNat_inj.mp hb.1]
 exact String.toList_inj.mp (inj _ _ h2)
theorem c9b (a b:String):(Γe a == Γe b)=(a == b):=by
 rw [Bool.eq_iff_iff]
 simp only [beq_iff_eq]
 exact ⟨a9t,fun h=>by rw [h]⟩
theorem a2y (x:String):PyData.strOk (Γe x)=true:=by
 rw [Str.ofString_eq_toList]
 unfold PyData.strOk
 simp only [List.all_toArray,List.all_map,List.all_eq_true,Function.comp_apply,decide_eq_true_eq]
 intro c _
 have h:c.val.toNat < 0xd800 ∨ (0xdfff < c.val.toNat∧c.val.toNat < 0x110000):=c.valid
 show c.val.toNat < 1114112
 lia
mutual
theorem a6n:∀ d:D,(dPy d).canLay0=true
 | .non=>rfl
 | .bl _=>rfl
 | .int _=>rfl
 | .str x=>by simp only [dPy,PyData.canLay0]; exact a2y x
 | .tup xs=>by simp only [dPy,PyData.canLay0]; exact a6m xs
 | .lst xs=>by simp only [dPy,PyData.canLay0]; exact a6m xs
theorem a6m:∀ xs:List D,PyData.canLayAll0 (a3p xs)=true
 | []=>rfl
 | x :: xs=>by simp only [a3p,PyData.canLayAll0,a6n x,a6m xs,Bool.and_self]
end
mutual
theorem b9k:∀ a b:D,PyData.eqv (dPy a) (dPy b)=D.eqv a b
 | .non,b=>by cases b <;> simp only [dPy,PyData.eqv,D.eqv]
 | .bl _,b=>by cases b <;> simp only [dPy,PyData.eqv,D.eqv]
 | .int _,b=>by cases b <;> simp only [dPy,PyData.eqv,D.eqv]
 | .str x,b=>by cases b <;> simp only [dPy,PyData.eqv,D.eqv,c9b]
 | .tup xs,b=>by cases b <;> simp only [dPy,PyData.eqv,D.eqv,b9j]
 | .lst xs,b=>by cases b <;> simp only [dPy,PyData.eqv,D.eqv,b9j]
theorem b9j:∀ a b:List D,PyData.eqvAll (a3p a) (a3p b)=D.eqvs a b
 | [],b=>by cases b <;> simp only [a3p,PyData.eqvAll,D.eqvs]
 | x :: xs,b=>by cases b <;> simp only [a3p,PyData.eqvAll,D.eqvs,b9k,b9j]
end
theorem b9l (x:D):∀ xs:List D,((a3p xs).any fun y=>PyData.eqv y (dPy x))=xs.any fun y=>D.eqv y x
 | []=>rfl
 | y :: r=>by simp only [a3p,List.any_cons,b9k,b9l x r]
mutual
theorem c2r:∀ d:D,(dPy d).hasDict=false
 | .non=>rfl
 | .bl _=>rfl
 | .int _=>rfl
 | .str x=>rfl
 | .tup xs=>by simp only [dPy,PyData.hasDict]; exact a6l xs
 | .lst xs=>by simp only [dPy,PyData.hasDict]; exact a6l xs
theorem a6l:∀ xs:List D,PyData.hasDictAll (a3p xs)=false
 | []=>rfl
 | x :: xs=>by simp only [a3p,PyData.hasDictAll,c2r x,a6l xs,Bool.or_self]
end
theorem log2_lt {i:Int} {k:Nat} (hk:0 < k) (h:-(2 ^ k:Int) < i∧i < 2 ^ k):i.natAbs.log2 < k:=by
 by_cases h0:i.natAbs=0
 ·rw [h0]; simpa using hk
 ·rw [Nat.log2_lt h0]
  have e:((2 ^ k:Nat):Int)=(2:Int) ^ k:=by rw [Int.natCast_pow]; rfl
  lia
mutual
theorem e0s:∀ d:D,d.fit=true→(dPy d).showable=true∧(dPy d).intsShort 160=true∧(dPy d).weight≤d.wt
 | .non,_=>⟨rfl,rfl,Γi _⟩
 | .bl _,_=>⟨rfl,rfl,Γi _⟩
 | .int i,h=>by
  have h:-(2 ^ 150:Int) < i∧i < 2 ^ 150:=by simpa [D.fit] using h
  have l1:=log2_lt (k:=150) (by decide) h
  refine ⟨?_,?_,?_⟩
  ·simp only [dPy,PyData.showable,decide_eq_true_eq]; lia
  ·simp only [dPy,PyData.intsShort,decide_eq_true_eq]
   have e:=int_text_length_le (k:=150) (by decide) l1
   show (Γe (toString i)).length≤160
   rw [PySem.ofString_length]; lia
  ·simp only [dPy,PyData.weight,D.wt]
   split
   ·lia
   ·split
    ·rename_i hs
     have l2:=log2_lt (k:=40) (by decide) hs
     lia
    ·lia
 | .str x,_=>by
  refine ⟨rfl,rfl,?_⟩
  simp only [dPy,PyData.weight,D.wt]
  have:(Γe x).length=x.length:=PySem.ofString_length x
  exact Nat.le_of_eq this
 | .tup xs,h=>by
  obtain ⟨h1,h2,h3⟩:=b9i xs (by simpa only [D.fit] using h)
  exact ⟨by simpa only [dPy,PyData.showable] using h1,by simpa only [dPy,PyData.intsShort] using h2,by simpa only [dPy,PyData.weight,D.wt] using h3⟩
 | .lst xs,h=>by
  obtain ⟨h1,h2,h3⟩:=b9i xs (by simpa only [D.fit] using h)
  exact ⟨by simpa only [dPy,PyData.showable] using h1,by simpa only [dPy,PyData.intsShort] using h2,by simpa only [dPy,PyData.weight,D.wt] using h3⟩
theorem b9i:∀ xs:List D,D.fits xs=true→PyData.showableAll (a3p xs)=true∧PyData.intsShortAll 160 (a3p xs)=true∧PyData.weightAll (a3p xs)≤D.wts xs
 | [],_=>⟨rfl,rfl,Γi _⟩
 | x :: xs,h=>by
  have h:x.fit=true∧D.fits xs=true:=by simpa only [D.fits,Bool.and_eq_true] using h
  obtain ⟨a1,a2,a3⟩:=e0s x h.1
  obtain ⟨b1,b2,b3⟩:=b9i xs h.2
  refine ⟨?_,?_,?_⟩
  ·simp only [a3p,PyData.showableAll,a1,b1,Bool.and_self]
  ·simp only [a3p,PyData.intsShortAll,a2,b2,Bool.and_self]
  ·simp only [a3p,PyData.weightAll,D.wts]; lia
end
theorem a8t {α β:Type} {f:α→Option β}:∀ {xs:List α} {ys:List β},a3v f xs=some ys→ys.length=xs.length
 | [],ys,h=>by cases h; rfl
 | x :: xs,ys,h=>by
  simp only [a3v] at h
  cases e1:f x with
  | none=>rw [e1] at h; cases h
  | some y =>
   rw [e1] at h
   cases e2:a3v f xs with
   | none=>simp only [Option.bind_some,e2] at h; cases h
   | some zs=>simp only [Option.bind_some,e2,Option.map_some] at h; cases h; rw [List.length_cons,List.length_cons,a8t e2]
theorem bnd {α β:Type} {o:Option α} {f:α→Option β} {z:β} (h:o.bind f=some z):∃ a,o=some a∧f a=some z:=Option.bind_eq_some_iff.mp h
theorem mpd {α β:Type} {o:Option α} {f:α→β} {z:β} (h:o.map f=some z):∃ a,o=some a∧f a=z:=Option.map_eq_some_iff.mp h
theorem itd {α:Type} {c:Prop} [Decidable c] {a b:α} (h:(if c then some a else none)=some b):c∧a=b:=by
 by_cases z:c
 ·rw [if_pos z] at h; exact ⟨z,Option.some.inj h⟩
 ·rw [if_neg z] at h; cases h
theorem a5l:∀ {n:Nat} {p:FV} {d:D},fD n p=some d→(dPy d).depth≤n
 | 0,p,d,h=>by cases h
 | n + 1,p,d,h=>by
  have ds:∀ {ps:List FV} {ds:List D},a3v (fD n) ps=some ds→PyData.depthAll (a3p ds)≤n:=by
   intro ps
   induction ps with
   | nil=>intro ds h; cases h; simp [a3p,PyData.depthAll]
   | cons q ps ih =>
    intro ds h
    obtain ⟨y,e1,h⟩:=bnd h
    obtain ⟨zs,e2,rfl⟩:=mpd h
    simp only [a3p,PyData.depthAll]
    exact Nat.max_le.mpr ⟨a5l e1,ih e2⟩
  cases p with
  | tup ps=>obtain ⟨zs,e,rfl⟩:=mpd (show (a3v (fD n) ps).map D.tup=some d from h); simp only [dPy,PyData.depth]; have:=ds e; lia
  | lst ps=>obtain ⟨zs,e,rfl⟩:=mpd (show (a3v (fD n) ps).map D.lst=some d from h); simp only [dPy,PyData.depth]; have:=ds e; lia
  | non=>cases h; simp [dPy,PyData.depth]
  | bl _=>cases h; simp [dPy,PyData.depth]
  | int _=>cases h; simp [dPy,PyData.depth]
  | str _=>cases h; simp [dPy,PyData.depth]
  | scr _=>cases h
  | shn _=>cases h
  | dct _ _=>cases h
  | dci _ _=>cases h
  | dcz _ _ _=>cases h
  | obj _ _ _ _=>cases h
  | dcn _ _ _=>cases h
section
variable {X:Cx} {pins:List (Addr×Obj)} {σ:L2.St} {S H:Hp} {s:Shared}
noncomputable def e1y (X:Cx) (S:Hp) (s:Shared) (n:Nat):Prop:=∀ (p:FV) (v:V) (u:Value) (d:D),RV X.K S p v→RelV v u→fD n p=some d→∃ as,Reads s.heap u (dPy d) as
theorem a5q {n:Nat} (R:e1y X S s n):∀ {ps:List FV} {vs:List V} {us:List Value} {ds:List D},RVs X.K S ps vs→Vals vs us→a3v (fD n) ps=some ds→∃ as,ReadsAll s.heap us (a3p ds) as
 | [],vs,us,ds,r,q,h=>by
  cases (show vs=[] from r)
  cases q
  cases h
  exact ⟨[],.nil⟩
 | p :: ps,vs,us,ds,r,rq,h=>by
  obtain ⟨v1,vr,rfl,r1,r2⟩:=r
  cases rq with
  | cons q1 q2 =>
   obtain ⟨y,e1,h⟩:=bnd h
   obtain ⟨zs,e2,rfl⟩:=mpd h
   obtain ⟨as,ra⟩:=R _ _ _ _ r1 q1 e1
   obtain ⟨bs,rb⟩:=a5q R r2 q2 e2
   exact ⟨as++bs,.cons ra rb⟩
theorem a9p {n:Nat} (I:Inv X pins σ H s) (R:e1y X S s n) {a:Addr} {xs:List V} {ps:List FV} {d:D} (h1:H a=some (.lst xs)) (h2:RVs X.K S ps xs) (h:(a3v (fD n) ps).map D.lst=some d):∃ as,Reads s.heap (.ref a) (dPy d) as:=by
 obtain ⟨zs,e,rfl⟩:=mpd h
 obtain ⟨its,rr,⟨o,k,e1,e2,e2',e3⟩,_⟩:=I.list (SqL.of h1)
 obtain ⟨as,ra⟩:=a5q R h2 rr e
 exact ⟨a :: as,.list e1 e2 e3 (by simpa using ra)⟩
theorem a8l (I:Inv X pins σ H s) (hs:Same S H):∀ n,e1y X S s n
 | 0,p,v,u,d,_,_,h=>by cases h
 | n + 1,p,v,u,d,rp,rv,h=>by
  have R:=a8l I hs n
  cases p with
  | tup ps =>
   obtain ⟨a,xs,rfl,h1,h2⟩:=rp
   cases (show u=Value.ref a from rv)
   obtain ⟨zs,e,rfl⟩:=mpd (show (a3v (fD n) ps).map D.tup=some d from h)
   obtain ⟨its,rr,⟨o,e1,e2,k,e3⟩,_⟩:=I.tuple (SqT.of (hs _ _ h1))
   obtain ⟨as,ra⟩:=a5q R h2 rr e
   exact ⟨as,.tuple e1 e2 e3 (by simpa using ra)⟩
  | lst ps =>
   obtain ⟨a,xs,rfl,h1,h2⟩:=rp
   cases (show u=Value.ref a from rv)
   exact a9p I R (hs _ _ h1) h2 h
  | non=>cases h; cases (show v=_ from rp); cases (show u=_ from rv); exact ⟨_,.none⟩
  | bl _=>cases h; cases (show v=_ from rp); cases (show u=_ from rv); exact ⟨_,.bool _⟩
  | int _=>cases h; cases (show v=_ from rp); obtain ⟨t,rfl⟩:=rv; exact ⟨_,.int _ _⟩
  | str _=>cases h; cases (show v=_ from rp); obtain ⟨t,rfl⟩:=rv; exact ⟨_,.str _ _⟩
  | scr _=>cases h
  | shn _=>cases h
  | dct _ _=>cases h
  | dci _ _=>cases h
  | dcz _ _ _=>cases h
  | obj _ _ _ _=>cases h
  | dcn _ _ _=>cases h
theorem a3f (I:Inv X pins σ H s) (hs:Same S H) {n:Nat} {p:FV} {v:V} {u:Value} {d:D} (rp:RH X.K S H p v) (rv:RelV v u) (h:fD n p=some d):∃ as,Reads s.heap u (dPy d) as:=by
 rcases rp with rp | ⟨a,rfl,_,ps,xs,e,h1,h2⟩
 ·exact a8l I hs n p v u d rp rv h
 ·cases (show u=Value.ref a from rv)
  cases n with
  | zero=>cases h
  | succ n =>
   cases p with
   | lst qs=>cases e; exact a9p I (a8l I hs n) h1 h2 h
   | dct _ _=>cases h
   | dci _ _=>cases h
   | dcz _ _ _=>cases h
   | obj _ _ _ _=>cases h
   | dcn _ _ _=>cases h
   | _=>cases e
end
theorem a1i:big≤sizeLine:=by decide
theorem a0v {v:FV} {i:Int} (h:a2n v=some i):v=.int i:=by cases v <;> cases h; rfl
theorem d2t {v:FV} {i:Bool} (h:blF v=some i):v=.bl i:=by cases v <;> cases h; rfl
theorem a1v {v:FV} {i:List FV} (h:a6s v=some i):v=.tup i:=by cases v <;> cases h; rfl
theorem a8v {v:FV} {i:List FV} (h:a6x v=some i):v=.lst i:=by cases v <;> cases h; rfl
structure NewOr (K:Γd) (S H:Hp) (Q:VK) (z:FV):Prop where
 old:∀ x,(∀ ps,z≠.lst ps)→RV K S z x→Q x H
 tup:∀ ps xs p,z=.tup ps→RVs K S ps xs→H p=none→Q (.ref p) (upd H p (.tup xs))
 lst:∀ ps xs p,z=.lst ps→RVs K S ps xs→H p=none→Q (.ref p) (upd H p (.lst xs))
section
variable {X:Cx} {K:Γd} {S H:Hp} {Q:VK}
theorem NewOr.bl {b:Bool} (k:NewOr K S H Q (.bl b)):Q (.bl b) H:=k.old _ (fun _ z=>nomatch z) rfl
theorem NewOr.int {b:Int} (k:NewOr K S H Q (.int b)):Q (.int b) H:=k.old _ (fun _ z=>nomatch z) rfl
theorem NewOr.str {b:String} (k:NewOr K S H Q (.str b)):Q (.str (Γe b)) H:=k.old _ (fun _ z=>nomatch z) rfl
theorem RH.int {i:Int} {x:V} (h:RH K S H (.int i) x):x=.int i:=h.val rfl
theorem RH.bl {i:Bool} {x:V} (h:RH K S H (.bl i) x):x=.bl i:=h.val rfl
noncomputable def Rq (K:Γd) (f:FV→FV→Option FV):R2:=fun x y H Q=>∃ S v w z,Same S H∧RH K S H v x∧RH K S H w y∧f v w=some z∧NewOr K S H Q z
theorem a6w {g:Value→Value→Sem Value} {f:Int→Int→Option FV} {r:R2} (o:OpR X g r) (h:∀ i j z H Q,f i j=some z→(∀ x,(∀ S,RV X.K S z x)→Q x H)→r (.int i) (.int j) H Q) (n:∀ i j z,f i j=some z→∀ ps,z≠.lst ps):OpR X g (Rq X.K (a2w f)):=by
 intro pins s σ H x y u1 u2 Q I rx ry ⟨S,v,w,z,hs,hv,hw,e,k⟩
 obtain ⟨i,e1,e⟩:=bnd e
 obtain ⟨j,e2,e⟩:=bnd e
 cases a0v e1; cases a0v e2
 obtain rfl:=hv.int
 obtain rfl:=hw.int
 exact o pins s σ H _ _ u1 u2 Q I rx ry (h i j z H Q e fun x hx=>k.old x (n i j z e) (hx S))
theorem d6i:OpR X (binaryOp .Sub) (Rq X.K b2a):=a6w d0h (fun i j z H Q e k=>⟨i,j,rfl,rfl,k _ fun S=>by cases e; rfl⟩) fun i j z e ps=>by cases e; exact fun z=>nomatch z
theorem c9j:OpR X (binaryOp .FloorDiv) (Rq X.K b8l):=a6w c5z (fun i j z H Q e k=>⟨i,j,rfl,rfl,(itd e).1,k _ fun S=>by cases (itd e).2; rfl⟩) fun i j z e ps=>by cases (itd e).2; exact fun z=>nomatch z
theorem d6l:OpR X (binaryOp .Mod) (Rq X.K c3o):=a6w d0l (fun i j z H Q e k=>⟨i,j,rfl,rfl,(itd e).1,k _ fun S=>by cases (itd e).2; rfl⟩) fun i j z e ps=>by cases (itd e).2; exact fun z=>nomatch z
theorem d6j:OpR X (binaryOp .Pow) (Rq X.K c9s):=a6w d0j (fun i j z H Q e k=>⟨i,j,rfl,rfl,by
 obtain ⟨h1,h2,h3⟩:=(itd e).1
 have:-(2 ^ 64) < i∧i < 2 ^ 64:=by simpa [a1z] using h3
 exact ⟨h1,by lia,by lia⟩,k _ fun S=>by cases (itd e).2; rfl⟩) fun i j z e ps=>by cases (itd e).2; exact fun z=>nomatch z
theorem q_gt:OpR X (compareOp .Gt) (Rq X.K gtB):=a6w d7f (fun i j z H Q e k=>⟨i,j,rfl,rfl,k _ fun S=>by cases e; rfl⟩) fun i j z e ps=>by cases e; exact fun z=>nomatch z
theorem q_ge:OpR X (compareOp .GtE) (Rq X.K geB):=a6w d7g (fun i j z H Q e k=>⟨i,j,rfl,rfl,k _ fun S=>by cases e; rfl⟩) fun i j z e ps=>by cases e; exact fun z=>nomatch z
theorem c9m:OpR X (binaryOp .Add) (Rq X.K (a2w fun i j=>some (.int (i + j)))):=a6w d0p (fun i j z H Q e k=>⟨i,j,rfl,rfl,k _ fun S=>by cases e; rfl⟩) fun i j z e ps=>by cases e; exact fun z=>nomatch z
theorem c9i:OpR X (binaryOp .Mult) (Rq X.K (a2w fun i j=>if (a1z i || a1z j)=true then some (.int (i * j)) else none)):=a6w d0k (fun i j z H Q e k=>⟨i,j,rfl,rfl,by
 have:=(itd e).1
 simp only [a1z,Bool.or_eq_true,decide_eq_true_eq] at this
 exact this,k _ fun S=>by cases (itd e).2; rfl⟩) fun i j z e ps=>by cases (itd e).2; exact fun z=>nomatch z
theorem d6m:OpR X (compareOp .Lt) (Rq X.K (a2w fun i j=>some (.bl (decide (i < j))))):=a6w d7d (fun i j z H Q e k=>⟨i,j,rfl,rfl,k _ fun S=>by cases e; rfl⟩) fun i j z e ps=>by cases e; exact fun z=>nomatch z
theorem d6n:OpR X (compareOp .LtE) (Rq X.K (a2w fun i j=>some (.bl (decide (i≤j))))):=a6w d7e (fun i j z H Q e k=>⟨i,j,rfl,rfl,k _ fun S=>by cases e; rfl⟩) fun i j z e ps=>by cases e; exact fun z=>nomatch z
theorem c9l {xs ys:List FV} {x y:V} {z:FV} {pins:List (Addr×Obj)} {σ:L2.St} {s:Shared} {u1 u2:Value} (I:Inv X pins σ H s) (rx:RelV x u1) (ry:RelV y u2) (hs:Same S H) (hv:RH X.K S H (.tup xs) x) (hw:RH X.K S H (.tup ys) y)
  (e:(if xs.length + ys.length≤big then some (FV.tup (xs++ys)) else none)=some z) (k:NewOr X.K S H Q z):wpAny (model X.prog X.w) X.A (binaryOp .Add u1 u2) (EP X pins σ Q) X.xe s:=by
 obtain ⟨hc,rfl⟩:=itd e
 have rv:=hv.val rfl
 have rw':=hw.val rfl
 obtain ⟨a,as,rfl,ha,ra⟩:=hv.tup hs
 obtain ⟨b,bs,rfl,hb,rb⟩:=hw.tup hs
 have l1:=ra.length
 have l2:=rb.length
 have hl:=a1i
 by_cases h0:as=[]
 ·subst h0
  have z2:xs=[]:=List.eq_nil_of_length_eq_zero (by simpa using l1)
  subst z2
  exact c1k pins s σ H _ _ u1 u2 Q I rx ry ⟨a,b,bs,rfl,rfl,SqT.of ha,SqT.of hb,k.old _ (fun _ z=>nomatch z) rw'⟩
 refine c6a pins s σ H _ _ u1 u2 Q I rx ry ⟨a,b,as,bs,rfl,rfl,SqT.of ha,SqT.of hb,h0,by lia,fun z=>?_,fun _ p hp=>k.tup _ _ p rfl (ra.append rb) hp⟩
 subst z
 have z2:ys=[]:=List.eq_nil_of_length_eq_zero (by simpa using l2)
 subst z2
 exact k.old _ (fun _ z=>nomatch z) (by rw [List.append_nil]; exact rv)
theorem d6q:OpR X (binaryOp .Add) (Rq X.K a3m):=by
 intro pins s σ H x y u1 u2 Q I rx ry ⟨S,v,w,z,hs,hv,hw,e,k⟩
 cases v with
 | tup xs =>
  obtain ⟨ys,e1,e⟩:=bnd e
  cases a1v e1
  exact c9l I rx ry hs hv hw e k
 | lst xs =>
  obtain ⟨ys,e1,e⟩:=bnd e
  cases a8v e1
  obtain ⟨hc,rfl⟩:=itd e
  obtain ⟨a,as,rfl,ha,ra⟩:=hv.lst hs
  obtain ⟨b,bs,rfl,hb,rb⟩:=hw.lst hs
  have l1:=ra.length
  have l2:=rb.length
  have hl:=a1i
  exact d0o pins s σ H _ _ u1 u2 Q I rx ry ⟨a,b,as,bs,rfl,rfl,ha,hb,by lia,fun p hp=>k.lst _ _ p rfl (ra.append rb) hp⟩
 | _=>exact c9m pins s σ H x y u1 u2 Q I rx ry ⟨S,_,w,z,hs,hv,hw,e,k⟩
theorem d6k:OpR X (binaryOp .Mult) (Rq X.K c0f):=by
 intro pins s σ H x y u1 u2 Q I rx ry ⟨S,v,w,z,hs,hv,hw,e,k⟩
 cases v with
 | lst xs =>
  obtain ⟨j,e1,e⟩:=bnd e
  cases a0v e1
  obtain ⟨hc,rfl⟩:=itd e
  obtain ⟨a,as,rfl,ha,ra⟩:=hv.lst hs
  obtain rfl:=hw.int
  have l1:=ra.length
  have hl:=a1i
  exact d0i pins s σ H _ _ u1 u2 Q I rx ry ⟨a,j,as,rfl,rfl,ha,hc.1,hc.2.1,by rw [← l1]; lia,fun p hp=>k.lst _ _ p rfl (ra.rep _) hp⟩
 | _=>exact c9i pins s σ H x y u1 u2 Q I rx ry ⟨S,_,w,z,hs,hv,hw,e,k⟩
theorem a1g:∀ {ps:List FV} {xs:List V} {ns:List Int},RVs K S ps xs→a1c ps=some ns→xs=ns.map V.int
 | [],xs,ns,r,e=>by cases (show xs=[] from r); cases e; rfl
 | p :: ps,xs,ns,r,e=>by
  obtain ⟨v,q,rfl,h1,h2⟩:=r
  cases p with
  | int i =>
   obtain ⟨ms,z,rfl⟩:=mpd (show (a1c ps).map (i :: ·)=some ns from e)
   rw [a1g h2 z,List.map_cons,show v=.int i from h1]
  | _=>cases e
theorem a4s:∀ {ps:List FV} {xs:List V} {ns:List Bool},RVs K S ps xs→a4n ps=some ns→xs=ns.map V.bl
 | [],xs,ns,r,e=>by cases (show xs=[] from r); cases e; rfl
 | p :: ps,xs,ns,r,e=>by
  obtain ⟨v,q,rfl,h1,h2⟩:=r
  cases p with
  | bl i =>
   obtain ⟨ms,z,rfl⟩:=mpd (show (a4n ps).map (i :: ·)=some ns from e)
   rw [a4s h2 z,List.map_cons,show v=.bl i from h1]
  | _=>cases e
theorem c3s:∀ a b:List Int,Kq.lexLt a b=HT.lexLt a b
 | [],[]=>by simp [Kq.lexLt,HT.lexLt]
 | [],_ :: _=>by simp [Kq.lexLt,HT.lexLt]
 | _ :: _,[]=>by simp [Kq.lexLt,HT.lexLt]
 | a :: r,b :: q=>by
  simp only [Kq.lexLt,HT.lexLt,c3s r q]
  try (by_cases h:a=b <;> simp [h])
theorem b2r:∀ a b:List Int,Kq.lexLe a b=HT.lexLe a b
 | [],[]=>by simp [Kq.lexLe,HT.lexLe]
 | [],_ :: _=>by simp [Kq.lexLe,HT.lexLe]
 | _ :: _,[]=>by simp [Kq.lexLe,HT.lexLe]
 | a :: r,b :: q=>by
  simp only [Kq.lexLe,HT.lexLe,b2r r q]
  try (by_cases h:a=b <;> simp [h])
theorem q_lt (hu:X.A.units + 64 < cLine):OpR X (compareOp .Lt) (Rq X.K ltB):=by
 intro pins s σ H x y u1 u2 Q I rx ry ⟨S,v,w,z,hs,hv,hw,e,k⟩
 cases v with
 | tup xs =>
  obtain ⟨ys,e1,e⟩:=bnd e
  cases a1v e1
  obtain ⟨ns,e2,e⟩:=bnd e
  obtain ⟨ms,e3,e⟩:=bnd e
  cases e
  obtain ⟨a,as,rfl,ha,ra⟩:=hv.tup hs
  obtain ⟨b,bs,rfl,hb,rb⟩:=hw.tup hs
  cases a1g ra e2; cases a1g rb e3
  exact d0m (by lia) pins s σ H _ _ u1 u2 Q I rx ry ⟨a,b,ns,ms,rfl,rfl,SqT.of ha,SqT.of hb,by rw [← c3s]; exact k.bl⟩
 | _=>exact d6m pins s σ H x y u1 u2 Q I rx ry ⟨S,_,w,z,hs,hv,hw,e,k⟩
theorem q_le (hu:X.A.units + 64 < cLine):OpR X (compareOp .LtE) (Rq X.K leB):=by
 intro pins s σ H x y u1 u2 Q I rx ry ⟨S,v,w,z,hs,hv,hw,e,k⟩
 cases v with
 | tup xs =>
  obtain ⟨ys,e1,e⟩:=bnd e
  cases a1v e1
  obtain ⟨ns,e2,e⟩:=bnd e
  obtain ⟨ms,e3,e⟩:=bnd e
  cases e
  obtain ⟨a,as,rfl,ha,ra⟩:=hv.tup hs
  obtain ⟨b,bs,rfl,hb,rb⟩:=hw.tup hs
  cases a1g ra e2; cases a1g rb e3
  exact d0n (by lia) pins s σ H _ _ u1 u2 Q I rx ry ⟨a,b,ns,ms,rfl,rfl,SqT.of ha,SqT.of hb,by rw [← b2r]; exact k.bl⟩
 | _=>exact d6n pins s σ H x y u1 u2 Q I rx ry ⟨S,_,w,z,hs,hv,hw,e,k⟩
theorem d1w {p q:FV} {b:Bool} (e:eqF p q=some b):(∃ d,p=.shn d∧q=.shn d∧b=true) ∨ ∃ x y,fD a0j p=some x∧fD a0j q=some y∧b=D.eqv x y:=by
 have gen:eqD p q=some b→∃ x y,fD a0j p=some x∧fD a0j q=some y∧b=D.eqv x y:=fun e=>by
  obtain ⟨x,e1,e⟩:=bnd e
  obtain ⟨y,e2,e⟩:=bnd e
  cases e
  exact ⟨x,y,e1,e2,rfl⟩
 unfold eqF at e
 split at e
 ·obtain ⟨rfl,rfl⟩:=@itd _ _ (Classical.propDecidable _) _ _ e
  exact .inl ⟨_,rfl,rfl,rfl⟩
 ·exact .inr (gen e)
theorem c9k (hu:X.A.units + 64 < cLine) (neg:Bool):OpR X (compareOp (if neg then .NotEq else .Eq)) (Rq X.K fun p q=>(eqF p q).map fun r=>.bl (neg != r)):=by
 intro pins s σ H x y v u Q I rx ry ⟨S,p,q,z,hs,rp,rq,e,k⟩
 obtain ⟨b,e',rfl⟩:=mpd (show (eqF p q).map (fun r=>FV.bl (neg != r))=some z from e)
 have fin:=k.bl
 rcases d1w e' with ⟨d,rfl,rfl,rfl⟩ | ⟨dx,dy,e1,e2,rfl⟩
 ·obtain rfl:x=.str (dPy d).shown:=rp.val rfl
  obtain rfl:y=.str (dPy d).shown:=rq.val rfl
  cases neg with
  | false=>exact d7h pins s σ H _ _ v u Q I rx ry ⟨rfl,by simpa using fin⟩
  | true=>exact d7c pins s σ H _ _ v u Q I rx ry ⟨rfl,by simpa using fin⟩
 ·obtain ⟨as,ra⟩:=a3f I hs rp rx e1
  obtain ⟨bs,rb⟩:=a3f I hs rq ry e2
  have hd:X.A.units + min (dPy dx).depth (dPy dy).depth < cLine:=by
   have h1:=a5l e1
   unfold a0j at h1
   lia
  cases neg with
  | false=>exact PySem.SeqAt.compareEq_reads ra rb (a6n dx) (a6n dy) hd ⟨.bl _,H,I,rfl,by rw [b9k]; simpa using fin⟩
  | true=>exact PySem.SeqAt.compareNe_reads ra rb (a6n dx) (a6n dy) hd ⟨.bl _,H,I,rfl,by rw [b9k]; simpa using fin⟩
theorem q_eq (hu:X.A.units + 64 < cLine):OpR X (compareOp .Eq) (Rq X.K eqB):=fun pins s σ H x y v u Q I rx ry ⟨S,p,q,z,hs,rp,rq,e,k⟩=>c9k hu false pins s σ H x y v u Q I rx ry ⟨S,p,q,z,hs,rp,rq,by
 obtain ⟨b,e1,rfl⟩:=mpd e
 show (eqF p q).map _=_
 rw [e1]; cases b <;> rfl,k⟩
theorem q_ne (hu:X.A.units + 64 < cLine):OpR X (compareOp .NotEq) (Rq X.K neB):=fun pins s σ H x y v u Q I rx ry ⟨S,p,q,z,hs,rp,rq,e,k⟩=>c9k hu true pins s σ H x y v u Q I rx ry ⟨S,p,q,z,hs,rp,rq,by
 obtain ⟨b,e1,rfl⟩:=mpd e
 show (eqF p q).map _=_
 rw [e1]; cases b <;> rfl,k⟩
theorem d6o (hu:X.A.units + 64 < cLine) (neg:Bool):OpR X (compareOp (if neg then .NotIn else .In)) (Rq X.K fun p q=>(inF p q).map fun r=>.bl (neg != r)):=by
 intro pins s σ H x y v u Q I rx ry ⟨S,p,q,z,hs,rp,rq,e,k⟩
 obtain ⟨b,e',rfl⟩:=mpd (show (inF p q).map (fun r=>FV.bl (neg != r))=some z from e)
 have fin:=k.bl
 obtain ⟨dx,e1,e'⟩:=bnd e'
 obtain ⟨dy,e2,e'⟩:=bnd e'
 obtain ⟨as,ra⟩:=a3f I hs rp rx e1
 obtain ⟨bs,rb⟩:=a3f I hs rq ry e2
 have hd:∀ ys,X.A.units + 1 + min (PyData.depthAll (a3p ys)) (dPy dx).depth < cLine:=fun ys=>by
  have h1:=a5l e1
  unfold a0j at h1
  lia
 cases dy with
 | lst ys =>
  cases e'
  simp only [dPy] at rb
  cases neg with
  | false=>exact PySem.SeqAt.in_list_reads rb ra (a6m ys) (a6n dx) (hd ys) ⟨.bl _,H,I,rfl,by rw [b9l]; simpa using fin⟩
  | true=>exact PySem.SeqAt.notIn_list_reads rb ra (a6m ys) (a6n dx) (hd ys) ⟨.bl _,H,I,rfl,by rw [b9l]; simpa using fin⟩
 | tup ys =>
  cases e'
  simp only [dPy] at rb
  cases neg with
  | false=>exact PySem.SeqAt.in_tuple_reads rb ra (a6m ys) (a6n dx) (hd ys) ⟨.bl _,H,I,rfl,by rw [b9l]; simpa using fin⟩
  | true=>exact PySem.SeqAt.notIn_tuple_reads rb ra (a6m ys) (a6n dx) (hd ys) ⟨.bl _,H,I,rfl,by rw [b9l]; simpa using fin⟩
 | _=>cases e'
theorem q_in (hu:X.A.units + 64 < cLine):OpR X (compareOp .In) (Rq X.K inB):=fun pins s σ H x y v u Q I rx ry ⟨S,p,q,z,hs,rp,rq,e,k⟩=>d6o hu false pins s σ H x y v u Q I rx ry ⟨S,p,q,z,hs,rp,rq,by
 obtain ⟨b,e1,rfl⟩:=mpd e
 show (inF p q).map _=_
 rw [e1]; cases b <;> rfl,k⟩
theorem c7z {ps:List FV} {xs:List V} {i:Int} {p:FV} (r:RVs K S ps xs) (e:atF ps i=some p):∃ v,L2.atI xs i=some v∧RV K S p v:=by
 obtain ⟨j,e1,e2⟩:=bnd e
 obtain ⟨v,h1,h2⟩:=r.get e2
 refine ⟨v,?_,h2⟩
 show (L2.ixN xs.length i).bind (fun j=>xs[j]?)=some v
 rw [← r.length,show L2.ixN ps.length i=some j from e1]
 exact h1
noncomputable def Ri (K:Γd):R2:=fun x y H Q=>∃ S v w z,Same S H∧RH K S H v x∧RH K S H w y∧ixF v w=some z∧∀ u,RV K S z u→Q u H
theorem q_ix:IxR X (Ri X.K):=by
 intro value slice pins s σ H x y v u Q I rx ry ⟨S,p,q,z,hs,rp,rq,e,k⟩ hsl
 obtain ⟨j,e1,e3⟩:=bnd e
 obtain ⟨ps,e2,e4⟩:=bnd e3
 cases a0v e1
 obtain rfl:=rq.int
 obtain ⟨a,xs,rfl,hq,r⟩:=rp.seq hs e2
 obtain ⟨w,h1,h2⟩:=c7z r e4
 cases hb:isL p with
 | true=>rw [hb] at hq; exact c6n value slice pins s σ H _ _ v u Q I rx ry ⟨a,xs,j,w,rfl,rfl,hq,h1,k w h2⟩ hsl
 | false=>rw [hb] at hq; exact d1c value slice pins s σ H _ _ v u Q I rx ry ⟨a,xs,j,w,rfl,rfl,hq,h1,k w h2⟩ hsl
theorem b2g (n d:Nat) (o:Option Int):Kq.sIx n d o=HT.sIx n d o:=by
 cases o with
 | none=>rfl
 | some v=>simp only [Kq.sIx,HT.sIx]; try (split <;> split <;> lia)
theorem b9n {ps:List FV} {xs:List V} {lo hi:Option Int} (r:RVs K S ps xs):RVs K S (a9g ps lo hi) (c4c xs lo hi):=by
 unfold a9g c4c
 rw [b2g,b2g,r.length]
 exact (r.drop _).take _
noncomputable def Rsl (K:Γd):V→Option Int→Option Int→Hp→VK→Prop:=fun x lo hi H Q=>∃ S v z,Same S H∧RH K S H v x∧a7l v lo hi=some z∧NewOr K S H Q z
theorem q_sl:SlR X (Rsl X.K):=by
 intro pins s σ H x v vl vu lo hi sl Q I rx hsl pl pu ⟨S,p,z,hs,rp,e,k⟩
 cases p with
 | tup ps =>
  cases e
  have rv:=rp.val rfl
  obtain ⟨a,xs,rfl,ha,ra⟩:=rp.tup hs
  by_cases hc:HT.sIx xs.length 0 lo=0∧HT.sIx xs.length xs.length hi=xs.length
  ·refine c0p pins s σ H _ v vl vu lo hi sl Q I rx hsl pl pu ⟨a,xs,rfl,SqT.of ha,hc.1,hc.2,k.old _ (fun _ z=>nomatch z) ?_⟩
   have e:a9g ps lo hi=ps:=by
    unfold a9g
    rw [b2g,b2g,ra.length,hc.1,hc.2,List.drop_zero,Nat.sub_zero,List.take_of_length_le (Nat.le_of_eq ra.length)]
   rw [e]; exact rv
  ·exact c9c pins s σ H _ v vl vu lo hi sl Q I rx hsl pl pu ⟨a,xs,rfl,SqT.of ha,hc,fun p hp=>k.tup _ _ p rfl (b9n ra) hp⟩
 | lst ps =>
  cases e
  obtain ⟨a,xs,rfl,ha,ra⟩:=rp.lst hs
  exact c4s pins s σ H _ v vl vu lo hi sl Q I rx hsl pl pu ⟨a,xs,rfl,SqL.of ha,fun p hp=>k.lst _ _ p rfl (b9n ra) hp⟩
 | _=>cases e
end
section
variable {X:Cx} {K:Γd} {S H:Hp} {Q:VK}
noncomputable def Rc (K:Γd) (f:FV→Option FV):List V→Hp→VK→Prop:=fun xs H Q=>∃ S v x z,xs=[x]∧Same S H∧RH K S H v x∧f v=some z∧NewOr K S H Q z
noncomputable def Rc2 (K:Γd) (f:FV→FV→Option FV):List V→Hp→VK→Prop:=fun xs H Q=>∃ S v w x y z,xs=[x,y]∧Same S H∧RH K S H v x∧RH K S H w y∧f v w=some z∧NewOr K S H Q z
theorem d5r {b:Bool} {a:Addr} {xs:List V} (h:SqB b K H a xs):SqL K H a xs ∨ SqT K H a xs:=by cases b; exact .inr h; exact .inl h
theorem d2s:a1k X (.builtin "len") (Rc X.K a6a):=by
 rintro pins s σ H xs us Q I r ⟨S,v,x,z,rfl,hs,rv,e,k⟩
 obtain ⟨ps,e1,rfl⟩:=mpd e
 obtain ⟨a,ys,rfl,hq,ry⟩:=rv.seq hs e1
 refine b0l pins s σ H _ us Q I r ⟨a,ys,rfl,d5r hq,?_⟩
 rw [← ry.length]
 exact k.int
theorem e0y:a1k X (.builtin "abs") (Rc X.K d2w):=by
 rintro pins s σ H xs us Q I r ⟨S,v,x,z,rfl,hs,rv,e,k⟩
 obtain ⟨i,e1,rfl⟩:=mpd e
 cases a0v e1
 obtain rfl:=rv.int
 exact c2u pins s σ H _ us Q I r ⟨i,rfl,k.int⟩
theorem e0v:a1k X (.type "int") (Rc X.K b1z):=by
 rintro pins s σ H xs us Q I r ⟨S,v,x,z,rfl,hs,rv,e,k⟩
 cases v with
 | int i =>
  cases e
  obtain rfl:=rv.int
  exact b0m pins s σ H _ us Q I r (.inl ⟨i,rfl,k.int⟩)
 | bl b =>
  cases e
  obtain rfl:=rv.bl
  exact b0m pins s σ H _ us Q I r (.inr ⟨b,rfl,k.int⟩)
 | _=>cases e
theorem b9v:a1k X (.type "tuple") (Rc X.K a2g):=by
 rintro pins s σ H xs us Q I r ⟨S,v,x,z,rfl,hs,rv,e,k⟩
 obtain ⟨ps,e1,rfl⟩:=mpd e
 obtain ⟨a,ys,rfl,hq,ry⟩:=rv.seq hs e1
 cases v with
 | tup qs=>cases e1; exact a2u pins s σ H _ us Q I r ⟨a,ys,rfl,.inr ⟨hq,k.old _ (fun _ z=>nomatch z) (rv.val rfl)⟩⟩
 | lst qs=>exact a2u pins s σ H _ us Q I r ⟨a,ys,rfl,.inl ⟨hq,fun l hl=>k.tup _ _ l rfl ry hl⟩⟩
 | scr qs=>exact a2u pins s σ H _ us Q I r ⟨a,ys,rfl,.inl ⟨hq,fun l hl=>k.tup _ _ l rfl ry hl⟩⟩
 | _=>cases e1
theorem d2r (hc:X.calm=true):a1k X (.builtin "min") (Rc2 X.K b7d):=by
 rintro pins s σ H xs us Q I r ⟨S,v,w,x,y,z,rfl,hs,rv,rw',e,k⟩
 obtain ⟨i,e1,e2⟩:=bnd e
 obtain ⟨j,e3,e4⟩:=bnd e2
 cases a0v e1; cases a0v e3; cases e4
 obtain rfl:=rv.int
 obtain rfl:=rw'.int
 exact b9u hc pins s σ H _ us Q I r ⟨i,j,rfl,k.int⟩
theorem Vals.mapInt {ns:List Int}:∀ {us:List Value},Vals (ns.map V.int) us→∀ i:Nat,i < ns.length→∃ t,us[i]?=some (.int (ns.getD i 0) t):=fun {us} r i hi=>by
 obtain ⟨u,e,t,rfl⟩:=r.get (i:=i) (x:=.int (ns.getD i 0)) (by simp [hi])
 exact ⟨t,e⟩
theorem a1p (ns:List Int):∀ j,j≤ns.length→preSum (fun i=>ns.getD i 0) j=(ns.take j).sum
 | 0,_=>by simp [preSum]
 | j + 1,h=>by
  have hj:j < ns.length:=h
  show preSum _ j + ns.getD j 0=_
  rw [a1p ns j (by lia),List.take_succ_eq_append_getElem hj,List.sum_append]
  simp [List.getD,hj]
theorem b5k (B:Int) (hB:0≤B):∀ ns:List Int,(∀ n∈ns,-B≤n∧n≤B)→-(B * ns.length)≤ns.sum∧ns.sum≤B * ns.length
 | [],_=>by simp
 | n :: r,h=>by
  have ih:=b5k B hB r fun m hm=>h m (Γh _ hm)
  have hn:=h n Γn
  rw [List.sum_cons,List.length_cons]
  have e:B * ((r.length + 1:Nat):Int)=B * (r.length:Int) + B:=by rw [Int.natCast_add,Int.mul_add]; simp
  rw [e]
  lia
theorem b4o (hc:X.calm=true):a1k X (.builtin "sum") (fun xs H Q=>∃ (a:Addr) (ns:List Int),xs=[.ref a]∧SqL X.K H a (ns.map V.int)∧ns.length≤big∧(∀ n∈ns,-(2 ^ 40)≤n∧n≤2 ^ 40)∧Q (.int ns.sum) H):=by
 intro pins s σ H xs us Q I r h
 obtain ⟨a,ns,rfl,hq,hz,hb,q⟩:=h
 obtain ⟨u,rfl,rx⟩:=a4c r
 cases rx
 obtain ⟨its,r',pl,hz'⟩:=I.list hq
 have hlen:ns.length=its.length:=by have:=r'.length; simpa using this
 have alt:a < s.heap.objs.size:=by obtain ⟨_,e,_⟩:=pl.isList; exact Γl e
 have hh:X.A.in1.handled=none:=I.ok.hd hc
 refine call_sum_walk (wpAny_pyIter_list pl.isList ?_)
 refine ⟨s.heap.objs.size,_,_,_,_,_,fun i=>ns.getD i 0,rfl,Walks.list hh s.heap.objs.size a (Γo alt) its.toArray,⟨⟨_,Γm _ rfl,rfl,rfl⟩,pl.isList.at fun o e=>Γc _ e⟩,?_,?_,?_,?_⟩
 ·intro b hb'
  simp at hb'
  rcases hb' with rfl | rfl
  ·show _ < (s.heap.push _).objs.size; rw [Heap.size_push]; exact Nat.lt_succ_self _
  ·show _ < (s.heap.push _).objs.size; rw [Heap.size_push]; exact Nat.lt_succ_of_lt alt
 ·intro i v hv
  have hv:its.toArray[i]?=some v:=hv
  have hi:i < ns.length:=by rw [hlen]; simpa using (Array.getElem?_eq_some_iff.mp hv).1
  obtain ⟨t,e⟩:=Vals.mapInt r' i hi
  refine ⟨t,?_⟩
  have e':its.toArray[i]?=some (.int (ns.getD i 0) t):=by simpa using e
  rw [hv] at e'
  exact Option.some.inj e'
 ·intro j hj
  have hj':j < ns.length:=by rw [hlen]; simpa using hj
  have hm:ns.getD j 0∈ns:=by simp [List.getD,hj']
  refine ⟨?_,?_⟩
  ·have:=hb _ hm
   show -(2 ^ 63)≤ns.getD j 0∧ns.getD j 0 < 2 ^ 63
   lia
  ·rw [a1p ns (j + 1) hj']
   have b2:=b5k 1099511627776 (by decide) (ns.take (j + 1)) fun n hn=>by have:=hb n (List.mem_of_mem_take hn); lia
   have l2:(ns.take (j + 1)).length≤100000:=by rw [List.length_take]; unfold big at hz; lia
   unfold InLong; lia
 ·intro h' tk t' hk
  have e:preSum (fun i=>ns.getD i 0) its.toArray.size=ns.sum:=by
   rw [List.size_toArray,← hlen,a1p ns _ (Γi _),List.take_length]
  rw [e]
  refine ⟨.int ns.sum,H,?_,⟨t',rfl⟩,q⟩
  exact I.kept (t':=tk) fun b o e=>hk b o (by simp; exact Γo (Γl e)) (Γc _ e)
theorem b1y {prog:Program} {w:World} {A:Around} {its:List Value} {bs:List Bool} (r:Vals (bs.map V.bl) its):TruthOf prog w A (fun i v=>its.toArray[i]?=some v) (fun i=>bs.getD i false):=by
 intro i v s Q E hv hq
 have hlen:bs.length=its.length:=by have:=r.length; simpa using this
 have hi:i < bs.length:=by rw [hlen]; simpa using (Array.getElem?_eq_some_iff.mp hv).1
 obtain ⟨u,e,ru⟩:=r.get (i:=i) (x:=.bl (bs.getD i false)) (by simp [hi])
 have e':its.toArray[i]?=some u:=by simpa using e
 rw [hv] at e'
 cases e'
 cases ru
 exact Γb hq
theorem b5v (bs:List Bool):(List.range bs.length).all (fun i=>bs.getD i false)=bs.all id:=by
 rw [Bool.eq_iff_iff]
 simp only [List.all_eq_true,List.mem_range,id]
 constructor
 ·intro h b hb
  obtain ⟨i,hi,e⟩:=List.mem_iff_getElem.mp hb
  have:=h i hi
  simpa [List.getD,hi,e] using this
 ·intro h i hi
  have:=h bs[i] (List.getElem_mem hi)
  simpa [List.getD,hi] using this
theorem b5u (bs:List Bool):(List.range bs.length).any (fun i=>bs.getD i false)=bs.any id:=by
 rw [Bool.eq_iff_iff]
 simp only [List.any_eq_true,List.mem_range,id]
 constructor
 ·rintro ⟨i,hi,e⟩
  exact ⟨bs[i],List.getElem_mem hi,by simpa [List.getD,hi] using e⟩
 ·rintro ⟨b,hb,e⟩
  obtain ⟨i,hi,e'⟩:=List.mem_iff_getElem.mp hb
  exact ⟨i,hi,by simpa [List.getD,hi,e'] using e⟩
theorem b4r (hc:X.calm=true):a1k X (.builtin "all") (fun xs H Q=>∃ (a:Addr) (bs:List Bool),xs=[.ref a]∧SqL X.K H a (bs.map V.bl)∧Q (.bl (bs.all id)) H):=by
 intro pins s σ H xs us Q I r h
 obtain ⟨a,bs,rfl,hq,q⟩:=h
 obtain ⟨u,rfl,rx⟩:=a4c r
 cases rx
 obtain ⟨its,r',pl,hz'⟩:=I.list hq
 have hlen:bs.length=its.length:=by have:=r'.length; simpa using this
 have alt:a < s.heap.objs.size:=by obtain ⟨_,e,_⟩:=pl.isList; exact Γl e
 have hh:X.A.in1.handled=none:=I.ok.hd hc
 refine call_all_walk (wpAny_pyIter_list pl.isList ?_)
 refine ⟨s.heap.objs.size,_,_,_,_,_,fun i=>bs.getD i false,rfl,Walks.list hh s.heap.objs.size a (Γo alt) its.toArray,⟨⟨_,Γm _ rfl,rfl,rfl⟩,pl.isList.at fun o e=>Γc _ e⟩,b1y r',?_⟩
 intro h' tk hk
 rw [List.size_toArray,← hlen,b5v]
 exact ⟨.bl _,H,I.kept (t':=tk) fun b o e=>hk b o (by simp; exact Γo (Γl e)) (Γc _ e),rfl,q⟩
theorem b4q (hc:X.calm=true):a1k X (.builtin "any") (fun xs H Q=>∃ (a:Addr) (bs:List Bool),xs=[.ref a]∧SqL X.K H a (bs.map V.bl)∧Q (.bl (bs.any id)) H):=by
 intro pins s σ H xs us Q I r h
 obtain ⟨a,bs,rfl,hq,q⟩:=h
 obtain ⟨u,rfl,rx⟩:=a4c r
 cases rx
 obtain ⟨its,r',pl,hz'⟩:=I.list hq
 have hlen:bs.length=its.length:=by have:=r'.length; simpa using this
 have alt:a < s.heap.objs.size:=by obtain ⟨_,e,_⟩:=pl.isList; exact Γl e
 have hh:X.A.in1.handled=none:=I.ok.hd hc
 refine call_any_walk (wpAny_pyIter_list pl.isList ?_)
 refine ⟨s.heap.objs.size,_,_,_,_,_,fun i=>bs.getD i false,rfl,Walks.list hh s.heap.objs.size a (Γo alt) its.toArray,⟨⟨_,Γm _ rfl,rfl,rfl⟩,pl.isList.at fun o e=>Γc _ e⟩,b1y r',?_⟩
 intro h' tk hk
 rw [List.size_toArray,← hlen,b5u]
 exact ⟨.bl _,H,I.kept (t':=tk) fun b o e=>hk b o (by simp; exact Γo (Γl e)) (Γc _ e),rfl,q⟩
theorem d2o (hc:X.calm=true):a1k X (.builtin "sum") (Rc X.K sumF):=by
 rintro pins s σ H xs us Q I r ⟨S,v,x,z,rfl,hs,rv,e,k⟩
 obtain ⟨ps,e1,e2⟩:=bnd e
 obtain ⟨n,e3,rfl⟩:=mpd e2
 obtain ⟨ns,e4,e5⟩:=bnd e3
 obtain ⟨hb,rfl⟩:=itd e5
 obtain ⟨a,ys,rfl,hq,ry⟩:=rv.list hs e1
 cases a1g ry e4
 refine b4o hc pins s σ H _ us Q I r ⟨a,ns,rfl,hq,hb.1,fun n hn=>?_,k.int⟩
 have:=List.all_eq_true.mp hb.2 n hn
 simpa [a5o] using this
theorem e0x (hc:X.calm=true):a1k X (.builtin "all") (Rc X.K d4v):=by
 rintro pins s σ H xs us Q I r ⟨S,v,x,z,rfl,hs,rv,e,k⟩
 obtain ⟨ps,e1,e2⟩:=bnd e
 obtain ⟨bs,e3,rfl⟩:=mpd e2
 obtain ⟨a,ys,rfl,hq,ry⟩:=rv.list hs e1
 cases a4s ry e3
 exact b4r hc pins s σ H _ us Q I r ⟨a,bs,rfl,hq,k.bl⟩
theorem e0w (hc:X.calm=true):a1k X (.builtin "any") (Rc X.K d4u):=by
 rintro pins s σ H xs us Q I r ⟨S,v,x,z,rfl,hs,rv,e,k⟩
 obtain ⟨ps,e1,e2⟩:=bnd e
 obtain ⟨bs,e3,rfl⟩:=mpd e2
 obtain ⟨a,ys,rfl,hq,ry⟩:=rv.list hs e1
 cases a4s ry e3
 exact b4q hc pins s σ H _ us Q I r ⟨a,bs,rfl,hq,k.bl⟩
theorem a7p:∀ (xs:List Int) (b x:Int),a1j b (xs++[x])=if x < a1j b xs then x else a1j b xs
 | [],b,x=>rfl
 | y :: ys,b,x=>by
  show a1j (if y < b then y else b) (ys++[x])=_
  rw [a7p ys]; rfl
theorem b0c (n:Int) (r:List Int):∀ k,k≤r.length→(n :: r)[argBest (fun i j=>decide ((n :: r).getD i 0 < (n :: r).getD j 0)) k]?=some (a1j n (r.take k))
 | 0,_=>by simp [argBest,a1j]
 | k + 1,h=>by
  have ih:=b0c n r k (by lia)
  have hk:k < r.length:=h
  have e1:(n :: r).getD (argBest (fun i j=>decide ((n :: r).getD i 0 < (n :: r).getD j 0)) k) 0=a1j n (r.take k):=by rw [List.getD_eq_getElem?_getD,ih]; rfl
  have e2:(n :: r).getD (k + 1) 0=r[k]:=by simp [List.getD,hk]
  rw [List.take_succ_eq_append_getElem hk,a7p]
  simp only [argBest,e1,e2,decide_eq_true_eq]
  split
  ·simp [hk]
  ·exact ih
theorem d2p (hc:X.calm=true):a1k X (.builtin "min") (Rc X.K c1p):=by
 rintro pins s σ H xs us Q I r ⟨S,v,x,z,rfl,hs,rv,e,k⟩
 obtain ⟨ps,e1,e2⟩:=bnd e
 obtain ⟨ns,e3,e4⟩:=bnd e2
 obtain ⟨a,ys,rfl,hq,ry⟩:=rv.list hs e1
 obtain ⟨u,rfl,ru⟩:=a4c r
 cases (show u=Value.ref a from ru)
 obtain ⟨its,r',pl,hz'⟩:=I.list hq
 have hh:X.A.in1.handled=none:=I.ok.hd hc
 have hlen:ys.length=its.length:=r'.length
 cases a1g ry e3
 cases ns with
 | nil=>cases e4
 | cons n r =>
  cases e4
  have hl2:its.length=r.length + 1:=by rw [← hlen]; simp
  have it:∀ (i:Nat) (v:Value),its.toArray[i]?=some v→∃ t,v=Value.int ((n :: r).getD i 0) t:=fun i v hv=>by
   have hv:its[i]?=some v:=by simpa using hv
   have hi:=(List.getElem?_eq_some_iff.mp hv).1
   obtain ⟨t,e⟩:=Vals.mapInt r' i (by simp; lia)
   rw [hv] at e
   exact ⟨t,Option.some.inj e⟩
  refine a7z (bt:=fun i j=>decide ((n :: r).getD i 0 < (n :: r).getD j 0)) hh pl.isList (by simp; lia) (fun i j u v s1 Q1 E1 _ hi hj q1=>?_) fun v h' tk hv hk=>?_
  ·obtain ⟨t1,rfl⟩:=it i u hi
   obtain ⟨t2,rfl⟩:=it j v hj
   exact PyProof.Rows.lt_int q1
  ·have hv:its[argBest (fun i j=>decide ((n :: r).getD i 0 < (n :: r).getD j 0)) (its.toArray.size - 1)]?=some v:=by simpa using hv
   have hb:=b0c n r r.length (Γi _)
   rw [List.take_length] at hb
   have hsz:its.toArray.size - 1=r.length:=by simp; lia
   rw [hsz] at hv
   generalize argBest (fun i j=>decide ((n :: r).getD i 0 < (n :: r).getD j 0)) r.length=z at hv hb
   obtain ⟨t,rfl⟩:=it z v (by simpa using hv)
   rw [List.getD_eq_getElem?_getD,hb]
   exact ⟨.int (a1j n r),H,I.kept (t':=tk) hk,⟨t,rfl⟩,k.int⟩
end
structure CC where
 N:List Str
 sc:List (Str×NameKind)
 fns:List Str
 md:Md
 top:Bool
 oc:List (Str×NameKind)
 ms:List (Str×Addr×Str)
 fl:List (Addr×Str)
noncomputable def CC.vis (C:CC) (x:Str):Bool:=match C.sc.lookup x with
 | some .local=>true
 | some .cell=>true
 | some .free=>true
 | _=>false
noncomputable def CC.gl (C:CC) (x:Str):Bool:=decide (C.sc.lookup x=some .globalImplicit)
noncomputable def CC.loc (C:CC) (x:Str):Bool:=match C.sc.lookup x with
 | some .local=>true
 | some .cell=>C.top || C.oc.lookup x == some .cell
 | _=>false
noncomputable def CC.nm (C:CC) (i:Nat) (x:Str):Bool:=decide (C.N[i]?=some x) && C.vis x && !(x == ("__debug__":Str)) && !(x == ("__classdict__":Str))
noncomputable def bltNames:List String:=["len","abs","int","sum","all","any","min","max","tuple","list","isinstance","range","zip","bool","str","enumerate","reversed","sorted","dict","set"]
noncomputable def e1z (P:Program) (w:World) (K:Γd) (mg:Str→Option Value) (base:Heap) (n:Nat) (s:Sp) (c:Str) (Ca:Addr) (m:Str):Prop:=∃ fa fd ps,mg c=some (.ref Ca)∧Cls K Ca∧(m=("__init__":Str)→Mk K Ca fa)∧(m≠("__init__":Str)→Meth K Ca m fa)∧Binds K fd ps []∧FnOk P w K mg base CX0 n fa fd ps s
structure Good (X:Cx) (C:CC) (n:Nat) (sp:Γd→Nat→Sp):Prop where
 N:X.N=C.N
 sc:X.env.scope.names=C.sc
 kind:X.env.scope.kind=.function
 nd:C.N.Nodup
 calm:X.calm=true
 fn:∀ x,(C.top || C.oc.lookup x == some .cell)=true→X.fn x=true
 room:RoomS n X.A
 fns:∀ (f:Nat) (x:Str),C.fns[f]?=some x→∃ fa fd ps,X.mg x=some (.ref fa)∧PySem.W.keepIn X.K (.ref fa)=true∧Binds X.K fd ps []∧FnOk X.prog X.w X.K X.mg X.base CX0 n fa fd ps (sp X.K f)
 blt:∀ b∈bltNames,X.mg (Γe b)=none
 mts:∀ (k:Nat) (c:Str) (Ca:Addr) (m:Str),C.ms[k]?=some (c,Ca,m)→e1z X.prog X.w X.K X.mg X.base n (sp X.K (C.fns.length + k)) c Ca m
 fls:∀ p∈C.fl,Cls X.K p.1∧NoAttr X.K p.1 p.2
theorem b2 {a b:Bool} (h:(a && b)=true):a=true∧b=true:=by simpa using h
theorem nb {a:Bool} (h:(!a)=true):a=false:=by simpa using h
theorem de {p:Prop} [Decidable p] (h:decide p=true):p:=by simpa using h
noncomputable def lv (K:Γd) (md:Md) (e:EW):TE:=fun σ H Q=>∃ c L S Q0,Iv K c md L σ S H∧e L Q0∧∀ v L',Q0 v L'→∀ x S' H',RV K S' v x→Iv K c md L' σ S' H'→Same S S'→Q x H'
noncomputable def lr (K:Γd) (md:Md) (e:EW):TE:=fun σ H Q=>∃ c L S Q0,Iv K c md L σ S H∧e L Q0∧∀ v L',Q0 v L'→∀ x S' H',RH K S' H' v x→Iv K c md L' σ S' H'→Same S S'→Q x H'
noncomputable def a7j (c:Cn) (md:Md) (L:a0c) (σ:L2.St) (a:Addr):Prop:=c.H0 a=none∧(∀ p∈c.pr,p.1≠a)∧∀ j w,a0i md j≠.imm→L[j]?=some (some w)→σ[j]?≠some (some (.ref a))
noncomputable def lf (K:Γd) (md:Md) (e:EW):TE:=fun σ H Q=>∃ c L S Q0,Iv K c md L σ S H∧e L Q0∧∀ v L',Q0 v L'→∀ a S' H',a2x K S' H' a v→a7j c md L' σ a→Iv K c md L' σ S' H'→Same S S'→Q (.ref a) H'
noncomputable def lb (K:Γd) (md:Md) (e:BW):TT:=fun σ H Q=>∃ c L S Q0,Iv K c md L σ S H∧e L Q0∧∀ v L',Q0 v L'→∀ S' H',Iv K c md L' σ S' H'→Same S S'→Q v H'
noncomputable def la (K:Γd) (md:Md) (e:AW):TA:=fun σ H Q=>∃ c L S Q0,Iv K c md L σ S H∧e L Q0∧∀ v L',Q0 v L'→∀ x S' H',RVs K S' v x→Iv K c md L' σ S' H'→Same S S'→Q x H'
noncomputable def lo (K:Γd) (md:Md) (e:OW):TO:=fun σ H Q=>∃ c L S Q0,Iv K c md L σ S H∧e L Q0∧∀ v L',Q0 v L'→∀ S' H',Iv K c md L' σ S' H'→Same S S'→Q v H'
noncomputable def FE (X:Cx) (C:CC) (x:Expr) (e:EW):Prop:=PE X.nox x (lv X.K C.md e)
noncomputable def FR (X:Cx) (C:CC) (x:Expr) (e:EW):Prop:=PE X.nox x (lr X.K C.md e)
noncomputable def FF (X:Cx) (C:CC) (x:Expr) (e:EW):Prop:=PE X.nox x (lf X.K C.md e)
noncomputable def FB (X:Cx) (C:CC) (x:Expr) (e:BW):Prop:=PT X.nox x (lb X.K C.md e)
noncomputable def FW (X:Cx) (C:CC) (x:Expr) (e:BW):Prop:=PW X.nox x (lb X.K C.md e)
noncomputable def FA (X:Cx) (C:CC) (x:List Expr) (e:AW):Prop:=PA X.nox x (la X.K C.md e)
noncomputable def FO (X:Cx) (C:CC) (x:Option Expr) (e:OW):Prop:=L2.PO X.nox x (lo X.K C.md e)
section
variable {X:Cx}
theorem PE.imp {e:Expr} {t u:TE} (h:PE X e t) (f:∀ σ H Q,u σ H Q→t σ H Q):PE X e u:=fun pins s σ H Q I hu=>h pins s σ H Q I (f σ H Q hu)
theorem PT.imp {e:Expr} {t u:TT} (h:PT X e t) (f:∀ σ H Q,u σ H Q→t σ H Q):PT X e u:=fun pins s σ H Q I hu=>h pins s σ H Q I (f σ H Q hu)
theorem PW.imp {e:Expr} {t u:TT} (h:PW X e t) (f:∀ σ H Q,u σ H Q→t σ H Q):PW X e u:=fun w pins s σ H Q I hu=>h w pins s σ H Q I (f σ H Q hu)
theorem PA.imp {e:List Expr} {t u:TA} (h:PA X e t) (f:∀ σ H Q,u σ H Q→t σ H Q):PA X e u:=fun p pins s σ H Q I hu=>h p pins s σ H Q I (f σ H Q hu)
theorem PO.imp {e:Option Expr} {t u:TO} (h:L2.PO X e t) (f:∀ σ H Q,u σ H Q→t σ H Q):L2.PO X e u:=fun pins s σ H Q I hu=>h pins s σ H Q I (f σ H Q hu)
end
section
variable {X:Cx} {C:CC} {n:Nat} {sp:Γd→Nat→Sp}
theorem Good.vis (G:Good X C n sp) {x:Str} (h:C.vis x=true):Vis X.env.scope x:=by
 unfold CC.vis at h
 unfold Vis
 rw [G.sc]
 split at h
 ·rename_i e; exact .inl e
 ·rename_i e; exact .inr (.inl e)
 ·rename_i e; exact .inr (.inr e)
 ·cases h
theorem Good.gl (G:Good X C n sp) {x:Str} (h:C.gl x=true):Gl X x:=by
 show X.env.scope.names.lookup x=_
 rw [G.sc]; exact de h
theorem Good.loc (G:Good X C n sp) {x:Str} (h:C.loc x=true):L2.Loc X.env.scope x∧(X.fn x=true ∨ X.env.scope.names.lookup x=some .local):=by
 unfold CC.loc at h
 unfold L2.Loc
 rw [G.sc]
 split at h
 ·rename_i e; exact ⟨.inl e,.inr e⟩
 ·rename_i e; exact ⟨.inr e,.inl (G.fn x h)⟩
 ·cases h
variable {K:Γd} {c:Cn} {md:Md} {L:a0c} {σ:L2.St} {S H:Hp}
theorem Iv.rd (I:Iv K c md L σ S H) {i:Nat} {v:FV} (e:lk L i=some v):∃ x,σ[i]?=some (some x)∧RH K S H v x:=by
 rw [a4i] at e
 by_cases m:a0i md i=.imm
 ·obtain ⟨x,h1,h2⟩:=I.imm i v m e
  exact ⟨x,h1,.inl h2⟩
 ·obtain ⟨a,h1,h2,_⟩:=I.own i v m e
  exact ⟨_,h1,.inr ⟨a,rfl,h2⟩⟩
theorem b1c {Q:VK} {z:FV} (I:Iv K c md L σ S H) (k:∀ x S' H',RV K S' z x→Iv K c md L σ S' H'→Same S S'→Q x H'):NewOr K S H Q z where
 old:=fun x _ r=>k x S H r I (Same.refl S)
 tup:=fun ps xs p e r hp=>k _ _ _ (by rw [e]; exact ⟨p,xs,rfl,a0d,r.mono (a0r (I.sn hp))⟩) (I.new hp _) (a0r (I.sn hp))
 lst:=fun ps xs p e r hp=>k _ _ _ (by rw [e]; exact ⟨p,xs,rfl,a0d,r.mono (a0r (I.sn hp))⟩) (I.new hp _) (a0r (I.sn hp))
theorem Iv.fresh (I:Iv K c md L σ S H) {p:Addr} (h:H p=none):a7j c md L σ p:=by
 refine ⟨I.h0 h,fun q hq z=>?_,fun j w m e z=>?_⟩
 ·rw [← z,(I.prs q hq).1] at h; cases h
 ·obtain ⟨a,e1,⟨_,_,_,_,e2,_⟩,_⟩:=I.own j w m e
  rw [z] at e1; cases e1
  rw [h] at e2; cases e2
theorem d7l {Q:VK} {z:FV} (I:Iv K c md L σ S H) (hz:∃ ps,z=.lst ps) (k:∀ a S' H',a2x K S' H' a z→a7j c md L σ a→Iv K c md L σ S' H'→Same S S'→Q (.ref a) H'):NewOr K S H Q z where
 old:=fun x n _=>let ⟨ps,e⟩:=hz; absurd e (n ps)
 tup:=fun ps xs p e r hp=>by obtain ⟨qs,e2⟩:=hz; rw [e2] at e; cases e
 lst:=fun ps xs p e r hp=>by subst e; exact k p S _ ⟨I.sn hp,ps,xs,rfl,a0d,r⟩ (I.fresh hp) (I.lay hp _) (Same.refl S)
theorem fe_var (G:Good X C n sp) {i:Nat} {x:Str} {pos:Pos} (h:C.nm i x=true) (m:a0i C.md i=.imm):FE X C (.Name x pos) (a0e i):=by
 have h:=b2 h; have h1:=b2 h.1; have h2:=b2 h1.1
 refine PE.imp (b6j (by show X.N[i]?=_; rw [G.N]; exact de h2.1) (G.vis h2.2) (nb h1.2) (nb h.2)) fun σ H Q ⟨c,L,S,Q0,I,h,k⟩=>?_
 obtain ⟨v,e,q⟩:=wpx h
 obtain ⟨x,e1,r⟩:=I.imm i v m ((a4i _ _ _).mp e)
 exact ⟨x,e1,k v L q x S H r I (Same.refl S)⟩
theorem fr_var (G:Good X C n sp) {i:Nat} {x:Str} {pos:Pos} (h:C.nm i x=true):FR X C (.Name x pos) (a0e i):=by
 have h:=b2 h; have h1:=b2 h.1; have h2:=b2 h1.1
 refine PE.imp (b6j (by show X.N[i]?=_; rw [G.N]; exact de h2.1) (G.vis h2.2) (nb h1.2) (nb h.2)) fun σ H Q ⟨c,L,S,Q0,I,h,k⟩=>?_
 obtain ⟨v,e,q⟩:=wpx h
 obtain ⟨x,e1,r⟩:=I.rd e
 exact ⟨x,e1,k v L q x S H r I (Same.refl S)⟩
theorem fr_of {x:Expr} {e:EW} (h:FE X C x e):FR X C x e:=PE.imp h fun σ H Q ⟨c,L,S,Q0,I,h,k⟩=>⟨c,L,S,Q0,I,h,fun v L' q x S' H' r=>k v L' q x S' H' (.inl r)⟩
theorem d4b {x:Expr} {v:FV} {u:V} (h:PE X.nox x (tC u)) (r:∀ S,RV X.K S v u):FE X C x (eC v):=PE.imp h fun σ H Q ⟨c,L,S,Q0,I,h,k⟩=>k v L h u S H (r S) I (Same.refl S)
theorem fe_int {i j pos}:FE X C (.Constant (.int i) j pos) (eC (.int i)):=d4b d0b fun _=>rfl
theorem fe_bl {i j pos}:FE X C (.Constant (.bool i) j pos) (eC (.bl i)):=d4b d6x fun _=>rfl
theorem fe_non {j pos}:FE X C (.Constant .none j pos) (eC .non):=d4b c9z fun _=>rfl
theorem fe_str {i:String} {j pos}:FE X C (.Constant (.str (Γe i)) j pos) (eC (.str i)):=d4b c9w fun _=>rfl
section
variable {f:FV→FV→Option FV} {a b:Expr} {ea eb:EW} {pos:Pos} {i:Nat} {x:Str}
theorem a0w (G:Good X C n sp) (h:C.nm i x=true):PE X.nox (.Name x pos) (c0c i):=by
 have h:=b2 h; have h1:=b2 h.1; have h2:=b2 h1.1
 exact b6j (by show X.N[i]?=_; rw [G.N]; exact de h2.1) (G.vis h2.2) (nb h1.2) (nb h.2)
theorem go2 {r:R2} {σ:L2.St} {H:Hp} {Q:VK} (hh:∃ (c:Cn) (L:a0c) (S:Hp) (Q0:FV→FV→a0c→Prop),Iv K c md L σ S H∧ea L (fun x L1=>eb L1 fun y L2=>Q0 x y L2)∧∀ v w L' S' H' x y,Q0 v w L'→RV K S' v x→RH K S' H' w y→Iv K c md L' σ S' H'→Same S S'→r x y H' Q):tOp r (lv K md ea) (lr K md eb) σ H Q:=by
 obtain ⟨c,L,S,Q0,I,h,k⟩:=hh
 exact ⟨c,L,S,_,I,h,fun v L1 hv x S1 H1 r1 I1 s1=>⟨c,L1,S1,_,I1,hv,fun w L2 hw y S2 H2 r2 I2 s2=>k v w L2 S2 H2 x y hw (r1.mono s2) r2 I2 (s1.trans s2)⟩⟩
theorem go2N {r:R2} {σ:L2.St} {H:Hp} {Q:VK} (hh:∃ (c:Cn) (L:a0c) (S:Hp) (Q0:FV→FV→a0c→Prop),Iv K c md L σ S H∧(wp (lk L i) fun _=>eb L fun y L1=>wp (lk L1 i) fun x=>Q0 x y L1)∧∀ v w L' S' H' x y,Q0 v w L'→RH K S' H' v x→RH K S' H' w y→Iv K c md L' σ S' H'→Same S S'→r x y H' Q):tOp r (c0c i) (lr K md eb) σ H Q:=by
 obtain ⟨c,L,S,Q0,I,h,k⟩:=hh
 obtain ⟨_,e,h⟩:=wpx h
 obtain ⟨x,e1,_⟩:=I.rd e
 refine ⟨x,e1,c,L,S,_,I,h,fun w L2 hw y S2 H2 r2 I2 s2=>?_⟩
 obtain ⟨v,e2,q⟩:=wpx hw
 obtain ⟨x',e3,r1⟩:=I2.rd e2
 rw [e1] at e3; cases e3
 exact k v w L2 S2 H2 x y q r1 r2 I2 s2
theorem rq_v {Q0:FV→a0c→Prop} {Q:VK} {v w:FV} {x y:V} (I:Iv K c md L σ S H) (rv:RH K S H v x) (rw':RH K S H w y) (h:wp (f v w) fun z=>Q0 z L) (k:∀ z,Q0 z L→∀ x S' H',RV K S' z x→Iv K c md L σ S' H'→Same S S'→Q x H'):Rq K f x y H Q:=by
 obtain ⟨z,e,q⟩:=wpx h
 exact ⟨S,v,w,z,I.sub,rv,rw',e,b1c I (k z q)⟩
theorem op_v (h:PE X.nox a (tOp (Rq X.K f) (lv X.K C.md ea) (lr X.K C.md eb))):FE X C a (eOp f ea eb):=PE.imp h fun σ H Q ⟨c,L,S,Q0,I,h,k⟩ =>
 go2 ⟨c,L,S,fun x y L2=>wp (f x y) fun z=>Q0 z L2,I,h,fun v w L' S' H' x y q r1 r2 I' s'=>rq_v I' (.inl r1) r2 q fun z qz x S2 H2 r I2 s2=>k z L' qz x S2 H2 r I2 (s'.trans s2)⟩
variable {op:Operator}
theorem b4e (ho:OpR X.nox (binaryOp op) (Rq X.K f)) (ha:FE X C a ea) (hb:FR X C b eb):FE X C (.BinOp a op b pos) (eOp f ea eb):=op_v (d6v ho ha hb)
theorem fe_add (ha:FE X C a ea) (hb:FR X C b eb):FE X C (.BinOp a .Add b pos) (eOp a3m ea eb):=b4e d6q ha hb
theorem fe_sub (ha:FE X C a ea) (hb:FR X C b eb):FE X C (.BinOp a .Sub b pos) (eOp b2a ea eb):=b4e d6i ha hb
theorem fe_mul (ha:FE X C a ea) (hb:FR X C b eb):FE X C (.BinOp a .Mult b pos) (eOp c0f ea eb):=b4e d6k ha hb
theorem d8y (ha:FE X C a ea) (hb:FR X C b eb):FE X C (.BinOp a .FloorDiv b pos) (eOp b8l ea eb):=b4e c9j ha hb
theorem fe_mod (ha:FE X C a ea) (hb:FR X C b eb):FE X C (.BinOp a .Mod b pos) (eOp c3o ea eb):=b4e d6l ha hb
theorem fe_pow (ha:FE X C a ea) (hb:FR X C b eb):FE X C (.BinOp a .Pow b pos) (eOp c9s ea eb):=b4e d6j ha hb
noncomputable def d7o (f:FV→FV→Option FV) (v w:FV):Option FV:=(f v w).bind fun z=>(a6x z).map fun xs=>.lst xs
variable {cop:CmpOp}
theorem b3b (ho:OpR X.nox (compareOp cop) (Rq X.K f)) (ha:FE X C a ea) (hb:FR X C b eb) (hm:behindInMarks cop b=false):FE X C (.Compare a [cop] [b] pos) (eOp f ea eb):=op_v (c5s ho ha hb hm)
noncomputable def a6r (f:FV→FV→Option FV):Prop:=∀ v w z,f v w=some z→∃ b,z=.bl b
theorem c8w {Q0:Bool→a0c→Prop} {Q:Bool→Hp→Prop} {v w:FV} {x y:V} (tb:a6r f) (I:Iv K c md L σ S H) (rv:RH K S H v x) (rw':RH K S H w y) (h:wp (f v w) fun z=>wp (b0w z) fun b=>Q0 b L) (k:∀ z,Q0 z L→Q z H):Rq K f x y H (fun x H'=>∃ k,x=.bl k∧Q k H'):=by
 obtain ⟨z,e,q⟩:=wpx h
 obtain ⟨b,rfl⟩:=tb v w z e
 exact ⟨S,v,w,_,I.sub,rv,rw',e,⟨fun x _ r=>⟨b,r,k b q⟩,fun _ _ _ e=>(nomatch e),fun _ _ _ e=>(nomatch e)⟩⟩
theorem a7w (tb:a6r f) (ho:OpR X.nox (compareOp cop) (Rq X.K f)) (ha:FE X C a ea) (hb:FR X C b eb) (hm:behindInMarks cop b=false):FB X C (.Compare a [cop] [b] pos) (a2e (eOp f ea eb)):=PT.imp (c5d ho ha hb hm) fun σ H Q ⟨c,L,S,Q0,I,h,k⟩ =>
 go2 ⟨c,L,S,fun x y L2=>wp (f x y) fun z=>wp (b0w z) fun b=>Q0 b L2,I,h,fun v w L' S' H' x y q r1 r2 I' s'=>c8w tb I' (.inl r1) r2 q fun z qz=>k z L' qz S' H' I' s'⟩
end
end
noncomputable def a0l:Expr→Bool | .Starred ..=>true | _=>false
noncomputable def a3b:Expr→Bool | .Slice ..=>true | _=>false
noncomputable def c3k:Expr→Bool
 | .UnaryOp .Not _ _=>false
 | .BoolOp ..=>false
 | .IfExp ..=>false
 | .Compare ..=>false
 | _=>true
section
variable {X:Cx} {C:CC} {n:Nat} {sp:Γd→Nat→Sp} {a b d x y z:Expr} {ea eb ec:EW} {pos:Pos}
theorem a0g {xs:List Expr} {env:Env} (h:a0l x=false):starEach (x :: xs) env=(false,eval x env) :: starEach xs env:=by
 cases x <;> first | rfl | (cases h; done)
theorem a8q (h:a3b y=false):c0a y:=by
 intro o i
 cases y <;> first | rfl | (cases h; done)
theorem a9r {env:Env} (h:c3k x=true):∀ whole,isTrue x env whole=(do let v ← whole; standAt x.pos; holding [v] (PySem.truthy v)):=by
 intro whole
 cases x <;> first | rfl | (cases h; done) | (rename_i op x pos; cases op <;> first | rfl | (cases h; done))
theorem fe_eq (G:Good X C n sp) (ha:FE X C a ea) (hb:FR X C b eb):FE X C (.Compare a [.Eq] [b] pos) (eOp eqB ea eb):=b3b (q_eq G.room.units) ha hb (a1t _ (by decide) (by decide))
theorem fe_lt (G:Good X C n sp) (ha:FE X C a ea) (hb:FR X C b eb):FE X C (.Compare a [.Lt] [b] pos) (eOp ltB ea eb):=b3b (q_lt G.room.units) ha hb (a1t _ (by decide) (by decide))
theorem fe_gt (ha:FE X C a ea) (hb:FR X C b eb):FE X C (.Compare a [.Gt] [b] pos) (eOp gtB ea eb):=b3b q_gt ha hb (a1t _ (by decide) (by decide))
theorem fe_ge (ha:FE X C a ea) (hb:FR X C b eb):FE X C (.Compare a [.GtE] [b] pos) (eOp geB ea eb):=b3b q_ge ha hb (a1t _ (by decide) (by decide))
theorem c3d {f:FV→FV→Option Bool} {g:Bool→FV} (h:∀ b,∃ c,g b=.bl c):a6r fun v w=>(f v w).map g:=fun v w z e=>by
 obtain ⟨b,_,rfl⟩:=mpd e
 exact h b
theorem b5h {f:Int→Int→Bool}:a6r (a2w fun i j=>some (.bl (f i j))):=fun v w z e=>by
 obtain ⟨i,_,e⟩:=bnd e
 obtain ⟨j,_,e⟩:=bnd e
 cases e; exact ⟨_,rfl⟩
theorem d5b:a6r ltB:=fun v w z e=>by
 cases v with
 | tup xs =>
  obtain ⟨_,_,e⟩:=bnd e
  obtain ⟨_,_,e⟩:=bnd e
  obtain ⟨_,_,e⟩:=bnd e
  cases e; exact ⟨_,rfl⟩
 | _=>exact b5h _ w z e
theorem d5c:a6r leB:=fun v w z e=>by
 cases v with
 | tup xs =>
  obtain ⟨_,_,e⟩:=bnd e
  obtain ⟨_,_,e⟩:=bnd e
  obtain ⟨_,_,e⟩:=bnd e
  cases e; exact ⟨_,rfl⟩
 | _=>exact b5h _ w z e
theorem fb_eq (G:Good X C n sp) (ha:FE X C a ea) (hb:FR X C b eb):FB X C (.Compare a [.Eq] [b] pos) (a2e (eOp eqB ea eb)):=a7w (c3d fun b=>⟨b,rfl⟩) (q_eq G.room.units) ha hb (a1t _ (by decide) (by decide))
theorem fb_ne (G:Good X C n sp) (ha:FE X C a ea) (hb:FR X C b eb):FB X C (.Compare a [.NotEq] [b] pos) (a2e (eOp neB ea eb)):=a7w (c3d fun b=>⟨!b,rfl⟩) (q_ne G.room.units) ha hb (a1t _ (by decide) (by decide))
theorem fb_lt (G:Good X C n sp) (ha:FE X C a ea) (hb:FR X C b eb):FB X C (.Compare a [.Lt] [b] pos) (a2e (eOp ltB ea eb)):=a7w d5b (q_lt G.room.units) ha hb (a1t _ (by decide) (by decide))
theorem fb_le (G:Good X C n sp) (ha:FE X C a ea) (hb:FR X C b eb):FB X C (.Compare a [.LtE] [b] pos) (a2e (eOp leB ea eb)):=a7w d5c (q_le G.room.units) ha hb (a1t _ (by decide) (by decide))
theorem fb_gt (ha:FE X C a ea) (hb:FR X C b eb):FB X C (.Compare a [.Gt] [b] pos) (a2e (eOp gtB ea eb)):=a7w b5h q_gt ha hb (a1t _ (by decide) (by decide))
variable {i:Nat} {nx:Str} {p:Pos}
section
variable {cop cop':CmpOp} {f g:FV→FV→Option FV}
end
end
section
variable {X:Cx} {C:CC} {n:Nat} {sp:Γd→Nat→Sp} {a b d x y z:Expr} {ea eb ec:EW} {ba bb:BW} {pos p:Pos}
variable {K:Γd} {c:Cn} {md:Md} {L:a0c} {σ:L2.St} {S H:Hp}
theorem c3n {v:FV} {x:V} (r1:RH K S H v x):a2m v=some (.bl (decide (x=V.non)))∧a1s v=some (.bl (!decide (x=V.non))):=by
 rcases r1 with r1 | ⟨a,rfl,_,ps,xs,e9,_⟩
 ·cases v <;> first | (cases (show x=_ from r1); simp [a2m,a1s]; done) | (obtain ⟨a,_,rfl,_⟩:=r1; simp [a2m,a1s]; done) | (obtain ⟨a,rfl,_⟩:=r1; simp [a2m,a1s]; done)
 ·cases v <;> first | (cases e9; done) | simp [a2m,a1s]
theorem fb_isN {j pos'} (ha:FR X C a ea):FB X C (.Compare a [.Is] [.Constant .none j pos'] pos) (a2e (eUn a2m ea)):=PT.imp (c3h (d0d ha)) fun σ H Q ⟨c,L,S,Q0,I,h,k⟩ =>
 ⟨c,L,S,_,I,h,fun v L1 hv x S1 H1 r1 I1 s1=>by
  obtain ⟨z,e3,q⟩:=wpx hv
  rw [(c3n r1).1] at e3; cases e3
  exact ⟨_,rfl,k _ L1 q S1 H1 I1 s1⟩⟩
theorem d9z {j pos'} (ha:FR X C a ea):FB X C (.Compare a [.IsNot] [.Constant .none j pos'] pos) (a2e (eUn a1s ea)):=PT.imp (c3h (c5w ha)) fun σ H Q ⟨c,L,S,Q0,I,h,k⟩ =>
 ⟨c,L,S,_,I,h,fun v L1 hv x S1 H1 r1 I1 s1=>by
  obtain ⟨z,e3,q⟩:=wpx hv
  rw [(c3n r1).2] at e3; cases e3
  exact ⟨_,rfl,k _ L1 q S1 H1 I1 s1⟩⟩
theorem fe_not (ha:FE X C a ea):FE X C (.UnaryOp .Not a pos) (eUn d7i ea):=PE.imp (c9y ha) fun σ H Q ⟨c,L,S,Q0,I,h,k⟩ =>
 ⟨c,L,S,_,I,h,fun v L1 hv x S1 H1 r1 I1 s1=>by
  obtain ⟨z,e,q⟩:=wpx hv
  obtain ⟨b,e1,rfl⟩:=mpd e
  cases d2t e1
  exact ⟨b,r1,k _ L1 q _ S1 H1 rfl I1 s1⟩⟩
theorem fe_neg (ha:FE X C a ea):FE X C (.UnaryOp .USub a pos) (eUn c8n ea):=PE.imp (d6u c8u ha) fun σ H Q ⟨c,L,S,Q0,I,h,k⟩ =>
 ⟨c,L,S,_,I,h,fun v L1 hv x S1 H1 r1 I1 s1=>by
  obtain ⟨z,e,q⟩:=wpx hv
  obtain ⟨b,e1,rfl⟩:=mpd e
  cases a0v e1
  exact ⟨b,r1,k _ L1 q _ S1 H1 rfl I1 s1⟩⟩
theorem b5f {v:FV} {u:V} {t:Bool} (s:Same S H) (r:RH K S H v u) (e:b0w v=some t):d2x K u H t:=by
 have em:∀ {ps:List FV} {xs:List V},RVs K S ps xs→(!ps.isEmpty) = !xs.isEmpty:=fun {ps xs} h=>by cases ps <;> cases xs <;> first | rfl | (have:=h.length; simp at this)
 cases v with
 | non=>cases (show u=V.non from r.val rfl); cases e; exact rfl
 | bl c=>cases r.bl; cases e; exact rfl
 | int c=>cases r.int; cases e; exact rfl
 | str c=>cases e
 | shn c=>cases e
 | dct _ _=>cases e
 | dci _ _=>cases e
 | dcz _ _ _=>cases e
 | obj _ _ _ _=>cases e
 | dcn _ _ _=>cases e
 | tup ps =>
  obtain ⟨a,xs,rfl,h1,h2⟩:=r.tup s
  cases e
  exact .inr (.inl ⟨xs,SqT.of h1,em h2⟩)
 | lst l =>
  obtain ⟨a,xs,rfl,h1,h2⟩:=r.lst s
  cases e
  exact .inl ⟨xs,SqL.of h1,em h2⟩
 | scr ns =>
  cases e
  obtain ⟨a,xs,rfl,h1,h2⟩:=r.list s (show a1w (.scr ns)=_ from rfl)
  refine .inl ⟨_,h1,?_⟩
  rw [← em h2]; cases ns <;> rfl
theorem c5v {rest:List Expr} {ta tb:TE} (ha:PE X a ta) (hb:PE X (.BoolOp .And (b :: rest) pos) tb) :
  PE X (.BoolOp .And (a :: b :: rest) pos) (fun σ H Q=>ta σ H fun x H1=>∃ c,d2x X.K x H1 c∧(if c=true then tb σ H1 Q else Q x H1)):=by
 intro pins s σ H Q I h
 refine BoolOp_and (thn (ha pins s σ H _ I h) fun v s1 ⟨x,H1,I1,r1,c,tv,q1⟩=>?_)
 refine thn (b5g pins s1 σ H1 x v (fun c' H'=>c'=c∧H'=H1) I1 r1 ⟨c,tv,rfl,rfl⟩) fun b s2 ⟨H2,I2,e1,e2⟩=>?_
 subst e1 e2
 cases b with
 | true=>exact hb pins s2 σ H2 Q I2 (by simpa using q1)
 | false=>exact ⟨x,H2,I2,r1,by simpa using q1⟩
theorem fe_one {op:BoolOp} (ha:FE X C a ea):FE X C (.BoolOp op [a] pos) ea:=c9x ha
theorem fe_and {rest:List Expr} (ha:FE X C a ea) (hb:FE X C (.BoolOp .And (b :: rest) pos) eb):FE X C (.BoolOp .And (a :: b :: rest) pos) (d4j ea eb):=PE.imp (c5v ha hb) fun σ H Q ⟨c,L,S,Q0,I,h,k⟩ =>
 ⟨c,L,S,_,I,h,fun v L1 hv x S1 H1 r1 I1 s1=>by
  obtain ⟨t,e,q⟩:=wpx hv
  refine ⟨t,b5f I1.sub (.inl r1) e,?_⟩
  cases t with
  | true=>exact ⟨c,L1,S1,Q0,I1,q,fun v L' q x S' H' r I' s'=>k v L' q x S' H' r I' (s1.trans s')⟩
  | false=>exact k v L1 q x S1 H1 r1 I1 s1⟩
theorem fe_if (hc:FB X C d ba) (ha:FE X C a ea) (hb:FE X C b eb):FE X C (.IfExp d a b pos) (eIf ba ea eb):=PE.imp (c1f hc ha hb) fun σ H Q ⟨c,L,S,Q0,I,h,k⟩ =>
 ⟨c,L,S,_,I,h,fun t L1 hv S1 H1 I1 s1=>by
  cases t with
  | true=>exact ⟨c,L1,S1,Q0,I1,hv,fun v L' q x S' H' r I' s'=>k v L' q x S' H' r I' (s1.trans s')⟩
  | false=>exact ⟨c,L1,S1,Q0,I1,hv,fun v L' q x S' H' r I' s'=>k v L' q x S' H' r I' (s1.trans s')⟩⟩
theorem fb_val (hp:c3k a=true) (ha:FR X C a ea):FB X C a (a2e ea):=PT.imp (c0w ha (a9r hp)) fun σ H Q ⟨c,L,S,Q0,I,h,k⟩ =>
 ⟨c,L,S,_,I,h,fun v L1 hv x S1 H1 r1 I1 s1=>by
  obtain ⟨t,e,q⟩:=wpx hv
  exact ⟨t,b5f I1.sub r1 e,k t L1 q S1 H1 I1 s1⟩⟩
theorem fb_not (ha:FB X C a ba):FB X C (.UnaryOp .Not a pos) (c4e ba):=PT.imp (c9p ha) fun σ H Q ⟨c,L,S,Q0,I,h,k⟩=>⟨c,L,S,_,I,h,fun t L1 hv S1 H1 I1 s1=>k _ L1 hv S1 H1 I1 s1⟩
theorem d8a (ha:FB X C a ba):FW X C (.BoolOp .And [a] pos) ba:=c5c ha
theorem fw_or1 (ha:FB X C a ba):FW X C (.BoolOp .Or [a] pos) ba:=c9n ha
theorem fw_and {rest:List Expr} (ha:FB X C a ba) (hb:FW X C (.BoolOp .And (b :: rest) pos) bb):FW X C (.BoolOp .And (a :: b :: rest) pos) (c7x ba bb):=PW.imp (c9o ha hb) fun σ H Q ⟨c,L,S,Q0,I,h,k⟩ =>
 ⟨c,L,S,_,I,h,fun t L1 hv S1 H1 I1 s1=>by
  cases t with
  | true=>exact ⟨c,L1,S1,Q0,I1,hv,fun v L' q S' H' I' s'=>k v L' q S' H' I' (s1.trans s')⟩
  | false=>exact k _ L1 hv S1 H1 I1 s1⟩
theorem fw_or {rest:List Expr} (ha:FB X C a ba) (hb:FW X C (.BoolOp .Or (b :: rest) pos) bb):FW X C (.BoolOp .Or (a :: b :: rest) pos) (bOr ba bb):=PW.imp (d6r ha hb) fun σ H Q ⟨c,L,S,Q0,I,h,k⟩ =>
 ⟨c,L,S,_,I,h,fun t L1 hv S1 H1 I1 s1=>by
  cases t with
  | false=>exact ⟨c,L1,S1,Q0,I1,hv,fun v L' q S' H' I' s'=>k v L' q S' H' I' (s1.trans s')⟩
  | true=>exact k _ L1 hv S1 H1 I1 s1⟩
theorem fb_w (h:FW X C a ba):FB X C a ba:=PW.pt h
theorem fa_nil:FA X C [] a0p:=PA.imp a1o fun σ H Q ⟨c,L,S,Q0,I,h,k⟩=>k [] L h [] S H rfl I (Same.refl S)
theorem e0b {xs:List Expr} {as:AW} (hs:a0l a=false) (ha:FE X C a ea) (hr:FA X C xs as):FA X C (a :: xs) (a0a ea as):=PA.imp (a0n ha hr (a0g hs)) fun σ H Q ⟨c,L,S,Q0,I,h,k⟩ =>
 ⟨c,L,S,_,I,h,fun v L1 hv x S1 H1 r1 I1 s1=>⟨c,L1,S1,_,I1,hv,fun vs L2 hvs us S2 H2 r2 I2 s2=>k _ L2 hvs _ S2 H2 ⟨x,us,rfl,r1.mono s2,r2⟩ I2 (s1.trans s2)⟩⟩
theorem fe_tup {xs:List Expr} {as:AW} {m:Nat} (h:FA X C xs as):FE X C (.Tuple xs m pos) (a4y as):=PE.imp (c9v h) fun σ H Q ⟨c,L,S,Q0,I,h,k⟩ =>
 ⟨c,L,S,_,I,h,fun vs L1 hv us S1 H1 r1 I1 s1=>⟨by have:=a1i; rw [← r1.length]; exact Nat.le_trans hv.1 this,fun p hp=>(b1c I1 fun x S' H' r I' s'=>k _ L1 hv.2 x S' H' r I' (s1.trans s')).tup _ _ p rfl r1 hp⟩⟩
theorem fe_lst {xs:List Expr} {as:AW} (h:FA X C xs as):FE X C (.List xs pos) (c0h as):=PE.imp (b6m h) fun σ H Q ⟨c,L,S,Q0,I,h,k⟩ =>
 ⟨c,L,S,_,I,h,fun vs L1 hv us S1 H1 r1 I1 s1=>⟨by have:=a1i; rw [← r1.length]; exact Nat.le_trans hv.1 this,fun p hp=>(b1c I1 fun x S' H' r I' s'=>k _ L1 hv.2 x S' H' r I' (s1.trans s')).lst _ _ p rfl r1 hp⟩⟩
theorem ff_lst {xs:List Expr} {as:AW} (h:FA X C xs as):FF X C (.List xs pos) (c0h as):=PE.imp (b6m h) fun σ H Q ⟨c,L,S,Q0,I,h,k⟩ =>
 ⟨c,L,S,_,I,h,fun vs L1 hv us S1 H1 r1 I1 s1=>⟨by have:=a1i; rw [← r1.length]; exact Nat.le_trans hv.1 this,fun p hp=>(d7l I1 ⟨vs,rfl⟩ fun a S' H' o fr I' s'=>k _ L1 hv.2 a S' H' o fr I' (s1.trans s')).lst _ _ p rfl r1 hp⟩⟩
theorem fe_ix (hs:a3b b=false) (ha:FE X C a ea) (hb:FR X C b eb):FE X C (.Subscript a b pos) (eOp ixF ea eb):=PE.imp (d0a q_ix ha hb (a8q hs)) fun σ H Q ⟨c,L,S,Q0,I,h,k⟩ =>
 go2 ⟨c,L,S,fun x y L2=>wp (ixF x y) fun z=>Q0 z L2,I,h,fun v w L' S' H' x y q r1 r2 I' s'=>by
  obtain ⟨z,e,q⟩:=wpx q
  exact ⟨S',v,w,z,I'.sub,.inl r1,r2,e,fun u r=>k z L' q u S' H' r I' s'⟩⟩
theorem fe_ixN (G:Good X C n sp) {i:Nat} {nx:Str} (hs:a3b b=false) (h:C.nm i nx=true) (hb:FR X C b eb):FE X C (.Subscript (.Name nx p) b pos) (b8t ixF i eb):=PE.imp (d0a q_ix (a0w G h) hb (a8q hs)) fun σ H Q ⟨c,L,S,Q0,I,h,k⟩ =>
 go2N ⟨c,L,S,fun x y L2=>wp (ixF x y) fun z=>Q0 z L2,I,h,fun v w L' S' H' x y q r1 r2 I' s'=>by
  obtain ⟨z,e,q⟩:=wpx q
  exact ⟨S',v,w,z,I'.sub,r1,r2,e,fun u r=>k z L' q u S' H' r I' s'⟩⟩
theorem d8j:FO X C none b6y:=PO.imp c5m fun σ H Q ⟨c,L,S,Q0,I,h,k⟩=>k none L h S H I (Same.refl S)
theorem d8i (h:FE X C a ea):FO X C (some a) (b1b ea):=PO.imp (c5l h) fun σ H Q ⟨c,L,S,Q0,I,h,k⟩ =>
 ⟨c,L,S,_,I,h,fun v L1 hv x S1 H1 r1 I1 s1=>by
  obtain ⟨i,e,q⟩:=wpx hv
  cases a0v e
  exact ⟨i,r1,k _ L1 q S1 H1 I1 s1⟩⟩
variable {xl xh:Option Expr} {wl wh:OW} {p2:Pos}
theorem fe_sl (ha:FE X C a ea) (hl:FO X C xl wl) (hh:FO X C xh wh):FE X C (.Subscript a (.Slice xl xh none p2) pos) (eSl ea wl wh):=PE.imp (c1c q_sl ha hl hh) fun σ H Q ⟨c,L,S,Q0,I,h,k⟩ =>
 ⟨c,L,S,_,I,h,fun v L1 hv x S1 H1 r1 I1 s1=>⟨c,L1,S1,_,I1,hv,fun o1 L2 h1 S2 H2 I2 s2=>⟨c,L2,S2,_,I2,h1,fun o2 L3 h2 S3 H3 I3 s3=>by
  obtain ⟨z,e,q⟩:=wpx h2
  exact ⟨S3,v,z,I3.sub,.inl (r1.mono (s2.trans s3)),e,b1c I3 fun x S' H' r I' s'=>k z L3 q x S' H' r I' (s1.trans (s2.trans (s3.trans s')))⟩⟩⟩⟩
end
section
variable {X:Cx} {C:CC} {n:Nat} {sp:Γd→Nat→Sp} {a b d x y z:Expr} {ea eb ec:EW} {ba bb:BW} {pos p:Pos}
variable {K:Γd} {c:Cn} {md:Md} {L:a0c} {σ:L2.St} {S H:Hp} {i:Nat} {nx:Str}
variable {xl xh:Option Expr} {wl wh:OW} {p2:Pos}
noncomputable def sliceL (k:Nat) (l h:OW):EW:=fun L Q=>eSlN k l h L fun z L'=>isL z=true∧(∃ ps,z=.lst ps)∧Q z L'
theorem d2m {f:FV→Option FV} {Q:VK} (hh:lv K md (eUn f ea) σ H Q):tCB (Rc K f) (c0n (lr K md ea) tNil) σ H Q:=by
 obtain ⟨c,L,S,Q0,I,h,k⟩:=hh
 refine ⟨c,L,S,_,I,h,fun v L1 hv x S1 H1 r1 I1 s1=>?_⟩
 obtain ⟨z,e,q⟩:=wpx hv
 exact ⟨S1,v,x,z,rfl,I1.sub,r1,e,b1c I1 fun x S' H' r I' s'=>k z L1 q x S' H' r I' (s1.trans s')⟩
theorem b0h {id nm:String} {f:FV→Option FV} (hc:a1k X.nox (.builtin id) (Rc X.K f)) (G:Good X C n sp) (hb:nm∈bltNames) (hv:bootBuiltins (Γe nm)=some (.builtin id)) (h1:Γe nm≠"__name__") (h2:(Γe nm == ("__debug__":Str))=false) (hg:C.gl (Γe nm)=true) (hs:a0l a=false) (ha:FR X C a ea) :
  FE X C (.Call (.Name (Γe nm) p) [a] [] pos) (eUn f ea):=PE.imp (a4h hc (G.gl hg) (G.blt nm hb) hv (a0n ha a1o (a0g hs)) h1 h2 (a0g hs) rfl) fun σ H Q h=>d2m h
theorem d1v {T nm:String} {f:FV→Option FV} (hc:a1k X.nox (.type T) (Rc X.K f)) (G:Good X C n sp) (hb:nm∈bltNames) (hv:bootBuiltins (Γe nm)=some (.type T)) (h1:Γe nm≠"__name__") (h2:(Γe nm == ("__debug__":Str))=false) (hg:C.gl (Γe nm)=true) (hs:a0l a=false) (ha:FR X C a ea) :
  FE X C (.Call (.Name (Γe nm) p) [a] [] pos) (eUn f ea):=PE.imp (a9s hc (G.gl hg) (G.blt nm hb) hv (a0n ha a1o (a0g hs)) h1 h2 (a0g hs) rfl) fun σ H Q h=>d2m h
theorem fe_len (G:Good X C n sp) (hg:C.gl (Γe "len")=true) (hs:a0l a=false) (ha:FR X C a ea):FE X C (.Call (.Name (Γe "len") p) [a] [] pos) (eUn a6a ea):=b0h d2s G (by decide) (by nofun) (by nofun) (by nofun) hg hs ha
theorem fe_abs (G:Good X C n sp) (hg:C.gl (Γe "abs")=true) (hs:a0l a=false) (ha:FR X C a ea):FE X C (.Call (.Name (Γe "abs") p) [a] [] pos) (eUn d2w ea):=b0h e0y G (by decide) (by nofun) (by nofun) (by nofun) hg hs ha
theorem fe_all (G:Good X C n sp) (hg:C.gl (Γe "all")=true) (hs:a0l a=false) (ha:FR X C a ea):FE X C (.Call (.Name (Γe "all") p) [a] [] pos) (eUn d4v ea):=b0h (e0x G.calm) G (by decide) (by nofun) (by nofun) (by nofun) hg hs ha
theorem fe_any (G:Good X C n sp) (hg:C.gl (Γe "any")=true) (hs:a0l a=false) (ha:FR X C a ea):FE X C (.Call (.Name (Γe "any") p) [a] [] pos) (eUn d4u ea):=b0h (e0w G.calm) G (by decide) (by nofun) (by nofun) (by nofun) hg hs ha
theorem d8u (G:Good X C n sp) (hg:C.gl (Γe "min")=true) (hs:a0l a=false) (ha:FR X C a ea):FE X C (.Call (.Name (Γe "min") p) [a] [] pos) (eUn c1p ea):=b0h (d2p G.calm) G (by decide) (by nofun) (by nofun) (by nofun) hg hs ha
theorem d3y (G:Good X C n sp) (hg:C.gl (Γe "int")=true) (hs:a0l a=false) (ha:FR X C a ea):FE X C (.Call (.Name (Γe "int") p) [a] [] pos) (eUn b1z ea):=d1v e0v G (by decide) (by nofun) (by nofun) (by nofun) hg hs ha
theorem d3x (G:Good X C n sp) (hg:C.gl (Γe "tuple")=true) (hs:a0l a=false) (ha:FR X C a ea):FE X C (.Call (.Name (Γe "tuple") p) [a] [] pos) (eUn a2g ea):=d1v b9v G (by decide) (by nofun) (by nofun) (by nofun) hg hs ha
theorem d9b {id nm:String} {f:FV→FV→Option FV} (hc:a1k X.nox (.builtin id) (Rc2 X.K f)) (G:Good X C n sp) (hb:nm∈bltNames) (hv:bootBuiltins (Γe nm)=some (.builtin id)) (h1:Γe nm≠"__name__") (h2:(Γe nm == ("__debug__":Str))=false) (hg:C.gl (Γe nm)=true) (hs:a0l a=false) (hs2:a0l b=false) (ha:FE X C a ea) (hb':FR X C b eb) :
  FE X C (.Call (.Name (Γe nm) p) [a,b] [] pos) (eOp f ea eb):=PE.imp (a4h hc (G.gl hg) (G.blt nm hb) hv (a0n ha (a0n hb' a1o (a0g hs2)) (a0g hs)) h1 h2 (a0g hs) (by rw [a0g hs2]; rfl)) fun σ H Q ⟨c,L,S,Q0,I,h,k⟩ =>
 ⟨c,L,S,_,I,h,fun v L1 hv x S1 H1 r1 I1 s1=>⟨c,L1,S1,_,I1,hv,fun w L2 hw y S2 H2 r2 I2 s2=>by
  obtain ⟨z,e,q⟩:=wpx hw
  exact ⟨S2,v,w,x,y,z,rfl,I2.sub,.inl (r1.mono s2),r2,e,b1c I2 fun x S' H' r I' s'=>k z L2 q x S' H' r I' (s1.trans (s2.trans s'))⟩⟩⟩
theorem d8w (G:Good X C n sp) (hg:C.gl (Γe "min")=true) (hs:a0l a=false) (hs2:a0l b=false) (ha:FE X C a ea) (hb':FR X C b eb):FE X C (.Call (.Name (Γe "min") p) [a,b] [] pos) (eOp b7d ea eb):=d9b (d2r G.calm) G (by decide) (by nofun) (by nofun) (by nofun) hg hs hs2 ha hb'
noncomputable def b1x:Ty→String | .int=>"int" | .bool=>"bool" | .str=>"str" | .list=>"list" | .tuple=>"tuple"
theorem c0m {v:FV} {u:V} {t:Ty} {r:Bool} (s:Same S H) (rv:RH K S H v u) (e:b1n v t=some r):∃ T,TyOf K H u (.type T)∧PySem.W.kitOne K (.type T) (.type (b1x t))=some r:=by
 cases v with
 | non=>cases (show u=V.non from rv.val rfl); exact ⟨_,.non,by cases e; cases t <;> rfl⟩
 | bl c=>cases rv.bl; exact ⟨_,.bl _,by cases e; cases t <;> rfl⟩
 | int c=>cases rv.int; exact ⟨_,.int _,by cases e; cases t <;> rfl⟩
 | str c=>cases (show u=V.str _ from rv.val rfl); exact ⟨_,.str _,by cases e; cases t <;> rfl⟩
 | tup ps =>
  obtain ⟨a,xs,rfl,h1,h2⟩:=rv.tup s
  exact ⟨_,.tup h1,by cases e; cases t <;> rfl⟩
 | lst l =>
  obtain ⟨a,xs,rfl,h1,h2⟩:=rv.lst s
  exact ⟨_,.lst h1,by cases e; cases t <;> rfl⟩
 | scr ns=>cases e
 | dct _ _=>cases e
 | dci _ _=>cases e
 | dcz _ _ _=>cases e
 | obj _ _ _ _=>cases e
 | dcn _ _ _=>cases e
 | shn d=>cases (show u=V.str _ from rv.val rfl); exact ⟨_,.str _,by cases e; cases t <;> rfl⟩
theorem fe_isi {t:Ty} {tn:Str} (G:Good X C n sp) (hg:C.gl (Γe "isinstance")=true) (ht:tn=Γe (b1x t)) (hg2:C.gl tn=true) (hs:a0l a=false) (ha:FR X C a ea) :
  FE X C (.Call (.Name (Γe "isinstance") p) [a,.Name tn p2] [] pos) (eUn (d1e t) ea):=by
 subst ht
 have cc:a1k X.nox (.builtin "isinstance") (fun xs H Q=>∃ v c b T,xs=[v,.ty c]∧TyOf X.K H v (.type T)∧PySem.W.kitOne X.K (.type T) (.type c)=some b∧Q (.bl b) H):=by
  rintro pins s σ H xs us Q I r ⟨v,c,b,T,rfl,h1,h2,q⟩
  obtain ⟨u,u',rfl,ru,ru'⟩:=c8t r
  obtain rfl:u'=.type c:=ru'
  exact b7w I ru h1 h2 fun tk=>⟨.bl b,H,I.tok _,rfl,q⟩
 have tt:PE X.nox (.Name (Γe (b1x t)) p2) (tC (.ty (b1x t))):=by
  cases t <;> exact c5u (G.gl hg2) (G.blt _ (by decide)) (by nofun) rfl (by nofun) (by nofun)
 refine PE.imp (a4h cc (G.gl hg) (G.blt "isinstance" (by decide)) (by nofun) (a0n ha (a0n tt a1o rfl) (a0g hs)) (by nofun) (by nofun) (a0g hs) rfl) fun σ H Q ⟨c,L,S,Q0,I,h,k⟩ =>
  ⟨c,L,S,_,I,h,fun v L1 hv x S1 H1 r1 I1 s1=>?_⟩
 obtain ⟨z,e,q⟩:=wpx hv
 obtain ⟨r,e1,rfl⟩:=mpd e
 obtain ⟨T,t1,t2⟩:=c0m I1.sub r1 e1
 exact ⟨x,_,_,T,rfl,t1,t2,k _ L1 q _ S1 H1 rfl I1 s1⟩
noncomputable def c7u (apos cpos:Pos):Bool:=apos.endLine == cpos.line
theorem fe_app (G:Good X C n sp) {apos cpos:Pos} (h:C.nm i nx=true) (m:a0i C.md i=.own) (hl:c7u apos cpos=true) (hs:a0l a=false) (ha:FE X C a ea):FE X C (.Call (.Attribute (.Name nx p) (Γe "append") apos) [a] [] cpos) (c2l d4t i ea):=by
 refine PE.imp (d6w PySem.F.plainAttrs_list PySem.F.slot_list_append PySem.F.type_list_append a5v (a0w G h) (a0n ha a1o (a0g hs)) rfl (by rw [a0g hs]; rfl) hl (a0g hs) rfl) fun σ H Q ⟨c,L,S,Q0,I,h,k⟩=>?_
 obtain ⟨v,e,h⟩:=wpx h
 obtain ⟨v9,e9,h⟩:=wpx h
 cases a8v e9
 have e':=(a4i _ _ _).mp e
 have mi:a0i C.md i≠.imm:=fun z=>by rw [m] at z; cases z
 obtain ⟨l,e1,⟨_,ps,xs,e8,h1,_⟩,_⟩:=I.own i _ mi e'
 refine ⟨_,e1,.inl ⟨rfl,xs,SqL.of h1⟩,c,L,S,_,I,h,fun w L1 hw y S1 H1 r1 I1 s1=>?_⟩
 obtain ⟨v1,e2,hw⟩:=wpx hw
 obtain ⟨z,e3,q⟩:=wpx hw
 have e2':=(a4i _ _ _).mp e2
 obtain ⟨qs,e4,e5⟩:=bnd e3
 cases a8v e4
 obtain ⟨hb,rfl⟩:=itd e5
 obtain ⟨l',f1,⟨f2,rs,zs,f3,f4,f5⟩,_⟩:=I1.own i _ mi e2'
 rw [e1] at f1; cases f1
 cases f3
 have:=a1i
 exact ⟨l,zs,y,rfl,rfl,f4,by rw [← f5.length]; lia,k _ _ q .non S1 _ rfl (I1.write m e2' e1 (f5.append (RVs.one r1))) s1⟩
end
noncomputable def ArgsOk (K:Γd) (S H:Hp) (args:List FV) (vs:List V):Bool→Prop
 | false=>RVs K S args vs
 | true=>∃ v r a us,args=v :: r∧vs=.ref a :: us∧a2x K S H a v∧RVs K S r us
noncomputable def c8e (K:Γd) (S' H' H:Hp) (v:FV) (x:V):Bool→Prop
 | false=>RV K S' v x
 | true=>∃ a,x=.ref a∧a2x K S' H' a v∧H a=none
noncomputable def b2s (vs:List V):Bool→Option Addr
 | false=>none
 | true=>match vs with
  | .ref a :: _=>some a
  | _=>none
structure Kept (K:Γd) (S H S' H':Hp) (P:Option Addr) (w:FV):Prop where
 same:Same S S'
 sub:Same S' H'
 grow:∀ a o,S' a=some o→S a=some o ∨ H a=none ∨ a7c o=true
 keep:∀ a o,H a=some o→P≠some a→H' a=some o
 back:∀ a,P=some a→a2x K S' H' a w
noncomputable def spQ (K:Γd) (call:CW) (io fr:Bool) (f:Nat):Sp:=fun vs H Q E=>∃ S args Q0,Same S H∧ArgsOk K S H args vs io∧call f args Q0∧∀ z,Q0 z→∀ x S' H',Kept K S H S' H' (b2s vs io) z.2→c8e K S' H' H z.1 x fr→Q x H'
section
variable {X:Cx} {C:CC} {n:Nat} {sp:Γd→Nat→Sp} {a b d x y z:Expr} {ea eb ec:EW} {pos p:Pos} {call:CW}
variable {K:Γd} {c:Cn} {md:Md} {L:a0c} {σ:L2.St} {S H S' H':Hp} {i f:Nat} {nx:Str} {xs:List Expr} {as:AW}
noncomputable def a1e (xs:List Expr):Bool:=xs.all fun x=>!a0l x
theorem a5h:∀ {xs:List Expr} {env:Env},a1e xs=true→(backTo pos (starEach xs env)).any (·.1)=false
 | [],_,_=>rfl
 | x :: xs,env,h=>by
  have h:=b2 (show (!a0l x && a1e xs)=true from h)
  rw [a0g (nb h.1)]
  show (false || (backTo pos (starEach xs env)).any (·.1))=false
  rw [a5h h.2]; rfl
theorem Kept.iv (I:Iv K c md L σ S H) {w:FV} (k:Kept K S H S' H' none w):Iv K c md L σ S' H':=I.go3 k.same k.sub k.grow fun a o e=>k.keep a o e (by simp)
theorem b1u (G:Good X C n sp) {t:TA} (hf:C.fns[f]?=some nx) (hg:C.gl nx=true) (hd:(nx == ("__debug__":Str))=false) (hs:a1e (a :: xs)=true) (ha:PA X.nox (a :: xs) t):PE X.nox (.Call (.Name nx p) (a :: xs) [] pos) (fun σ H Q=>t σ H fun vs H1=>sp X.K f vs H1 Q E0):=by
 obtain ⟨fa,fd,ps,h1,h2,h3,h4⟩:=G.fns f nx hf
 have h:=b2 (show (!a0l a && a1e xs)=true from hs)
 refine PE.imp (c5t (X:=X.nox) h4 G.room.toRoom (G.gl hg) h1 h2 h3 .nil b6q ha hd (a0g (nb h.1)) (a5h h.2)) fun σ H Q q=>?_
 show t σ H fun vs H1=>sp X.K f (vs++[]) H1 Q E0
 have e:(fun vs H1=>sp X.K f (vs++[]) H1 Q E0)=fun vs H1=>sp X.K f vs H1 Q E0:=by funext vs H1; rw [List.append_nil]
 rw [e]; exact q
theorem d9a (G:Good X C n sp) (e:sp X.K f=spQ X.K call false false f) (hf:C.fns[f]?=some nx) (hg:C.gl nx=true) (hd:(nx == ("__debug__":Str))=false) (hs:a1e (a :: xs)=true) (ha:FA X C (a :: xs) as):FE X C (.Call (.Name nx p) (a :: xs) [] pos) (a1h call f as) :=
 PE.imp (b1u G hf hg hd hs ha) fun σ H Q ⟨c,L,S,Q0,I,h,k⟩=>⟨c,L,S,_,I,h,fun vs L1 hv us S1 H1 r1 I1 s1=>by
  rw [e]
  exact ⟨S1,vs,_,I1.sub,r1,hv,fun z q x S' H' kp r=>k _ L1 q x S' H' r (kp.iv I1) (s1.trans kp.same)⟩⟩
theorem d8q (G:Good X C n sp) (e:sp X.K f=spQ X.K call false true f) (hf:C.fns[f]?=some nx) (hg:C.gl nx=true) (hd:(nx == ("__debug__":Str))=false) (hs:a1e (a :: xs)=true) (ha:FA X C (a :: xs) as):FF X C (.Call (.Name nx p) (a :: xs) [] pos) (a1h call f as) :=
 PE.imp (b1u G hf hg hd hs ha) fun σ H Q ⟨c,L,S,Q0,I,h,k⟩=>⟨c,L,S,_,I,h,fun vs L1 hv us S1 H1 r1 I1 s1=>by
  rw [e]
  refine ⟨S1,vs,_,I1.sub,r1,hv,fun z q x S' H' kp r=>?_⟩
  obtain ⟨a,rfl,o,hn⟩:=r
  exact k _ L1 q a S' H' o (I1.fresh hn) (kp.iv I1) (s1.trans kp.same)⟩
theorem b7c {v:FV} {q:Addr} (I:Iv K c md L σ S H) (o:a2x K S H q v) (fr:a7j c md L σ q):∃ u,H q=some u∧Iv K c md L σ (upd S q u) H∧RV K (upd S q u) v (.ref q):=by
 obtain ⟨h1,ps,us,e0,h2,h3⟩:=o
 have s:=a0r (o:=c8l v us) h1
 refine ⟨_,h2,⟨I.len,fun i v h e=>let ⟨x,e1,r⟩:=I.imm i v h e; ⟨x,e1,r.mono s⟩,fun i v h e=>?_,I.dis,fun a u e=>?_,I.frame,I.s0.trans s,fun a u e=>?_,I.lent,I.fzs,I.fzm,I.fzp,fun p hp=>let ⟨g1,g2,g3⟩:=I.prs p hp; ⟨g1,by rw [a0b (fr.2.1 p hp)]; exact g2,g3⟩,I.ntp,I.lnt1,I.tie⟩,?_⟩
 ·obtain ⟨b,e1,⟨g1,rs,zs,g2,g3,g4⟩,g5⟩:=I.own i v h e
  have hb:b≠q:=fun z=>by subst z; exact fr.2.2 i v h e e1
  exact ⟨b,e1,⟨by rw [a0b hb]; exact g1,rs,zs,g2,g3,g4.mono s⟩,g5⟩
 ·by_cases z:a=q
  ·subst z; rw [a0d] at e; cases e; exact h2
  ·rw [a0b z] at e; exact I.sub a u e
 ·by_cases z:a=q
  ·subst z; exact .inr (.inl fr.1)
  ·rw [a0b z] at e; exact I.grow a u e
 ·cases v with
  | lst qs=>cases e0; exact ⟨q,us,rfl,a0d,h3.mono s⟩
  | dct ks vs=>obtain ⟨hl,rfl⟩:=itd e0; exact ⟨q,us,rfl,hl,a0d,h3.mono s⟩
  | dci ks vs=>obtain ⟨hl,rfl⟩:=itd e0; exact ⟨q,us,rfl,hl,a0d,h3.mono s⟩
  | dcz o ks vs=>obtain ⟨hl,rfl⟩:=itd e0; exact ⟨q,us,rfl,hl,a0d,h3.mono s⟩
  | obj C dx fs gs=>cases e0; exact ⟨q,rfl,a0d⟩
  | dcn z ks vs=>obtain ⟨hl,rfl⟩:=itd e0; exact ⟨q,us,rfl,hl,a0d,h3.mono s⟩
  | _=>cases e0
theorem a4l (h:FF X C a ea):FE X C a ea:=PE.imp h fun σ H Q ⟨c,L,S,Q0,I,h,k⟩=>⟨c,L,S,Q0,I,h,fun v L' q a S' H' o fr I' s'=>by
 obtain ⟨u,hu,I2,r⟩:=b7c I' o fr
 exact k v L' q _ _ H' r I2 (s'.trans (a0r o.1))⟩
theorem c5x (G:Good X C n sp) {t:TA} (h:C.nm i nx=true) (hr:PA X.nox xs t):PA X.nox (.Name nx p :: xs) (c0n (c0c i) t):=a0n (a0w G h) hr rfl
theorem a9f {Q:VK} {fr:Bool} {Q1:FV→a0c→Prop} (I:Iv K c md L σ S H) (m:a0i md i=.own) (h:a1f call f i as L Q1)
  (k:∀ v L' x H1 S' H',Q1 v L'→c8e K S' H' H1 v x fr→Iv K c md L' σ S' H'→Same S S'→(∀ a,H1 a=none→a7j c md L' σ a)→Q x H'):c0n (c0c i) (la K md as) σ H fun vs H1=>spQ K call true fr f vs H1 Q E0:=by
 obtain ⟨v0,e,h⟩:=wpx h
 have mi:a0i md i≠.imm:=fun z=>by rw [m] at z; cases z
 obtain ⟨l,e1,_⟩:=I.own i v0 mi ((a4i _ _ _).mp e)
 refine ⟨_,e1,c,L,S,_,I,h,fun vs L1 hv us S1 H1 r1 I1 s1=>?_⟩
 obtain ⟨v1,e2,q⟩:=wpx hv
 have e2:=(a4i _ _ _).mp e2
 obtain ⟨l',f1,o,_⟩:=I1.own i v1 mi e2
 rw [e1] at f1; cases f1
 refine ⟨S1,v1 :: vs,_,I1.sub,⟨v1,vs,l,us,rfl,rfl,o,r1⟩,q,fun z q x S' H' kp r=>?_⟩
 have I2:=I1.back3 m e2 e1 kp.same kp.sub kp.grow (fun b o e n=>kp.keep b o e fun z=>n (by cases z; rfl)) (kp.back l rfl)
 refine k _ _ x H1 S' H' q r I2 (s1.trans kp.same) fun a ha=>⟨I1.h0 ha,(I1.fresh ha).2.1,fun j w mj ej z=>?_⟩
 obtain ⟨_,_,g2⟩:=I1.fresh ha
 by_cases hj:j=i
 ·subst hj; exact g2 j v1 mj e2 z
 ·rw [List.getElem?_set_ne (Ne.symm hj)] at ej; exact g2 j w mj ej z
theorem d4a (G:Good X C n sp) {np:Str} {pp:Pos} (e:sp X.K f=spQ X.K call true false f) (hf:C.fns[f]?=some np) (hg:C.gl np=true) (hd:(np == ("__debug__":Str))=false) (h:C.nm i nx=true) (m:a0i C.md i=.own) (hs:a1e xs=true) (ha:FA X C xs as):FE X C (.Call (.Name np pp) (.Name nx p :: xs) [] pos) (a1f call f i as) :=
 PE.imp (b1u G hf hg hd (show (true && a1e xs)=true by rw [hs]; rfl) (c5x G h ha)) fun σ H Q ⟨c,L,S,Q0,I,h,k⟩=>by
  rw [e]
  exact a9f I m h fun v L' x H1 S' H' q r I' s' _=>k v L' q x S' H' r I' s'
end
section
variable {K:Γd} {c:Cn} {md:Md} {L:a0c} {σ:L2.St} {S H:Hp} {i:Nat} {v:FV} {x:V} {a:Addr}
theorem Iv.setI (I:Iv K c md L σ S H) (m:a0i md i=.imm) (r:RV K S v x):Iv K c md (L.set i (some v)) (σ.set i (some x)) S H :=
 I.set (fun a h z=>by subst z; exact (I.lent a h).1 m) (fun z=>by rw [m] at z; cases z) (.inl ⟨m,r⟩)
theorem Iv.prot (I:Iv K c md L σ S H) {o:HO} (h:H a=some o) (hs:S a=none) (ho:∀ i v,(a0i md i).w=true→L[i]?=some (some v)→σ[i]?≠some (some (.ref a))) (nt:a7c o=false:=by first | rfl | exact a5t _ _):Iv K { c with pr:=(a,o) :: c.pr } md L σ S H :=
 ⟨I.len,I.imm,I.own,I.dis,I.sub,I.frame,I.s0,I.grow,I.lent,I.fzs,I.fzm,fun p hp=>let ⟨xs,h⟩:=I.fzp p hp; ⟨xs,Γh _ h⟩,fun p hp=>(List.mem_cons.mp hp).elim (fun e=>e ▸ ⟨h,hs,ho⟩) (I.prs p),fun p hp=>(List.mem_cons.mp hp).elim (fun e=>e ▸ nt) (I.ntp p),I.lnt1,I.tie⟩
theorem b2n:∀ {md:Md} {i j:Nat} {m:Mo},i < md.length→a0i (md.set i m) j=if j=i then m else a0i md j
 | [],i,j,m,h=>absurd h (Nat.not_lt_zero _)
 | a :: md,0,0,m,h=>rfl
 | a :: md,0,j + 1,m,h=>by simp [a0i]
 | a :: md,i + 1,0,m,h=>by simp [a0i]
 | a :: md,i + 1,j + 1,m,h=>by
  have:=b2n (md:=md) (i:=i) (j:=j) (m:=m) (by simpa using h)
  simpa [a0i] using this
theorem c3p:∀ {md:Md} {i:Nat},a0i md i=.own→i < md.length
 | [],i,h=>by simp [a0i] at h
 | a :: md,0,h=>by simp
 | a :: md,i + 1,h=>by simpa using c3p (md:=md) (i:=i) h
theorem Iv.frz (I:Iv K c md L σ S H) {ob:HO} (m:a0i md i=.own) (e:L[i]?=some (some v)) (e1:σ[i]?=some (some (.ref a))) (h:H a=some ob) :
  Iv K { c with fz:=(i,a) :: c.fz,pr:=(a,ob) :: c.pr } (md.set i .frz) L σ S H∧∀ L σ S H,Iv K { c with fz:=(i,a) :: c.fz,pr:=(a,ob) :: c.pr } (md.set i .frz) L σ S H→Iv K c md L σ S H:=by
 have hl:=c3p m
 have mi:a0i md i≠.imm:=fun z=>by rw [m] at z; cases z
 have M:∀ j,a0i (md.set i .frz) j=if j=i then .frz else a0i md j:=fun j=>b2n hl
 have im:∀ {j},a0i (md.set i .frz) j=.imm↔a0i md j=.imm:=fun {j}=>by
  rw [M]
  by_cases q:j=i
  ·subst q; rw [if_pos rfl,m]; simp
  ·rw [if_neg q]
 have gm:∀ {j},(a0i md j).g=true→a0i (md.set i .frz) j=a0i md j:=fun {j} h=>by
  rw [M,if_neg fun q=>by rw [q,m] at h; cases h]
 have gm':∀ {j k x},a0i (md.set i .frz) j=.gst k x→a0i md j=.gst k x:=fun {j k x} h=>by
  rw [M] at h
  split at h
  ·cases h
  ·exact h
 have om:∀ {j},a0i (md.set i .frz) j=.ob→a0i md j=.ob:=fun {j} h=>by
  rw [M] at h
  split at h
  ·cases h
  ·exact h
 have nfz:∀ p∈c.fz,p.1≠i:=fun p hp z=>by have:=(I.fzs p hp).1; rw [z,m] at this; cases this
 have npr:∀ p∈c.pr,p.1≠a:=fun p hp z=>(I.prs p hp).2.2 i v (Mo.w_own m) e (by rw [z]; exact e1)
 obtain ⟨a',f1,o,_⟩:=I.own i v mi e
 rw [e1] at f1; cases f1
 have nt:a7c ob=false:=by
  obtain ⟨_,_,_,_,h5,_⟩:=o
  rw [h] at h5; rw [Option.some.inj h5,a5t]
 constructor
 ·refine ⟨I.len,fun j w h=>I.imm j w (im.mp h),fun j w h=>I.own j w (fun z=>h (im.mpr z)),fun j k w u b h1 h2=>I.dis j k w u b (fun z=>h1 (im.mpr z)) (fun z=>h2 (im.mpr z)),I.sub,I.frame,I.s0,I.grow,fun b hb=>let ⟨g1,g2⟩:=I.lent b hb; ⟨fun z=>g1 (im.mp z),g2⟩,fun p hp=>?_,fun j w hm hj=>?_,fun p hp=>?_,fun p hp=>?_,fun p hp=>(List.mem_cons.mp hp).elim (fun z=>by rw [z]; exact nt) (I.ntp p),fun q hq=>let ⟨g1,g2⟩:=I.lnt1 q hq; ⟨by rw [gm g1]; exact g1,g2⟩,fun j k x C dx fs w h1 h2=>I.tie j k x C dx fs w (gm' h1) (om h2)⟩
  ·rcases List.mem_cons.mp hp with rfl | hp
   ·exact ⟨by rw [M,if_pos rfl],e1,v,e⟩
   ·obtain ⟨g1,g2⟩:=I.fzs p hp
    exact ⟨by rw [M,if_neg (nfz p hp)]; exact g1,g2⟩
  ·by_cases q:j=i
   ·subst q; exact ⟨a,Γn⟩
   ·rw [M,if_neg q] at hm
    obtain ⟨b,g1⟩:=I.fzm j w hm hj
    exact ⟨b,Γh _ g1⟩
  ·rcases List.mem_cons.mp hp with rfl | hp
   ·exact ⟨_,Γn⟩
   ·obtain ⟨ys,g⟩:=I.fzp p hp
    exact ⟨ys,Γh _ g⟩
  ·have own':∀ {j},(a0i (md.set i .frz) j).w=true→j≠i∧(a0i md j).w=true:=fun {j} z=>by
    by_cases q:j=i
    ·subst q; rw [M,if_pos rfl] at z; cases z
    ·rw [M,if_neg q] at z; exact ⟨q,z⟩
   rcases List.mem_cons.mp hp with rfl | hp
   ·exact ⟨h,o.1,fun j w hm hj hz=>(own' hm).1 (I.dis j i w v a (Mo.w_imm (own' hm).2) mi hj e hz e1)⟩
   ·obtain ⟨g1,g2,g3⟩:=I.prs p hp
    exact ⟨g1,g2,fun j w hm=>g3 j w (own' hm).2⟩
 ·intro L σ S H J
  obtain ⟨_,j1,_⟩:=J.fzs (i,a) Γn
  refine ⟨J.len,fun j w h=>J.imm j w (im.mpr h),fun j w h=>J.own j w (fun z=>h (im.mp z)),fun j k w u b h1 h2=>J.dis j k w u b (fun z=>h1 (im.mp z)) (fun z=>h2 (im.mp z)),J.sub,J.frame,J.s0,J.grow,fun b hb=>let ⟨g1,g2⟩:=J.lent b hb; ⟨fun z=>g1 (im.mpr z),g2⟩,fun p hp=>?_,fun j w hm hj=>?_,I.fzp,fun p hp=>?_,I.ntp,fun q hq=>?_,fun j k x C dx fs w h1 h2=>?_⟩
  ·obtain ⟨g1,g2⟩:=J.fzs p (Γh _ hp)
   rw [M,if_neg (nfz p hp)] at g1
   exact ⟨g1,g2⟩
  ·have q:j≠i:=fun z=>by rw [z,m] at hm; cases hm
   obtain ⟨b,g1⟩:=J.fzm j w (by rw [M,if_neg q]; exact hm) hj
   rcases List.mem_cons.mp g1 with z | g1
   ·exact absurd (Prod.mk.inj z).1 q
   ·exact ⟨b,g1⟩
  ·obtain ⟨g1,g2,g3⟩:=J.prs p (Γh _ hp)
   refine ⟨g1,g2,fun j w hm hj=>?_⟩
   by_cases q:j=i
   ·subst q; rw [j1]; exact fun z=>npr p hp (by cases z; rfl)
   ·exact g3 j w (by rw [M,if_neg q]; exact hm) hj
  ·obtain ⟨g1,g2⟩:=J.lnt1 q hq
   refine ⟨?_,g2⟩
   rw [M] at g1
   split at g1
   ·cases g1
   ·exact g1
  ·have n1:j≠i:=fun z=>by rw [z,m] at h1; cases h1
   have n2:k≠i:=fun z=>by rw [z,m] at h2; cases h2
   exact J.tie j k x C dx fs w (by rw [M,if_neg n1]; exact h1) (by rw [M,if_neg n2]; exact h2)
end
noncomputable def ItR (K:Γd) (c:Cn) (md:Md) (J:It) (xs:List FV) (S1:Hp):Prop :=
 ∀ (i:Nat) (L:a0c) (σ:L2.St) (S H:Hp),Iv K c md L σ S H→Same S1 S→(xs[i]?=none→J.stop i H)∧∀ p,xs[i]?=some p→J.go i H∧∀ v H',J.yld i H v H'→∃ S',Same S S'∧(∀ c md L σ,Iv K c md L σ S H→Iv K c md L σ S' H')∧RV K S' p v
noncomputable def li (K:Γd) (md md':Md) (it:AW):TI:=fun σ H R=>∃ c L S Q0,Iv K c md L σ S H∧it L Q0∧∀ xs L',Q0 xs L'→∀ J c' S' H',Iv K c' md' L' σ S' H'→(∀ L σ S H,Iv K c' md' L σ S H→Iv K c md L σ S H)→c'.H0=c.H0→ItR K c' md' J xs S'→Same S S'→R J H'
noncomputable def FI (X:Cx) (C:CC) (md':Md) (tg iter:Expr) (it:AW):Prop:=PI X.nox tg iter (li X.K C.md md' it)
section
variable {X:Cx} {C:CC} {n:Nat} {sp:Γd→Nat→Sp} {a b d x y z tg:Expr} {ea eb ec:EW} {pos p:Pos}
variable {K:Γd} {c:Cn} {md:Md} {L:a0c} {σ:L2.St} {S H:Hp} {i:Nat} {nx:Str}
theorem PI.imp {X:Cx} {tg it:Expr} {t u:TI} (h:PI X tg it t) (f:∀ σ H R,u σ H R→t σ H R):PI X tg it u:=fun pins s σ H R I hu=>h pins s σ H R I (f σ H R hu)
noncomputable def Its (K:Γd):Bool→Addr→It
 | true,a=>Itl K a
 | false,a=>Itt K a
theorem c9t {X:Cx} {tg it:Expr} {te:TE} (h:PE X it te):PI X tg it (fun σ H R=>te σ H fun v H1=>∃ b a xs,v=.ref a∧SqB b X.K H1 a xs∧R (Its X.K b a) H1):=by
 intro pins s σ H R I hh
 refine thn (h pins s σ H _ I hh) fun v s1 ⟨x,H1,I1,r1,b,a,xs,e,hq,q⟩=>?_
 subst e
 cases r1
 cases b with
 | true =>
  obtain ⟨its,rv,p,hz⟩:=I1.list hq
  refine wpAny_pyIter_list p.isList ?_
  refine ⟨s1.heap.objs.size,[s1.heap.objs.size],_,_,H1,rfl,I1.kept (t':=s1.toks) fun b o e=>Γc _ e,b5c a _,⟨_,Γm _ rfl,rfl,rfl⟩,fun b hb=>?_,q⟩
  have e:b=s1.heap.objs.size:=by simpa using hb
  subst e
  exact I1.fpOk (Γi _) (I1.hok.fresh (Γi _))
 | false =>
  obtain ⟨its,rv,p,hz⟩:=I1.tuple hq
  refine wpAny_pyIter_tuple p ?_
  refine ⟨s1.heap.objs.size,[s1.heap.objs.size],_,_,H1,rfl,I1.kept (t':=s1.toks) fun b o e=>Γc _ e,b3m a _,⟨_,Γm _ rfl,rfl,rfl⟩,fun b hb=>?_,q⟩
  have e:b=s1.heap.objs.size:=by simpa using hb
  subst e
  exact I1.fpOk (Γi _) (I1.hok.fresh (Γi _))
theorem d1d {t:Bool} {q:Addr} {ps:List FV} {S1:Hp} (h:∀ L σ S H,Iv K c md L σ S H→Same S1 S→∃ vs,SqB t K H q vs∧RVs K S ps vs):ItR K c md (Its K t q) ps S1:=by
 intro i L σ S H I s
 obtain ⟨vs,h1,h2⟩:=h L σ S H I s
 cases t with
 | true =>
  refine ⟨fun e=>⟨vs,h1,by rw [← h2.length]; exact List.getElem?_eq_none_iff.mp e⟩,fun p ep=>?_⟩
  obtain ⟨v,e1,r1⟩:=h2.get ep
  refine ⟨⟨vs,v,h1,e1⟩,fun w H' ⟨eh,y⟩=>?_⟩
  have:=y vs h1
  rw [e1] at this; cases this
  subst eh
  exact ⟨S,Same.refl S,fun _ _ _ _ I=>I,r1⟩
 | false =>
  refine ⟨fun e=>⟨vs,h1,by rw [← h2.length]; exact List.getElem?_eq_none_iff.mp e⟩,fun p ep=>?_⟩
  obtain ⟨v,e1,r1⟩:=h2.get ep
  refine ⟨⟨vs,v,h1,e1⟩,fun w H' ⟨eh,y⟩=>?_⟩
  have:=y vs h1
  rw [e1] at this; cases this
  subst eh
  exact ⟨S,Same.refl S,fun _ _ _ _ I=>I,r1⟩
theorem RV.stays {v:FV} {ps:List FV} {u:V} {S1:Hp} (r:RV K S1 v u) (e:a3r v=some ps):∃ q,u=.ref q∧∀ S H,Same S1 S→Same S H→∃ vs,SqB (isL v) K H q vs∧RVs K S ps vs:=by
 cases v with
 | tup qs=>cases e; obtain ⟨q,vs,rfl,h1,h2⟩:=r; exact ⟨q,rfl,fun S H s s'=>⟨vs,SqT.of (s' _ _ (s _ _ h1)),h2.mono s⟩⟩
 | lst qs=>cases e; obtain ⟨q,vs,rfl,h1,h2⟩:=r; exact ⟨q,rfl,fun S H s s'=>⟨vs,SqL.of (s' _ _ (s _ _ h1)),h2.mono s⟩⟩
 | scr ns=>cases e; obtain ⟨q,rfl,h⟩:=r; exact ⟨q,rfl,fun S H s s'=>⟨_,h.sq (s.trans s'),RVs.ns ns⟩⟩
 | _=>cases e
theorem fi_seq (ha:FE X C a ea):FI X C C.md tg a (c8o ea):=PI.imp (c9t ha) fun σ H R ⟨c,L,S,Q0,I,h,k⟩ =>
 ⟨c,L,S,_,I,h,fun v L1 hv x S1 H1 r1 I1 s1=>by
  obtain ⟨ps,e,q⟩:=wpx hv
  obtain ⟨l,rfl,st⟩:=r1.stays e
  obtain ⟨vs,h1,h2⟩:=st S1 H1 (Same.refl _) I1.sub
  exact ⟨isL v,l,vs,rfl,h1,k ps L1 q _ c S1 H1 I1 (fun _ _ _ _ I=>I) rfl (d1d fun L σ S H I s=>st S H s I.sub) s1⟩⟩
theorem b0u:∀ (n:Nat) (lo:Int) (i:Nat),(upF lo n)[i]?=if i < n then some (.int (lo + i)) else none
 | 0,lo,i=>by simp [upF]
 | n + 1,lo,0=>by simp [upF]
 | n + 1,lo,i + 1=>by
  show (upF (lo + 1) n)[i]?=_
  rw [b0u n (lo + 1) i]
  have e:lo + 1 + (i:Int)=lo + ((i + 1:Nat):Int):=by lia
  rw [e]
  simp
theorem c3w {lo:Int} {m:Nat} {S1:Hp}:ItR K c md (Itr lo m) (upF lo m) S1:=by
 intro i L σ S H I s
 rw [b0u]
 by_cases h:i < m
 ·rw [if_pos h]
  refine ⟨fun e=>(nomatch e),fun p e=>?_⟩
  cases e
  exact ⟨h,fun v H' ⟨e1,e2⟩=>⟨S,Same.refl S,by rw [e1]; exact fun _ _ _ _ I=>I,e2⟩⟩
 ·rw [if_neg h]
  exact ⟨fun _=>show m≤i by lia,fun p e=>(nomatch e)⟩
theorem fi_rng (G:Good X C n sp) (hg:C.gl (Γe "range")=true) (hs:a0l a=false) (ha:FE X C a ea):FI X C C.md tg (.Call (.Name (Γe "range") p) [a] [] pos) (b2z ea):=PI.imp (b6i (G.gl hg) (G.blt "range" (by decide)) (a0n ha a1o (a0g hs)) (a0g hs)) fun σ H R ⟨c,L,S,Q0,I,h,k⟩ =>
 ⟨c,L,S,_,I,h,fun v L1 hv x S1 H1 r1 I1 s1=>by
  obtain ⟨j,e,hb,q⟩:=wpx hv
  cases a0v e
  have hb:=de hb
  exact ⟨j,by rw [show x=.int j from r1],hb.1,hb.2,k _ L1 q _ c S1 H1 I1 (fun _ _ _ _ I=>I) rfl c3w s1⟩⟩
theorem d8l (G:Good X C n sp) (hg:C.gl (Γe "range")=true) (hs:a0l a=false) (hs2:a0l b=false) (ha:FE X C a ea) (hb:FE X C b eb):FI X C C.md tg (.Call (.Name (Γe "range") p) [a,b] [] pos) (iRng2 ea eb) :=
 PI.imp (b6h (G.gl hg) (G.blt "range" (by decide)) (a0n ha (a0n hb a1o (a0g hs2)) (a0g hs)) (by rw [a0g hs,a0g hs2]; rfl) (a0g hs2)) fun σ H R ⟨c,L,S,Q0,I,h,k⟩ =>
 ⟨c,L,S,_,I,h,fun v L1 hv x S1 H1 r1 I1 s1=>⟨c,L1,S1,_,I1,hv,fun w L2 hw y S2 H2 r2 I2 s2=>by
  obtain ⟨j,e,hw⟩:=wpx hw
  obtain ⟨j',e',hb,q⟩:=wpx hw
  cases a0v e; cases a0v e'
  have hb:=b2 hb
  have h1:=de hb.1
  have h2:=de hb.2
  exact ⟨j,j',by rw [show x=.int j from r1,show y=.int j' from r2],⟨h1.1,h1.2,h2.1,h2.2⟩,k _ L2 q _ c S2 H2 I2 (fun _ _ _ _ I=>I) rfl c3w (s1.trans s2)⟩⟩⟩
theorem c1n {P Q:FV} {u w:V} {pp:Addr} (I:Iv K c md L σ S H) (hp:H pp=none) (r1:RV K S P u) (r2:RV K S Q w):∃ S',Same S S'∧(∀ c md L σ,Iv K c md L σ S H→Iv K c md L σ S' (upd H pp (.tup [u,w])))∧RV K S' (.tup [P,Q]) (.ref pp) :=
 ⟨upd S pp (.tup [u,w]),a0r (I.sn hp),fun _ _ _ _ I=>I.new hp _,pp,[u,w],rfl,a0d,u,[w],rfl,r1.mono (a0r (I.sn hp)),w,[],rfl,r2.mono (a0r (I.sn hp)),rfl⟩
theorem c6p {t:Bool} {q:Addr} {ps:List FV} {S1:Hp} (h:∀ L σ S H,Iv K c md L σ S H→Same S1 S→∃ vs,SqB t K H q vs∧RVs K S ps vs):ItR K c md (Ien K t q) (a3a (upF 0 ps.length) ps) S1:=by
 intro i L σ S H I s
 obtain ⟨vs,h1,h2⟩:=h L σ S H I s
 unfold a3a
 rw [List.getElem?_zipWith,b0u]
 refine ⟨fun z=>⟨vs,h1,?_⟩,fun y ey=>?_⟩
 ·rw [← h2.length]
  by_cases hi:i < ps.length
  ·rw [if_pos hi,List.getElem?_eq_getElem hi] at z; cases z
  ·lia
 ·by_cases hi:i < ps.length
  ·rw [if_pos hi,List.getElem?_eq_getElem hi] at ey
   cases ey
   obtain ⟨v,f1,f2⟩:=h2.get (List.getElem?_eq_getElem hi)
   refine ⟨⟨vs,v,h1,f1⟩,fun z H' ⟨pp,hp,ez,yy⟩=>?_⟩
   have:=yy vs v h1 f1
   subst this ez
   exact c1n I hp (show RV K S (.int (0 + i)) (.int i) by show V.int i=V.int (0 + i); rw [Int.zero_add]) f2
  ·rw [if_neg hi] at ey; cases ey
variable {elts:List Expr} {kk:Nat} {tp:Pos}
theorem d8n (G:Good X C n sp) (hg:C.gl (Γe "enumerate")=true) (hs:a0l a=false) (ha:FE X C a ea):FI X C C.md (.Tuple elts kk tp) (.Call (.Name (Γe "enumerate") p) [a] [] pos) (b4d ea) :=
 PI.imp (d6t (G.gl hg) (G.blt "enumerate" (by decide)) (a0n ha a1o (a0g hs)) (a0g hs)) fun σ H R ⟨c,L,S,Q0,I,h,k⟩ =>
 ⟨c,L,S,_,I,h,fun v L1 hv x S1 H1 r1 I1 s1=>by
  obtain ⟨ps,e,q⟩:=wpx hv
  obtain ⟨l,rfl,st⟩:=r1.stays e
  obtain ⟨vs,h1,_⟩:=st S1 H1 (Same.refl _) I1.sub
  exact ⟨_,l,rfl,⟨vs,h1⟩,k _ L1 q _ c S1 H1 I1 (fun _ _ _ _ I=>I) rfl (c6p fun L σ S H I s=>st S H s I.sub) s1⟩⟩
end
noncomputable def gTs:List Nat→TGs
 | []=>d7z
 | i :: is=>c2d (a6h i) (gTs is)
noncomputable def gT (K:Γd):Tg→TG
 | .nm i=>a6h i
 | .tp is=>d3r K is.length (gTs is)
 | .tn i is=>d3r K 2 (c2d (a6h i) (c2d (d3r K is.length (gTs is)) d7z))
noncomputable def a3k (md:Md):Tg→Bool
 | .nm i=>decide (a0i md i=.imm)
 | .tp is=>is.all fun i=>decide (a0i md i=.imm)
 | .tn i is=>decide (a0i md i=.imm) && is.all fun i=>decide (a0i md i=.imm)
noncomputable def a8c (n:Nat):Tg→Bool
 | .nm i=>decide (n≤i)
 | .tp is=>is.all fun i=>decide (n≤i)
 | .tn i is=>decide (n≤i) && is.all fun i=>decide (n≤i)
noncomputable def FG (X:Cx) (t:Expr) (tg:Tg):Prop:=PG X.nox t (gT X.K tg)
section
variable {K:Γd} {c:Cn} {md:Md} {L:a0c} {σ:L2.St} {S H:Hp}
theorem a8h:∀ {is:List Nat} {ps:List FV} {vs:List V} {L L':a0c} {σ:L2.St},(is.all fun i=>decide (a0i md i=.imm))=true→Iv K c md L σ S H→RVs K S ps vs→a8i L is ps=some L' →
  ∃ σ',(∀ Q:L2.St→Hp→Prop,Q σ' H→gTs is vs σ H Q)∧Iv K c md L' σ' S H∧σ'.length=σ.length∧is.length=vs.length∧∀ n,(is.all fun i=>decide (n≤i))=true→∀ j,j < n→σ'[j]?=σ[j]?
 | [],[],vs,L,L',σ,_,I,r,e=>by cases (show vs=[] from r); cases e; exact ⟨σ,fun Q q=>⟨rfl,q⟩,I,rfl,rfl,fun _ _ _ _=>rfl⟩
 | i :: is,p :: ps,vs,L,L',σ,hm,I,r,e=>by
  obtain ⟨v,q,rfl,h1,h2⟩:=r
  have hm:=b2 (show (decide (a0i md i=.imm) && is.all fun i=>decide (a0i md i=.imm))=true from hm)
  obtain ⟨σ',g,I',l1,l2,far⟩:=a8h (is:=is) (ps:=ps) (vs:=q) hm.2 (I.setI (de hm.1) h1) h2 e
  refine ⟨σ',fun Q q'=>⟨v,q,rfl,g Q q'⟩,I',by rw [l1,List.length_set],by rw [List.length_cons,List.length_cons,l2],fun n hn j hj=>?_⟩
  have hn:=b2 (show (decide (n≤i) && is.all fun i=>decide (n≤i))=true from hn)
  have:=de hn.1
  rw [far n hn.2 j hj,List.getElem?_set_ne (by lia)]
 | [],p :: ps,_,_,_,_,_,_,_,e=>by cases e
 | i :: is,[],_,_,_,_,_,_,_,e=>by cases e
theorem a7v {tg:Tg} {v:FV} {x:V} {Q:a0c→Prop} (hm:a3k md tg=true) (I:Iv K c md L σ S H) (r:RV K S v x) (h:gW tg v L Q) :
  ∃ σ' L',(∀ Q':L2.St→Hp→Prop,Q' σ' H→gT K tg x σ H Q')∧Q L'∧Iv K c md L' σ' S H∧σ'.length=σ.length∧∀ n,a8c n tg=true→∀ j,j < n→σ'[j]?=σ[j]?:=by
 cases tg with
 | nm i =>
  refine ⟨σ.set i (some x),L.set i (some v),fun Q q=>q,h,I.setI (de hm) r,List.length_set ..,fun n hn j hj=>?_⟩
  have:n≤i:=de hn
  exact List.getElem?_set_ne (by lia)
 | tp is =>
  obtain ⟨ps,e,h⟩:=wpx h
  obtain ⟨L',e1,q⟩:=wpx h
  cases a1v e
  obtain ⟨a,vs,rfl,h1,h2⟩:=r
  obtain ⟨σ',g,I',l1,l2,far⟩:=a8h hm I h2 e1
  exact ⟨σ',L',fun Q q=>⟨a,vs,rfl,SqT.of (I.sub _ _ h1),l2.symm,g Q q⟩,q,I',l1,far⟩
 | tn i is =>
  have hm:=b2 hm
  obtain ⟨ps,e,h⟩:=wpx h
  obtain ⟨p,e1,h⟩:=wpx h
  obtain ⟨qs,e2,h⟩:=wpx h
  obtain ⟨L',e3,q⟩:=wpx h
  cases a1v e
  obtain ⟨p1,p2⟩:=p
  obtain rfl:ps=[p1,p2]:=by
   rcases ps with _ | ⟨a,_ | ⟨b,_ | ⟨c,r⟩⟩⟩ <;> first | (cases e1; done) | (cases e1; rfl)
  obtain ⟨a,vs,rfl,h1,h2⟩:=r
  obtain ⟨u,w,rfl,r1,r2⟩:=h2.two_of
  cases a1v e2
  obtain ⟨b,ws,rfl,h3,h4⟩:=r2
  obtain ⟨σ',g,I',l1,l2,far⟩:=a8h hm.2 (I.setI (de hm.1) r1) h4 e3
  refine ⟨σ',L',fun Q q=>⟨a,_,rfl,SqT.of (I.sub _ _ h1),rfl,_,_,rfl,_,_,rfl,b,ws,rfl,SqT.of (I.sub _ _ h3),l2.symm,g _ ⟨rfl,q⟩⟩,q,I',by rw [l1,List.length_set],fun n hn j hj=>?_⟩
  have hn:=b2 hn
  have:=de hn.1
  rw [far n hn.2 j hj,List.getElem?_set_ne (by lia)]
theorem Iv.regrow {a:Addr} {o o':HO} (I:Iv K { c with pr:=(a,o) :: c.pr } md L σ S H) (h0:c.H0 a=none) (hp:∀ p∈c.pr,p.1≠a) (hz:∀ p∈c.fz,∃ o,(p.2,o)∈c.pr) (nt:a7c o'=false:=by first | rfl | exact a5t _ _):Iv K { c with pr:=(a,o') :: c.pr } md L σ S (upd H a o'):=by
 obtain ⟨_,sa,na⟩:=I.prs (a,o) Γn
 have oa:∀ j w b,a0i md j≠.imm→L[j]?=some (some w)→σ[j]?=some (some (.ref b))→b≠a:=fun j w b hm hj hs z=>by
  subst z
  by_cases m:(a0i md j).w=true
  ·exact na j w m hj hs
  ·have m:a0i md j=.frz:=by cases q:a0i md j with | imm=>exact absurd q hm | frz=>rfl | _=>rw [q] at m; exact absurd rfl m
   obtain ⟨b',g1⟩:=I.fzm j w m hj
   obtain ⟨_,g2,_⟩:=I.fzs _ g1
   rw [hs] at g2; cases g2
   obtain ⟨xs,g3⟩:=hz _ g1
   exact hp _ g3 rfl
 refine ⟨I.len,I.imm,fun j w hm hj=>?_,I.dis,fun b u e=>?_,fun b u e n n1=>?_,I.s0,I.grow,I.lent,I.fzs,I.fzm,fun p hpz=>let ⟨xs,g⟩:=hz p hpz; ⟨xs,Γh _ g⟩,fun p hpr=>?_,fun p hpr=>(List.mem_cons.mp hpr).elim (fun z=>by rw [z]; exact nt) fun z=>I.ntp p (Γh _ z),I.lnt1,I.tie⟩
 ·obtain ⟨b,e1,⟨g1,ps,xs,g2,g3,g4⟩,g5⟩:=I.own j w hm hj
  exact ⟨b,e1,⟨g1,ps,xs,g2,by rw [a0b (oa j w b hm hj e1)]; exact g3,g4⟩,g5⟩
 ·rw [a0b fun z=>by subst z; rw [sa] at e; cases e]; exact I.sub b u e
 ·rw [a0b fun z=>by subst z; rw [h0] at e; cases e]; exact I.frame b u e n n1
 ·rcases List.mem_cons.mp hpr with rfl | hpr
  ·exact ⟨a0d,sa,na⟩
  ·obtain ⟨g1,g2,g3⟩:=I.prs p (Γh _ hpr)
   exact ⟨by rw [a0b (hp p hpr)]; exact g1,g2,g3⟩
theorem Iv.unprot {a:Addr} {o:HO} (I:Iv K { c with pr:=(a,o) :: c.pr } md L σ S H) (hz:∀ p∈c.fz,∃ o,(p.2,o)∈c.pr):Iv K c md L σ S H :=
 ⟨I.len,I.imm,I.own,I.dis,I.sub,I.frame,I.s0,I.grow,I.lent,I.fzs,I.fzm,hz,fun p hp=>I.prs p (Γh _ hp),fun p hp=>I.ntp p (Γh _ hp),I.lnt1,I.tie⟩
theorem c3q:∀ {md:Md} {i:Nat},md.length≤i→a0i md i=.imm
 | [],i,_=>rfl
 | a :: md,0,h=>absurd h (by simp)
 | a :: md,i + 1,h=>c3q (md:=md) (i:=i) (by simpa using h)
theorem Iv.more (I:Iv K c md L σ S H) (m:Nat):Iv K c md (L++Γj m none) (σ++Γj m none) S H:=by
 have look:∀ j w,(L++Γj m none)[j]?=some (some w)→L[j]?=some (some w)∧(σ++Γj m none)[j]?=σ[j]?:=fun j w z=>by
  by_cases h:j < L.length
  ·rw [List.getElem?_append_left h] at z
   exact ⟨z,List.getElem?_append_left (by rw [← I.len]; exact h)⟩
  ·rw [List.getElem?_append_right (by lia),List.getElem?_replicate] at z
   split at z <;> cases z
 have up:∀ j w,L[j]?=some (some w)→(L++Γj m none)[j]?=some (some w)∧(σ++Γj m none)[j]?=σ[j]?:=fun j w z=>by
  have h:=(List.getElem?_eq_some_iff.mp z).1
  exact ⟨by rw [List.getElem?_append_left h]; exact z,List.getElem?_append_left (by rw [← I.len]; exact h)⟩
 refine ⟨by simp [I.len],fun j w hm z=>?_,fun j w hm z=>?_,fun j k w u b m1 m2 z1 z2 y1 y2=>?_,I.sub,I.frame,I.s0,I.grow,fun b hb=>?_,fun p hp=>?_,fun j w hm z=>I.fzm j w hm (look j w z).1,I.fzp,fun p hp=>?_,I.ntp,fun q hq=>?_,fun j k x C dx fs w h1 h2 h3 h4=>?_⟩
 ·obtain ⟨z,y⟩:=look j w z; rw [y]; exact I.imm j w hm z
 ·obtain ⟨z,y⟩:=look j w z; rw [y]; exact I.own j w hm z
 ·obtain ⟨z1,q1⟩:=look j w z1
  obtain ⟨z2,q2⟩:=look k u z2
  rw [q1] at y1; rw [q2] at y2
  exact I.dis j k w u b m1 m2 z1 z2 y1 y2
 ·obtain ⟨g1,g2,w,g3⟩:=I.lent b hb
  obtain ⟨f1,f2⟩:=up 0 w g3
  exact ⟨g1,by rw [f2]; exact g2,w,f1⟩
 ·obtain ⟨g1,g2,w,g3⟩:=I.fzs p hp
  obtain ⟨f1,f2⟩:=up p.1 w g3
  exact ⟨g1,by rw [f2]; exact g2,w,f1⟩
 ·obtain ⟨g1,g2,g3⟩:=I.prs p hp
  refine ⟨g1,g2,fun j w hm z=>?_⟩
  obtain ⟨z,y⟩:=look j w z
  rw [y]; exact g3 j w hm z
 ·obtain ⟨g1,g2,w,g3⟩:=I.lnt1 q hq
  obtain ⟨f1,f2⟩:=up q.1 w g3
  exact ⟨g1,by rw [f2]; exact g2,w,f1⟩
 ·obtain ⟨z4,y4⟩:=look j w h4
  rw [y4]
  exact I.tie j k x C dx fs w h1 h2 (look k _ h3).1 z4
theorem Iv.take {n:Nat} {σ2:L2.St} (I:Iv K c md L σ2 S H) (hmd:md.length≤n) (hs:σ.length=n) (hl:n≤σ2.length) (e:∀ j,j < n→σ2[j]?=σ[j]?):Iv K c md (L.take n) σ S H:=by
 have look:∀ j w,(L.take n)[j]?=some (some w)→L[j]?=some (some w)∧σ[j]?=σ2[j]?:=fun j w z=>by
  have h:=(List.getElem?_eq_some_iff.mp z).1
  rw [List.length_take] at h
  rw [List.getElem?_take_of_lt (by lia)] at z
  exact ⟨z,(e j (by lia)).symm⟩
 have up:∀ j w,a0i md j≠.imm→L[j]?=some (some w)→(L.take n)[j]?=some (some w)∧σ[j]?=σ2[j]?:=fun j w hm z=>by
  have h:j < n:=by
   by_cases h:j < n
   ·exact h
   ·exact absurd (c3q (by lia)) hm
  exact ⟨by rw [List.getElem?_take_of_lt h]; exact z,(e j h).symm⟩
 refine ⟨by rw [List.length_take,I.len,hs]; lia,fun j w hm z=>?_,fun j w hm z=>?_,fun j k w u b m1 m2 z1 z2 y1 y2=>?_,I.sub,I.frame,I.s0,I.grow,fun b hb=>?_,fun p hp=>?_,fun j w hm z=>I.fzm j w hm (look j w z).1,I.fzp,fun p hp=>?_,I.ntp,fun q hq=>?_,fun j k x C dx fs w h1 h2 h3 h4=>?_⟩
 ·obtain ⟨z,y⟩:=look j w z; rw [y]; exact I.imm j w hm z
 ·obtain ⟨z,y⟩:=look j w z; rw [y]; exact I.own j w hm z
 ·obtain ⟨z1,q1⟩:=look j w z1
  obtain ⟨z2,q2⟩:=look k u z2
  rw [q1] at y1; rw [q2] at y2
  exact I.dis j k w u b m1 m2 z1 z2 y1 y2
 ·obtain ⟨g1,g2,w,g3⟩:=I.lent b hb
  obtain ⟨f1,f2⟩:=up 0 w g1 g3
  exact ⟨g1,by rw [f2]; exact g2,w,f1⟩
 ·obtain ⟨g1,g2,w,g3⟩:=I.fzs p hp
  obtain ⟨f1,f2⟩:=up p.1 w (fun z=>by rw [g1] at z; cases z) g3
  exact ⟨g1,by rw [f2]; exact g2,w,f1⟩
 ·obtain ⟨g1,g2,g3⟩:=I.prs p hp
  refine ⟨g1,g2,fun j w hm z=>?_⟩
  obtain ⟨z,y⟩:=look j w z
  rw [y]; exact g3 j w hm z
 ·obtain ⟨g1,g2,w,g3⟩:=I.lnt1 q hq
  obtain ⟨f1,f2⟩:=up q.1 w (fun z=>by rw [z] at g1; cases g1) g3
  exact ⟨g1,by rw [f2]; exact g2,w,f1⟩
 ·obtain ⟨z4,y4⟩:=look j w h4
  rw [y4]
  exact I.tie j k x C dx fs w h1 h2 (look k _ h3).1 z4
theorem c2t {J:It} {xs:List FV} {n m:Nat} {tg:Tg} {t:BW} {e:EW} {Q:VK} {Q1:List FV→a0c→Prop} (I:Iv K c md L σ S H) (hJ:ItR K c md J xs S) (hL:L.length=n) (hmd:md.length≤n) (ht:a3k md tg=true) (hg:a8c n tg=true) (hb:xs.length≤big) (h:a3z n m tg t e xs [] L Q1)
  (k:∀ acc ps L' S' H',H acc=none→Q1 ps L'→a2x K S' H' acc (.lst ps)→a7j c md L' σ acc→Iv K c md L' σ S' H'→Same S S'→Q (.ref acc) H') :
  ∀ acc,H acc=none→∃ W:Nat→Nat→Hp→Prop,(∃ m,W 0 m (upd H acc (.lst [])))∧∀ i j H,W i j H →
   (J.stop i H∧Q (.ref acc) H) ∨ (J.go i H∧∀ x H',J.yld i H x H'→gT K tg x (σ++Γj m none) H' fun σ2 H2=>Wk (σ++Γj m none) σ2∧lb K md t σ2 H2 fun b H3 =>
    if b=true then lv K md e σ2 H3 fun v H4=>∃ ys,H4 acc=some (.lst ys)∧ys.length < sizeLine∧∃ m',m' < j∧W (i + 1) m' (upd H4 acc (.lst (ys++[v]))) else ∃ m',m' < j∧W (i + 1) m' H3):=by
 intro acc hacc
 have h0:=I.h0 hacc
 have hp:∀ p∈c.pr,p.1≠acc:=(I.fresh hacc).2.1
 have hz:=I.fzp
 have hl:σ.length=n:=by rw [← I.len]; exact hL
 have hbl:=a1i
 let W:Nat→Nat→Hp→Prop:=fun i j H1=>∃ L S1 ps us,j=(xs.drop i).length∧Iv K { c with pr:=(acc,.lst us) :: c.pr } md L σ S1 H1∧RVs K S1 ps us∧Same S S1∧L.length=n∧ps.length≤i∧a3z n m tg t e (xs.drop i) ps L Q1
 have I1:Iv K { c with pr:=(acc,.lst []) :: c.pr } md L σ S (upd H acc (.lst [])):=(I.lay hacc _).prot a0d (I.sn hacc) fun j w hm hj=>(I.fresh hacc).2.2 j w (Mo.w_imm hm) hj
 refine ⟨W,⟨_,L,S,[],[],rfl,I1,rfl,Same.refl S,hL,Γi _,by rw [List.drop_zero]; exact h⟩,?_⟩
 rintro i j H1 ⟨L,S1,ps,us,rfl,I,r,s,hL,hps,hc⟩
 have I0:=I.unprot hz
 obtain ⟨j1,j2⟩:=hJ i L σ S1 H1 I0 s
 obtain ⟨g1,g2,g3⟩:=I.prs (acc,.lst us) Γn
 cases hd:xs.drop i with
 | nil =>
  left
  rw [hd] at hc
  refine ⟨j1 (List.getElem?_eq_none_iff.mpr (List.drop_eq_nil_iff.mp hd)),k acc ps L S1 H1 hacc hc ⟨g2,ps,us,rfl,g1,r⟩ ⟨h0,hp,fun q w hm hq hs=>?_⟩ I0 s⟩
  by_cases mo:(a0i md q).w=true
  ·exact g3 q w mo hq hs
  ·have mo:a0i md q=.frz:=by cases z:a0i md q with | imm=>exact absurd z hm | frz=>rfl | _=>rw [z] at mo; exact absurd rfl mo
   obtain ⟨b,f1⟩:=I0.fzm q w mo hq
   obtain ⟨_,f2,_⟩:=I0.fzs _ f1
   rw [hs] at f2; cases f2
   obtain ⟨ys,f3⟩:=hz _ f1
   exact hp _ f3 rfl
 | cons p rest =>
  right
  rw [hd] at hc
  have hi:xs[i]?=some p:=by
   have:=congrArg (·[0]?) hd
   simpa using this
  have hd':xs.drop (i + 1)=rest:=by
   have:=congrArg List.tail hd
   simpa [List.tail_drop] using this
  have hix:i < xs.length:=(List.getElem?_eq_some_iff.mp hi).1
  obtain ⟨go,yl⟩:=j2 p hi
  refine ⟨go,fun x H2 y=>?_⟩
  obtain ⟨S2,s2,tr,rx⟩:=yl x H2 y
  have I2:=(tr _ _ _ _ I).more m
  obtain ⟨σ2,L2,gq,q2,I2,len2,far⟩:=a7v ht I2 rx hc
  have l2:n≤σ2.length:=by rw [len2,List.length_append,hl]; lia
  have far':∀ q,q < n→σ2[q]?=σ[q]?:=fun q hq=>by rw [far n hg q hq,List.getElem?_append_left (by rw [hl]; exact hq)]
  refine gq _ ⟨⟨len2,fun q v hv=>?_⟩,?_⟩
  ·have hq:q < n:=by
    by_cases h:q < σ.length
    ·rw [← hl]; exact h
    ·rw [List.getElem?_append_right (by lia),List.getElem?_replicate] at hv
     split at hv <;> cases hv
   rw [far n hg q hq]; exact hv
  ·refine ⟨_,L2,S2,_,I2,q2,fun b L3 hb3 S3 H3 I3 s3=>?_⟩
   cases b with
   | false =>
    rw [if_neg Γk] at hb3 ⊢
    exact ⟨rest.length,by simp,L3.take n,S3,ps,us,by rw [hd'],I3.take hmd hl l2 far',r.mono (s2.trans s3),s.trans (s2.trans s3),by rw [List.length_take,I3.len]; lia,by lia,by rw [hd']; exact hb3⟩
   | true =>
    rw [if_pos rfl] at hb3 ⊢
    refine ⟨_,L3,S3,_,I3,hb3,fun v L4 hv u S4 H4 r4 I4 s4=>?_⟩
    obtain ⟨k1,_⟩:=I4.prs (acc,.lst us) Γn
    have lr:=r.length
    exact ⟨us,k1,by lia,rest.length,by simp,L4.take n,S4,ps++[v],us++[u],by rw [hd'],(I4.take hmd hl l2 far').regrow h0 hp hz,(r.mono (s2.trans (s3.trans s4))).append (RVs.one r4),s.trans (s2.trans (s3.trans s4)),by rw [List.length_take,I4.len]; lia,by simp; lia,by rw [hd']; exact hv⟩
end
noncomputable def b7x:Expr→Bool
 | .Set ..=>true
 | _=>false
theorem b8j {x:Expr} {env:Env} (h:b7x x=false):∀ v,foldedSetIterable x env v=pure v:=by
 intro v
 cases x <;> first | rfl | (cases h; done)
noncomputable def CC.tn (C:CC) (i:Nat) (x:Str):Bool:=decide (C.N[i]?=some x) && C.loc x
noncomputable def d6f (outer:List (Str×NameKind)) (names:List (Str×NameKind)):List (Str×NameKind) :=
 names.map fun (n,k)=>if (k == NameKind.free && outer.lookup n == some .cell) then (n,NameKind.cell) else (n,k)
noncomputable def CC.sub (C:CC) (scope:Scope) (own:List Str) (md:Md):CC:=⟨C.N.map (a8s own)++own,d6f C.sc scope.names,C.fns,md,false,scope.names,C.ms,C.fl⟩
noncomputable def CC.scOk (C:CC) (scope:Scope) (own:List Str):Bool :=
 decide (scope.kind=.function) && scope.names.all (fun p=>decide (p.2=.cell→scope.names.lookup p.1=some .cell)) && scope.names.all (fun p=>decide (p.2=.local→scope.names.lookup p.1=some .local)) &&
 scope.names.all (fun p=>decide (p.2=.free→(C.sc.lookup p.1=some .cell ∨ C.sc.lookup p.1=some .free))) && C.N.all (fun x=>if own.contains x then decide (scope.names.lookup (d3q x)=none) else decide (scope.names.lookup x≠some .local∧scope.names.lookup x≠some .cell)) && decide ((C.N.map (a8s own)++own).Nodup)
noncomputable def d0x:Md→Md→Bool
 | [],_=>true
 | a :: md,[]=>decide (a=.imm) && d0x md []
 | a :: md,b :: md'=>(decide (a=.imm) || !decide (b=.imm)) && d0x md md'
theorem a5w:∀ {md md':Md},d0x md md'=true→∀ j,a0i md j≠.imm→a0i md' j≠.imm
 | [],_,_,j,h=>absurd rfl h
 | a :: md,[],h,0,h0=>absurd (de (b2 h).1) h0
 | a :: md,[],h,j + 1,h0=>a5w (md:=md) (md':=[]) (b2 h).2 j h0
 | a :: md,b :: md',h,0,h0=>fun z=>by
  have h:=(b2 h).1
  have h0:a≠.imm:=h0
  have z:b=.imm:=z
  simp [h0,z] at h
 | a :: md,b :: md',h,j + 1,h0=>a5w (md:=md) (md':=md') (b2 h).2 j h0
noncomputable def FGs (X:Cx) (es:List Expr) (is:List Nat):Prop:=PGs X.nox es (gTs is)∧(assignEach es X.env).length=is.length∧(assignEach es X.env).findIdx? (·.1)=none
noncomputable def FTs (X:Cx) (C:CC) (xs:List Expr) (t:BW):Prop:=PTs X.nox xs (lb X.K C.md t)
section
variable {X:Cx} {C:CC} {n:Nat} {sp:Γd→Nat→Sp} {a b x:Expr} {xs:List Expr} {pos p:Pos} {i k:Nat} {nx:Str} {is:List Nat} {t u:BW}
theorem Good.ix (G:Good X C n sp) {y:Str} (h:decide (C.N[i]?=some y)=true):X.N[i]?=some y:=by rw [G.N]; exact de h
theorem Good.nd' (G:Good X C n sp):X.N.Nodup:=by rw [G.N]; exact G.nd
theorem d8p (G:Good X C n sp) (h:C.tn i nx=true):FG X (.Name nx p) (.nm i):=by
 have h:=b2 h
 obtain ⟨l1,l2⟩:=G.loc h.2
 exact c5p (X:=X.nox) G.nd' (G.ix h.1) l1 l2
theorem d8o:FGs X [] []:=⟨c5o,rfl,rfl⟩
theorem d3u (G:Good X C n sp) (h:C.tn i nx=true) (r:FGs X xs is):FGs X (.Name nx p :: xs) (i :: is):=by
 obtain ⟨h1,h2,h3⟩:=r
 refine ⟨c1b (d8p G h) h1 rfl,?_,?_⟩
 ·show (assignEach xs X.env).length + 1=is.length + 1
  rw [h2]
 ·show ((false,assign (.Name nx p) X.env) :: assignEach xs X.env).findIdx? (·.1)=none
  rw [List.findIdx?_cons]
  simp [h3]
theorem d1n (G:Good X C n sp) (r:FGs X xs is):FG X (.Tuple xs k p) (.tp is):=c9u (X:=X.nox) G.calm r.1 r.2.1 r.2.2
theorem PTs.imp {e:List Expr} {t u:TT} (h:PTs X e t) (f:∀ σ H Q,u σ H Q→t σ H Q):PTs X e u:=fun pins s σ H Q I hu=>h pins s σ H Q I (f σ H Q hu)
theorem d8c:FTs X C [] a2f:=PTs.imp b6b fun σ H Q ⟨c,L,S,Q0,I,h,k⟩=>k true L h S H I (Same.refl S)
theorem d8b (h1:FB X C a t):FTs X C [a] t:=PTs.imp (c0v h1 (b6b (X:=X.nox))) fun σ H Q ⟨c,L,S,Q0,I,h,k⟩ =>
 ⟨c,L,S,_,I,h,fun r L1 q S1 H1 I1 s1=>by
  cases r with
  | true=>rw [if_pos rfl]; exact k true L1 q S1 H1 I1 s1
  | false=>rw [if_neg Γk]; exact k false L1 q S1 H1 I1 s1⟩
theorem Good.sub (G:Good X C n sp) {scope:Scope} {own:List Str} (h:C.scOk scope own=true) (md:Md):CScope X scope own∧∀ fp D s H,Good (cxC X scope own fp D s H) (C.sub scope own md) n sp:=by
 simp only [CC.scOk,Bool.and_eq_true,decide_eq_true_eq,List.all_eq_true] at h
 obtain ⟨⟨⟨⟨⟨h1,h2⟩,h3⟩,h4⟩,h5⟩,h6⟩:=h
 refine ⟨⟨h1,fun p hp=>by simpa using h2 p hp,fun p hp=>by simpa using h3 p hp,fun p hp hk=>?_,fun x hx hw=>?_,fun x hx hw=>?_⟩,fun fp D s H=>⟨?_,?_,h1,h6,G.calm,(fun x z=>z),G.room,G.fns,G.blt,G.mts,G.fls⟩⟩
 ·have:=h4 p hp
  show X.env.scope.names.lookup p.1=_ ∨ X.env.scope.names.lookup p.1=_
  rw [G.sc]; exact this hk
 ·have:=h5 x (by rw [← G.N]; exact hx)
  rw [if_neg (by rw [hw]; exact Γk)] at this
  exact de this
 ·have:=h5 x (by rw [← G.N]; exact hx)
  rw [if_pos hw] at this
  exact de this
 ·show X.N.map (a8s own)++own=C.N.map (a8s own)++own
  rw [G.N]
 ·show (relabel scope X.env).names=d6f C.sc scope.names
  unfold relabel d6f
  simp only
  refine List.map_congr_left fun p hp=>?_
  obtain ⟨nm,kd⟩:=p
  show (if (kd == NameKind.free && X.env.scope.kind == .function && X.env.scope.names.lookup nm == some .cell)=true then (nm,NameKind.cell) else (nm,kd))=_
  rw [G.kind,G.sc]
  simp
variable {scope:Scope} {own:List Str} {elt tgx iter:Expr} {ifs:List Expr} {it:AW} {tg:Tg} {e:EW} {nn m:Nat} {md':Md}
structure CompOk (X:Cx) (C:CC) (n:Nat) (sp:Γd→Nat→Sp) (scope:Scope) (own:List Str) (elt tgx iter:Expr) (ifs:List Expr) (nn m:Nat) (md':Md) (it:AW) (tg:Tg) (t:BW) (e:EW):Prop where
 st:(C.scOk scope own && decide (C.N.length=nn) && decide (own.length=m) && decide (md'.length≤nn) && d0x C.md md' && a3k md' tg && a8c nn tg && !b7x iter)=true
 it:FI X C md' tgx iter it
 tg:∀ X',Good X' (C.sub scope own md') n sp→FG X' tgx tg
 ts:∀ X',Good X' (C.sub scope own md') n sp→FTs X' (C.sub scope own md') ifs t
 el:∀ X',Good X' (C.sub scope own md') n sp→FE X' (C.sub scope own md') elt e
theorem CompOk.run (G:Good X C n sp) (h:CompOk X C n sp scope own elt tgx iter ifs nn m md' it tg t e) {σ:L2.St} {H:Hp} {Q:VK} (hq:lf X.K C.md (a2t nn m it tg t e) σ H Q):c4k (li X.K C.md md' it) (gT X.K tg) (lb X.K md' t) (lv X.K md' e) own.length σ H Q:=by
 have h0:=b2 h.st; have h1:=b2 h0.1; have h2:=b2 h1.1; have h3:=b2 h2.1; have h4:=b2 h3.1; have h5:=b2 h4.1; have h6:=b2 h5.1
 obtain ⟨c,L,S,Q0,I,hh,k⟩:=hq
 refine ⟨c,L,S,_,I,hh,fun xs L1 hx J c' S1 H1 I1 un e0 hJ s1=>?_⟩
 obtain ⟨hl,hb,hc⟩:=hx
 rw [de h5.2]
 refine c2t I1 hJ hl (de h4.2) h2.2 h1.2 hb hc fun acc ps L' S' H' hn q o fr I' s'=>k _ L' q acc S' H' o ⟨by rw [← e0]; exact fr.1,((un _ _ _ _ I1).fresh hn).2.1,fun j w hm=>fr.2.2 j w (a5w h3.2 j hm)⟩ (un _ _ _ _ I') (s1.trans s')
theorem CompOk.blk (G:Good X C n sp) (h:CompOk X C n sp scope own elt tgx iter ifs nn m md' it tg t e):CScope X scope own∧(∀ fp D s H,PG (cxC X scope own fp D s H) tgx (gT X.K tg)∧PTs (cxC X scope own fp D s H) ifs (lb X.K md' t)∧PE (cxC X scope own fp D s H) elt (lv X.K md' e))∧∀ v,foldedSetIterable iter X.env v=pure v:=by
 have h0:=b2 h.st; have h1:=b2 h0.1; have h2:=b2 h1.1; have h3:=b2 h2.1; have h4:=b2 h3.1; have h5:=b2 h4.1; have h6:=b2 h5.1
 obtain ⟨s1,s2⟩:=G.sub h6.1 md'
 exact ⟨s1,fun fp D s H=>⟨h.tg _ (s2 fp D s H),h.ts _ (s2 fp D s H),h.el _ (s2 fp D s H)⟩,b8j (nb h0.2)⟩
theorem a1q (G:Good X C n sp) (h:CompOk X C n sp scope own elt tgx iter ifs nn m md' it tg t e):FF X C (.ListComp elt [⟨tgx,iter,ifs,0⟩] scope pos) (a2t nn m it tg t e):=by
 obtain ⟨s1,s2,s3⟩:=h.blk G
 exact PE.imp (b6o G.calm s1 h.it s2 s3) fun σ H Q q=>h.run G q
end
noncomputable def e1x (K:Γd) (c:Cn) (S H:Hp) (v:FV) (x:V):Bool→Prop
 | false=>RV K S v x
 | true=>∃ a,x=.ref a∧a2x K S H a v∧c.H0 a=none
noncomputable def EndQ (K:Γd) (c:Cn) (fr:Bool) (D:Ends) (σ:L2.St) (S H:Hp):FFl→Prop
 | .next=>D.nx σ H
 | .brk=>D.bk σ H
 | .cont=>D.ct σ H
 | .ret v=>∀ x,e1x K c S H v x fr→D.rt x H
noncomputable def ls (K:Γd) (md:Md) (fr:Bool) (s:SW):TS:=fun D σ H=>∃ c L S Q0,Iv K c md L σ S H∧s L Q0∧∀ fl L',Q0 fl L'→∀ σ' S' H',Iv K c md L' σ' S' H'→Same S S'→EndQ K c fr D σ' S' H' fl
noncomputable def FS (X:Cx) (C:CC) (fr:Bool) (x:Stmt) (s:SW):Prop:=PS X.nox x (ls X.K C.md fr s)
noncomputable def FSs (X:Cx) (C:CC) (fr:Bool) (x:List Stmt) (s:SW):Prop:=PSs X.nox x (ls X.K C.md fr s)
noncomputable def CC.wmd (C:CC) (md:Md):CC:=⟨C.N,C.sc,C.fns,md,C.top,C.oc,C.ms,C.fl⟩
section
variable {X:Cx} {C:CC} {n:Nat} {sp:Γd→Nat→Sp} {fr:Bool} {a b x y:Expr} {e ea eb:EW} {pos p px py:Pos} {i j k:Nat} {nx ny:Str} {is:List Nat} {st:Stmt} {sts:List Stmt} {s r:SW}
variable {K:Γd} {c:Cn} {md:Md} {L:a0c} {σ:L2.St} {S H:Hp}
theorem Good.wmd (G:Good X C n sp) (md:Md):Good X (C.wmd md) n sp:=⟨G.N,G.sc,G.kind,G.nd,G.calm,G.fn,G.room,G.fns,G.blt,G.mts,G.fls⟩
theorem PS.imp {e:Stmt} {t u:TS} (h:PS X e t) (f:∀ D σ H,u D σ H→t D σ H):PS X e u:=fun pins s σ H D I hu=>h pins s σ H D I (f D σ H hu)
theorem PSs.imp {e:List Stmt} {t u:TS} (h:PSs X e t) (f:∀ D σ H,u D σ H→t D σ H):PSs X e u:=fun pins s σ H D I hu=>h pins s σ H D I (f D σ H hu)
theorem fs_nil:FSs X C fr [] a6u:=PSs.imp c5f fun D σ H ⟨c,L,S,Q0,I,h,k⟩=>k .next L h σ S H I (Same.refl S)
theorem a3d (h:FS X C fr st s):FSs X C fr [st] s:=c5e h
theorem a0o (h:FS X C fr st s) (h2:FSs X C fr sts r):FSs X C fr (st :: sts) (a0t s r):=PSs.imp (c0x h h2) fun D σ H ⟨c,L,S,Q0,I,h,k⟩ =>
 ⟨c,L,S,_,I,h,fun fl L1 q σ1 S1 H1 I1 s1=>by
  cases fl with
  | next=>exact ⟨c,L1,S1,_,I1,q,fun fl L2 q σ2 S2 H2 I2 s2=>k fl L2 q σ2 S2 H2 I2 (s1.trans s2)⟩
  | brk=>exact k _ L1 q σ1 S1 H1 I1 s1
  | cont=>exact k _ L1 q σ1 S1 H1 I1 s1
  | ret v=>exact k _ L1 q σ1 S1 H1 I1 s1⟩
noncomputable def a4w:Expr→Bool
 | .ListComp ..=>true
 | .SetComp ..=>true
 | .DictComp ..=>true
 | _=>false
theorem a2h {e:Expr} {t:Option Expr} {n:Nat} {env:Env} (h:a4w e=false):swapsWith e t n env=pure false:=by
 cases e <;> first | rfl | (cases h; done)
theorem d8g (hc:a4w a=false) (h:FE X C a e):FS X C fr (.Expr a pos) (b5n e):=PS.imp (c5h h (a2h hc)) fun D σ H ⟨c,L,S,Q0,I,h,k⟩ =>
 ⟨c,L,S,_,I,h,fun v L1 q x S1 H1 r I1 s1=>k .next L1 q σ S1 H1 I1 s1⟩
theorem fs_ret (h:FE X C a e):FS X C false (.Return (some a) pos) (a1y e):=PS.imp (c3i h) fun D σ H ⟨c,L,S,Q0,I,h,k⟩ =>
 ⟨c,L,S,_,I,h,fun v L1 q x S1 H1 r I1 s1=>k (.ret v) L1 q σ S1 H1 I1 s1 x r⟩
theorem d8f (h:FF X C a e):FS X C true (.Return (some a) pos) (a1y e):=PS.imp (c3i h) fun D σ H ⟨c,L,S,Q0,I,h,k⟩ =>
 ⟨c,L,S,_,I,h,fun v L1 q l S1 H1 o fr I1 s1=>k (.ret v) L1 q σ S1 H1 I1 s1 _ ⟨l,rfl,o,fr.1⟩⟩
theorem fs_if {t:BW} {xa xb:List Stmt} (h:FB X C a t) (ha:FSs X C fr xa s) (hb:FSs X C fr xb r):FS X C fr (.If a xa xb pos) (sIf t s r):=PS.imp (d6s h ha hb) fun D σ H ⟨c,L,S,Q0,I,h,k⟩ =>
 ⟨c,L,S,_,I,h,fun v L1 q S1 H1 I1 s1=>by
  cases v with
  | true=>rw [if_pos rfl] at q ⊢; exact ⟨c,L1,S1,_,I1,q,fun fl L2 q σ2 S2 H2 I2 s2=>k fl L2 q σ2 S2 H2 I2 (s1.trans s2)⟩
  | false=>rw [if_neg Γk] at q ⊢; exact ⟨c,L1,S1,_,I1,q,fun fl L2 q σ2 S2 H2 I2 s2=>k fl L2 q σ2 S2 H2 I2 (s1.trans s2)⟩⟩
theorem b1v {tg:Tg} {te:TE} (ht:a3k C.md tg=true) (hte:∀ σ H Q,lv X.K C.md e σ H Q→te σ H Q) (h:PS X.nox st (c3f te (gT X.K tg))):FS X C fr st (a1n e tg):=PS.imp h fun D σ H ⟨c,L,S,Q0,I,h,k⟩=>hte _ _ _
 ⟨c,L,S,_,I,h,fun v L1 q x S1 H1 r I1 s1=>by
  obtain ⟨σ',L',g,q,I2,_⟩:=a7v ht I1 r q
  exact g _ (k .next L' q σ' S1 H1 I2 s1)⟩
theorem c8b {te:TE} (m:a0i C.md i=.imm) (hte:∀ σ H Q,lf X.K C.md e σ H Q→te σ H Q) (h:PS X.nox st (c3f te (a6h i))):FS X C fr st (a1n e (.nm i)):=PS.imp h fun D σ H ⟨c,L,S,Q0,I,h,k⟩=>hte _ _ _
 ⟨c,L,S,_,I,h,fun v L1 q l S1 H1 o f I1 s1=>by
  obtain ⟨u,hu,I2,r⟩:=b7c I1 o f
  exact k .next _ q _ _ H1 (I2.setI m r) (s1.trans (a0r o.1))⟩
theorem c8a {te:TE} (m:(decide (a0i C.md i=.own) && decide (i≠0))=true) (hte:∀ σ H Q,lf X.K C.md e σ H Q→te σ H Q) (h:PS X.nox st (c3f te (a6h i))):FS X C fr st (a1n e (.nm i)):=PS.imp h fun D σ H ⟨c,L,S,Q0,I,h,k⟩=>hte _ _ _
 ⟨c,L,S,_,I,h,fun v L1 q l S1 H1 o f I1 s1=>by
  have m:=b2 m
  exact k .next _ q _ _ H1 (I1.set (fun _ _=>de m.2) (fun z=>by rw [de m.1] at z; cases z) (.inr ⟨de m.1,l,rfl,o,f.1,f.2.1,fun j w _ hm hj=>f.2.2 j w hm hj⟩)) s1⟩
theorem c5g (G:Good X C n sp) {te:TE} (ht:C.tn i nx=true) (hs:swapsWith a (some (.Name nx px)) pos.line X.env=pure false) (h:PE X.nox a te):PS X.nox (.Assign [.Name nx px] a pos) (c3f te (a6h i)):=by
 have ht:=b2 ht
 obtain ⟨l1,l2⟩:=G.loc ht.2
 exact c9q (X:=X.nox) G.nd' (G.ix ht.1) l1 h hs l2
theorem fs_set (G:Good X C n sp) (ht:C.tn i nx=true) (m:a0i C.md i=.imm) (hc:a4w a=false) (h:FE X C a e):FS X C fr (.Assign [.Name nx px] a pos) (a1n e (.nm i)) :=
 b1v (tg:=.nm i) (by simpa [a3k] using m) (fun _ _ _ z=>z) (c5g G ht (a2h hc) h)
theorem d8e (G:Good X C n sp) (ht:C.tn i nx=true) (m:(decide (a0i C.md i=.own) && decide (i≠0))=true) (hc:a4w a=false) (h:FF X C a e):FS X C fr (.Assign [.Name nx px] a pos) (a1n e (.nm i)) :=
 c8a m (fun _ _ _ z=>z) (c5g G ht (a2h hc) h)
noncomputable def swC (C:CC) (x:Str) (px:Pos) (scope:Scope) (p:Pos):Bool:=decide (C.sc.lookup x=some .local) && (px.line == p.line) && !(scope.names.any fun (n,k)=>n == x && (k == .local || k == .cell))
theorem c4l {elt:Expr} {gs:List Comprehension} {scope:Scope} {p px:Pos} {x:Str} {n:Nat} {env:Env} (hk:env.scope.kind=.function) :
  swapsWith (.ListComp elt gs scope p) (some (.Name x px)) n env=pure (decide (env.scope.names.lookup x=some .local) && (px.line == p.line) && !(scope.names.any fun (n,k)=>n == x && (k == .local || k == .cell))):=by
 have hb:env.blockKind=.function:=by unfold Env.blockKind; rw [hk]; rfl
 have:(env.kindOf x == some .local)=decide (env.scope.names.lookup x=some .local):=by
  rw [Bool.eq_iff_iff]; simp [Env.kindOf]
 unfold swapsWith
 simp only [hb,this]
 rfl
variable {scope:Scope} {own:List Str} {elt tgx iter:Expr} {ifs:List Expr} {it:AW} {tg:Tg} {t:BW} {nn m:Nat} {md':Md}
theorem c2s (G:Good X C n sp) (ht:C.tn i nx=true) (h:CompOk X C n sp scope own elt tgx iter ifs nn m md' it tg t e):∃ te:TE,(∀ σ H Q,lf X.K C.md (a2t nn m it tg t e) σ H Q→te σ H Q)∧PS X.nox (.Assign [.Name nx px] (.ListComp elt [⟨tgx,iter,ifs,0⟩] scope p) pos) (c3f te (a6h i)):=by
 have hsw:swapsWith (.ListComp elt [⟨tgx,iter,ifs,0⟩] scope p) (some (.Name nx px)) pos.line X.env=pure (swC C nx px scope p):=by rw [c4l G.kind,G.sc]; rfl
 obtain ⟨s1,s2,s3⟩:=h.blk G
 cases hb:swC C nx px scope p with
 | false =>
  rw [hb] at hsw
  exact ⟨_,fun σ H Q q=>h.run G q,c5g G ht hsw (b6o G.calm s1 h.it s2 s3)⟩
 | true =>
  rw [hb] at hsw
  have hlo:X.env.scope.names.lookup nx=some .local:=by
   rw [G.sc]
   have hb:=b2 hb
   exact de (b2 hb.1).1
  exact ⟨_,fun σ H Q q=>h.run G q,b3r G.calm s1 G.nd' (G.ix (b2 ht).1) hlo h.it s2 hsw s3⟩
theorem c6z (G:Good X C n sp) (ht:C.tn i nx=true) (hm:a0i C.md i=.imm) (h:CompOk X C n sp scope own elt tgx iter ifs nn m md' it tg t e):FS X C fr (.Assign [.Name nx px] (.ListComp elt [⟨tgx,iter,ifs,0⟩] scope p) pos) (a1n (a2t nn m it tg t e) (.nm i)) :=
 let ⟨te,h1,h2⟩:=c2s G ht h
 c8b hm h1 h2
noncomputable def tupX:Expr→Bool
 | .Tuple ..=>true
 | _=>false
noncomputable def b3p:Expr→Bool
 | .Starred ..=>true
 | _=>false
theorem fs_tup (G:Good X C n sp) {ts:List Expr} (hm:a3k C.md (.tp is)=true) (hn:tupX a=false) (hg:FGs X ts is) (h:FE X C a e):FS X C fr (.Assign [.Tuple ts k p] a pos) (a1n e (.tp is)) :=
 b1v (tg:=.tp is) hm (fun _ _ _ z=>z) (b2k (X:=X.nox) h (d1n G hg) (by cases a <;> rfl) (by cases a <;> first | rfl | (cases hn; done)) rfl)
noncomputable def a9u (sc:List (Str×NameKind)) (t:Expr):Bool:=match t with
 | .Name x _=>!(decide (sc.lookup x=some .local))
 | _=>true
theorem d5n {ts vs:List Expr} {k k2:Nat} {tp tp2:Pos} {env:Env} (h:4≤ts.length ∨ ∃ t∈ts,a9u env.scope.names t=true):swappedStores [.Tuple ts k tp] (.Tuple vs k2 tp2) env=pure none:=by
 unfold swappedStores
 simp only
 split
 ·rfl
 ·rename_i h1
  split
  ·rfl
  ·have hlen:ts.length=2 ∨ ts.length=3:=by
    simp only [Bool.or_eq_true,Bool.not_eq_true',bne_iff_ne,ne_eq,not_or,Bool.not_eq_false] at h1
    simpa using h1.1.1
   obtain ⟨t,ht,hn⟩:∃ t∈ts,a9u env.scope.names t=true:=by
    rcases h with h | h
    ·lia
    ·exact h
   have lt:∀ (l:List Expr) (f:Expr→Option Str),t∈l→f t=none→(l.filterMap f).length < l.length:=by
    intro l f
    induction l with
    | nil=>intro h; cases h
    | cons a r ih =>
     intro hm hf
     have le:=List.length_filterMap_le f r
     rcases List.mem_cons.mp hm with rfl | hm
     ·rw [List.filterMap_cons,hf,List.length_cons]; show (List.filterMap f r).length < _; lia
     ·rw [List.filterMap_cons]
      have:=ih hm hf
      split <;> simp only [List.length_cons] <;> lia
   have:=lt ts (fun
    | .Name id pos=>if env.kindOf id == some .local && pos.line == (ts.head?.map (·.pos.line)).getD 0 then some id else none
    | _=>none) ht (by
     cases t with
     | Name x p =>
      have hx:¬ env.scope.names.lookup x=some .local:=by simpa [a9u] using hn
      have hk:(env.kindOf x == some NameKind.local)=false:=by
       cases hq:(env.kindOf x == some NameKind.local) with
       | false=>rfl
       | true=>exact absurd (show env.kindOf x=some .local by simpa using hq) hx
      simp only [hk,Bool.false_and,Γp,if_false]
     | _=>rfl)
   rw [if_pos]
   simp only [Bool.or_eq_true,bne_iff_ne,ne_eq]
   left
   exact Γo this
theorem d8d (G:Good X C n sp) {ts vs:List Expr} {k2:Nat} {p2:Pos} (hm:a3k C.md (.tp is)=true) (hn:(decide (4≤ts.length) || ts.any fun t=>a9u C.sc t)=true) (hg:FGs X ts is) (h:FE X C (.Tuple vs k2 p2) e):FS X C fr (.Assign [.Tuple ts k p] (.Tuple vs k2 p2) pos) (a1n e (.tp is)) :=
 b1v (tg:=.tp is) hm (fun _ _ _ z=>z) (b2k (X:=X.nox) h (d1n G hg) rfl (d5n (by
  show 4≤ts.length ∨ ∃ t∈ts,a9u X.env.scope.names t=true
  rw [G.sc]
  simpa using hn)) rfl)
theorem sw2 {x y:Str} {px py pt pt2:Pos} {kt k2:Nat} {a b:Expr} {env:Env} (hk:env.scope.kind=.function) (hx:env.scope.names.lookup x=some .local) (hy:env.scope.names.lookup y=some .local) (hxy:x≠y) (hl:(py.line == px.line)=true)
  (sa:b3p a=false) (sb:b3p b=false) (hf:(foldedForSure 8 a && foldedForSure 8 b)=false) (hc:(constantsAlone 8 a && constantsAlone 8 b)=false) :
  swappedStores [.Tuple [.Name x px,.Name y py] kt pt] (.Tuple [a,b] k2 pt2) env=pure (some [x,y]):=by
 have hb:env.blockKind=.function:=by unfold Env.blockKind; rw [hk]; rfl
 have kx:env.kindOf x=some .local:=hx
 have ky:env.kindOf y=some .local:=hy
 unfold swappedStores
 have hyx:¬ y=x:=fun z=>hxy z.symm
 have hs:([a,b].any fun | .Starred ..=>true | _=>false)=false:=by
  show (b3p a || (b3p b || false))=false
  rw [sa,sb]; rfl
 have hf':[a,b].all (foldedForSure 8)=false:=by simpa using hf
 have hc':[a,b].all (constantsAlone 8)=false:=by simpa using hc
 have hlx:((some (Expr.Name x px)).map (·.pos.line)).getD 0=px.line:=rfl
 simp only [List.length_cons,List.length_nil,hb,hs,hf',hc',List.head?_cons,hlx,List.filterMap_cons,List.filterMap_nil,kx,ky,hl,beq_self_eq_true,Bool.and_self,if_true]
 simp [List.eraseDups_cons,hyx,bne,hxy]
 intro h
 exfalso
 rcases h with h | h
 ·cases a <;> first | (cases h; done) | (cases sa; done)
 ·cases b <;> first | (cases h; done) | (cases sb; done)
noncomputable def c1j (C:CC) (i j:Nat) (x y:Str) (px py:Pos) (a b:Expr):Bool:=decide (C.N[i]?=some x) && decide (C.N[j]?=some y) && decide (i≠j) && decide (x≠y) && decide (C.sc.lookup x=some .local) && decide (C.sc.lookup y=some .local) && (py.line == px.line) && !b3p a && !b3p b && !(foldedForSure 8 a && foldedForSure 8 b) && !(constantsAlone 8 a && constantsAlone 8 b)
theorem fs_par (G:Good X C n sp) {kt k2:Nat} {pt p2:Pos} (hm:a3k C.md (.tp [i,j])=true) (h:c1j C i j nx ny px py a b=true) (ha:FE X C a ea) (hb:FE X C b eb):FS X C fr (.Assign [.Tuple [.Name nx px,.Name ny py] kt pt] (.Tuple [a,b] k2 p2) pos) (a1n (a4y (a0a ea (a0a eb a0p))) (.tp [i,j])):=by
 have g0:=b2 h; have g1:=b2 g0.1; have g2:=b2 g1.1; have g3:=b2 g2.1; have g4:=b2 g3.1; have g5:=b2 g4.1; have g6:=b2 g5.1; have g7:=b2 g6.1; have g8:=b2 g7.1; have g9:=b2 g8.1
 have lx:X.env.scope.names.lookup nx=some .local:=by rw [G.sc]; exact de g6.2
 have ly:X.env.scope.names.lookup ny=some .local:=by rw [G.sc]; exact de g5.2
 have sa:a0l a=false:=by cases a <;> first | rfl | (exact nb g3.2)
 have sb:a0l b=false:=by cases b <;> first | rfl | (exact nb g2.2)
 refine PS.imp (c3j (X:=X.nox) G.calm G.nd' (G.ix g9.1) (G.ix g9.2) (de g8.2) lx ly (a0n ha (a0n hb a1o (a0g sb)) (a0g sa)) (sw2 (env:=X.env) G.kind lx ly (de g7.2) g4.2 (nb g3.2) (nb g2.2) (nb g1.2) (nb g0.2))) fun D σ H ⟨c,L,S,Q0,I,h,k⟩=>?_
 have hm:=b2 (show (decide (a0i C.md i=.imm) && (decide (a0i C.md j=.imm) && true))=true from hm)
 refine ⟨c,L,S,_,I,h,fun v L1 q x S1 H1 r1 I1 s1=>⟨c,L1,S1,_,I1,q,fun w L2 q y S2 H2 r2 I2 s2=>⟨x,y,rfl,?_⟩⟩⟩
 exact k .next _ q.2 _ S2 H2 ((I2.setI (de hm.1) (r1.mono s2)).setI (de (b2 hm.2).1) r2) (s1.trans s2)
theorem b2d {xo xi : Expr} {p : Pos} {env : Env} (h : a3b xi = false) : ∀ v, assign (.Subscript xo xi p) env v = (do
      let ov ← holding [v] (eval xo env)
      let iv ← holding [v, ov] (eval xi env)
      standAt p
      holding [v, ov, iv] (setItem ov iv v)
      release [v, ov, iv] []) := by
  intro v
  cases xi <;> first | rfl | (cases h; done)
theorem fs_ix (G:Good X C n sp) (hn:C.nm i nx=true) (m:a0i C.md i=.own) (hc:(!a4w a && !a3b b)=true) (ha:FE X C a ea) (hb:FE X C b eb):FS X C fr (.Assign [.Subscript (.Name nx px) b p] a pos) (d3e i eb ea):=by
 have hc:=b2 hc
 refine PS.imp (b2k (X:=X.nox) ha (c3l (a0w (pos:=px) G hn) hb b2e (b2d (nb hc.2))) (by simp only [swapsWithSole]; exact a2h (nb hc.1)) rfl rfl) fun D σ H ⟨c,L,S,Q0,I,h,k⟩=>?_
 have mi:a0i C.md i≠.imm:=fun z=>by rw [m] at z; cases z
 obtain ⟨v0,e,h⟩:=wpx h
 obtain ⟨l,e1,_⟩:=I.own i v0 mi ((a4i _ _ _).mp e)
 refine ⟨c,L,S,_,I,h,fun v L1 q x S1 H1 r1 I1 s1=>⟨_,e1,c,L1,S1,_,I1,q,fun w L2 q y S2 H2 r2 I2 s2=>?_⟩⟩
 obtain ⟨v1,e2,q2⟩:=wpx q
 obtain ⟨z,e3,q3⟩:=wpx q2
 have e2:=(a4i _ _ _).mp e2
 obtain ⟨l',f1,⟨o1,ps,us,e9,o2,o3⟩,_⟩:=I2.own i v1 mi e2
 rw [e1] at f1; cases f1
 obtain ⟨xs,g1,e3⟩:=bnd e3
 obtain ⟨nn,g2,e3⟩:=bnd e3
 obtain ⟨pp,g3,rfl⟩:=mpd e3
 cases a8v g1
 cases e9
 obtain rfl:w=.int nn:=by cases w <;> cases g2; rfl
 obtain rfl:y=.int nn:=r2
 refine ⟨l,us,nn,pp,rfl,rfl,o2,by rw [← o3.length]; exact g3,?_⟩
 exact k .next _ q3 σ S2 _ (I2.write m e2 e1 (o3.set pp (r1.mono s2))) (s1.trans s2)
noncomputable def augF (f:Int→Int→Int):FV→FV→Option FV
 | .int a,.int b=>some (.int (f a b))
 | _,_=>none
theorem c7b {J:It} {xs:List FV} {D:Ends} {Q0:FFl→a0c→Prop} (I:Iv K c md L σ S H) (hJ:ItR K c md J xs S) (ht:a3k md tg=true) (h:c3y tg s xs L Q0)
  (k:∀ fl L',Q0 fl L'→∀ σ' S' H',Iv K c md L' σ' S' H'→Same S S'→EndQ K c fr D σ' S' H' fl) :
  ∃ W:Nat→Nat→L2.St→Hp→Prop,(∃ m,W 0 m σ H)∧∀ i m σ H,W i m σ H →
   (J.stop i H∧D.nx σ H) ∨ (J.go i H∧∃ N:L2.St→Hp→Prop,(∀ σ' H',N σ' H'→∃ m',m' < m∧W (i + 1) m' σ' H')∧∀ x H',J.yld i H x H'→gT K tg x σ H' fun σ2 H2=>ls K md fr s { D with nx:=N,ct:=N,bk:=D.nx } σ2 H2):=by
 let W:Nat→Nat→L2.St→Hp→Prop:=fun i j σ1 H1=>∃ L S1,j=(xs.drop i).length∧Iv K c md L σ1 S1 H1∧Same S S1∧c3y tg s (xs.drop i) L Q0
 refine ⟨W,⟨_,L,S,rfl,I,Same.refl S,by rw [List.drop_zero]; exact h⟩,?_⟩
 rintro i m σ1 H1 ⟨L,S1,rfl,I,s1,h⟩
 obtain ⟨j1,j2⟩:=hJ i L σ1 S1 H1 I s1
 cases hd:xs.drop i with
 | nil =>
  rw [hd] at h
  exact .inl ⟨j1 (List.getElem?_eq_none_iff.mpr (List.drop_eq_nil_iff.mp hd)),k .next L h σ1 S1 H1 I s1⟩
 | cons p rest =>
  right
  rw [hd] at h
  have hi:xs[i]?=some p:=by
   have:=congrArg (·[0]?) hd
   simpa using this
  have hd':xs.drop (i + 1)=rest:=by
   have:=congrArg List.tail hd
   simpa [List.tail_drop] using this
  obtain ⟨go,yl⟩:=j2 p hi
  refine ⟨go,fun σ' H'=>∃ m',m' < rest.length + 1∧W (i + 1) m' σ' H',fun σ' H' h=>h,fun x H2 y=>?_⟩
  obtain ⟨S2,s2,tr,rx⟩:=yl x H2 y
  have I2:=tr _ _ _ _ I
  obtain ⟨σ2,L2,g,q,I3,_⟩:=a7v ht I2 rx h
  refine g _ ⟨c,L2,S2,_,I3,q,fun fl L3 q σ3 S3 H3 I4 s3=>?_⟩
  have ss:=s1.trans (s2.trans s3)
  cases fl with
  | next=>exact ⟨_,Nat.lt_succ_self _,L3,S3,by rw [hd'],I4,ss,by rw [hd']; exact q⟩
  | cont=>exact ⟨_,Nat.lt_succ_self _,L3,S3,by rw [hd'],I4,ss,by rw [hd']; exact q⟩
  | brk=>exact k .next L3 q σ3 S3 H3 I4 ss
  | ret v=>exact k (.ret v) L3 q σ3 S3 H3 I4 ss
theorem a4x (G:Good X C n sp) {body:List Stmt} (hc:(a3k md' tg && !b7x iter)=true) (hi:FI X C md' tgx iter it) (hg:FG X tgx tg) (hb:Good X (C.wmd md') n sp→FSs X (C.wmd md') fr body s):FS X C fr (.For tgx iter body [] pos) (c0d it tg s):=by
 have hc:=b2 hc
 refine PS.imp (c9r (X:=X.nox) PassesOwn.never G.calm hi hg (hb (G.wmd md')) (b8j (nb hc.2))) fun D σ H ⟨c,L,S,Q0,I,h,k⟩=>?_
 refine ⟨c,L,S,_,I,h,fun xs L1 q J c' S1 H1 I1 un e0 hJ s1=>?_⟩
 refine c7b I1 hJ hc.1 q fun fl L2 q σ2 S2 H2 I2 s2=>?_
 have:=k fl L2 q σ2 S2 H2 (un _ _ _ _ I2) (s1.trans s2)
 cases fl with
 | next=>exact this
 | brk=>exact this
 | cont=>exact this
 | ret v =>
  intro x r
  refine this x ?_
  cases fr with
  | false=>exact r
  | true =>
   obtain ⟨a,r1,r2,r3⟩:=r
   exact ⟨a,r1,r2,by rw [← e0]; exact r3⟩
theorem fs_whl {body:List Stmt} (hc:FB X C a t) (hb:FSs X C fr body s):FS X C fr (.While a body [] pos) (d3c t s):=by
 refine PS.imp (c0y (X:=X.nox) PassesOwn.never hc hb) fun D σ H ⟨c,L,S,Q0,I,⟨m,h⟩,k⟩=>?_
 refine ⟨fun m σ1 H1=>∃ L S1,Iv X.K c C.md L σ1 S1 H1∧Same S S1∧c8g t s m L Q0,⟨m,L,S,I,Same.refl S,h⟩,?_⟩
 rintro m σ1 H1 ⟨L,S1,I1,s1,h⟩
 cases m with
 | zero=>exact h.elim
 | succ m =>
  refine ⟨c,L,S1,_,I1,h,fun v L1 q S2 H2 I2 s2=>?_⟩
  cases v with
  | false =>
   rw [if_neg Γk] at q ⊢
   exact k .next L1 q σ1 S2 H2 I2 (s1.trans s2)
  | true =>
   rw [if_pos rfl] at q ⊢
   refine ⟨fun σ' H'=>∃ m',m' < m + 1∧∃ L S1,Iv X.K c C.md L σ' S1 H'∧Same S S1∧c8g t s m' L Q0,fun σ' H' h=>h,c,L1,S2,_,I2,q,fun fl L3 q σ3 S3 H3 I4 s3=>?_⟩
   have ss:=s1.trans (s2.trans s3)
   cases fl with
   | next=>exact ⟨m,Nat.lt_succ_self _,L3,S3,I4,ss,q⟩
   | cont=>exact ⟨m,Nat.lt_succ_self _,L3,S3,I4,ss,q⟩
   | brk=>exact k .next L3 q σ3 S3 H3 I4 ss
   | ret v=>exact k (.ret v) L3 q σ3 S3 H3 I4 ss
end
structure Df where
 name:String
 st:Stmt
 ps:List Str
 N:List Str
 md:Md
structure Fns where
 f:List Str
 ms:List (Str×Addr×Str)
 fl:List (Addr×Str)
noncomputable def Df.cc (d:Df) (fns:Fns):CC:=⟨d.N,(a0m d.st).names,fns.f,d.md,true,[],fns.ms,fns.fl⟩
noncomputable def d6y (io:Bool) (md:Md) (np:Nat):Bool:=(List.range np).all fun i=>decide (a0i md i=if (io && decide (i=0))=true then .own else .imm)
noncomputable def Df.ok (d:Df) (np ns:Nat) (io:Bool):Bool :=
 decide ((a0m d.st).kind=.function) && !(a0m d.st).isCoroutine && !(a0m d.st).isGenerator && decide (d.N.Nodup) && decide (d.N.take d.ps.length=d.ps) && d.ps.all (fun x=>decide ((a0m d.st).names.lookup x=some .local ∨ (a0m d.st).names.lookup x=some .cell)) &&
 (a0m d.st).names.all (fun p=>decide (p.2≠.free)) && decide (np=d.ps.length) && decide (ns=d.N.length) && d6y io d.md np
noncomputable def spT (K:Γd) (tb:List FD) (call:CW) (f:Nat):Sp:=match tb[f]? with
 | some fd=>spQ K call fd.io fd.fr f
 | none=>fun _ _ _ _=>False
noncomputable def spK (tb:List FD) (call:CW) (K:Γd):Nat→Sp:=spT K tb call
theorem Df.sc {d:Df} {np ns:Nat} {io:Bool} (h:d.ok np ns io=true):FnScope d.N d.ps (a0m d.st)∧np=d.ps.length∧ns=d.N.length∧∀ i,i < np→a0i d.md i=if (io && decide (i=0))=true then .own else .imm:=by
 have h0:=b2 h; have h1:=b2 h0.1; have h2:=b2 h1.1; have h3:=b2 h2.1; have h4:=b2 h3.1; have h5:=b2 h4.1; have h6:=b2 h5.1; have h7:=b2 h6.1; have h8:=b2 h7.1
 exact ⟨⟨de h8.1,nb h8.2,nb h7.2,de h6.2,de h5.2,fun x hx=>de (List.all_eq_true.mp h4.2 x hx),fun y hy=>de (List.all_eq_true.mp h3.2 y hy)⟩,de h2.2,de h1.2,fun i hi=>de (List.all_eq_true.mp h0.2 i (List.mem_range.mpr hi))⟩
section
variable {P:Program} {w:World} {K:Γd} {mg:Str→Option Value} {base:Heap} {tb:List FD} {fns:Fns}
theorem ArgsOk.len {S H:Hp} {args:List FV} {vs:List V} {io:Bool} (h:ArgsOk K S H args vs io):args.length=vs.length:=by
 cases io with
 | false=>exact RVs.length h
 | true =>
  obtain ⟨v,r,a,us,rfl,rfl,_,h⟩:=h
  rw [List.length_cons,List.length_cons,h.length]
theorem c1v {S H:Hp} {args:List FV} {vs:List V} {io:Bool} {md:Md} {N:List Str} {np ns:Nat} (h:ArgsOk K S H args vs io) (hs:Same S H) (hn:args.length=np) (hN:ns=N.length) (hm:∀ i,i < np→a0i md i=if (io && decide (i=0))=true then .own else .imm) :
  Iv K ⟨H,S,b2s vs io,[],[],[]⟩ md (args.map some++Γj (ns - np) none) (L2.start N vs) S H:=by
 have hl:=h.len
 have look:∀ i v,(args.map some++Γj (ns - np) none)[i]?=some (some v)→args[i]?=some v∧i < np:=fun i v e=>by
  by_cases hi:i < args.length
  ·rw [List.getElem?_append_left (by rw [List.length_map]; exact hi),List.getElem?_map] at e
   cases ea:args[i]? with
   | none=>rw [ea] at e; cases e
   | some q=>rw [ea] at e; cases e; exact ⟨rfl,by lia⟩
  ·rw [List.getElem?_append_right (by rw [List.length_map]; lia),List.getElem?_replicate] at e
   split at e <;> cases e
 have st:∀ i,i < np→(L2.start N vs)[i]?=vs[i]?.map some:=fun i hi=>by
  unfold L2.start
  rw [List.getElem?_append_left (by rw [List.length_map]; lia),List.getElem?_map]
 have own:∀ i v,a0i md i≠.imm→(args.map some++Γj (ns - np) none)[i]?=some (some v)→i=0∧io=true∧a0i md 0=.own:=fun i v hm' e=>by
  obtain ⟨_,hi⟩:=look i v e
  have:=hm i hi
  cases io with
  | false=>exact absurd (by simpa using this) hm'
  | true =>
   by_cases h0:i=0
   ·subst h0; exact ⟨rfl,rfl,by simpa using this⟩
   ·exact absurd (by simpa [h0] using this) hm'
 have lent:∀ a,b2s vs io=some a→io=true∧0 < np∧a0i md 0=.own∧vs[0]?=some (.ref a)∧∃ v,args[0]?=some v∧a2x K S H a v:=fun a e=>by
  cases io with
  | false=>cases e
  | true =>
   obtain ⟨v,r,a',us,rfl,rfl,o,_⟩:=h
   cases e
   have hp:0 < np:=by rw [← hn]; exact Nat.succ_pos _
   exact ⟨rfl,hp,by simpa using hm 0 hp,rfl,v,rfl,o⟩
 refine ⟨?_,fun i v hm' e=>?_,fun i v hm' e=>?_,fun i j v w a m1 m2 e1 e2 _ _=>?_,hs,fun a o e _ _=>e,Same.refl S,fun a o e=>.inl e,fun a e=>?_,fun p hp=>absurd hp List.not_mem_nil,fun i v hf e=>?_,fun p hp=>absurd hp List.not_mem_nil,fun p hp=>absurd hp List.not_mem_nil,fun p hp=>absurd hp List.not_mem_nil,fun q hq=>absurd hq List.not_mem_nil,fun j i x C dx fs v h1 h2 h3 h4=>?_⟩
 ·unfold L2.start
  rw [List.length_append,List.length_append,List.length_map,List.length_map,List.length_replicate,List.length_replicate,hN]
  lia
 ·obtain ⟨ea,hi⟩:=look i v e
  rw [st i hi]
  cases io with
  | false =>
   obtain ⟨x,e1,r⟩:=RVs.get (show RVs K S args vs from h) ea
   exact ⟨x,by rw [e1]; rfl,r⟩
  | true =>
   obtain ⟨v0,r,a',us,rfl,rfl,o,hr⟩:=h
   cases i with
   | zero=>rw [show a0i md 0=.own by simpa using hm 0 hi] at hm'; cases hm'
   | succ i =>
    obtain ⟨x,e1,r1⟩:=RVs.get hr (by simpa using ea)
    exact ⟨x,by simp [e1],r1⟩
 ·obtain ⟨rfl,rfl,m0⟩:=own i v hm' e
  obtain ⟨ea,hi⟩:=look 0 v e
  obtain ⟨v0,r,a',us,rfl,rfl,o,hr⟩:=h
  cases ea
  exact ⟨a',by rw [st 0 hi]; rfl,o,.inl rfl⟩
 ·rw [(own i v m1 e1).1,(own j w m2 e2).1]
 ·obtain ⟨rfl,hp,m0,e1,v,ea,_⟩:=lent a e
  refine ⟨fun z=>(nomatch (m0.symm.trans z)),by rw [st 0 hp,e1]; rfl,v,?_⟩
  rw [List.getElem?_append_left (by rw [List.length_map]; lia),List.getElem?_map,ea]; rfl
 ·have:=own i v (fun z=>by rw [z] at hf; cases hf) e
  rw [this.1,this.2.2] at hf; cases hf
 ·have:=own j v (fun z=>by rw [z] at h1; cases h1) h4
  rw [this.1,this.2.2] at h1; cases h1
theorem b1p {d f:Nat} {fa:Addr} {fdd:FuncData} {df:Df} {fd:FD} {nm qu:Str} (F:Fun K nm qu df.st fa fdd) (hf:tb[f]?=some fd) (hok:df.ok fd.np fd.ns fd.io=true)
  (hb:∀ X call n,Good X (df.cc fns) n (spK tb call)→FSs X (df.cc fns) fd.fr (a1m df.st) (fd.body call))
  (fnsOk:∀ (f:Nat) (x:Str),fns.f[f]?=some x→∃ fa fd ps,mg x=some (.ref fa)∧PySem.W.keepIn K (.ref fa)=true∧Binds K fd ps []∧FnOk P w K mg base CX0 d fa fd ps (spT K tb (callW tb d) f))
  (blt:∀ b∈bltNames,mg (Γe b)=none) (mtsOk:∀ (k:Nat) (c:Str) (Ca:Addr) (m:Str),fns.ms[k]?=some (c,Ca,m)→e1z P w K mg base d (spT K tb (callW tb d) (fns.f.length + k)) c Ca m) (fl:∀ p∈fns.fl,Cls K p.1∧NoAttr K p.1 p.2):FnOk P w K mg base CX0 (d + 1) fa fdd df.ps (spT K tb (callW tb (d + 1)) f):=by
 obtain ⟨S,hnp,hns,hmd⟩:=Df.sc hok
 have e0:spT K tb (callW tb (d + 1)) f=spQ K (callW tb (d + 1)) fd.io fd.fr f:=by unfold spT; rw [hf]
 have run:∀ {args:List FV} {Q:FV×FV→Prop},callW tb (d + 1) f args Q→args.length=fd.np∧fd.body (callW tb d) (args.map some++Γj (fd.ns - fd.np) none) (b8p fd.io fd.fr Q):=fun {args Q} h=>by
  have h:(match tb[f]? with
   | none=>False
   | some fd=>args.length=fd.np∧fd.body (callW tb d) (args.map some++Γj (fd.ns - fd.np) none) (b8p fd.io fd.fr Q)):=h
  rw [hf] at h; exact h
 rw [e0]
 refine F.ok S (fun vs H Q E h=>?_) (fun cdv A outer s H vs Q E hr h=>?_)
 ·obtain ⟨S0,args,Q0,_,ao,hc,_⟩:=h
  rw [← ao.len,(run hc).1,hnp]
 ·obtain ⟨S0,args,Q0,hs,ao,hc,k⟩:=h
  obtain ⟨hl,hc⟩:=run hc
  have G:Good (c7p CX0 P w K mg base df.N qu (a0m df.st) fa cdv A outer s H E) (df.cc fns) d (spK tb (callW tb d)) :=
   ⟨rfl,rfl,S.kind,S.nd,rfl,fun _ _=>rfl,hr,fnsOk,blt,mtsOk,fl⟩
  refine ⟨_,hb _ _ _ G,_,_,S0,_,c1v ao hs hl hns hmd,hc,fun fl L' q σ' S' H' I s'=>?_⟩
  have kp:∀ w,(fd.io=true→lk L' 0=some w)→Kept K S0 H S' H' (b2s vs fd.io) w:=fun w hw=>⟨s',I.sub,I.grow,fun a o e n=>I.frame a o e n (fun _=>List.not_mem_nil),fun a e=>by
   have hio:fd.io=true:=by
    cases z:fd.io with
    | true=>rfl
    | false=>rw [z] at e; cases e
   obtain ⟨m0,e1,v,e2⟩:=I.lent a e
   obtain ⟨b,e3,o,_⟩:=I.own 0 v m0 e2
   rw [e1] at e3; cases e3
   have:=(a4i _ _ _).mp (hw hio)
   rw [e2] at this; cases this
   exact o⟩
  have fin:∀ v x,b8p fd.io fd.fr Q0 (.ret v) L'→c8e K S' H' H v x fd.fr→Q x H':=fun v x q r=>by
   cases hio:fd.io with
   | true =>
    rw [hio] at q
    obtain ⟨w,e1,q⟩:=wpx q
    exact k _ q x S' H' (kp w fun _=>e1) r
   | false =>
    rw [hio] at q
    exact k (v,.non) q x S' H' (kp .non fun z=>by rw [hio] at z; cases z) r
  cases fl with
  | next =>
   cases hfr:fd.fr with
   | true=>rw [hfr] at q; exact q.elim
   | false=>rw [hfr] at q; exact fin .non .non (by rw [hfr]; exact q) (by rw [hfr]; exact rfl)
  | ret v =>
   intro x r
   refine fin v x q ?_
   cases hfr:fd.fr with
   | true=>rw [hfr] at r; exact r
   | false=>rw [hfr] at r; exact r
  | brk=>exact q.elim
  | cont=>exact q.elim
theorem b9z (blt:∀ b∈bltNames,mg (Γe b)=none) (fl:∀ p∈fns.fl,Cls K p.1∧NoAttr K p.1 p.2)
  (D:∀ (f:Nat) (x:Str),fns.f[f]?=some x→∃ df fd fa fdd,tb[f]?=some fd∧Df.ok df fd.np fd.ns fd.io=true∧(∀ X call n,Good X (df.cc fns) n (spK tb call)→FSs X (df.cc fns) fd.fr (a1m df.st) (fd.body call))∧Fun K (Γe df.name) (Γe df.name) df.st fa fdd∧mg x=some (.ref fa)∧Binds K fdd df.ps [])
  (DM:∀ (k:Nat) (c:Str) (Ca:Addr) (m:Str),fns.ms[k]?=some (c,Ca,m)→∃ df fd fa fdd nm qu,tb[fns.f.length + k]?=some fd∧Df.ok df fd.np fd.ns fd.io=true∧(∀ X call n,Good X (df.cc fns) n (spK tb call)→FSs X (df.cc fns) fd.fr (a1m df.st) (fd.body call))∧Fun K nm qu df.st fa fdd∧mg c=some (.ref Ca)∧Cls K Ca∧(m=("__init__":Str)→Mk K Ca fa)∧(m≠("__init__":Str)→Meth K Ca m fa)∧Binds K fdd df.ps []) :
  ∀ d:Nat,(∀ (f:Nat) (x:Str),fns.f[f]?=some x→∃ fa fd ps,mg x=some (.ref fa)∧PySem.W.keepIn K (.ref fa)=true∧Binds K fd ps []∧FnOk P w K mg base CX0 d fa fd ps (spT K tb (callW tb d) f))∧∀ (k:Nat) (c:Str) (Ca:Addr) (m:Str),fns.ms[k]?=some (c,Ca,m)→e1z P w K mg base d (spT K tb (callW tb d) (fns.f.length + k)) c Ca m
 | 0=>by
  have no:∀ {f fd} vs H Q E,tb[f]?=some fd→¬ spT K tb (callW tb 0) f vs H Q E:=fun vs H Q E h1 z=>by
   unfold spT at z
   rw [h1] at z
   obtain ⟨_,_,_,_,_,k,_⟩:=z
   exact k
  refine ⟨fun f x h=>?_,fun k c Ca m h=>?_⟩
  ·obtain ⟨df,fd,fa,fdd,h1,h2,h6,h3,h4,h5⟩:=D f x h
   exact ⟨fa,fdd,df.ps,h4,h3.kp,h5,fun vs H Q E z=>absurd z (no vs H Q E h1),fun A outer s H args us vs Q E _ _ _ _ z=>absurd z (no vs H Q E h1)⟩
  ·obtain ⟨df,fd,fa,fdd,nm,qu,h1,h2,h6,h3,h4,h5,h7,h8,h9⟩:=DM k c Ca m h
   exact ⟨fa,fdd,df.ps,h4,h5,h7,h8,h9,fun vs H Q E z=>absurd z (no vs H Q E h1),fun A outer s H args us vs Q E _ _ _ _ z=>absurd z (no vs H Q E h1)⟩
 | d + 1=>by
  obtain ⟨r1,r2⟩:=b9z blt fl D DM d
  refine ⟨fun f x h=>?_,fun k c Ca m h=>?_⟩
  ·obtain ⟨df,fd,fa,fdd,h1,h2,h6,h3,h4,h5⟩:=D f x h
   exact ⟨fa,fdd,df.ps,h4,h3.kp,h5,b1p h3 h1 h2 h6 r1 blt r2 fl⟩
  ·obtain ⟨df,fd,fa,fdd,nm,qu,h1,h2,h6,h3,h4,h5,h7,h8,h9⟩:=DM k c Ca m h
   exact ⟨fa,fdd,df.ps,h4,h5,h7,h8,h9,b1p h3 h1 h2 h6 r1 blt r2 fl⟩
theorem law_sp {d f:Nat} {H:Hp} {a:Addr} {ns:List Int} {fd:FD} (hf:tb[f]?=some fd) (hio:fd.io=false) (hfr:fd.fr=false) (hO:d2y H) (hS:SqL K H a (ns.map V.int)) (h:callW tb d f [.scr ns] fun z=>z.1=.bl true) :
  spT K tb (callW tb d) f [.ref a] H (fun v _=>v=.bl true) fun _ _ _=>False:=by
 have e0:spT K tb (callW tb d) f=spQ K (callW tb d) false false f:=by unfold spT; rw [hf]; show spQ K (callW tb d) fd.io fd.fr f=_; rw [hio,hfr]
 rw [e0]
 refine ⟨H,[.scr ns],_,Same.refl H,RVs.one ⟨a,rfl,?_⟩,h,fun z e x S' H' _ r=>?_⟩
 ·rcases hS with (h | ⟨o,h⟩) | h
  ·rcases hO a with z | ⟨o,xs,z⟩
   ·rw [z] at h; cases h
   ·rw [z] at h; cases h
  ·exact .inl ⟨o,h⟩
  ·exact .inr (.inr h)
 ·have r:RV K S' z.1 x:=r
  rw [e] at r; exact r
end
noncomputable def EachI {α:Type} (P:Nat→α→Prop):Nat→List α→Prop
 | _,[]=>True
 | i,x :: xs=>P i x∧EachI P (i + 1) xs
theorem EachI.get {α:Type} {P:Nat→α→Prop}:∀ {xs:List α} {k:Nat},EachI P k xs→∀ (f:Nat) (x:α),xs[f]?=some x→P (k + f) x
 | _ :: _,_,h,0,x,e=>(Option.some.inj e) ▸ h.1
 | _ :: xs,k,h,f + 1,x,e=>by
  have:=EachI.get h.2 f x e
  rw [Nat.add_assoc,Nat.add_comm 1 f] at this
  exact this
theorem us1 {P:List Value→Prop} {us:List Value} (h:us.length=1) (H:∀ a,P [a]):P us:=match us,h with | [_],_=>H _
theorem us2 {P:List Value→Prop} {us:List Value} (h:us.length=2) (H:∀ a b,P [a,b]):P us:=match us,h with | [_,_],_=>H _ _
theorem us3 {P:List Value→Prop} {us:List Value} (h:us.length=3) (H:∀ a b c,P [a,b,c]):P us:=match us,h with | [_,_,_],_=>H _ _ _
theorem us4 {P:List Value→Prop} {us:List Value} (h:us.length=4) (H:∀ a b c d,P [a,b,c,d]):P us:=match us,h with | [_,_,_,_],_=>H _ _ _ _
end Kq
end
section
namespace Kq
open PySem PySem.Spec PySem.Calls PyProof.Rows L2 PySem.W
theorem a2j:∀ {K:Frag} {a:Addr} {o:Obj},K.lookup a=some o→(a,o)∈K
 | [],a,o,h=>by simp at h
 | (b,u) :: K,a,o,h=>by
  rw [List.lookup_cons] at h
  split at h
  ·rename_i e; cases h; rw [beq_iff_eq.mp e]; exact Γn
  ·exact Γh _ (a2j h)
theorem b7k {K:Frag} {a:Addr} {o:Obj} (h:(a,o)∈K):∃ u,K.lookup a=some u:=by
 induction K with
 | nil=>exact absurd h List.not_mem_nil
 | cons p K ih =>
  obtain ⟨b,u⟩:=p
  rw [List.lookup_cons]
  split
  ·exact ⟨_,rfl⟩
  ·rename_i e
   rcases List.mem_cons.mp h with z | z
   ·rw [(Prod.mk.inj z).1,beq_self_eq_true] at e; cases e
   ·exact ih z
noncomputable def AllIn (K:Frag) (h:Heap):Prop:=∀ p∈K,h.get? p.1=some p.2
theorem AllIn.to {K:Frag} {h:Heap} (x:AllIn K h):K.In h:=fun a o e=>x _ (a2j e)
theorem AllIn.look {K:Frag} {h:Heap} (x:AllIn K h) {a:Addr} {o:Obj} (m:(a,o)∈K):K.lookup a=some o:=by
 obtain ⟨u,e⟩:=b7k m
 have h1:=x _ (a2j e)
 rw [show h.get? a=some o from x _ m] at h1
 cases h1; exact e
noncomputable def CIn (K:Frag) (cd:Value) (q:Str):Prop:=∃ c oc vs t,cd=.ref c∧(c,oc)∈K∧oc.data=.fields vs∧vs[1]?=some (.str q t)
noncomputable def DIn (K:Frag) (mg:Str→Option Value) (d:DefRec):Prop:=∃ fa o pm cd doc,mg d.name=some (.ref fa)∧(fa,o)∈K∧o.data=.func (docDef d.name d.params d.body d.scope pm cd doc)∧CIn K cd d.name
theorem DIn.more {K K':Frag} {mg:Str→Option Value} {d:DefRec} (s:∀ p∈K,p∈K') (x:DIn K mg d):DIn K' mg d:=by
 obtain ⟨fa,o,pm,cd,doc,h1,h2,h3,c,oc,vs,t,h4,h5,h6⟩:=x
 exact ⟨fa,o,pm,cd,doc,h1,s _ h2,h3,c,oc,vs,t,h4,s _ h5,h6⟩
theorem DIn.fn {K:Frag} {h:Heap} (A:AllIn K h) {mg:Str→Option Value} {x:Str} {st:Stmt} {pos:Pos} (D:DIn K mg ⟨x,a3x st,a1m st,a0m st,pos⟩):∃ fa fd,mg x=some (.ref fa)∧Fun K x x st fa fd:=by
 obtain ⟨fa,o,pm,cd,doc,h1,h2,h3,c,oc,vs,t,rfl,h5,h6,h7⟩:=D
 have l:=A.look h2
 have lc:=A.look h5
 obtain ⟨k1,k2,k3,k4⟩:=o
 obtain ⟨j1,j2,j3,j4⟩:=oc
 cases h3; cases h6
 refine ⟨fa,_,h1,c3x (kV:=.none) (doc:=doc) (pm:=pm) (an:=none) (cdv:=.ref c) (ct:=.none) l ?_ ?_⟩
 ·show (match K.lookup c with | some ⟨_,_,.fields vs,_⟩=>_ | _=>_)=true
  rw [lc]
  obtain ⟨l⟩:=vs
  match l,h7 with
  | [],h7=>simp at h7
  | [a],h7=>simp at h7
  | a :: b :: r,h7 =>
   simp at h7; subst h7
   exact beq_self_eq_true _
 ·show (match K.lookup fa with | some ⟨_,_,.func _,_⟩=>true | some ⟨_,_,.cls _,_⟩=>_ | _=>false)=true
  rw [l]
noncomputable def d2j:Stmt→Pos
 | .FunctionDef _ _ _ _ _ _ _ _ _ p=>p
 | _=>⟨0,0,0,0⟩
noncomputable def freeIn (q:Program) (loose:List Str) (x:Str):Bool:=!startupNames.contains x && !loose.contains x && !((recsOf q).map (·.name)).contains x && !((litsOf q).map (·.1)).contains x && !((clssOf q loose).map (·.name)).contains x
theorem c7a {q:Program} {loose:List Str} {mean:ExcName→Option Value} {mg mb:Str→Option Value} {h:Heap} (T:Top q loose mean mg mb h) {x:Str} (e:freeIn q loose x=true):mg x=none:=by
 unfold freeIn at e
 simp only [Bool.and_eq_true,Bool.not_eq_true',List.contains_eq_mem,decide_eq_false_iff_not] at e
 exact T.free x e.1.1.1.1 e.1.1.1.2 e.1.1.2 e.1.2 e.2
end Kq
end
set_option maxHeartbeats 1000000
section
namespace Kq
@[scoped simp ↓] theorem a0f {α:Type} (x:α) (Q:α→Prop):wp (some x) Q=Q x:=propext Iff.rfl
@[scoped simp ↓] theorem d4z {α:Type} (Q:α→Prop):wp (none:Option α) Q=False:=propext Iff.rfl
theorem a2l {α β:Type} (r:Option α) (f:α→Option β) (Q:β→Prop):wp (r.bind f) Q↔wp r (fun x=>wp (f x) Q):=by cases r <;> rfl
@[scoped simp ↓] theorem a2o {α β:Type} (r:Option α) (f:α→β) (Q:β→Prop):wp (r.map f) Q↔wp r (fun x=>Q (f x)):=by cases r <;> rfl
@[scoped simp ↓] theorem a3n {α:Type} (c:Prop) [Decidable c] (a:α) (Q:α→Prop):wp (if c then some a else none) Q↔c∧Q a:=by
 by_cases h:c <;> simp [h]
@[scoped simp ↓] theorem e0i (i:Nat) (L:a0c) (Q:FV→a0c→Prop):a0e i L Q=(wp (lk L i) fun x=>Q x L):=propext Iff.rfl
@[scoped simp ↓] theorem eC_eq (v:FV) (L:a0c) (Q:FV→a0c→Prop):eC v L Q=(Q v L):=propext Iff.rfl
@[scoped simp ↓] theorem eUn_eq (f:FV→Option FV) (a:EW) (L:a0c) (Q:FV→a0c→Prop):eUn f a L Q=(a L fun x L1=>wp (f x) fun z=>Q z L1):=propext Iff.rfl
@[scoped simp ↓] theorem eOp_eq (f:FV→FV→Option FV) (a b:EW) (L:a0c) (Q:FV→a0c→Prop):eOp f a b L Q=(a L fun x L1=>b L1 fun y L2=>wp (f x y) fun z=>Q z L2):=propext Iff.rfl
@[scoped simp ↓] theorem e0n (f:FV→FV→Option FV) (i:Nat) (b:EW) (L:a0c) (Q:FV→a0c→Prop):b8t f i b L Q=(wp (lk L i) fun _=>b L fun y L1=>wp (lk L1 i) fun x=>wp (f x y) fun z=>Q z L1):=propext Iff.rfl
@[scoped simp ↓] theorem e0q (a b:EW) (L:a0c) (Q:FV→a0c→Prop):d4j a b L Q=(a L fun x L1=>wp (b0w x) fun r=>if r=true then b L1 Q else Q x L1):=propext Iff.rfl
@[scoped simp ↓] theorem eIf_eq (c:BW) (a b:EW) (L:a0c) (Q:FV→a0c→Prop):eIf c a b L Q=(c L fun r L1=>if r=true then a L1 Q else b L1 Q):=propext Iff.rfl
@[scoped simp ↓] theorem e1r (a:EW) (L:a0c) (Q:Bool→a0c→Prop):a2e a L Q=(a L fun x L1=>wp (b0w x) fun b=>Q b L1):=propext Iff.rfl
@[scoped simp ↓] theorem e1t (a b:BW) (L:a0c) (Q:Bool→a0c→Prop):c7x a b L Q=(a L fun r L1=>if r=true then b L1 Q else Q false L1):=propext Iff.rfl
@[scoped simp ↓] theorem bOr_eq (a b:BW) (L:a0c) (Q:Bool→a0c→Prop):bOr a b L Q=(a L fun r L1=>if r=true then Q true L1 else b L1 Q):=propext Iff.rfl
@[scoped simp ↓] theorem e1s (a:BW) (L:a0c) (Q:Bool→a0c→Prop):c4e a L Q=(a L fun r L1=>Q (!r) L1):=propext Iff.rfl
@[scoped simp ↓] theorem d4r (L:a0c) (Q:Bool→a0c→Prop):a2f  L Q=(Q true L):=propext Iff.rfl
@[scoped simp ↓] theorem e1v (L:a0c) (Q:List FV→a0c→Prop):a0p  L Q=(Q [] L):=propext Iff.rfl
@[scoped simp ↓] theorem d4w (a:EW) (r:AW) (L:a0c) (Q:List FV→a0c→Prop):a0a a r L Q=(a L fun x L1=>r L1 fun xs L2=>Q (x :: xs) L2):=propext Iff.rfl
@[scoped simp ↓] theorem e0j (a:AW) (L:a0c) (Q:FV→a0c→Prop):a4y a L Q=(a L fun xs L1=>xs.length≤big∧Q (.tup xs) L1):=propext Iff.rfl
@[scoped simp ↓] theorem e0o (a:AW) (L:a0c) (Q:FV→a0c→Prop):c0h a L Q=(a L fun xs L1=>xs.length≤big∧Q (.lst xs) L1):=propext Iff.rfl
@[scoped simp ↓] theorem d3j (L:a0c) (Q:Option Int→a0c→Prop):b6y  L Q=(Q none L):=propext Iff.rfl
@[scoped simp ↓] theorem d3i (a:EW) (L:a0c) (Q:Option Int→a0c→Prop):b1b a L Q=(a L fun x L1=>wp (a2n x) fun i=>Q (some i) L1):=propext Iff.rfl
@[scoped simp ↓] theorem eSl_eq (a:EW) (l h:OW) (L:a0c) (Q:FV→a0c→Prop):eSl a l h L Q=(a L fun x L1=>l L1 fun i L2=>h L2 fun j L3=>wp (a7l x i j) fun z=>Q z L3):=propext Iff.rfl
@[scoped simp ↓] theorem d4i (call:CW) (f:Nat) (a:AW) (L:a0c) (Q:FV→a0c→Prop):a1h call f a L Q=(a L fun xs L1=>call f xs fun z=>Q z.1 L1):=propext Iff.rfl
@[scoped simp ↓] theorem d2e (call:CW) (f i:Nat) (a:AW) (L:a0c) (Q:FV→a0c→Prop):a1f call f i a L Q=(wp (lk L i) fun _=>a L fun xs L1=>wp (lk L1 i) fun x=>call f (x :: xs) fun z=>Q z.1 (L1.set i (some z.2))):=propext Iff.rfl
@[scoped simp ↓] theorem d4e (f:FV→FV→Option FV) (i:Nat) (a:EW) (L:a0c) (Q:FV→a0c→Prop):c2l f i a L Q=(wp (lk L i) fun v=>wp (a6x v) fun _=>a L fun y L1=>wp (lk L1 i) fun x=>wp (f x y) fun z=>Q .non (L1.set i (some z))):=propext Iff.rfl
@[scoped simp ↓] theorem d7w (a:EW) (L:a0c) (Q:List FV→a0c→Prop):c8o a L Q=(a L fun x L1=>wp (a3r x) fun xs=>Q xs L1):=propext Iff.rfl
@[scoped simp ↓] theorem d7x (a:EW) (L:a0c) (Q:List FV→a0c→Prop):b2z a L Q=(a L fun x L1=>wp (a2n x) fun j=>a1a j=true∧Q (upF 0 j.toNat) L1):=propext Iff.rfl
@[scoped simp ↓] theorem d3n (a b:EW) (L:a0c) (Q:List FV→a0c→Prop):iRng2 a b L Q=(a L fun x L1=>b L1 fun y L2=>wp (a2n x) fun i=>wp (a2n y) fun j=>(a1a i && a1a j)=true∧Q (upF i (j - i).toNat) L2):=propext Iff.rfl
@[scoped simp ↓] theorem d3p (a:EW) (L:a0c) (Q:List FV→a0c→Prop):b4d a L Q=(a L fun x L1=>wp (a3r x) fun xs=>Q (a3a (upF 0 xs.length) xs) L1):=propext Iff.rfl
@[scoped simp ↓] theorem d4h (n m:Nat) (it:AW) (tg:Tg) (t:BW) (e:EW) (L:a0c) (Q:FV→a0c→Prop):a2t n m it tg t e L Q=(it L fun xs L1=>L1.length=n∧xs.length≤big∧a3z n m tg t e xs [] L1 fun ys L2=>Q (.lst ys) L2):=propext Iff.rfl
@[scoped simp ↓] theorem d5y (L:a0c) (Q:FFl→a0c→Prop):a6u  L Q=(Q .next L):=propext Iff.rfl
@[scoped simp ↓] theorem d5w (s r:SW) (L:a0c) (Q:FFl→a0c→Prop):a0t s r L Q=(s L (aft (fun L1=>r L1 Q) Q)):=propext Iff.rfl
@[scoped simp ↓] theorem d6e (e:EW) (tg:Tg) (L:a0c) (Q:FFl→a0c→Prop):a1n e tg L Q=(e L fun x L1=>gW tg x L1 fun L2=>Q .next L2):=propext Iff.rfl
@[scoped simp ↓] theorem d5v (k:Nat) (i e:EW) (L:a0c) (Q:FFl→a0c→Prop):d3e k i e L Q=(wp (lk L k) fun _=>e L fun x L1=>i L1 fun j L2=>wp (lk L2 k) fun y=>wp (d5s y j x) fun z=>Q .next (L2.set k (some z))):=propext Iff.rfl
@[scoped simp ↓] theorem d5x (e:EW) (L:a0c) (Q:FFl→a0c→Prop):a1y e L Q=(e L fun x L1=>Q (.ret x) L1):=propext Iff.rfl
@[scoped simp ↓] theorem d6c (e:EW) (L:a0c) (Q:FFl→a0c→Prop):b5n e L Q=(e L fun _ L1=>Q .next L1):=propext Iff.rfl
@[scoped simp ↓] theorem sIf_eq (c:BW) (a b:SW) (L:a0c) (Q:FFl→a0c→Prop):sIf c a b L Q=(c L fun r L1=>if r=true then a L1 Q else b L1 Q):=propext Iff.rfl
@[scoped simp ↓] theorem d6b (it:AW) (tg:Tg) (b:SW) (L:a0c) (Q:FFl→a0c→Prop):c0d it tg b L Q=(it L fun xs L1=>c3y tg b xs L1 Q):=propext Iff.rfl
@[scoped simp ↓] theorem d5u (c:BW) (b:SW) (L:a0c) (Q:FFl→a0c→Prop):d3c c b L Q=(∃ n,c8g c b n L Q):=propext Iff.rfl
@[scoped simp ↓] theorem lk_z (x:Option FV) (L:a0c) (Q:FV→Prop):wp (lk (x :: L) 0) Q=wp x Q:=propext Iff.rfl
@[scoped simp ↓] theorem gw_nm (i:Nat) (v:FV) (L:a0c) (Q:a0c→Prop):gW (.nm i) v L Q=Q (L.set i (some v)):=propext Iff.rfl
@[scoped simp ↓] theorem gw_tp (is:List Nat) (v:FV) (L:a0c) (Q:a0c→Prop):gW (.tp is) v L Q=wp (a6s v) fun xs=>wp (a8i L is xs) Q:=propext Iff.rfl
@[scoped simp ↓] theorem sa_n (L:a0c) (Q:a0c→Prop):wp (a8i L [] []) Q=Q L:=propext Iff.rfl
@[scoped simp ↓] theorem sa_c (L:a0c) (i:Nat) (is:List Nat) (v:FV) (vs:List FV) (Q:a0c→Prop):wp (a8i L (i :: is) (v :: vs)) Q=wp (a8i (L.set i (some v)) is vs) Q:=propext Iff.rfl
section
variable (L:a0c) (k:a0c→Prop) (Q:FFl→a0c→Prop)
@[scoped simp ↓] theorem e1u:aft k Q .next L=k L:=propext Iff.rfl
@[scoped simp ↓] theorem af_ret (v:FV):aft k Q (.ret v) L=Q (.ret v) L:=propext Iff.rfl
@[scoped simp ↓] theorem tq_n:b0v k Q .next L=k L:=propext Iff.rfl
@[scoped simp ↓] theorem tq_r (v:FV):b0v k Q (.ret v) L=Q (.ret v) L:=propext Iff.rfl
end
@[scoped simp ↓] theorem en_rt (fr:Bool) (Q:FV×FV→Prop) (v:FV) (L:a0c):b8p true fr Q (.ret v) L=wp (lk L 0) fun x=>Q (v,x):=propext Iff.rfl
@[scoped simp ↓] theorem en_rf (fr:Bool) (Q:FV×FV→Prop) (v:FV) (L:a0c):b8p false fr Q (.ret v) L=Q (v,.non):=propext Iff.rfl
@[scoped simp ↓] theorem en_nt (Q:FV×FV→Prop) (L:a0c):b8p true false Q .next L=wp (lk L 0) fun x=>Q (.non,x):=propext Iff.rfl
section
variable (Q:FV→Prop) (B:Bool→Prop) (i j:Int)
@[scoped simp ↓] theorem tr_b (b:Bool):wp (b0w (.bl b)) B=B b:=propext Iff.rfl
@[scoped simp ↓] theorem tr_l (xs:List FV):wp (b0w (.lst xs)) B=B (!xs.isEmpty):=propext Iff.rfl
@[scoped simp ↓] theorem in_i (Q:Int→Prop):wp (a2n (.int i)) Q=Q i:=propext Iff.rfl
@[scoped simp ↓] theorem tp_t (xs:List FV) (Q:List FV→Prop):wp (a6s (.tup xs)) Q=Q xs:=propext Iff.rfl
@[scoped simp ↓] theorem ls_l (xs:List FV) (Q:List FV→Prop):wp (a6x (.lst xs)) Q=Q xs:=propext Iff.rfl
@[scoped simp ↓] theorem d3b (xs:List FV) (Q:List FV→Prop):wp (a3r (.tup xs)) Q=Q xs:=propext Iff.rfl
@[scoped simp ↓] theorem sq_l (xs:List FV) (Q:List FV→Prop):wp (a3r (.lst xs)) Q=Q xs:=propext Iff.rfl
@[scoped simp ↓] theorem sq_s (ns:List Int) (Q:List FV→Prop):wp (a3r (.scr ns)) Q=Q (ns.map .int):=propext Iff.rfl
@[scoped simp ↓] theorem li_l (xs:List FV) (Q:List FV→Prop):wp (a1w (.lst xs)) Q=Q xs:=propext Iff.rfl
@[scoped simp ↓] theorem b_add:wp (a3m (.int i) (.int j)) Q=Q (.int (i + j)):=propext Iff.rfl
@[scoped simp ↓] theorem b_sub:wp (b2a (.int i) (.int j)) Q=Q (.int (i - j)):=propext Iff.rfl
@[scoped simp ↓] theorem b_mul:wp (c0f (.int i) (.int j)) Q↔(a1z i || a1z j)=true∧Q (.int (i * j)):=a3n _ _ _
@[scoped simp ↓] theorem b_fdiv:wp (b8l (.int i) (.int j)) Q↔(0 < j∧j < 1073741824)∧Q (.int (i / j)):=a3n _ _ _
@[scoped simp ↓] theorem b_mod:wp (c3o (.int i) (.int j)) Q↔0 < j∧Q (.int (i % j)):=a3n _ _ _
@[scoped simp ↓] theorem b_pow:wp (c9s (.int i) (.int j)) Q↔(0≤j∧j≤1000∧a1z i=true)∧Q (.int (i ^ j.toNat)):=a3n _ _ _
@[scoped simp ↓] theorem b_addt (xs ys:List FV):wp (a3m (.tup xs) (.tup ys)) Q↔xs.length + ys.length≤big∧Q (.tup (xs++ys)):=a3n _ _ _
@[scoped simp ↓] theorem b_addl (xs ys:List FV):wp (a3m (.lst xs) (.lst ys)) Q↔xs.length + ys.length≤big∧Q (.lst (xs++ys)):=a3n _ _ _
@[scoped simp ↓] theorem k_eq (a b:FV):wp (eqB a b) Q↔wp (eqF a b) fun r=>Q (.bl r):=a2o _ _ _
@[scoped simp ↓] theorem k_ne (a b:FV):wp (neB a b) Q↔wp (eqF a b) fun r=>Q (.bl (!r)):=a2o _ _ _
@[scoped simp ↓] theorem k_lt:wp (ltB (.int i) (.int j)) Q=Q (.bl (decide (i < j))):=propext Iff.rfl
@[scoped simp ↓] theorem k_le:wp (leB (.int i) (.int j)) Q=Q (.bl (decide (i≤j))):=propext Iff.rfl
@[scoped simp ↓] theorem k_gt:wp (gtB (.int i) (.int j)) Q=Q (.bl (decide (j < i))):=propext Iff.rfl
@[scoped simp ↓] theorem k_ge:wp (geB (.int i) (.int j)) Q=Q (.bl (decide (j≤i))):=propext Iff.rfl
@[scoped simp ↓] theorem e_ii:wp (eqF (.int i) (.int j)) B=B (i == j):=propext Iff.rfl
@[scoped simp ↓] theorem ix_eq (v:FV):wp (ixF v (.int i)) Q↔wp (a3r v) fun xs=>wp (atF xs i) Q:=by
 show wp ((a3r v).bind _) Q↔_; rw [a2l]
@[scoped simp ↓] theorem f_min:wp (b7d (.int i) (.int j)) Q=Q (.int (if j < i then j else i)):=propext Iff.rfl
@[scoped simp ↓] theorem f_not (b:Bool):wp (d7i (.bl b)) Q=Q (.bl (!b)):=propext Iff.rfl
@[scoped simp ↓] theorem f_neg:wp (c8n (.int i)) Q=Q (.int (-i)):=propext Iff.rfl
@[scoped simp ↓] theorem f_len (v:FV):wp (a6a v) Q↔wp (a3r v) fun xs=>Q (.int xs.length):=a2o _ _ _
@[scoped simp ↓] theorem f_abs:wp (d2w (.int i)) Q=Q (.int (if i < 0 then -i else i)):=propext Iff.rfl
@[scoped simp ↓] theorem f_intb (b:Bool):wp (b1z (.bl b)) Q=Q (.int (if b then 1 else 0)):=propext Iff.rfl
@[scoped simp ↓] theorem f_all (v:FV):wp (d4v v) Q↔wp (a1w v) fun xs=>wp (a4n xs) fun bs=>Q (.bl (bs.all id)):=by
 show wp ((a1w v).bind _) Q↔_; rw [a2l]; simp only [a2o]
@[scoped simp ↓] theorem f_any (v:FV):wp (d4u v) Q↔wp (a1w v) fun xs=>wp (a4n xs) fun bs=>Q (.bl (bs.any id)):=by
 show wp ((a1w v).bind _) Q↔_; rw [a2l]; simp only [a2o]
@[scoped simp ↓] theorem f_minI (v:FV):wp (c1p v) Q↔wp (a1w v) fun xs=>wp (d3l xs) Q:=a2l _ _ _
@[scoped simp ↓] theorem e0c (v:FV):wp (a2g v) Q↔wp (a3r v) fun xs=>Q (.tup xs):=a2o _ _ _
@[scoped simp ↓] theorem f_isi (t:Ty) (v:FV):wp (d1e t v) Q↔wp (b1n v t) fun b=>Q (.bl b):=a2o _ _ _
@[scoped simp ↓] theorem y_int (t:Ty):wp (b1n (.int i) t) B=B (t == .int):=propext Iff.rfl
@[scoped simp ↓] theorem y_tup (b:List FV) (t:Ty):wp (b1n (.tup b) t) B=B (t == .tuple):=propext Iff.rfl
@[scoped simp ↓] theorem iN_n:wp (a2m .non) Q=Q (.bl true):=propext Iff.rfl
@[scoped simp ↓] theorem iN_i:wp (a2m (.int i)) Q=Q (.bl false):=propext Iff.rfl
@[scoped simp ↓] theorem nN_n:wp (a1s .non) Q=Q (.bl false):=propext Iff.rfl
@[scoped simp ↓] theorem nN_i:wp (a1s (.int i)) Q=Q (.bl true):=propext Iff.rfl
@[scoped simp ↓] theorem m_app (xs:List FV) (v:FV):wp (d4t (.lst xs) v) Q↔xs.length < big∧Q (.lst (xs++[v])):=a3n _ _ _
@[scoped simp ↓] theorem s_t (xs:List FV) (lo hi:Option Int):wp (a7l (.tup xs) lo hi) Q=Q (.tup (a9g xs lo hi)):=propext Iff.rfl
@[scoped simp ↓] theorem st_l (xs:List FV) (v:FV):wp (d5s (.lst xs) (.int j) v) Q↔wp (ixN xs.length j) fun p=>Q (.lst (xs.set p v)):=a2o _ _ _
end
theorem a2v {xs:List FV} {i:Int} {n:Nat} {v:FV} {Q:FV→Prop} (h:i=n) (hv:xs[n]?=some v):wp (atF xs i) Q↔Q v:=by
 subst h
 have:=(List.getElem?_eq_some_iff.mp hv).1
 simp only [atF,ixN,Int.natCast_nonneg,if_true,Int.ofNat_lt,this,Option.bind_some,Int.toNat_natCast,hv,a0f]
@[scoped simp ↓] theorem at_0 (x:FV) (r:List FV) (Q:FV→Prop):wp (atF (x :: r) 0) Q↔Q x:=a2v (n:=0) rfl rfl
@[scoped simp ↓] theorem at_1 (x y:FV) (r:List FV) (Q:FV→Prop):wp (atF (x :: y :: r) 1) Q↔Q y:=a2v (n:=1) rfl rfl
@[scoped simp ↓] theorem at_2 (x y z:FV) (r:List FV) (Q:FV→Prop):wp (atF (x :: y :: z :: r) 2) Q↔Q z:=a2v (n:=2) rfl rfl
theorem c4f {xs:List FV} {u:Int} {Q:FV→Prop} (h0:0≤u) (h1:u < xs.length) (h:∀ x∈xs,Q x):wp (atF xs u) Q:=by
 have hu:u.toNat < xs.length:=by lia
 rw [a2v (show u=u.toNat by lia) (List.getElem?_eq_getElem hu)]
 exact h _ (List.getElem_mem hu)
theorem a6q {α:Type} (p:α→Bool):∀ xs:List α,a4n (xs.map fun x=>.bl (p x))=some (xs.map p)
 | []=>rfl
 | x :: r=>by simp only [List.map_cons,a4n,a6q p r,Option.map_some]
theorem a3g:∀ ns:List Int,a1c (ns.map .int)=some ns
 | []=>rfl
 | x :: r=>by simp only [List.map_cons,a1c,a3g r,Option.map_some]
@[scoped simp] theorem ty_10:(Ty.bool == Ty.int)=false:=by decide
theorem a0h {tb:List FD} {d f:Nat} {args:List FV} {fd:FD} {Q:FV×FV→Prop} (h:tb[f]?=some fd) (hl:args.length=fd.np)
  (H:fd.body (callW tb d) (args.map some++Γj (fd.ns - fd.np) none) (b8p fd.io fd.fr Q)):callW tb (d + 1) f args Q:=by
 show (match tb[f]? with
  | none=>False
  | some fd=>args.length=fd.np∧fd.body (callW tb d) (args.map some++Γj (fd.ns - fd.np) none) (b8p fd.io fd.fr Q))
 rw [h]; exact ⟨hl,H⟩
theorem a9e {tb:List FD} {d f:Nat} {args:List FV} {fd:FD} {Q:FV×FV→Prop} (h:tb[f]?=some fd) (hl:args.length=fd.np) :
  callW tb (d + 1) f args Q↔fd.body (callW tb d) (args.map some++Γj (fd.ns - fd.np) none) (b8p fd.io fd.fr Q):=by
 show (match tb[f]? with
  | none=>False
  | some fd=>args.length=fd.np∧fd.body (callW tb d) (args.map some++Γj (fd.ns - fd.np) none) (b8p fd.io fd.fr Q))↔_
 rw [h]; exact ⟨fun z=>z.2,fun z=>⟨hl,z⟩⟩
theorem a5k {α:Type} {tg:Tg} {b:SW} {f:α→FV} {I:List α→a0c→Prop} {Q:FFl→a0c→Prop} (all:List α) :
  ∀ (rest done:List α) (L:a0c),all=done++rest→I done L →
  (∀ d x r L (K:a0c→Prop),all=d++x :: r→I d L→(∀ L',I (d++[x]) L'→K L')→gW tg (f x) L fun L1=>b L1 (b0v K Q)) →
  (∀ L,I all L→Q .next L)→c3y tg b (rest.map f) L Q
 | [],done,L,e,h,_,E=>by
  rw [List.append_nil] at e
  exact E L (e ▸ h)
 | x :: rest,done,L,e,h,B,E=>B done x rest L _ e h fun L' h'=>a5k all rest (done++[x]) L' (by simp [e]) h' B E
theorem a3j {tg:Tg} {b:SW} {I:Nat→a0c→Prop} {Q:FFl→a0c→Prop}:∀ (n i:Nat) (L:a0c),I i L →
  (∀ j L (K:a0c→Prop),i≤j→j < i + n→I j L→(∀ L',I (j + 1) L'→K L')→gW tg (.int (j:Int)) L fun L1=>b L1 (b0v K Q)) →
  (∀ L,I (i + n) L→Q .next L)→c3y tg b (upF (i:Int) n) L Q
 | 0,i,L,h,_,E=>E L h
 | n + 1,i,L,h,B,E=>B i L _ (Γi _) (by lia) h fun L' h'=>by
  have:=a3j n (i + 1) L' h' (fun j L K hj hj'=>B j L K (by lia) (by lia)) (fun L h=>E L (by rw [show i + (n + 1)=i + 1 + n by lia]; exact h))
  simpa using this
theorem while_by {c:BW} {b:SW} {I:Nat→a0c→Prop} {Q:FFl→a0c→Prop} (B:∀ m L (K:a0c→Prop),I m L→(∀ m' L',m' < m→I m' L'→K L')→c L fun t L1=>if t=true then b L1 (b0v K Q) else Q .next L1) {m:Nat} {L:a0c} (h:I m L):d3c c b L Q:=by
 have go:∀ n m L,m < n→I m L→c8g c b n L Q:=by
  intro n
  induction n with
  | zero=>intro m L hm; lia
  | succ n ih=>intro m L hm h; exact B m L _ h fun m' L' h1 h2=>ih m' L' (by lia) h2
 exact ⟨m + 1,go _ m L (Nat.lt_succ_self _) h⟩
theorem a6p {α:Type} {tg:Tg} {n m:Nat} {t:BW} {e:EW} {f:α→FV} {I:List α→List FV→a0c→Prop} {Q:List FV→a0c→Prop} (all:List α) :
  ∀ (rest done:List α) (acc:List FV) (L:a0c),all=done++rest→I done acc L →
  (∀ d x r acc L (K:List FV→a0c→Prop),all=d++x :: r→I d acc L→(∀ acc' L',I (d++[x]) acc' L'→K acc' L')→gW tg (f x) (L++Γj m none) fun L1=>t L1 fun b L2=>if b=true then e L2 fun v L3=>K (acc++[v]) (L3.take n) else K acc (L2.take n)) →
  (∀ ys L,I all ys L→Q ys L)→a3z n m tg t e (rest.map f) acc L Q
 | [],done,acc,L,e,h,_,E=>by
  rw [List.append_nil] at e
  exact E acc L (e ▸ h)
 | x :: rest,done,acc,L,e,h,B,E=>B done x rest acc L (fun acc' L'=>a3z _ _ _ _ _ (rest.map f) acc' L' Q) e h fun acc' L' h'=>a6p all rest (done++[x]) acc' L' (by simp [e]) h' B E
theorem a0y {α:Type} {tg:Tg} {n m:Nat} {e:EW} {f:α→FV} {g:α→FV} {Q:List FV→a0c→Prop} {L:a0c}:∀ (xs:List α) (acc:List FV),
  (∀ x∈xs,∀ K:FV→a0c→Prop,K (g x) L→gW tg (f x) (L++Γj m none) fun L1=>e L1 fun v L3=>K v (L3.take n))→Q (acc++xs.map g) L→a3z n m tg a2f e (xs.map f) acc L Q
 | [],acc,_,E=>by
  show Q acc L
  simpa using E
 | x :: xs,acc,B,E=>B x Γn (fun v L'=>a3z n m tg a2f e (xs.map f) (acc++[v]) L' Q) (a0y xs (acc++[g x]) (fun y hy=>B y (Γh _ hy)) (by simpa using E))
theorem a3y {α:Type} {tg:Tg} {n m:Nat} {t:BW} {e:EW} {f:α→FV} {g:α→FV} {p:α→Bool} {Q:List FV→a0c→Prop} {L:a0c}:∀ (xs:List α) (acc:List FV),
  (∀ x∈xs,∀ (K:FV→a0c→Prop) (N:a0c→Prop),(p x=true→K (g x) L)→(p x=false→N L)→gW tg (f x) (L++Γj m none) fun L1=>t L1 fun b L2=>if b=true then e L2 fun v L3=>K v (L3.take n) else N (L2.take n))→Q (acc++(xs.filter p).map g) L→a3z n m tg t e (xs.map f) acc L Q
 | [],acc,_,E=>by
  show Q acc L
  simpa using E
 | x :: xs,acc,B,E=>B x Γn (fun v L'=>a3z n m tg t e (xs.map f) (acc++[v]) L' Q) (fun L'=>a3z n m tg t e (xs.map f) acc L' Q)
   (fun hp=>a3y xs (acc++[g x]) (fun y hy=>B y (Γh _ hy)) (by rw [List.filter_cons_of_pos hp] at E; simpa using E))
   (fun hp=>a3y xs acc (fun y hy=>B y (Γh _ hy)) (by rw [List.filter_cons_of_neg (by simp [hp])] at E; exact E))
theorem c3b:∀ n lo:Nat,upF (lo:Int) n=(List.range' lo n).map fun i:Nat=>FV.int i
 | 0,lo=>rfl
 | n + 1,lo=>by simp only [upF,List.range'_succ,List.map_cons]; rw [← c3b n (lo + 1)]; simp
theorem a1d (n:Nat):upF 0 n=(List.range n).map fun i:Nat=>FV.int i:=by
 have:=c3b n 0
 rw [List.range_eq_range']; exact_mod_cast this
theorem ite2 {c A B:Prop} [Decidable c] (h1:c→A) (h2:¬ c→B):if c then A else B:=by
 by_cases h:c
 ·rw [if_pos h]; exact h1 h
 ·rw [if_neg h]; exact h2 h
end Kq
end
set_option maxHeartbeats 4000000
section
namespace Kq
open PySem PySem.Spec PyProof.Rows L2
section
variable {X:Cx} {C:CC} {n:Nat} {sp:Γd→Nat→Sp} {a:Expr} {ea:EW} {p p2 p3 p4 pos:Pos}
end
section
variable {X:Cx} {C:CC} {n:Nat} {sp:Γd→Nat→Sp} {fr:Bool} {a b:Expr} {ea eb:EW} {pos px py pt p2:Pos} {i j kt k2:Nat} {nx ny:Str}
theorem d0f (G:Good X C n sp) {ta:TA} (h:c1j C i j nx ny px py a b=true) (ha:PA X.nox [a,b] ta):PS X.nox (.Assign [.Tuple [.Name nx px,.Name ny py] kt pt] (.Tuple [a,b] k2 p2) pos) (tPar i j ta):=by
 have g0:=b2 h; have g1:=b2 g0.1; have g2:=b2 g1.1; have g3:=b2 g2.1; have g4:=b2 g3.1; have g5:=b2 g4.1; have g6:=b2 g5.1; have g7:=b2 g6.1; have g8:=b2 g7.1; have g9:=b2 g8.1
 have lx:X.env.scope.names.lookup nx=some .local:=by rw [G.sc]; exact de g6.2
 have ly:X.env.scope.names.lookup ny=some .local:=by rw [G.sc]; exact de g5.2
 exact c3j (X:=X.nox) G.calm G.nd' (G.ix g9.1) (G.ix g9.2) (de g8.2) lx ly ha (sw2 (env:=X.env) G.kind lx ly (de g7.2) g4.2 (nb g3.2) (nb g2.2) (nb g1.2) (nb g0.2))
theorem d0e (h:c1j C i j nx ny px py a b=true):a0l a=false∧a0l b=false∧i≠j:=by
 have g0:=b2 h; have g1:=b2 g0.1; have g2:=b2 g1.1; have g3:=b2 g2.1; have g4:=b2 g3.1; have g5:=b2 g4.1; have g6:=b2 g5.1; have g7:=b2 g6.1; have g8:=b2 g7.1
 exact ⟨by cases a <;> first | rfl | (exact nb g3.2),by cases b <;> first | rfl | (exact nb g2.2),de g8.2⟩
end
noncomputable def Itd (lo:Int) (n:Nat):It:=⟨fun i _=>i < n,fun i H x H'=>H'=H∧x=.int (lo - i),fun i _=>n≤i⟩
theorem b5d {P:Program} {w:World} {K:Γd} {tg:Expr} (it:Addr) (lo:Int) (n:Nat):Turn P w K tg (Itd lo n) [it] it (fun i h=>IsRangeIter h it (lo + (i:Nat) * (-1)) ((n:Int) - (i:Nat)) (-1)) where
 mem:=by simp
 obj:=fun i h st b hb=>by
  have e:b=it:=by simpa using hb
  subst e
  exact ⟨_,st,fun v z=>by
   have z':Data.fields _=Data.cell v:=z
   cases z'⟩
 keep:=fun i h h' st k=>k it (by simp) _ st
 item:=by
  intro X hP hw hK hc i pins s σ H E I hf st hg
  subst hP hw hK
  obtain ⟨f0,f1,f2,f3,f4,f5⟩:=hf it (by simp)
  have W:=Walks.range (prog:=X.prog) (w:=X.w) (I.ok.hd hc) it lo (-1) n
  refine W.item i s _ _ hg st fun v h' tk hv st' kk=>?_
  obtain ⟨t,rfl⟩:=hv
  have I1:Inv X pins σ H { s with heap:=h',toks:=tk }:=I.turned (fun b o hb e=>kk b o (by simpa using hb) e) f0 f1 f3 f4 f5
  refine ⟨_,rfl,c1z (s:={ s with heap:=h',toks:=tk }) (n:="range_iterator") st' rfl rfl (by decide) ⟨.int (lo - i),H,I1,⟨t,?_⟩,⟨rfl,rfl⟩,st',fun b hb=>(hf b hb).1⟩⟩
  rw [Int.mul_neg,Int.mul_one,Int.sub_eq_add_neg]
 done:=by
  intro X hP hw hK hc i pins s σ H E I hf st hg
  subst hP hw hK
  obtain ⟨f0,f1,f2,f3,f4,f5⟩:=hf it (by simp)
  exact wpAny_pyNext_range_end (I.ok.hd hc) st (by have:n≤i:=hg; lia) fun h' eb=>⟨rfl,I.turned (t':=s.toks) (fun b o hb e=>eb b o hb e) f0 f1 f3 f4 f5⟩
 self:=fun _ _ _ _ _ st h=>wpAny_pyIter_rangeiter st h
section
variable {X:Cx} {tg:Expr}
end
noncomputable def a6k (hi:Int):Nat→List FV
 | 0=>[]
 | n + 1=>.int hi :: a6k (hi - 1) n
noncomputable def iDown (a b:EW):AW:=fun L Q=>a L fun x L1=>b L1 fun y L2=>wp (a2n x) fun i=>wp (a2n y) fun j=>(a1a i && a1a j)=true∧Q (a6k i (i - j).toNat) L2
theorem b0i:∀ (n:Nat) (lo:Int) (i:Nat),(a6k lo n)[i]?=if i < n then some (.int (lo - i)) else none
 | 0,lo,i=>by simp [a6k]
 | n + 1,lo,0=>by simp [a6k]
 | n + 1,lo,i + 1=>by
  show (a6k (lo - 1) n)[i]?=_
  rw [b0i n (lo - 1) i]
  have e:lo - 1 - (i:Int)=lo - ((i + 1:Nat):Int):=by lia
  simp [e]
section
variable {X:Cx} {C:CC} {n:Nat} {sp:Γd→Nat→Sp} {a b tg:Expr} {ea eb:EW} {p p3 p4 pos:Pos} {kk:Nat}
variable {K:Γd} {c:Cn} {md:Md}
theorem c6q {lo:Int} {m:Nat} {S1:Hp}:ItR K c md (Itd lo m) (a6k lo m) S1:=by
 intro i L σ S H I s
 rw [b0i]
 by_cases h:i < m
 ·rw [if_pos h]
  refine ⟨fun e=>(nomatch e),fun p e=>?_⟩
  cases e
  exact ⟨h,fun v H' ⟨e1,e2⟩=>⟨S,Same.refl S,by rw [e1]; exact fun _ _ _ _ I=>I,e2⟩⟩
 ·rw [if_neg h]
  exact ⟨fun _=>show m≤i by lia,fun p e=>(nomatch e)⟩
end
end Kq
end
section
namespace PySem
open PySem.Spec
theorem F.sub_rit_reversed:isSubtype (.type "range_iterator") (.type "reversed")=pure false:=by rw [isSubtype_type]; kernel_rfl
theorem b5s (r:Addr) (a b c:Int) (t u v:Tok) (hc0:¬(!(Builtin.Range.rangeFitsLong a && Builtin.Range.rangeFitsLong b && Builtin.Range.rangeFitsLong c && Builtin.Range.rangeFitsLong (-c) && Builtin.Range.rangeFitsLong (a - c) && Builtin.Range.rangeFitsLong (Builtin.Range.rangeSize a b c)))=true) :
  Meets (Builtin.«range.__reversed__» ⟨[.ref r],[]⟩) (fun _ R s=>s.heap.get? r=some { cls:=.type "range",dict:=none,data:=.fields #[.int a t,.int b u,.int c v],slots:=#[] }∧R (.ok (.ret (Value.ref s.heap.objs.size))) { s with heap:=s.heap.push { cls:=Value.type (if (Builtin.Range.rangeFitsLong a && Builtin.Range.rangeFitsLong b && Builtin.Range.rangeFitsLong c && Builtin.Range.rangeFitsLong (-c) && Builtin.Range.rangeFitsLong (a - c) && Builtin.Range.rangeFitsLong (Builtin.Range.rangeSize a b c))=true then "range_iterator" else "longrange_iterator"),data:=Data.fields #[rawInt (a + (Builtin.Range.rangeSize a b c - 1) * c),rawInt (Builtin.Range.rangeSize a b c),rawInt (-c)] },toks:=s.toks }) :=
 .of_wp fun prog w A R s h=>by obtain ⟨hp,g,d,tk,os⟩:=s; obtain ⟨hl,h⟩:=h; wp_walk; exact ⟨_,rfl,h⟩
section
variable {prog:Program} {w:World} {A:Around} {E:Value→Shared→Prop} {s:Shared}
noncomputable def a5p (a n:Int):Obj:={ cls:=.type "range_iterator",data:=.fields #[rawInt a,rawInt n,rawInt (-1)] }
theorem a7h {r:Addr} {b:Int} {t u v:Tok} {Q:Value→Shared→Prop} (hr:IsRange s.heap r 0 b 1 t u v) (h1:-(2 ^ 62)≤b) (h2:b < 2 ^ 62)
  (h:Q (.ref s.heap.objs.size) { s with heap:=s.heap.push (a5p ((b.toNat:Int) - 1) b.toNat) }):wpAny (model prog w) A (call (.builtin "range.__reversed__") [.ref r]) Q E s:=by
 have hT:s.TypeIs (.ref r) "range":=⟨_,hr,rfl⟩
 have hn:Builtin.Range.rangeSize 0 b 1=(b.toNat:Int):=by rw [rangeSize_one]; split <;> lia
 have hs:(Builtin.Range.rangeFitsLong 0 && Builtin.Range.rangeFitsLong b && Builtin.Range.rangeFitsLong 1 && Builtin.Range.rangeFitsLong (-1) && Builtin.Range.rangeFitsLong (0 - 1) && Builtin.Range.rangeFitsLong (Builtin.Range.rangeSize 0 b 1))=true:=by
  rw [hn]
  simp only [Builtin.Range.rangeFitsLong,Bool.and_eq_true,decide_eq_true_eq]
  lia
 refine call_meets F.slot_range_reversed hT F.entry_range_reversed (F.args_range_reversed_1 _) (b5s r 0 b 1 t u v (by rw [hs]; decide)) ⟨hr,?_⟩
 rw [hs,if_pos rfl,hn]
 have e:(0:Int) + ((b.toNat:Int) - 1) * 1=(b.toNat:Int) - 1:=by lia
 rw [e]
 exact h
theorem a7e {r:Addr} {b:Int} {t u v:Tok} {Q₁:Value→Shared→Prop} (hr:IsRange s.heap r 0 b 1 t u v) (h1:-(2 ^ 62)≤b) (h2:b < 2 ^ 62)
  (h:Q₁ (.ref s.heap.objs.size) { s with heap:=s.heap.push (a5p ((b.toNat:Int) - 1) b.toNat) }) :
  codeAny (model prog w) A (.call (.builtin "reversed.__new__") ⟨[.type "reversed",.ref r],[]⟩) (wants Q₁ E) s:=by
 have hT:s.TypeIs (.ref r) "range":=⟨_,hr,rfl⟩
 refine codeAny_of_tree ?_
 show wpAny _ A.in1 (do checkBuiltinCall "reversed.__new__" ⟨[.type "reversed",.ref r],[]⟩; again (.builtin "reversed.__new__" ⟨[.type "reversed",.ref r],[]⟩)) _ _ s
 refine Γa (wpAny_of_eq (F.newCall_reversed_1 _) (Γb ⟨plainId_quiet F.plain_reversed_new _,codeAny_builtin F.entry_reversed_new ?_⟩))
 rw [Around.under_plainId F.plain_reversed_new _]
 unfold Builtin.«reversed.__new__»
 refine Γa (wpAny_of_eq (newClass_reversed _) ?_)
 try dsimp only
 refine Γa (wpAny_of_eq (a:=()) (by first | rfl | kernel_rfl) ?_)
 refine Γa (wpAny_of_eq (a:=()) (by first | rfl | kernel_rfl) ?_)
 try dsimp only
 refine Γa (wpAny_specialOf hT F.slot_range_reversed.lookup ?_)
 try dsimp only
 refine Γa (wpAny_of_eq (F.slot_range_reversed.bind _) ?_)
 try dsimp only
 first
 | rw [if_neg (show ¬ ((Value.builtin "range.__reversed__" == Value.none)=true) from Γk)]
 | (show wpAny _ _ (if (Value.builtin "range.__reversed__" == Value.none)=true then _ else _) _ _ _; rw [if_neg (show ¬ ((Value.builtin "range.__reversed__" == Value.none)=true) from Γk)])
 refine Γa (wpAny_rule ?_)
 refine Γa (m:=runValue (.call (.builtin "range.__reversed__") ⟨[.ref r],[]⟩)) (show wpAny _ _ (call (.builtin "range.__reversed__") [.ref r]) _ _ _ from a7h hr h1 h2 ?_)
 first
 | exact Γb h
 | exact Γa (Γb (Γb h))
theorem a7g {r:Addr} {b:Int} {t u v:Tok} {Q:Value→Shared→Prop} (hr:IsRange s.heap r 0 b 1 t u v) (h1:-(2 ^ 62)≤b) (h2:b < 2 ^ 62)
  (h:Q (.ref s.heap.objs.size) { s with heap:=s.heap.push (a5p ((b.toNat:Int) - 1) b.toNat) }):wpAny (model prog w) A (call (.type "reversed") [.ref r]) Q E s:=by
 refine callType_other (U:="range_iterator") (Q₁:=fun obj s₁=>obj=.ref s.heap.objs.size∧s₁ = { s with heap:=s.heap.push (a5p ((b.toNat:Int) - 1) b.toNat) }) (by nofun) F.create_reversed ⟨_,_,F.mro_reversed⟩ F.made_reversed F.sub_rit_reversed (F.typeCall_reversed_1 _) (a7e hr h1 h2 ⟨rfl,rfl⟩) ?_
 rintro obj s₁ ⟨rfl,rfl⟩
 exact ⟨⟨_,Γm _ rfl,rfl⟩,h⟩
end
end PySem
end
section
namespace Kq
open PySem PySem.Spec PyProof.Rows L2
section
variable {X:Cx} {tg:Expr}
theorem c5n {a:Expr} {ta:TA} {p p2 pos pos2:Pos} (hg:Gl X "range") (hm:X.mg "range" = none) (hg2:Gl X "reversed") (hm2:X.mg "reversed" = none) (ha:PA X [a] ta) (hs:starEach [a] X.env=[(false,eval a X.env)]) :
  PI X tg (.Call (.Name "reversed" p) [.Call (.Name "range" p2) [a] [] pos2] [] pos) (fun σ H R=>ta σ H fun vs H1=>∃ j:Int,vs=[.int j]∧-(2 ^ 62)≤j∧j < 2 ^ 62∧R (Itd ((j.toNat:Int) - 1) j.toNat) H1):=by
 intro pins s σ H R I h
 refine Call_ (a3o I hg2 hm2 (by nofun) (PyProof.Rows.callWith_type1 (T:="reversed") ?_ rfl rfl))
 show wpAny _ _ (spliced ((false,eval (.Call (.Name "range" p2) [a] [] pos2) X.env) :: backTo pos [])) _ _ s
 refine Calls.spliced_cons (Call_ (a3o I hg hm boot_range (PyProof.Rows.callWith_type1 (thn (ha pos2 pins s σ H _ I h) fun us s1 ⟨vs,H1,I1,r1,q1⟩=>?_) hs rfl)))
 obtain ⟨j,e,q1,q2,q⟩:=q1
 subst e
 cases r1 with
 | cons r rr =>
  cases rr
  obtain ⟨t,rfl⟩:=r
  refine call_range_1 (Calls.spliced_nil (a7g (IsRange.new ..) q1 q2 ?_))
  let h0:Heap:=s1.heap.push { cls:=.type "range",data:=.fields #[.int 0 s1.toks,.int j t,.int 1 (s1.toks + 1)] }
  have I2:Inv X pins σ H1 { s1 with heap:=h0,toks:=s1.toks + 1 + 1 }:=I1.kept fun b o e=>Γc _ e
  have st:IsRangeIter (h0.push (a5p ((j.toNat:Int) - 1) j.toNat)) h0.objs.size ((j.toNat:Int) - 1) j.toNat (-1):=Γm _ rfl
  refine wpAny_pyIter_rangeiter st ?_
  refine ⟨h0.objs.size,[h0.objs.size],_,_,H1,rfl,I2.kept (t':=s1.toks + 1 + 1) fun b o e=>Γc _ e,b5d _ ((j.toNat:Int) - 1) j.toNat,?_,fun b hb=>?_,q⟩
  ·have e1:((j.toNat:Int) - 1) + ((0:Nat):Int) * (-1)=(j.toNat:Int) - 1:=by simp
   have e2:((j.toNat:Nat):Int) - ((0:Nat):Int)=j.toNat:=by simp
   rw [e1,e2]
   exact st
  ·have e:b=h0.objs.size:=by simpa using hb
   subst e
   exact I2.fpOk (Γi _) (I2.hok.fresh (Γi _))
end
noncomputable def c6w (a:EW):AW:=fun L Q=>a L fun x L1=>wp (a2n x) fun j=>a1a j=true∧Q (a6k ((j.toNat:Int) - 1) j.toNat) L1
@[scoped simp ↓] theorem d3o (a:EW) (L:a0c) (Q:List FV→a0c→Prop):c6w a L Q=(a L fun x L1=>wp (a2n x) fun j=>a1a j=true∧Q (a6k ((j.toNat:Int) - 1) j.toNat) L1):=propext Iff.rfl
theorem d8m {X:Cx} {C:CC} {n:Nat} {sp:Γd→Nat→Sp} {a tg:Expr} {ea:EW} {p p2 pos pos2:Pos} (G:Good X C n sp) (hg:(C.gl (Γe "range") && C.gl (Γe "reversed"))=true) (hs:a0l a=false) (ha:FE X C a ea):FI X C C.md tg (.Call (.Name (Γe "reversed") p) [.Call (.Name (Γe "range") p2) [a] [] pos2] [] pos) (c6w ea) :=
 PI.imp (c5n (G.gl (b2 hg).1) (G.blt "range" (by decide)) (G.gl (b2 hg).2) (G.blt "reversed" (by decide)) (a0n ha a1o (a0g hs)) (a0g hs)) fun σ H R ⟨c,L,S,Q0,I,h,k⟩ =>
 ⟨c,L,S,_,I,h,fun v L1 hv x S1 H1 r1 I1 s1=>by
  obtain ⟨j,e,hb,q⟩:=wpx hv
  cases a0v e
  have h1:=de hb
  exact ⟨j,by rw [show x=.int j from r1],h1.1,h1.2,k _ L1 q _ c S1 H1 I1 (fun _ _ _ _ I=>I) rfl c6q s1⟩⟩
theorem b3d:∀ n:Nat,a6k ((n:Int) - 1) n=(List.range n).reverse.map fun i:Nat=>FV.int i
 | 0=>rfl
 | n + 1=>by
  have:=b3d n
  rw [List.range_succ,List.reverse_append,List.map_append,← this]
  simp [a6k]
section
variable {P:Program} {w:World} {A:Around} {R:Result→Shared→Prop} {it S N:Addr} {fp wr:List Addr} {n:Nat} {V:Nat→Value→Prop} {St:Nat→Heap→Prop} {bt:Nat→Nat→Bool} {h0:Heap} {kw:List (Str×Value)}
end
section
variable {P:Program} {w:World} {A:Around} {E:Value→Shared→Prop} {s:Shared}
end
section
variable {P:Program} {w:World} {A:Around} {E:Value→Shared→Prop} {s:Shared}
end
noncomputable def c1o (b:Int):List Int→Int
 | []=>b
 | x :: r=>c1o (if b < x then x else b) r
noncomputable def mostD (d:Int):List Int→Int
 | []=>d
 | n :: r=>c1o n r
section
variable {X:Cx}
variable {x:Str} {p pos kp:Pos} {e v:Expr} {t:TA} {tv:TE} {id:String} {kn:Str} {r:V→V→Hp→VK→Prop}
end
section
variable {X:Cx} {C:CC} {n:Nat} {sp:Γd→Nat→Sp} {a b:Expr} {ea eb:EW} {pos p kp:Pos}
end
section
variable (Q:FV→Prop)
end
section
variable {P:Program} {w:World} {A:Around} {E:Value→Shared→Prop}
end
section
variable {X:Cx} {pos:Pos}
end
noncomputable def sUnp (e:EW) (is:List Nat):SW:=fun L Q=>e L fun x L1=>wp (a6x x) fun xs=>wp (a8i L1 is xs) fun L2=>Q .next L2
section
variable {X:Cx} {C:CC} {n:Nat} {sp:Γd→Nat→Sp} {fr:Bool} {a:Expr} {e:EW} {pos p:Pos} {is:List Nat} {k:Nat}
end
section
variable {prog:Program} {w:World} {A:Around} {E:Value→Shared→Prop} {s:Shared}
end
section
variable {X:Cx} {S H:Hp} {Q:VK}
noncomputable def tmulF (v w:FV):Option FV:=(a6s v).bind fun xs=>(a2n w).bind fun k=>if -(2 ^ 63)≤k∧k < 2 ^ 63∧xs.length * k.toNat≤big then some (.tup (Γj k.toNat xs).flatten) else none
end
section
variable {X:Cx} {C:CC} {a b:Expr} {ea eb:EW} {pos:Pos}
end
end Kq
end
section
namespace PySem
section
variable {prog:Program} {w:World} {A:Around} {E:Value→Shared→Prop} {s:Shared}
end
end PySem
end
section
namespace Kq
open PySem PySem.Spec PyProof.Rows L2
section
variable {X:Cx}
variable {a b:Expr} {ta:TA} {p p2 pos pos2:Pos} {T:Str} {Tn:String} {ho:List V→HO}
end
noncomputable def rngF (c:List FV→FV) (v:FV):Option FV:=(a2n v).bind fun j=>if a1a j=true∧j.toNat≤big then some (c (upF 0 j.toNat)) else none
noncomputable def rng2F (c:List FV→FV) (v w:FV):Option FV:=(a2n v).bind fun i=>(a2n w).bind fun j=>if (a1a i && a1a j)=true∧(j - i).toNat≤big then some (c (upF i (j - i).toNat)) else none
section
variable {X:Cx} {C:CC} {n:Nat} {sp:Γd→Nat→Sp} {a b:Expr} {ea eb:EW} {pos p p2 pos2:Pos}
end
end Kq
end
section
namespace PySem
noncomputable def e2a (A:Around) (s:Shared) (x y:Value) (b:Bool):Prop :=
 ∀ (prog:Program) (w:World) (E:Value→Shared→Prop) (Q:Value→Shared→Prop),Q (.bool b) s→wpAny (model prog w) A (richCompare .Lt x y) Q E s
inductive LexAt (A:Around) (s:Shared):List Value→List Value→Bool→Prop
 | nn:LexAt A s [] [] false
 | nc {y ys}:LexAt A s [] (y :: ys) true
 | cn {x xs}:LexAt A s (x :: xs) [] false
 | eq {x y xs ys r}:SeqAt.EqAt A s x y true→LexAt A s xs ys r→LexAt A s (x :: xs) (y :: ys) r
 | ne {x y xs ys r}:SeqAt.EqAt A s x y false→e2a A s x y r→LexAt A s (x :: xs) (y :: ys) r
section
open PySem.SeqAt
open PySem.AutoSeq1 (wpAny_loadPart')
open PySem.MeetsSeq PySem.MeetsSeq2 PySem.MeetsSeq3
theorem a9j (l b:Addr) (items items2:Array Value) (n n2:Nat) (dd dd2:Option Addr) (sl sl2:Array (Option Value)) :
  Meets (Builtin.«tuple.__lt__» ⟨[.ref l,.ref b],[]⟩)
   (fun A R s=>s.heap.get? l=some { cls:=.type "tuple",dict:=dd,data:=.seq items n,slots:=sl }∧s.heap.get? b=some { cls:=.type "tuple",dict:=dd2,data:=.seq items2 n2,slots:=sl2 } ∧
    ∃ r,LexAt A.in1 s items.toList items2.toList r∧R (.ok (.ret (.bool r))) s) :=
 .of_wp fun prog w A R s h=>by
  obtain ⟨hp,g,d,tk,os⟩:=s; obtain ⟨hl,hb,r,hlex,h⟩:=h
  have f2:=AutoSeq1.sub_tuple_tuple
  wp_walk using wpAny_loadPart' hl,wpAny_loadPart' hb,wpAny_forIn_list _ (fun rest b s'=>b.1=none∧s'=⟨hp,g,d,tk,os⟩∧∃ (vs ws:List Value),rest=vs.zip ws ∧
   LexAt A.in1 ⟨hp,g,d,tk,os⟩ vs ws r∧vs.length + items2.size=ws.length + items.size) _
  case turn =>
   rintro ⟨y,x⟩ rest b s' ⟨hb',rfl,vs,ws,hz,hlx,hlen⟩
   cases hlx with
   | nn=>cases hz
   | nc=>cases hz
   | cn=>rw [List.zip_nil_right] at hz; cases hz
   | eq he hr =>
    rw [List.zip_cons_cons] at hz
    injection hz with hyx hrest
    injection hyx with hy hx
    subst hy hx
    simp only [List.length_cons] at hlen
    refine Γa (he prog w _ _ ?_)
    wp_walk
    exact ⟨rfl,rfl,_,_,hrest,hr,by lia⟩
   | ne he hr =>
    rw [List.zip_cons_cons] at hz
    injection hz with hyx hrest
    injection hyx with hy hx
    subst hy hx
    refine Γa (he prog w _ _ ?_)
    have hri:=hr prog w
    wp_walk using hri
    exact ⟨_,rfl,by simpa using h⟩
  case fin =>
   rintro ⟨b1,b2⟩ s' ⟨hb',rfl,vs,ws,hz,hlx,hlen⟩
   simp only at hb'
   subst hb'
   have hv:r=decide (items.size < items2.size):=by
    cases hlx with
    | nn=>simp only [List.length_nil] at hlen; exact (decide_eq_false (by lia)).symm
    | nc=>simp only [List.length_nil,List.length_cons] at hlen; exact (decide_eq_true (by lia)).symm
    | cn=>simp only [List.length_nil,List.length_cons] at hlen; exact (decide_eq_false (by lia)).symm
    | eq=>rw [List.zip_cons_cons] at hz; cases hz
    | ne=>rw [List.zip_cons_cons] at hz; cases hz
   rw [hv] at h
   wp_walk
   exact ⟨_,rfl,by simpa [Builtin.Tuple.tupleCompareSizes] using h⟩
  case h =>
   exact ⟨rfl,rfl,items.toList,items2.toList,rfl,hlex,by simp; lia⟩
end
theorem c1s {A:Around} {s:Shared} {l b:Addr} {o o2:Obj} {items items2:Array Value} {n n2:Nat} {r:Bool} (h1:s.heap.get? l=some o) (h2:o.cls=.type "tuple") (h3:o.data=.seq items n) (g1:s.heap.get? b=some o2) (g2:o2.cls=.type "tuple") (g3:o2.data=.seq items2 n2)
  (hlex:LexAt A.in1 s items.toList items2.toList r) (hu:A.units < cLine):e2a A s (.ref l) (.ref b) r:=by
 intro prog w E Q h
 obtain ⟨cls,dd,data,sl⟩:=o
 obtain ⟨cls2,dd2,data2,sl2⟩:=o2
 simp only at h2 h3 g2 g3
 subst h2 h3 g2 g3
 exact richCompare_meets_room (op:=.Lt) ⟨_,h1,rfl⟩ ⟨_,g1,rfl⟩ PySem.F.slot_tuple_lt PySem.F.entry_tuple_lt (PySem.F.args_tuple_lt_2 _ _) (a9j l b items items2 n n2 dd dd2 sl sl2)
  ⟨h1,g1,r,hlex,show Value.bool r≠Value.notImplemented∧Q (.bool r) s from ⟨(fun x=>nomatch x),h⟩⟩ hu
end PySem
namespace Kq
open PySem PySem.Spec PyProof.Rows L2
noncomputable def d5o (a b:String):Bool:=decide ((Γe a).cps.toList < (Γe b).cps.toList)
mutual
noncomputable def ltD:D→D→Option Bool
 | .int a,.int b=>some (decide (a < b))
 | .str a,.str b=>some (d5o a b)
 | .tup a,.tup b=>c0g a b
 | _,_=>none
noncomputable def c0g:List D→List D→Option Bool
 | [],[]=>some false
 | [],_ :: _=>some true
 | _ :: _,[]=>some false
 | a :: r,b :: q=>if D.eqv a b=true then c0g r q else ltD a b
end
mutual
theorem c3r:∀ (x y:D) (A:Around) (s:Shared) (v u:Value) (as bs:List Addr) (r:Bool),Reads s.heap v (dPy x) as→Reads s.heap u (dPy y) bs→ltD x y=some r→A.units + (dPy x).depth < cLine→e2a A s v u r
 | .int a,y,A,s,v,u,as,bs,r,h1,h2,e,hu=>by
  cases y with
  | int b =>
   cases e
   simp only [dPy] at h1 h2
   cases h1; cases h2
   exact fun prog w E Q h=>PyProof.Rows.lt_int h
  | _=>cases e
 | .str a,y,A,s,v,u,as,bs,r,h1,h2,e,hu=>by
  cases y with
  | str b =>
   cases e
   simp only [dPy] at h1 h2
   cases h1; cases h2
   exact fun prog w E Q h=>PySem.P.lt_str h
  | _=>cases e
 | .tup xs,y,A,s,v,u,as,bs,r,h1,h2,e,hu=>by
  cases y with
  | tup ys =>
   simp only [dPy] at h1 h2
   simp only [dPy,PyData.depth] at hu
   cases h1 with
   | tuple a1 a2 a3 a4 =>
    cases h2 with
    | tuple b1 b2 b3 b4 =>
     exact c1s a1 a2 a3 b1 b2 b3 (b7n xs ys A.in1 s _ _ _ _ r a4 b4 e (by show A.units + 1 + _ < _; lia)) (by lia)
  | _=>cases e
 | .non,y,A,s,v,u,as,bs,r,h1,h2,e,hu=>by cases y <;> cases e
 | .bl _,y,A,s,v,u,as,bs,r,h1,h2,e,hu=>by cases y <;> cases e
 | .lst _,y,A,s,v,u,as,bs,r,h1,h2,e,hu=>by cases y <;> cases e
theorem b7n:∀ (xs ys:List D) (A:Around) (s:Shared) (vs us:List Value) (as bs:List Addr) (r:Bool),ReadsAll s.heap vs (a3p xs) as→ReadsAll s.heap us (a3p ys) bs→c0g xs ys=some r→A.units + PyData.depthAll (a3p xs) < cLine→LexAt A s vs us r
 | [],[],A,s,vs,us,as,bs,r,h1,h2,e,hu=>by cases h1; cases h2; cases e; exact .nn
 | [],y :: ys,A,s,vs,us,as,bs,r,h1,h2,e,hu=>by cases h1; cases h2; cases e; exact .nc
 | x :: xs,[],A,s,vs,us,as,bs,r,h1,h2,e,hu=>by cases h1; cases h2; cases e; exact .cn
 | x :: xs,y :: ys,A,s,vs,us,as,bs,r,h1,h2,e,hu=>by
  simp only [a3p] at h1 h2
  simp only [a3p,PyData.depthAll] at hu
  cases h1 with
  | cons a1 a2 =>
   cases h2 with
   | cons b1 b2 =>
    have he:=PySem.SeqAt.eqAt_reads _ _ A s _ _ _ _ a1 b1 (a6n x) (a6n y) (by lia)
    rw [b9k] at he
    simp only [c0g] at e
    split at e
    ·rename_i hq
     rw [hq] at he
     exact .eq he (b7n xs ys A s _ _ _ _ r a2 b2 e (by lia))
    ·rename_i hq
     have hq:D.eqv x y=false:=by simpa using hq
     rw [hq] at he
     exact .ne he (c3r x y A s _ _ _ _ r a1 b1 e (by lia))
end
end Kq
end
section
namespace Kq
open PySem PySem.Spec PyProof.Rows L2
theorem b2o {α β:Type} {f:α→Option β}:∀ {xs:List α} {ys:List β},a3v f xs=some ys→∀ (i:Nat) (x:α),xs[i]?=some x→∃ y,ys[i]?=some y∧f x=some y
 | [],ys,h,i,x,e=>by simp at e
 | a :: r,ys,h,i,x,e=>by
  simp only [a3v] at h
  obtain ⟨b,h1,h2⟩:=bnd h
  obtain ⟨q,h3,rfl⟩:=mpd h2
  cases i with
  | zero=>simp at e; subst e; exact ⟨b,rfl,h1⟩
  | succ i=>exact b2o h3 i x (by simpa using e)
noncomputable def btD (ds:List D) (i j:Nat):Bool:=(ltD (ds.getD i .non) (ds.getD j .non)).getD false
open Classical in
noncomputable def b3t (v:FV):Option FV:=(a1w v).bind fun xs=>(a3v (fD a0j) xs).bind fun ds =>
 if 0 < ds.length∧(∀ x∈ds,∀ y∈ds,(ltD x y).isSome=true)∧∀ ps,xs[argBest (btD ds) (ds.length - 1)]?≠some (.lst ps) then xs[argBest (btD ds) (ds.length - 1)]? else none
section
variable {X:Cx}
theorem d2q (hc:X.calm=true) (hu:X.A.units + 64 < cLine):a1k X (.builtin "min") (Rc X.K b3t):=by
 rintro pins s σ H xs us Q I r ⟨S,v,x,z,rfl,hs,rv,e,k⟩
 obtain ⟨qs,e1,e2⟩:=bnd e
 obtain ⟨ds,e3,e4⟩:=bnd e2
 obtain ⟨⟨hpos,hall,hnl⟩,e5⟩:(0 < ds.length∧(∀ x∈ds,∀ y∈ds,(ltD x y).isSome=true)∧∀ ps,qs[argBest (btD ds) (ds.length - 1)]?≠some (.lst ps))∧qs[argBest (btD ds) (ds.length - 1)]?=some z:=by
  split at e4
  ·rename_i h; exact ⟨h,e4⟩
  ·cases e4
 obtain ⟨a,ys,rfl,hq,ry⟩:=rv.list hs e1
 obtain ⟨u,rfl,ru⟩:=a4c r
 cases (show u=Value.ref a from ru)
 obtain ⟨its,r',pl,hz'⟩:=I.list hq
 have hh:X.A.in1.handled=none:=I.ok.hd hc
 have hlen:ys.length=its.length:=r'.length
 have hql:=ry.length
 have hdl:=a8t e3
 have hl2:its.length=ds.length:=by rw [← hlen,← hql,hdl]
 have it:∀ (i:Nat) (v:Value),its.toArray[i]?=some v→∃ (p:FV) (y:V) (d:D),qs[i]?=some p∧ds[i]?=some d∧fD a0j p=some d∧RV X.K S p y∧RelV y v:=fun i v hv=>by
  have hv:its[i]?=some v:=by simpa using hv
  have hi:=(List.getElem?_eq_some_iff.mp hv).1
  have hi':i < qs.length:=by lia
  obtain ⟨d,f3,f4⟩:=b2o e3 i qs[i] (List.getElem?_eq_getElem hi')
  obtain ⟨y,f1,f2⟩:=ry.get (i:=i) (List.getElem?_eq_getElem hi')
  obtain ⟨u,g1,g2⟩:=r'.get f1
  rw [hv] at g1; cases g1
  exact ⟨_,y,d,List.getElem?_eq_getElem hi',f3,f4,f2,g2⟩
 refine a7z (bt:=btD ds) hh pl.isList (by simp; lia) (fun i j u v s1 Q1 E1 kp hi hj q1=>?_) fun v h' tk hv hk=>?_
 ·obtain ⟨p1,y1,d1,a1,a2,a3,a4,a5⟩:=it i u hi
  obtain ⟨p2,y2,d2,b1,b2,b3,b4,b5⟩:=it j v hj
  obtain ⟨as,ra⟩:=a3f I hs (.inl a4) a5 a3
  obtain ⟨bs,rb⟩:=a3f I hs (.inl b4) b5 b3
  have hk:∀ b o,s.heap.get? b=some o→s1.heap.get? b=some o:=fun b o e=>kp b o (Γl e) e
  have hcmp:=hall d1 (List.mem_of_getElem? a2) d2 (List.mem_of_getElem? b2)
  cases hr:ltD d1 d2 with
  | none=>rw [hr] at hcmp; cases hcmp
  | some c =>
   have hb:btD ds i j=c:=by simp only [btD,List.getD_eq_getElem?_getD,a2,b2,Option.getD_some,hr]
   rw [hb] at q1
   have hd:=a5l a3
   unfold a0j at hd
   exact c3r d1 d2 X.A.in1 s1 u v as bs c (PyProof.Rows.Reads.keeps hk ra) (PyProof.Rows.Reads.keeps hk rb) hr (by show X.A.units + 1 + _ < _; lia) X.prog X.w _ _ q1
 ·have hv:its[argBest (btD ds) (its.toArray.size - 1)]?=some v:=by simpa using hv
  have hsz:its.toArray.size - 1=ds.length - 1:=by simp; lia
  rw [hsz] at hv
  obtain ⟨p,y,d,a1,a2,a3,a4,a5⟩:=it _ v (by simpa using hv)
  rw [e5] at a1; cases a1
  exact ⟨y,H,I.kept (t':=tk) hk,a5,k.old _ (fun ps hz=>hnl ps (by rw [e5,hz])) a4⟩
end
section
variable {X:Cx} {C:CC} {n:Nat} {sp:Γd→Nat→Sp} {a:Expr} {ea:EW} {pos p:Pos}
theorem d8v (G:Good X C n sp) (hg:C.gl (Γe "min")=true) (hs:a0l a=false) (ha:FR X C a ea):FE X C (.Call (.Name (Γe "min") p) [a] [] pos) (eUn b3t ea):=b0h (d2q G.calm G.room.units) G (by decide) (by nofun) (by nofun) (by nofun) hg hs ha
end
noncomputable def a1b {α:Type} (lt:α→α→Bool):α→List α→α
 | b,[]=>b
 | b,x :: r=>a1b lt (if lt x b=true then x else b) r
theorem a6c {α:Type} (lt:α→α→Bool):∀ (xs:List α) (b x:α),a1b lt b (xs++[x])=if lt x (a1b lt b xs)=true then x else a1b lt b xs
 | [],b,x=>rfl
 | y :: ys,b,x=>by
  show a1b lt (if lt y b=true then y else b) (ys++[x])=_
  rw [a6c lt ys]; rfl
theorem a7q {α:Type} (lt:α→α→Bool) (bt:Nat→Nat→Bool) (n:α) (r:List α) (h:∀ i j x y,(n :: r)[i]?=some x→(n :: r)[j]?=some y→bt i j=lt x y):∀ k,k≤r.length→(n :: r)[argBest bt k]?=some (a1b lt n (r.take k))
 | 0,_=>by simp [argBest,a1b]
 | k + 1,hk=>by
  have ih:=a7q lt bt n r h k (by lia)
  have hk:k < r.length:=hk
  have e2:(n :: r)[k + 1]?=some r[k]:=by simp [hk]
  rw [List.take_succ_eq_append_getElem hk,a6c]
  simp only [argBest,h (k + 1) (argBest bt k) _ _ e2 ih]
  split
  ·exact e2
  ·exact ih
theorem c6h {α:Type} (enc:α→FV) (encD:α→D) (lt:α→α→Bool) (h1:∀ a,fD a0j (enc a)=some (encD a)) (h2:∀ a b,ltD (encD a) (encD b)=some (lt a b)) (h3:∀ a ps,enc a≠.lst ps) (n:α) (r:List α) (Q:FV→Prop):wp (b3t (.lst ((n :: r).map enc))) Q↔Q (enc (a1b lt n r)):=by
 have hm:∀ xs:List α,a3v (fD a0j) (xs.map enc)=some (xs.map encD):=by
  intro xs
  induction xs with
  | nil=>rfl
  | cons x r ih=>simp only [List.map_cons,a3v,h1,ih,Option.bind_some,Option.map_some]
 have hb:∀ i j x y,(n :: r)[i]?=some x→(n :: r)[j]?=some y→btD ((n :: r).map encD) i j=lt x y:=fun i j x y hx hy=>by
  simp only [btD,List.getD_eq_getElem?_getD,List.getElem?_map,hx,hy,Option.map_some,Option.getD_some,h2]
 have ha:=a7q lt _ n r hb r.length (Γi _)
 rw [List.take_length] at ha
 have hx:((n :: r).map enc)[argBest (btD ((n :: r).map encD)) (((n :: r).map encD).length - 1)]?=some (enc (a1b lt n r)):=by
  rw [List.length_map,List.length_cons,Nat.add_sub_cancel,List.getElem?_map,ha]; rfl
 have he:b3t (.lst ((n :: r).map enc))=some (enc (a1b lt n r)):=by
  show ((some ((n :: r).map enc)).bind fun xs=>(a3v (fD a0j) xs).bind _)=_
  rw [Option.bind_some,hm,Option.bind_some,if_pos,hx]
  refine ⟨by simp,?_,?_⟩
  ·intro x hx y hy
   obtain ⟨a,-,rfl⟩:=List.mem_map.mp hx
   obtain ⟨b,-,rfl⟩:=List.mem_map.mp hy
   rw [h2]; rfl
  ·intro ps z
   rw [hx] at z
   exact h3 _ ps (Option.some.inj z)
 rw [he]; exact Iff.rfl
noncomputable def a2q {κ α:Type} [DecidableEq κ] (ks:List κ) (vs:List α) (k:κ) (v:α):List κ×List α :=
 if k∈ks then (ks,List.zipWith (fun k' v'=>if k'=k then v else v') ks vs) else (ks++[k],vs++[v])
noncomputable def a2a {κ α:Type} [DecidableEq κ]:List κ→List α→κ→Option α
 | k' :: ks,v :: vs,k=>if k'=k then some v else a2a ks vs k
 | _,_,_=>none
theorem b7z {a b:List Int} (h:a.map (Sum.inl:Int→Int ⊕ Option Str)=b.map Sum.inl):a=b:=by
 induction a generalizing b with
 | nil=>cases b with | nil=>rfl | cons=>cases h
 | cons x r ih=>cases b with
  | nil=>cases h
  | cons y q =>
   simp only [List.map_cons,List.cons.injEq,Sum.inl.injEq] at h
   rw [h.1,ih h.2]
theorem a6g:∀ (ks:List (List Int)) (us:List V) (k:List Int),b0t ((a1r ks).zip us) (k.map Sum.inl)=a2a ks us k
 | [],us,k=>by cases us <;> rfl
 | k' :: ks,[],k=>rfl
 | k' :: ks,u :: us,k=>by
  show b0t ((k'.map Sum.inl,u) :: (a1r ks).zip us) (k.map Sum.inl)=if k'=k then some u else a2a ks us k
  by_cases e:k'=k
  ·subst e; rw [a4d rfl,if_pos rfl]
  ·rw [a4e fun z=>e (b7z z),if_neg e]; exact a6g ks us k
theorem a2k {κ α:Type} [DecidableEq κ]:∀ {ks:List κ} {vs:List α} (k:κ),ks.length=vs.length→((a2a ks vs k).isSome=true↔k∈ks)
 | [],vs,k,h=>by simp [a2a]
 | k' :: ks,[],k,h=>by simp at h
 | k' :: ks,v :: vs,k,h=>by
  simp only [a2a]
  by_cases e:k'=k
  ·simp [e]
  ·simp only [e,if_false,List.mem_cons,Ne.symm e,false_or]
   rw [a2k k (by simpa using h)]
theorem b5x (ks:List (List Int)) (us:List V) (k:List Int) (u:V) (hl:ks.length=us.length):a5b ((a1r ks).zip us) (k.map Sum.inl) u=(a1r (a2q ks us k u).1).zip (a2q ks us k u).2:=by
 have hany:(((a1r ks).zip us).any fun kv=>decide (kv.1=k.map Sum.inl))=true↔k∈ks:=by
  rw [a5d,a6g,a2k k hl]
 unfold a5b a2q
 by_cases e:k∈ks
 ·rw [if_pos (hany.mpr e),if_pos e]
  clear e hany
  induction ks generalizing us with
  | nil=>cases us <;> rfl
  | cons k' ks ih=>cases us with
   | nil=>rfl
   | cons u' us =>
    have:=ih us (by simpa using hl)
    show (if k'.map Sum.inl=k.map Sum.inl then (k'.map Sum.inl,u) else (k'.map Sum.inl,u')) :: ((a1r ks).zip us).map _=(k'.map Sum.inl,if k'=k then u else u') :: (a1r ks).zip _
    rw [this]
    congr 1
    by_cases e:k'=k
    ·subst e; simp
    ·rw [if_neg fun z=>e (b7z z),if_neg e]
 ·rw [if_neg fun z=>e (hany.mp z),if_neg e]
  show _=(a1r (ks++[k])).zip (us++[u])
  have:a1r (ks++[k])=a1r ks++[k.map Sum.inl]:=by simp [a1r]
  rw [this,List.zip_append (by simpa [a1r] using hl)]; rfl
theorem a5i {κ α:Type} [DecidableEq κ] (ks:List κ) (vs:List α) (k:κ) (v:α) (h:ks.length=vs.length):(a2q ks vs k v).1.length=(a2q ks vs k v).2.length∧(a2q ks vs k v).1.length≤ks.length + 1:=by
 unfold a2q
 split
 ·simp [h]
 ·simp [h]
section
variable {K:Γd} {S H:Hp}
theorem b5y {κ:Type} [DecidableEq κ] {k:κ} {v:FV} {u:V} (r2:RV K S v u):∀ {ks:List κ} {vs:List FV} {us:List V},RVs K S vs us→RVs K S (List.zipWith (fun k' v'=>if k'=k then v else v') ks vs) (List.zipWith (fun k' v'=>if k'=k then u else v') ks us)
 | [],vs,us,_=>rfl
 | k' :: ks,[],us,r=>by cases (show us=[] from r); rfl
 | k' :: ks,p :: vs,us,⟨x,q,e,h1,h2⟩=>by
  subst e
  refine ⟨_,_,rfl,?_,b5y r2 h2⟩
  by_cases e:k'=k
  ·simp only [e,if_true]; exact r2
  ·simp only [e,if_false]; exact h1
theorem a8o {κ:Type} [DecidableEq κ] {ks:List κ} {vs:List FV} {us:List V} {k:κ} {v:FV} {u:V} (r:RVs K S vs us) (r2:RV K S v u):(a2q ks vs k v).1=(a2q ks us k u).1∧RVs K S (a2q ks vs k v).2 (a2q ks us k u).2:=by
 unfold a2q
 split
 ·exact ⟨rfl,b5y r2 r⟩
 ·exact ⟨rfl,r.append (RVs.one r2)⟩
theorem a9a {κ:Type} [DecidableEq κ]:∀ {ks:List κ} {vs:List FV} {us:List V} {k:κ} {v:FV},RVs K S vs us→a2a ks vs k=some v→∃ u,a2a ks us k=some u∧RV K S v u
 | [],vs,us,k,v,r,e=>by simp [a2a] at e
 | k' :: ks,[],us,k,v,r,e=>by simp [a2a] at e
 | k' :: ks,p :: vs,us,k,v,⟨x,q,e',h1,h2⟩,e=>by
  subst e'
  simp only [a2a] at e ⊢
  by_cases e0:k'=k
  ·rw [if_pos e0] at e ⊢; cases e; exact ⟨x,rfl,h1⟩
  ·rw [if_neg e0] at e ⊢; exact a9a h2 e
theorem b0d {ps:List FV} {k:List Int} {x:V} (r:RV K S (.tup ps) x) (e:a1c ps=some k):∃ b,x=.ref b∧S b=some (.tup ((k.map (Sum.inl:Int→Int ⊕ Option Str)).map kV)):=by
 obtain ⟨b,xs,rfl,h1,h2⟩:=r
 refine ⟨b,rfl,?_⟩
 rw [h1,a1g h2 e,List.map_map]; rfl
variable {c:Cn} {md:Md} {L:a0c} {σ:L2.St}
theorem c6e {q:Addr} {ks:List (List Int)} {vs:List FV} {us:List V} (I:Iv K c md L σ S H) (h1:S q=none) (h2:H q=some (.dT ((a1r ks).zip us))) (hl:ks.length=vs.length) (h3:RVs K S vs us) (fr:a7j c md L σ q):∃ u,H q=some u∧Iv K c md L σ (upd S q u) H∧RV K (upd S q u) (.dct ks vs) (.ref q):=by
 have s:=a0r (o:=.dT ((a1r ks).zip us)) h1
 refine ⟨_,h2,⟨I.len,fun i v h e=>let ⟨x,e1,r⟩:=I.imm i v h e; ⟨x,e1,r.mono s⟩,fun i v h e=>?_,I.dis,fun a u e=>?_,I.frame,I.s0.trans s,fun a u e=>?_,I.lent,I.fzs,I.fzm,I.fzp,fun p hp=>let ⟨g1,g2,g3⟩:=I.prs p hp; ⟨g1,by rw [a0b (fr.2.1 p hp)]; exact g2,g3⟩,I.ntp,I.lnt1,I.tie⟩,q,us,rfl,hl,a0d,h3.mono s⟩
 ·obtain ⟨b,e1,⟨g1,rs,zs,g2,g3,g4⟩,g5⟩:=I.own i v h e
  have hb:b≠q:=fun z=>by subst z; exact fr.2.2 i v h e e1
  exact ⟨b,e1,⟨by rw [a0b hb]; exact g1,rs,zs,g2,g3,g4.mono s⟩,g5⟩
 ·by_cases z:a=q
  ·subst z; rw [a0d] at e; cases e; exact h2
  ·rw [a0b z] at e; exact I.sub a u e
 ·by_cases z:a=q
  ·subst z; exact .inr (.inl fr.1)
  ·rw [a0b z] at e; exact I.grow a u e
end
noncomputable def a4z (n m:Nat) (tg:Tg) (t:BW) (ek ev:EW):List FV→List (List Int)→List FV→a0c→(List (List Int)→List FV→a0c→Prop)→Prop
 | [],ks,vs,L,Q=>Q ks vs L
 | x :: xs,ks,vs,L,Q=>gW tg x (L++Γj m none) fun L1=>t L1 fun b L2=>if b=true then ek L2 fun kx L3=>wp (a6s kx) fun ps=>wp (a1c ps) fun k=>ev L3 fun v L4=>a4z n m tg t ek ev xs (a2q ks vs k v).1 (a2q ks vs k v).2 (L4.take n) Q else a4z n m tg t ek ev xs ks vs (L2.take n) Q
noncomputable def b8w (n m:Nat) (it:AW) (tg:Tg) (t:BW) (ek ev:EW):EW:=fun L Q=>it L fun xs L1=>L1.length=n∧xs.length≤big∧a4z n m tg t ek ev xs [] [] L1 fun ks vs L2=>Q (.dct ks vs) L2
section
variable {K:Γd} {c:Cn} {md:Md} {L:a0c} {σ:L2.St} {S H:Hp}
theorem b9o {J : It} {xs : List FV} {n m : Nat} {tg : Tg} {t : BW} {ek ev : EW} {Q : VK} {Q1 : List (List Int) → List FV → a0c → Prop} (I : Iv K c md L σ S H) (hJ : ItR K c md J xs S) (hL : L.length = n) (hmd : md.length ≤ n) (ht : a3k md tg = true) (hg : a8c n tg = true) (hb : xs.length ≤ big) (h : a4z n m tg t ek ev xs [] [] L Q1)
    (k : ∀ acc ks vs us L' S' H', H acc = none → Q1 ks vs L' → S' acc = none → H' acc = some (.dT ((a1r ks).zip us)) → ks.length = vs.length → RVs K S' vs us → a7j c md L' σ acc → Iv K c md L' σ S' H' → Same S S' → Q (.ref acc) H') :
    ∀ acc, H acc = none → ∃ W : Nat → Nat → Hp → Prop, (∃ m, W 0 m (upd H acc (.dT []))) ∧ ∀ i j H, W i j H →
      (J.stop i H ∧ Q (.ref acc) H) ∨ (J.go i H ∧ ∀ x H', J.yld i H x H' → gT K tg x (σ ++ Γj m none) H' fun σ2 H2 => Wk (σ ++ Γj m none) σ2 ∧ lb K md t σ2 H2 fun b H3 =>
        if b = true then lv K md ek σ2 H3 fun y H4 => lv K md ev σ2 H4 fun v H5 => ∃ kvs k b, H5 acc = some (.dT kvs) ∧ y = .ref b ∧ H5 b = some (.tup (k.map kV)) ∧ kvs.length < sizeLine ∧ ∃ m', m' < j ∧ W (i + 1) m' (upd H5 acc (.dT (a5b kvs k v))) else ∃ m', m' < j ∧ W (i + 1) m' H3) := by
  intro acc hacc
  have h0 := I.h0 hacc
  have hp : ∀ p ∈ c.pr, p.1 ≠ acc := (I.fresh hacc).2.1
  have hz := I.fzp
  have hl : σ.length = n := by rw [← I.len]; exact hL
  have hbl := a1i
  let W : Nat → Nat → Hp → Prop := fun i j H1 => ∃ L S1 ks vs us, j = (xs.drop i).length ∧ Iv K { c with pr := (acc, .dT ((a1r ks).zip us)) :: c.pr } md L σ S1 H1 ∧ ks.length = vs.length ∧ RVs K S1 vs us ∧ Same S S1 ∧ L.length = n ∧ ks.length ≤ i ∧ a4z n m tg t ek ev (xs.drop i) ks vs L Q1
  have I1 : Iv K { c with pr := (acc, .dT []) :: c.pr } md L σ S (upd H acc (.dT [])) := (I.lay hacc _).prot a0d (I.sn hacc) fun j w hm hj => (I.fresh hacc).2.2 j w (Mo.w_imm hm) hj
  refine ⟨W, ⟨_, L, S, [], [], [], rfl, I1, rfl, rfl, Same.refl S, hL, Γi _, by rw [List.drop_zero]; exact h⟩, ?_⟩
  rintro i j H1 ⟨L, S1, ks, vs, us, rfl, I, hkl, r, s, hL, hps, hc⟩
  have I0 := I.unprot hz
  obtain ⟨j1, j2⟩ := hJ i L σ S1 H1 I0 s
  obtain ⟨g1, g2, g3⟩ := I.prs (acc, .dT ((a1r ks).zip us)) Γn
  cases hd : xs.drop i with
  | nil =>
    left
    rw [hd] at hc
    refine ⟨j1 (List.getElem?_eq_none_iff.mpr (List.drop_eq_nil_iff.mp hd)), k acc ks vs us L S1 H1 hacc hc g2 g1 hkl r ⟨h0, hp, fun q w hm hq hs => ?_⟩ I0 s⟩
    by_cases mo : (a0i md q).w = true
    · exact g3 q w mo hq hs
    · have mo : a0i md q = .frz := by cases z : a0i md q with | imm => exact absurd z hm | frz => rfl | _ => rw [z] at mo; exact absurd rfl mo
      obtain ⟨b, f1⟩ := I0.fzm q w mo hq
      obtain ⟨_, f2, _⟩ := I0.fzs _ f1
      rw [hs] at f2; cases f2
      obtain ⟨ys, f3⟩ := hz _ f1
      exact hp _ f3 rfl
  | cons p rest =>
    right
    rw [hd] at hc
    have hi : xs[i]? = some p := by
      have := congrArg (·[0]?) hd
      simpa using this
    have hd' : xs.drop (i + 1) = rest := by
      have := congrArg List.tail hd
      simpa [List.tail_drop] using this
    have hix : i < xs.length := (List.getElem?_eq_some_iff.mp hi).1
    obtain ⟨go, yl⟩ := j2 p hi
    refine ⟨go, fun x H2 y => ?_⟩
    obtain ⟨S2, s2, tr, rx⟩ := yl x H2 y
    have I2 := (tr _ _ _ _ I).more m
    obtain ⟨σ2, L2, gq, q2, I2, len2, far⟩ := a7v ht I2 rx hc
    have l2 : n ≤ σ2.length := by rw [len2, List.length_append, hl]; lia
    have far' : ∀ q, q < n → σ2[q]? = σ[q]? := fun q hq => by rw [far n hg q hq, List.getElem?_append_left (by rw [hl]; exact hq)]
    refine gq _ ⟨⟨len2, fun q v hv => ?_⟩, ?_⟩
    · have hq : q < n := by
        by_cases h : q < σ.length
        · rw [← hl]; exact h
        · rw [List.getElem?_append_right (by lia), List.getElem?_replicate] at hv
          split at hv <;> cases hv
      rw [far n hg q hq]; exact hv
    · refine ⟨_, L2, S2, _, I2, q2, fun b L3 hb3 S3 H3 I3 s3 => ?_⟩
      cases b with
      | false =>
        rw [if_neg Γk] at hb3 ⊢
        exact ⟨rest.length, by simp, L3.take n, S3, ks, vs, us, by rw [hd'], I3.take hmd hl l2 far', hkl, r.mono (s2.trans s3), s.trans (s2.trans s3), by rw [List.length_take, I3.len]; lia, by lia, by rw [hd']; exact hb3⟩
      | true =>
        rw [if_pos rfl] at hb3 ⊢
        refine ⟨_, L3, S3, _, I3, hb3, fun kx L4 hk u S4 H4 r4 I4 s4 => ?_⟩
        obtain ⟨ps, e1, hk1⟩ := wpx hk
        obtain ⟨kk, e2, hk2⟩ := wpx hk1
        cases a1v e1
        obtain ⟨b, rfl, hb4⟩ := b0d r4 e2
        refine ⟨_, L4, S4, _, I4, hk2, fun v L5 hv u S5 H5 r5 I5 s5 => ?_⟩
        obtain ⟨k1, _⟩ := I5.prs (acc, .dT ((a1r ks).zip us)) Γn
        have lr := r.length
        have r' := r.mono (s2.trans (s3.trans (s4.trans s5)))
        obtain ⟨pe, pr⟩ := a8o (ks := ks) (k := kk) r' r5
        obtain ⟨pl1, pl2⟩ := a5i ks vs kk v hkl
        refine ⟨_, kk.map Sum.inl, b, k1, rfl, I5.sub _ _ (s5 _ _ hb4), by rw [List.length_zip]; have : (a1r ks).length = ks.length := by simp [a1r]
                                                                           lia, rest.length, by simp, L5.take n, S5, (a2q ks vs kk v).1, (a2q ks vs kk v).2, (a2q ks us kk u).2, by rw [hd'], ?_, pl1, pr, s.trans (s2.trans (s3.trans (s4.trans s5))), by rw [List.length_take, I5.len]; lia, by lia, by rw [hd']; exact hv⟩
        rw [b5x ks us kk u (by lia), pe]
        exact (I5.take hmd hl l2 far').regrow h0 hp hz
end
section
variable {X:Cx} {C:CC} {n:Nat} {sp:Γd→Nat→Sp} {pos:Pos} {scope:Scope} {own:List Str} {kx vx tgx iter:Expr} {ifs:List Expr} {it:AW} {tg:Tg} {t:BW} {ek ev:EW} {nn m:Nat} {md':Md}
theorem c2h (G:Good X C n sp) (h:CompOk X C n sp scope own kx tgx iter ifs nn m md' it tg t ek) (hv:∀ X',Good X' (C.sub scope own md') n sp→FE X' (C.sub scope own md') vx ev):FE X C (.DictComp kx vx [⟨tgx,iter,ifs,0⟩] scope pos) (b8w nn m it tg t ek ev):=by
 have h0:=b2 h.st; have h1:=b2 h0.1; have h2:=b2 h1.1; have h3:=b2 h2.1; have h4:=b2 h3.1; have h5:=b2 h4.1; have h6:=b2 h5.1
 obtain ⟨s1,s2⟩:=G.sub h6.1 md'
 have hu:X.A.units + 1 < cLine:=by have:=G.room.units; lia
 have blk:∀ fp D s H,PG (cxC X scope own fp D s H) tgx (gT X.K tg)∧PTs (cxC X scope own fp D s H) ifs (lb X.K md' t)∧PE (cxC X scope own fp D s H) kx (lv X.K md' ek)∧PE (cxC X scope own fp D s H) vx (lv X.K md' ev):=fun fp D s H=>⟨h.tg _ (s2 fp D s H),h.ts _ (s2 fp D s H),h.el _ (s2 fp D s H),hv _ (s2 fp D s H)⟩
 refine PE.imp (c1h (X:=X) hu G.calm s1 h.it blk (b8j (nb h0.2))) fun σ H Q ⟨c,L,S,Q0,I,hh,k⟩=>?_
 refine ⟨c,L,S,_,I,hh,fun xs L1 hx J c' S1 H1 I1 un e0 hJ s1=>?_⟩
 obtain ⟨hl,hb,hc⟩:=hx
 rw [de h5.2]
 refine b9o I1 hJ hl (de h4.2) h2.2 h1.2 hb hc fun acc ks vs us L' S' H' hn q g1 g2 g3 g4 fr I' s'=>?_
 obtain ⟨u,hu,I2,r⟩:=c6e (un _ _ _ _ I') g1 g2 g3 g4 ⟨by rw [← e0]; exact fr.1,((un _ _ _ _ I1).fresh hn).2.1,fun j w hm=>fr.2.2 j w (a5w h3.2 j hm)⟩
 exact k _ L' q _ _ H' r I2 ((s1.trans s').trans (a0r g1))
end
noncomputable def b8b (a b:FV):Option FV:=match b with
 | .dct ks _=>(a6s a).bind fun ps=>(a1c ps).bind fun k=>some (.bl (decide (k∈ks)))
 | .dci ks _=>(a2n a).bind fun k=>some (.bl (decide (k∈ks)))
 | b=>inB a b
noncomputable def ni2B (a b:FV):Option FV:=match b with
 | .dct ks _=>(a6s a).bind fun ps=>(a1c ps).bind fun k=>some (.bl (!decide (k∈ks)))
 | .dci ks _=>(a2n a).bind fun k=>some (.bl (!decide (k∈ks)))
 | b=>niB a b
noncomputable def c7o (v w:FV):Option FV:=match v with
 | .dct ks vs=>(a6s w).bind fun ps=>(a1c ps).bind fun k=>a2a ks vs k
 | _=>none
section
variable {X:Cx}
theorem RH.dct {K:Γd} {S H:Hp} {ks:List (List Int)} {vs:List FV} {y:V} (hs:Same S H) (rq:RH K S H (.dct ks vs) y):∃ a us,y=.ref a∧ks.length=vs.length∧H a=some (.dT ((a1r ks).zip us))∧RVs K S vs us:=by
 rcases rq with ⟨a,us,e,hl,h1,h2⟩ | ⟨a,e,_,ps,us,e9,h1,h2⟩
 ·exact ⟨a,us,e,hl,hs _ _ h1,h2⟩
 ·obtain ⟨hl,rfl⟩:=itd e9
  exact ⟨a,us,e,hl,h1,h2⟩
theorem b3e {S H:Hp} {ks:List (List Int)} {vs:List FV} {ps:List FV} {k:List Int} {x y:V} (hs:Same S H) (rp:RH X.K S H (.tup ps) x) (rq:RH X.K S H (.dct ks vs) y) (e:a1c ps=some k):∃ a us,y=.ref a∧ks.length=us.length∧RVs X.K S vs us∧L2.DGet H a x (a2a ks us k):=by
 obtain ⟨a,us,rfl,hl,h1,h2⟩:=rq.dct hs
 obtain ⟨b,rfl,hb⟩:=b0d (rp.val rfl) e
 refine ⟨a,us,rfl,by rw [hl,h2.length],h2,?_⟩
 rw [← a6g]
 exact .t h1 (hs _ _ hb)
theorem a5j:∀ (ks:List Int) (us:List V) (k:Int),b0t ((a3l ks).zip us) (Sum.inl k)=a2a ks us k
 | [],us,k=>by cases us <;> rfl
 | k' :: ks,[],k=>rfl
 | k' :: ks,u :: us,k=>by
  show b0t ((Sum.inl k',u) :: (a3l ks).zip us) (Sum.inl k)=if k'=k then some u else a2a ks us k
  by_cases e:k'=k
  ·subst e; rw [a4d rfl,if_pos rfl]
  ·rw [a4e fun z=>e (Sum.inl.inj z),if_neg e]; exact a5j ks us k
theorem RH.dci {K:Γd} {S H:Hp} {ks:List Int} {vs:List FV} {y:V} (hs:Same S H) (rq:RH K S H (.dci ks vs) y):∃ a us,y=.ref a∧ks.length=vs.length∧H a=some (.dK ((a3l ks).zip us))∧RVs K S vs us:=by
 rcases rq with ⟨a,us,e,hl,h1,h2⟩ | ⟨a,e,_,ps,us,e9,h1,h2⟩
 ·exact ⟨a,us,e,hl,hs _ _ h1,h2⟩
 ·obtain ⟨hl,rfl⟩:=itd e9
  exact ⟨a,us,e,hl,h1,h2⟩
theorem b8y {S H:Hp} {ks:List Int} {vs:List FV} {k:Int} {y:V} (hs:Same S H) (rq:RH X.K S H (.dci ks vs) y):∃ a us,y=.ref a∧ks.length=us.length∧RVs X.K S vs us∧L2.DGet H a (.int k) (a2a ks us k):=by
 obtain ⟨a,us,rfl,hl,h1,h2⟩:=rq.dci hs
 refine ⟨a,us,rfl,by rw [hl,h2.length],h2,?_⟩
 rw [← a5j]
 exact .k (k:=Sum.inl k) h1
theorem d6p (hu:X.A.units + 64 < cLine):OpR X (compareOp .In) (Rq X.K b8b):=by
 intro pins s σ H x y v u Q I rx ry ⟨S,p,q,z,hs,rp,rq,e,k⟩
 cases q with
 | dct ks vs =>
  obtain ⟨ps,e1,e2⟩:=bnd e
  obtain ⟨kk,e3,e4⟩:=bnd e2
  cases a1v e1
  cases e4
  obtain ⟨a,us,rfl,hl,h2,g⟩:=b3e hs rp rq e3
  cases (show u=Value.ref a from ry)
  refine d_in (by lia) I g rx fun s' I'=>⟨.bl _,H,I',rfl,?_⟩
  have:(a2a ks us kk).isSome=decide (kk∈ks):=by rw [Bool.eq_iff_iff,a2k kk hl]; simp
  rw [this]
  exact k.bl
 | dci ks vs =>
  obtain ⟨kk,e1,e4⟩:=bnd e
  cases a0v e1
  cases e4
  cases rp.int
  obtain ⟨a,us,rfl,hl,h2,g⟩:=b8y (k:=kk) hs rq
  cases (show u=Value.ref a from ry)
  refine d_in (by lia) I g rx fun s' I'=>⟨.bl _,H,I',rfl,?_⟩
  have:(a2a ks us kk).isSome=decide (kk∈ks):=by rw [Bool.eq_iff_iff,a2k kk hl]; simp
  rw [this]
  exact k.bl
 | _=>exact q_in hu pins s σ H x y v u Q I rx ry ⟨S,p,_,z,hs,rp,rq,e,k⟩
end
theorem c8x:a6r b8b:=by
 intro v w z e
 cases w with
 | dct ks vs =>
  obtain ⟨ps,_,e⟩:=bnd e
  obtain ⟨k,_,e⟩:=bnd e
  cases e; exact ⟨_,rfl⟩
 | dci ks vs =>
  obtain ⟨k,_,e⟩:=bnd e
  cases e; exact ⟨_,rfl⟩
 | _ =>
  obtain ⟨b,_,rfl⟩:=mpd (show (inF v _).map FV.bl=some z from e)
  exact ⟨_,rfl⟩
section
variable {X:Cx} {C:CC} {n:Nat} {sp:Γd→Nat→Sp} {a b:Expr} {ea eb:EW} {pos p:Pos}
theorem fb_in2 (G:Good X C n sp) (ha:FE X C a ea) (hb:FR X C b eb) (hm:behindInMarks .In b=false):FB X C (.Compare a [.In] [b] pos) (a2e (eOp b8b ea eb)):=a7w c8x (d6p G.room.units) ha hb hm
variable {es:List Expr} {k:Nat} {p2:Pos}
theorem d8z (G:Good X C n sp) (ha:FE X C a ea) (hb:FE X C (.Tuple es k p2) eb):FE X C (.Subscript a (.Tuple es k p2) pos) (eOp c7o ea eb) :=
 PE.imp (b6n (X:=X.nox) (by have:=G.room.units; show X.A.units + 1 < cLine; lia) ha hb fun _ _=>rfl) fun σ H Q ⟨c,L,S,Q0,I,h,k⟩ =>
 ⟨c,L,S,_,I,h,fun v L1 hv x S1 H1 r1 I1 s1=>⟨c,L1,S1,_,I1,hv,fun w L2 hw y S2 H2 r2 I2 s2=>by
  obtain ⟨z,e,q⟩:=wpx hw
  cases v with
  | dct ks vs =>
   obtain ⟨ps,e1,e2⟩:=bnd e
   obtain ⟨kk,e3,e4⟩:=bnd e2
   cases a1v e1
   obtain ⟨a,us,rfl,hl,h2,g⟩:=b3e (X:=X) I2.sub (.inl r2) (.inl (r1.mono s2)) e3
   obtain ⟨u,e5,r5⟩:=a9a h2 e4
   rw [e5] at g
   exact ⟨a,u,rfl,g,k z L2 q u S2 H2 r5 I2 (s1.trans s2)⟩
  | _=>cases e⟩⟩
end
section
variable (Q:FV→Prop)
@[scoped simp ↓] theorem k_in2d (ps:List FV) (ks:List (List Int)) (vs:List FV):wp (b8b (.tup ps) (.dct ks vs)) Q↔wp (a1c ps) fun k=>Q (.bl (decide (k∈ks))):=by
 show wp ((a1c ps).bind _) Q↔_; rw [a2l]; rfl
@[scoped simp ↓] theorem k_in2i (k:Int) (ks:List Int) (vs:List FV):wp (b8b (.int k) (.dci ks vs)) Q=Q (.bl (decide (k∈ks))):=propext Iff.rfl
@[scoped simp ↓] theorem k_in2t (a:FV) (xs:List FV):wp (b8b a (.tup xs)) Q↔wp (inF a (.tup xs)) fun r=>Q (.bl r):=a2o _ _ _
@[scoped simp ↓] theorem k_dget (ps:List FV) (ks:List (List Int)) (vs:List FV):wp (c7o (.dct ks vs) (.tup ps)) Q↔wp (a1c ps) fun k=>wp (a2a ks vs k) Q:=by
 show wp ((a1c ps).bind _) Q↔_; rw [a2l]
@[scoped simp ↓] theorem ints_n (Q:List Int→Prop):wp (a1c []) Q=Q []:=propext Iff.rfl
@[scoped simp ↓] theorem ints_c (i:Int) (r:List FV) (Q:List Int→Prop):wp (a1c (.int i :: r)) Q↔wp (a1c r) fun ns=>Q (i :: ns):=by
 show wp ((a1c r).map (i :: ·)) Q↔_; rw [a2o]
end
@[scoped simp ↓] theorem d2c (n m:Nat) (it:AW) (tg:Tg) (t:BW) (ek ev:EW) (L:a0c) (Q:FV→a0c→Prop):b8w n m it tg t ek ev L Q=(it L fun xs L1=>L1.length=n∧xs.length≤big∧a4z n m tg t ek ev xs [] [] L1 fun ks vs L2=>Q (.dct ks vs) L2):=propext Iff.rfl
theorem b0j {α:Type} {tg:Tg} {n m:Nat} {ek ev:EW} {f:α→FV} {g:α→List Int} {h:α→FV} {Q:List (List Int)→List FV→a0c→Prop} {L:a0c}:∀ (xs:List α) (ks:List (List Int)) (vs:List FV),
  (∀ x∈xs,g x ∉ ks)→(xs.map g).Nodup →
  (∀ x∈xs,∀ K:List Int→FV→a0c→Prop,K (g x) (h x) L→gW tg (f x) (L++Γj m none) fun L1=>ek L1 fun kx L3=>wp (a6s kx) fun ps=>wp (a1c ps) fun k=>ev L3 fun v L4=>K k v (L4.take n))→Q (ks++xs.map g) (vs++xs.map h) L→a4z n m tg a2f ek ev (xs.map f) ks vs L Q
 | [],ks,vs,_,_,_,E=>by
  show Q ks vs L
  simpa using E
 | x :: xs,ks,vs,hn,hd,B,E=>by
  refine B x Γn (fun k v L'=>a4z n m tg a2f ek ev (xs.map f) (a2q ks vs k v).1 (a2q ks vs k v).2 L' Q) ?_
  have hk:=hn x Γn
  simp only [List.map_cons,List.nodup_cons] at hd
  have e:a2q ks vs (g x) (h x)=(ks++[g x],vs++[h x]):=by simp [a2q,hk]
  rw [e]
  refine b0j xs _ _ (fun y hy hm=>?_) hd.2 (fun y hy=>B y (Γh _ hy)) (by simpa using E)
  rcases List.mem_append.mp hm with hm | hm
  ·exact hn y (Γh _ hy) hm
  ·simp at hm
   exact hd.1 (by rw [← hm]; exact List.mem_map_of_mem hy)
end Kq
end
section
namespace PySem
theorem F.nolen_lri:typeLookup (.type "list_reverseiterator") "__len__" = pure none:=by rw [typeLookup_type,builtinLookup_eq_fast]; kernel_rfl
theorem F.slot_lri_hint:Slot "list_reverseiterator" "__length_hint__" "list_reverseiterator.__length_hint__" :=
 .of (owner:="list_reverseiterator") (n:="__length_hint__") (by rw [typeLookup_type,builtinLookup_eq_fast]; kernel_rfl) (by nofun) (by nofun) (by nofun)
  (by first | exact .inl (by decide +kernel) | exact .inr (by decide +kernel)) (by rw [isSubtype_type]; kernel_rfl)
section
variable {prog:Program} {w:World} {A:Around} {E:Value→Shared→Prop} {s:Shared}
theorem b1t {it l:Addr} {items:Array Value} {Q:List Value→Shared→Prop} (hh:A.handled=none) (hne:l≠it) (hit:s.heap.IsRevIter it l ((items.size:Int) - 1)) (hl:s.heap.IsList l items) (hz:items.size≤sizeLine)
  (hQ:∀ s' acc,Moved [it] (fun a b=>b=a) s s'→ItemsOf (fun i v=>items[items.size - 1 - i]?=some v) acc items.size→Q acc.toList s'):wpAny (model prog w) A (collect (.ref it)) Q E s:=by
 have W:=(Walks.listRev (prog:=prog) (w:=w) (A:=A.in1) (show A.in1.handled=none from hh) it l hne items).toS
 have l1:it < s.heap.objs.size:=by obtain ⟨o,e,_⟩:=hit; exact Γl e
 have l2:l < s.heap.objs.size:=by obtain ⟨o,e,_⟩:=hl; exact Γl e
 have hSf:s.heap.objs.size ∉ [it,l]:=fun hm=>by
  simp only [List.mem_cons,List.not_mem_nil,or_false] at hm
  rcases hm with hm | hm
  ·exact Nat.lt_irrefl _ (hm ▸ l1)
  ·exact Nat.lt_irrefl _ (hm ▸ l2)
 have hSI:s.heap.objs.size≠it:=fun e=>Nat.lt_irrefl _ (e ▸ l1)
 unfold collect
 refine Γa (wpAny_runValue (codeAny_builtin F.entry_proto_collect ?_)); rw [Around.under_plainId F.plain_proto_collect _]
 show wpAny _ A.in1 (newList [] >>= fun acc=>again (.builtin "list.__iadd__" ⟨[acc,.ref it],[]⟩)) _ _ s
 refine Γa (wpAny_newObj_type (Γb ⟨plainId_quiet F.plain_list_iadd _,codeAny_builtin F.entry_list_iadd ?_⟩)); rw [Around.under_plainId F.plain_list_iadd _]
 generalize hs1:({ s with heap:=s.heap.push { cls:=.type "list",data:=.seq ([]:List Value).toArray } }:Shared)=s1
 have k1:∀ b o,s.heap.get? b=some o→s1.heap.get? b=some o:=fun b o e=>by rw [← hs1]; exact Γc _ e
 have it1:=hit.at fun o e=>k1 it o e
 have li1:=hl.at fun o e=>k1 l o e
 have S1:s1.heap.get? s.heap.objs.size=some { cls:=.type "list",data:=.seq ([]:List Value).toArray }:=by rw [← hs1]; exact Γm _ rfl
 have st1:0≤items.size∧s1.heap.IsRevIter it l ((items.size:Int) - 1 - ((0:Nat):Int))∧s1.heap.IsList l items:=⟨Nat.zero_le _,by simpa using it1,li1⟩
 have ty1:s1.TypeIs (.ref it) "list_reverseiterator":=it1.typeIs
 have h1:Builtin.List.listSameRef (.ref s.heap.objs.size) (.ref it)=false:=by simp [Builtin.List.listSameRef,hSI]
 show wpAny _ A.in1 (Builtin.List.listExtendWith (.ref s.heap.objs.size) (.ref it) (.ref s.heap.objs.size)) _ _ s1
 unfold Builtin.List.listExtendWith
 refine Γa (wpAny_typeOf ty1 ?_)
 rw [if_neg (by rw [h1]; decide)]
 refine Γa (W.self 0 s1 _ _ st1 (Γa (Γg ?_)))
 unfold Builtin.List.listLengthHint
 refine Γa (wpAny_specialOf ty1 F.nolen_lri ?_)
 show wpAny _ A.in1 (specialOf (Value.ref it) (Γe "__length_hint__") >>= _) _ _ _
 refine Γa (wpAny_specialOf ty1 F.slot_lri_hint.lookup ?_)
 (generalize hid:("list_reverseiterator.__length_hint__":String)=id0; (fail_if_success (clear hid id0)); wp_delta; rw [show splitId id0=some ("list_reverseiterator","__length_hint__") from by subst hid; nofun]; subst hid)
 refine Γa (wpAny_isInstance (b:=true) ty1 (by rw [isSubtype_type]; kernel_rfl) ?_)
 refine Γb ?_
 rw [if_neg (by decide)]
 refine Γb ⟨plainId_quiet F.plain_extend_loop _,codeAny_extend_loopS W hz _ hSf _ items.size 0 _ _ _ rfl (Nat.zero_le _) st1 S1 (ItemsOf.nil _) fun s' acc' c' hm hS' hacc=>?_⟩
 show wpAny _ A (load s.heap.objs.size >>= _) _ _ s'
 refine Γa (wpAny_load hS' (Γb (hQ s' acc' ?_ hacc)))
 subst hs1
 exact Moved.drop_new (o:={ cls:=.type "list",data:=.seq ([]:List Value).toArray }) (tk:=s.toks) hm (Γi _)
end
end PySem
namespace Kq
open PySem PySem.Spec PyProof.Rows L2
section
variable {P:Program} {w:World} {A:Around} {E:Value→Shared→Prop} {s:Shared}
end
noncomputable def maxIF (v:FV):Option FV:=(a1w v).bind fun xs=>(a1c xs).bind fun ns=>match ns with
 | n :: r=>some (.int (c1o n r))
 | []=>none
section
variable {X:Cx}
end
section
variable {X:Cx} {C:CC} {n:Nat} {sp:Γd→Nat→Sp} {a:Expr} {ea:EW} {pos p:Pos}
end
end Kq
end
section
namespace PySem
section
variable {prog:Program} {w:World} {A:Around} {E:Value→Shared→Prop} {s:Shared}
theorem a7d {it l:Addr} {items:Array Value} {Q₁:Value→Shared→Prop} (hh:A.handled=none) (hne:l≠it) (hit:s.heap.IsRevIter it l ((items.size:Int) - 1)) (hl:s.heap.IsList l items) (hz:items.size≤sizeLine)
  (h:∀ s' acc,Moved [it] (fun a b=>b=a) s s'→ItemsOf (fun i v=>items[items.size - 1 - i]?=some v) acc items.size→Q₁ (.ref s'.heap.objs.size) { s' with heap:=s'.heap.push { cls:=.type "tuple",data:=.seq acc } }) :
  codeAny (model prog w) A (.call (.builtin "tuple.__new__") ⟨[.type "tuple",.ref it],[]⟩) (wants Q₁ E) s:=by
 refine codeAny_of_tree ?_
 show wpAny _ A.in1 (do checkBuiltinCall "tuple.__new__" ⟨[.type "tuple",.ref it],[]⟩; again (.builtin "tuple.__new__" ⟨[.type "tuple",.ref it],[]⟩)) _ _ s
 refine Γa (wpAny_of_eq (F.newCall_tuple_1 _) (Γb ⟨plainId_quiet F.plain_tuple_new _,codeAny_builtin F.entry_tuple_new ?_⟩)); rw [Around.under_plainId F.plain_tuple_new _]
 have hsub:=sub_tuple_self; have hinit:=init_tuple_lookup; have hmh:=madeHere_tuple
 have hTI:s.TypeIs (.ref it) "list_reverseiterator":=hit.typeIs
 wp_walk using wpAny_typeOf hTI,b1t (A:=A.in1) (show A.in1.handled=none from hh) hne hit hl hz
 intro s' acc hm hacc
 show wpAny _ _ (Builtin.Tuple.tupleExact acc.toList.toArray >>= fun v=>ret v) _ _ _
 unfold Builtin.Tuple.tupleExact
 refine Γa (wpAny_newObj_type (Γb ?_) (by show acc.toList.toArray.size≤sizeLine; simp only [Array.toArray_toList]; rw [hacc.1]; exact hz))
 have e:acc.toList.toArray=acc:=by simp
 rw [e]; exact h s' acc hm hacc
theorem a7f {it l:Addr} {items:Array Value} {Q:Value→Shared→Prop} (hh:A.handled=none) (hne:l≠it) (hit:s.heap.IsRevIter it l ((items.size:Int) - 1)) (hl:s.heap.IsList l items) (hz:items.size≤sizeLine)
  (hQ:∀ s' acc,Moved [it] (fun a b=>b=a) s s'→ItemsOf (fun i v=>items[items.size - 1 - i]?=some v) acc items.size→Q (.ref s'.heap.objs.size) { s' with heap:=s'.heap.push { cls:=.type "tuple",data:=.seq acc } }) :
  wpAny (model prog w) A (call (.type "tuple") [.ref it]) Q E s:=by
 refine callType_codes (Q₁:=fun obj s₁=>s₁.TypeIs obj "tuple"∧Q obj s₁) F.called_tuple (F.typeCall_tuple_1 _) F.entry_object_init (a7d (A:=A.in1) hh hne hit hl hz fun s' acc hm hacc=>⟨⟨_,Γm _ rfl,rfl⟩,hQ s' acc hm hacc⟩) fun obj s₁ h₁=>?_
 exact ⟨h₁.1,F.args_object_init_2 obj _,object_init_meets F.called_tuple.init.lookup F.called_tuple.made (by decide) prog w A.in1 _ s₁ ⟨h₁.1,rfl,h₁.2⟩⟩
end
end PySem
namespace Kq
open PySem PySem.Spec PyProof.Rows L2
section
variable {X:Cx} {a:Expr} {ta:TA} {p p2 pos pos2:Pos}
theorem c5q (hc:X.calm=true) (hg:Gl X "reversed") (hm:X.mg "reversed" = none) (hg2:Gl X "tuple") (hm2:X.mg "tuple" = none) (ha:PA X [a] ta) (hs:starEach [a] X.env=[(false,eval a X.env)]) :
  PE X (.Call (.Name "tuple" p) [.Call (.Name "reversed" p2) [a] [] pos2] [] pos) (fun σ H Q=>ta σ H fun vs H1=>∃ l xs,vs=[.ref l]∧SqL X.K H1 l xs∧∀ q,H1 q=none→Q (.ref q) (upd H1 q (.tup xs.reverse))):=by
 intro pins s σ H Q I h
 refine wpAny_Call_Name_kw (a3o I hg2 hm2 (show bootBuiltins (Γe "tuple")=some (.type "tuple") by nofun) ?_ (by nofun) (by nofun))
 refine PyProof.Rows.callWith_type1 (T:="tuple") ?_ rfl rfl
 show wpAny _ _ (spliced ((false,eval (.Call (.Name "reversed" p2) [a] [] pos2) X.env) :: backTo pos [])) _ _ s
 refine Calls.spliced_cons (Call_ (a3o I hg hm (show bootBuiltins (Γe "reversed")=some (.type "reversed") by nofun) (PyProof.Rows.callWith_type1 (T:="reversed") (thn (ha pos2 pins s σ H _ I h) fun us s1 ⟨vs,H1,I1,r1,q1⟩=>?_) hs rfl)))
 obtain ⟨l,xs,e,hq,q⟩:=q1
 subst e
 obtain ⟨u,rfl,ru⟩:=a4c r1
 cases (show u=Value.ref l from ru)
 obtain ⟨its,rv,pl,hz⟩:=I1.list hq
 have hlen:=rv.length
 have ll:l < s1.heap.objs.size:=by obtain ⟨o,e,_⟩:=pl.isList; exact Γl e
 refine call_reversed_list pl.isList (Calls.spliced_nil ?_)
 have I2:Inv X pins σ H1 { s1 with heap:=s1.heap.push (revObj l ((its.toArray.size:Int) - 1)) }:=I1.kept (t':=s1.toks) fun b o e=>Γc _ e
 refine a7f (items:=its.toArray) (l:=l) (I1.ok.hd hc) (Γo ll) ⟨_,Γm _ rfl,rfl,rfl⟩ (pl.isList.push _) (by simpa [← hlen] using hz) fun s' acc hm hacc=>?_
 have I3:Inv X pins σ H1 s':=by
  have:=I1.kept (h':=s'.heap) (t':=s'.toks) fun b o e=>hm.heap b o (by simp; exact Γo (Γl e)) (Γc _ e)
  have e:s' = { s1 with heap:=s'.heap,toks:=s'.toks }:=by
   obtain ⟨h1,h2,h3,h4,h5⟩:=hm
   obtain ⟨a,b,c,d,e⟩:=s'
   simp only at h2 h3 h4
   subst h2 h3 h4; rfl
  rw [e]; exact this
 refine ⟨.ref s'.heap.objs.size,_,I3.laid (t':=s'.toks) (o:=.tup xs.reverse) (fun b ob q=>Γc _ q) (Γi _) ?_,rfl,q _ (I3.hok.fresh (Γi _))⟩
 have e:acc.toList=its.reverse:=by
  have h1:acc.toList.length=its.length:=by simpa using hacc.1
  apply List.ext_getElem
  ·rw [List.length_reverse]; exact h1
  ·intro i h2 h3
   have h4:=hacc.2 i (acc.toList[i]) (by simp at h2; simp [h2])
   have h5:its[its.length - 1 - i]?=some acc.toList[i]:=by simpa using h4
   rw [List.getElem_reverse]
   exact ((List.getElem?_eq_some_iff.mp h5).2).symm
 refine ⟨by rw [List.length_reverse]; exact hz,its.reverse,rv.reverse,?_⟩
 rw [← e]
 exact IsTup.new _ _
end
noncomputable def c5a (v:FV):Option FV:=(a1w v).map fun xs=>.tup xs.reverse
@[scoped simp ↓] theorem f_revT (v:FV) (Q:FV→Prop):wp (c5a v) Q↔wp (a1w v) fun xs=>Q (.tup xs.reverse):=a2o _ _ _
theorem d8r {X:Cx} {C:CC} {n:Nat} {sp:Γd→Nat→Sp} {a:Expr} {ea:EW} {pos p p2 pos2:Pos} (G:Good X C n sp) (hg:(C.gl (Γe "reversed") && C.gl (Γe "tuple"))=true) (hs:a0l a=false) (ha:FR X C a ea):FE X C (.Call (.Name (Γe "tuple") p) [.Call (.Name (Γe "reversed") p2) [a] [] pos2] [] pos) (eUn c5a ea) :=
 PE.imp (c5q (X:=X.nox) G.calm (G.gl (b2 hg).1) (G.blt "reversed" (by decide)) (G.gl (b2 hg).2) (G.blt "tuple" (by decide)) (a0n ha a1o (a0g hs)) (a0g hs)) fun σ H Q ⟨c,L,S,Q0,I,h,k⟩ =>
 ⟨c,L,S,_,I,h,fun v L1 hv x S1 H1 r1 I1 s1=>by
  obtain ⟨z,e,q⟩:=wpx hv
  obtain ⟨ps,e1,rfl⟩:=mpd e
  obtain ⟨a,ys,rfl,hq,ry⟩:=r1.list I1.sub e1
  exact ⟨a,ys,rfl,hq,fun p hp=>(b1c I1 fun x S' H' r I' s'=>k _ L1 q x S' H' r I' (s1.trans s')).tup _ _ p rfl ry.rev hp⟩⟩
end Kq
end
section
namespace Kq
open PySem PySem.Spec PyProof.Rows L2
section
variable {P:Program} {w:World} {A:Around} {E:Value→Shared→Prop} {s:Shared}
end
noncomputable def b0x (v:FV):Option FV:=(a3r v).bind fun xs=>(c4n xs).map .int
section
variable {X:Cx}
theorem b4n (hc:X.calm=true):a1k X (.builtin "sum") (fun xs H Q=>∃ (a:Addr) (ns:List Int),xs=[.ref a]∧SqT X.K H a (ns.map V.int)∧ns.length≤big∧(∀ n∈ns,-(2 ^ 40)≤n∧n≤2 ^ 40)∧Q (.int ns.sum) H):=by
 intro pins s σ H xs us Q I r h
 obtain ⟨a,ns,rfl,hq,hz,hb,q⟩:=h
 obtain ⟨u,rfl,rx⟩:=a4c r
 cases rx
 obtain ⟨its,r',pl,hz'⟩:=I.tuple hq
 have hlen:ns.length=its.length:=by have:=r'.length; simpa using this
 have pt:s.heap.IsTuple a its.toArray:=pl
 have alt:a < s.heap.objs.size:=by obtain ⟨_,e,_⟩:=pt; exact Γl e
 have hh:X.A.in1.handled=none:=I.ok.hd hc
 refine call_sum_walk (wpAny_pyIter_tuple pt ?_)
 refine ⟨s.heap.objs.size,_,_,_,_,_,fun i=>ns.getD i 0,rfl,Walks.tuple hh s.heap.objs.size a (Γo alt) its.toArray,⟨⟨_,Γm _ rfl,rfl,rfl⟩,pt.at fun o e=>Γc _ e⟩,?_,?_,?_,?_⟩
 ·intro b hb'
  simp at hb'
  rcases hb' with rfl | rfl
  ·show _ < (s.heap.push _).objs.size; rw [Heap.size_push]; exact Nat.lt_succ_self _
  ·show _ < (s.heap.push _).objs.size; rw [Heap.size_push]; exact Nat.lt_succ_of_lt alt
 ·intro i v hv
  have hv:its.toArray[i]?=some v:=hv
  have hi:i < ns.length:=by rw [hlen]; simpa using (Array.getElem?_eq_some_iff.mp hv).1
  obtain ⟨t,e⟩:=Vals.mapInt r' i hi
  refine ⟨t,?_⟩
  have e':its.toArray[i]?=some (.int (ns.getD i 0) t):=by simpa using e
  rw [hv] at e'
  exact Option.some.inj e'
 ·intro j hj
  have hj':j < ns.length:=by rw [hlen]; simpa using hj
  have hm:ns.getD j 0∈ns:=by simp [List.getD,hj']
  refine ⟨?_,?_⟩
  ·have:=hb _ hm
   show -(2 ^ 63)≤ns.getD j 0∧ns.getD j 0 < 2 ^ 63
   lia
  ·rw [a1p ns (j + 1) hj']
   have b2:=b5k 1099511627776 (by decide) (ns.take (j + 1)) fun n hn=>by have:=hb n (List.mem_of_mem_take hn); lia
   have l2:(ns.take (j + 1)).length≤100000:=by rw [List.length_take]; unfold big at hz; lia
   unfold InLong; lia
 ·intro h' tk t' hk
  have e:preSum (fun i=>ns.getD i 0) its.toArray.size=ns.sum:=by
   rw [List.size_toArray,← hlen,a1p ns _ (Γi _),List.take_length]
  rw [e]
  refine ⟨.int ns.sum,H,?_,⟨t',rfl⟩,q⟩
  exact I.kept (t':=tk) fun b o e=>hk b o (by simp; exact Γo (Γl e)) (Γc _ e)
theorem c4d (hc:X.calm=true):a1k X (.builtin "sum") (Rc X.K b0x):=by
 rintro pins s σ H xs us Q I r ⟨S,v,x,z,rfl,hs,rv,e,k⟩
 cases v with
 | tup ps =>
  obtain ⟨n,e3,rfl⟩:=mpd e
  obtain ⟨ns,e4,e5⟩:=bnd e3
  obtain ⟨hb,rfl⟩:=itd e5
  obtain ⟨a,ys,rfl,hq,ry⟩:=rv.tup hs
  cases a1g ry e4
  refine b4n hc pins s σ H _ us Q I r ⟨a,ns,rfl,SqT.of hq,hb.1,fun n hn=>?_,k.int⟩
  have:=List.all_eq_true.mp hb.2 n hn
  simpa [a5o] using this
 | lst ps=>exact d2o hc pins s σ H _ us Q I r ⟨S,.lst ps,x,z,rfl,hs,rv,e,k⟩
 | scr ps=>exact d2o hc pins s σ H _ us Q I r ⟨S,.scr ps,x,z,rfl,hs,rv,e,k⟩
 | _=>cases e
end
section
variable {X:Cx} {C:CC} {n:Nat} {sp:Γd→Nat→Sp} {a:Expr} {ea:EW} {pos p:Pos}
theorem d8t (G:Good X C n sp) (hg:C.gl (Γe "sum")=true) (hs:a0l a=false) (ha:FR X C a ea):FE X C (.Call (.Name (Γe "sum") p) [a] [] pos) (eUn b0x ea):=b0h (c4d G.calm) G (by decide) (by nofun) (by nofun) (by nofun) hg hs ha
end
@[scoped simp ↓] theorem f_sum2 (v:FV) (Q:FV→Prop):wp (b0x v) Q↔wp (a3r v) fun xs=>wp (c4n xs) fun n=>Q (.int n):=by
 show wp ((a3r v).bind _) Q↔_
 simp only [a2l,a2o]
noncomputable def d7v {α:Type} (xs:List α) (k:Nat) (y:α):List α:=xs.take k++y :: xs.drop k
noncomputable def insF (v:FV) (ys:List FV):Option FV:=match ys with
 | [i,y]=>(a6x v).bind fun xs=>(a2n i).bind fun k=>if 0≤k∧k < 4611686018427387904∧xs.length < big then some (.lst (d7v xs k.toNat y)) else none
 | _=>none
noncomputable def eMethA (f:FV→List FV→Option FV) (i:Nat) (as:AW):EW:=fun L Q=>wp (lk L i) fun v=>wp (a6x v) fun _=>as L fun ys L1=>wp (lk L1 i) fun x=>wp (f x ys) fun z=>Q .non (L1.set i (some z))
section
variable {X:Cx}
theorem Vals.take:∀ {xs:List V} {us:List Value} (k:Nat),Vals xs us→Vals (xs.take k) (us.take k)
 | _,_,0,_=>.nil
 | _,_,k + 1,.nil=>.nil
 | _,_,k + 1,.cons r t=>.cons r (Vals.take k t)
theorem Vals.drop:∀ {xs:List V} {us:List Value} (k:Nat),Vals xs us→Vals (xs.drop k) (us.drop k)
 | _,_,0,h=>h
 | _,_,k + 1,.nil=>.nil
 | _,_,k + 1,.cons r t=>Vals.drop k t
end
section
variable {K:Γd} {S:Hp}
theorem RVs.ins {ps:List FV} {vs:List V} {p:FV} {v:V} (k:Nat) (h:RVs K S ps vs) (hp:RV K S p v):RVs K S (d7v ps k p) (d7v vs k v) :=
 (h.take k).append (show RVs K S (p :: ps.drop k) (v :: vs.drop k) from ⟨v,_,rfl,hp,h.drop k⟩)
end
section
variable {X:Cx} {C:CC} {n:Nat} {sp:Γd→Nat→Sp} {a b:Expr} {as:AW} {nx:Str} {p:Pos} {i:Nat}
end
end Kq
end
section
namespace PySem
open Sem (wp)
end PySem
namespace Kq
open PySem PySem.Spec PyProof.Rows L2
section
variable {P:Program} {w:World} {A:Around} {R:Result→Shared→Prop} {H:Hp} {h0:Heap} {it l D:Addr} {items:Array Value}
end
section
variable {X:Cx} {pins:List (Addr×Obj)} {σ:L2.St} {H:Hp} {s:Shared} {A:Around} {E:Value→Shared→Prop}
end
end Kq
end
section
namespace Kq
open PySem PySem.Spec PyProof.Rows L2
noncomputable def d0g:FV→Option (List Int×FV)
 | .tup [.tup ks,v]=>(a1c ks).map fun k=>(k,v)
 | _=>none
noncomputable def c3m:List FV→Option (List (List Int×FV))
 | []=>some []
 | x :: r=>(d0g x).bind fun p=>(c3m r).map fun q=>p :: q
noncomputable def b6a {α:Type}:List (List Int×α)→List (List Int)→List α→List (List Int)×List α
 | [],ks,vs=>(ks,vs)
 | p :: r,ks,vs=>b6a r (a2q ks vs p.1 p.2).1 (a2q ks vs p.1 p.2).2
noncomputable def dictF (v:FV):Option FV:=(a1w v).bind fun xs=>(c3m xs).bind fun ps=>some (.dct (b6a ps [] []).1 (b6a ps [] []).2)
section
variable {K:Γd} {S:Hp}
end
section
variable {X:Cx}
end
section
variable {X:Cx} {C:CC} {n:Nat} {sp:Γd→Nat→Sp} {a b:Expr} {ea eb:EW} {pos p:Pos}
end
noncomputable def iZipN (i:Nat) (eb:EW):AW:=fun L Q=>wp (lk L i) fun _=>eb L fun y L1=>wp (lk L1 i) fun x=>wp (a3r x) fun xs=>wp (a3r y) fun ys=>Q (a3a xs ys) L1
section
variable {X:Cx} {C:CC} {n:Nat} {sp:Γd→Nat→Sp} {b:Expr} {eb:EW} {pos p p2 tp:Pos} {i kk:Nat} {nx:Str} {elts:List Expr}
end
end Kq
end
section
namespace L2
open PySem PySem.Spec PyProof.Rows
noncomputable def d2z (h:Heap) (z TI TO:Addr) (f m:Value):Prop:=h.get? z=some { cls:=.type "zip",data:=.fields #[f,m,.bool false,.ref TI,.ref TO] }
section
variable {P:Program} {w:World} {A:Around} {E:Value→Shared→Prop} {s:Shared} {z TI TO:Addr} {f m:Value}
end
section
variable {P:Program} {w:World} {A:Around} {E:Value→Shared→Prop} {s:Shared} {p q:Bool} {z TI TO i1 i2 l1 l2:Addr} {k1 k2:Nat} {xs ys:Array Value} {x y a b f m:Value}
end
section
variable {X:Cx}
end
end L2
end
section
namespace Kq
open PySem PySem.Spec PyProof.Rows L2
section
variable {X:Cx} {C:CC} {n:Nat} {sp:Γd→Nat→Sp} {a b:Expr} {ea eb:EW} {pos p tp:Pos} {nt:Str}
end
noncomputable def d0s (o:HO):Prop:=∀ xs,o≠.tup xs
mutual
noncomputable def noL:FV→Bool
 | .lst _=>false
 | .scr _=>false
 | .tup xs=>c8m xs
 | .dct _ _=>false
 | .dci _ _=>false
 | .dcz _ _ _=>false
 | .obj _ _ _ _=>false | .dcn _ _ _=>false
 | _=>true
noncomputable def c8m:List FV→Bool
 | []=>true
 | x :: r=>noL x && c8m r
end
noncomputable def eCallL (call:CW) (f:Nat) (a:AW):EW:=fun L Q=>a L fun xs L1=>call f xs fun z=>noL z.1=true∧Q z.1 L1
noncomputable def eCallM (call:CW) (f:Nat) (a:AW):EW:=fun L Q=>a L fun xs L1=>call f xs fun z=>wp (a6x z.1) fun ps=>c8m ps=true∧Q z.1 L1
noncomputable def RHs (K:Γd) (S H:Hp) (os:List Addr):List FV→List V→Prop
 | [],vs=>vs=[]
 | p :: ps,vs=>∃ v r,vs=v :: r∧(RV K S p v ∨ ∃ a,v=.ref a∧a∈os∧a2x K S H a p)∧RHs K S H os ps r
section
variable {K:Γd} {S H S' H':Hp} {os os':List Addr}
theorem RHs.more:∀ {ps:List FV} {vs:List V},RHs K S H os ps vs→(∀ a∈os,a∈os')→RHs K S H os' ps vs
 | [],vs,h,_=>h
 | p :: ps,vs,⟨v,r,e,h1,h2⟩,k=>⟨v,r,e,h1.imp_right fun ⟨a,e,m,o⟩=>⟨a,e,k a m,o⟩,RHs.more h2 k⟩
noncomputable def c6j (S:Hp) (os:List Addr):Hp:=fun a=>if a∈os then none else S a
mutual
theorem RV.less {K:Γd} {S:Hp} {os:List Addr} (h:∀ a∈os,∃ o,S a=some o∧d0s o):∀ {p:FV} {v:V},noL p=true→RV K S p v→RV K (c6j S os) p v
 | .non,v,_,e=>e
 | .bl b,v,_,e=>e
 | .int i,v,_,e=>e
 | .str _,v,_,e=>e
 | .shn _,v,_,e=>e
 | .tup ps,v,n,⟨a,xs,e,h1,h2⟩=>⟨a,xs,e,by
   unfold c6j
   rw [if_neg fun m=>by obtain ⟨zs,z,n⟩:=h a m; rw [z] at h1; cases h1; exact n _ rfl]; exact h1,RVs.less h (by simpa [noL] using n) h2⟩
 | .dct ks vs,v,n,_=>by simp [noL] at n
 | .dci ks vs,v,n,_=>by simp [noL] at n
 | .dcz _ ks vs,v,n,_=>by simp [noL] at n
 | .obj _ _ _ _,v,n,_=>by simp [noL] at n
 | .dcn _ _ _,v,n,_=>by simp [noL] at n
 | .lst ps,v,n,_=>by simp [noL] at n
 | .scr ps,v,n,_=>by simp [noL] at n
theorem RVs.less {K:Γd} {S:Hp} {os:List Addr} (h:∀ a∈os,∃ o,S a=some o∧d0s o):∀ {ps:List FV} {vs:List V},c8m ps=true→RVs K S ps vs→RVs K (c6j S os) ps vs
 | [],vs,_,e=>e
 | p :: ps,vs,n,⟨v,r,e,h1,h2⟩=>by
  have n:noL p=true∧c8m ps=true:=by simpa [c8m] using n
  exact ⟨v,r,e,RV.less h n.1 h1,RVs.less h n.2 h2⟩
end
variable {c:Cn} {md:Md} {L:a0c} {σ:L2.St}
end
section
variable {X:Cx} {C:CC} {n:Nat} {sp:Γd→Nat→Sp} {a:Expr} {ea:EW} {pos p:Pos} {call:CW} {f i:Nat} {nx:Str} {xs:List Expr} {as:AW}
end
noncomputable def revF (v:FV):Option FV:=(a6x v).map fun xs=>.lst xs.reverse
noncomputable def eMeth0 (f:FV→Option FV) (i:Nat):EW:=fun L Q=>wp (lk L i) fun x=>wp (f x) fun z=>Q .non (L.set i (some z))
section
variable {X:Cx} {C:CC} {n:Nat} {sp:Γd→Nat→Sp} {pos p:Pos} {call:CW} {f i:Nat} {nx:Str}
end
end Kq
end
section
namespace Kq
open PySem PySem.Spec PyProof.Rows L2 PySem.W
noncomputable def Lv {α:Type} (n:Nat) (P:α→Prop):KasT α→Prop
 | .ret a=>P a
 | .ask i j k=>i < n∧j < n∧∀ b,Lv n P (k b)
theorem Lv.mono {α:Type} {n:Nat} {P P':α→Prop} (h:∀ a,P a→P' a):∀ {t:KasT α},Lv n P t→Lv n P' t
 | .ret a,x=>h a x
 | .ask i j k,x=>⟨x.1,x.2.1,fun b=>Lv.mono h (x.2.2 b)⟩
theorem Lv.bind {α β:Type} {n:Nat} {P:α→Prop} {P':β→Prop} {f:α→KasT β} (h:∀ a,P a→Lv n P' (f a)):∀ {t:KasT α},Lv n P t→Lv n P' (t.bind f)
 | .ret a,x=>h a x
 | .ask i j k,x=>⟨x.1,x.2.1,fun b=>Lv.bind h (x.2.2 b)⟩
section
variable {n:Nat}
end
noncomputable def IntTup (h:Heap) (v:Value):Prop:=∃ (a:Addr) (o:Obj) (us:List Value) (n:Nat) (k:Int) (ks:List Int),v=.ref a∧h.get? a=some o∧o.cls=.type "tuple"∧o.data=.seq us.toArray n∧Vals ((k :: ks).map V.int) us
theorem IntTup.keep {h h':Heap} {v:Value} (x:IntTup h v) (k:∀ b o,h.get? b=some o→h'.get? b=some o):IntTup h' v:=by
 obtain ⟨a,o,us,n,i,ks,e,h1,h2⟩:=x
 exact ⟨a,o,us,n,i,ks,e,k _ _ h1,h2⟩
section
variable {prog:Program} {w:World} {A:Around} {E:Value→Shared→Prop} {s:Shared} {vs:List Value}
end
end Kq
end
section
namespace Kq
open PySem PySem.Spec PyProof.Rows L2
noncomputable def b5e:List FV→Bool
 | []=>true
 | .tup ps :: r=>(match a1c ps with | some (_ :: _)=>true | _=>false) && b5e r
 | _=>false
noncomputable def e0k (a:EW):EW:=fun L Q=>a L fun v L1=>wp (a1w v) fun xs=>b5e xs=true∧2≤xs.length∧xs.length < 64∧∀ ys:List FV,ys.Perm xs→Q (.lst ys) L1
theorem Vals.perm {us us':List Value} (p:us'.Perm us):∀ {ys:List V},Vals ys us→∃ zs,zs.Perm ys∧Vals zs us':=by
 induction p with
 | nil=>intro ys h; exact ⟨ys,.refl _,h⟩
 | cons x p ih =>
  intro ys h
  cases h with
  | @cons y _ ys' _ r h =>
  obtain ⟨zs,e,g⟩:=ih h
  exact ⟨y :: zs,e.cons y,.cons r g⟩
 | swap x y l =>
  intro ys h
  cases h with
  | @cons a _ ys' _ r h =>
  cases h with
  | @cons b _ ys'' _ r' h =>
  exact ⟨b :: a :: ys'',.swap a b ys'',.cons r' (.cons r h)⟩
 | trans p q ih1 ih2 =>
  intro ys h
  obtain ⟨zs,e,g⟩:=ih2 h
  obtain ⟨ws,e',g'⟩:=ih1 g
  exact ⟨ws,e'.trans e,g'⟩
section
variable {K:Γd} {S:Hp}
theorem RVs.perm {vs vs':List V} (p:vs'.Perm vs):∀ {ps:List FV},RVs K S ps vs→∃ qs,qs.Perm ps∧RVs K S qs vs':=by
 induction p with
 | nil=>intro ps h; exact ⟨ps,.refl _,h⟩
 | cons x p ih =>
  intro ps h
  cases ps with
  | nil=>cases h
  | cons q ps =>
   obtain ⟨v,r,e,h1,h2⟩:=h
   cases e
   obtain ⟨zs,e,g⟩:=ih h2
   exact ⟨q :: zs,e.cons q,_,_,rfl,h1,g⟩
 | swap x y l =>
  intro ps h
  cases ps with
  | nil=>cases h
  | cons a ps =>
   obtain ⟨v,r,e,h1,h2⟩:=h
   cases e
   cases ps with
   | nil=>cases h2
   | cons b ps =>
    obtain ⟨v2,r2,e2,h3,h4⟩:=h2
    cases e2
    exact ⟨b :: a :: ps,.swap a b ps,_,_,rfl,h3,_,_,rfl,h1,h4⟩
 | trans p q ih1 ih2 =>
  intro ps h
  obtain ⟨zs,e,g⟩:=ih2 h
  obtain ⟨ws,e',g'⟩:=ih1 g
  exact ⟨ws,e'.trans e,g'⟩
end
section
variable {X:Cx}
end
section
variable {X:Cx} {C:CC} {n:Nat} {sp:Γd→Nat→Sp} {a:Expr} {ea:EW} {pos p:Pos}
end
theorem c0u (ks:List Int) (us:List V) (k:Int) (u:V) (hl:ks.length=us.length):a5b ((a3l ks).zip us) (Sum.inl k) u=(a3l (a2q ks us k u).1).zip (a2q ks us k u).2:=by
 have hany:(((a3l ks).zip us).any fun kv=>decide (kv.1=Sum.inl k))=true↔k∈ks:=by
  rw [a5d,a5j,a2k k hl]
 unfold a5b a2q
 by_cases e:k∈ks
 ·rw [if_pos (hany.mpr e),if_pos e]
  clear e hany
  induction ks generalizing us with
  | nil=>cases us <;> rfl
  | cons k' ks ih=>cases us with
   | nil=>rfl
   | cons u' us =>
    have:=ih us (by simpa using hl)
    show (if (Sum.inl k':Int ⊕ Option Str)=Sum.inl k then (Sum.inl k',u) else (Sum.inl k',u')) :: ((a3l ks).zip us).map _=(Sum.inl k',if k'=k then u else u') :: (a3l ks).zip _
    rw [this]
    congr 1
    by_cases e:k'=k
    ·subst e; simp
    ·rw [if_neg fun z=>e (Sum.inl.inj z),if_neg e]
 ·rw [if_neg fun z=>e (hany.mp z),if_neg e]
  show _=(a3l (ks++[k])).zip (us++[u])
  have:a3l (ks++[k])=a3l ks++[Sum.inl k]:=by simp [a3l]
  rw [this,List.zip_append (by simpa [a3l] using hl)]; rfl
theorem b8h {κ α β:Type} [DecidableEq κ] {ks:List κ} {vs:List α} {us:List β} {k:κ} (h1:ks.length=vs.length) (h2:ks.length=us.length) (h:a2a ks vs k=none):a2a ks us k=none:=by
 have a:=a2k (α:=α) k h1
 have b:=a2k (α:=β) k h2
 cases e:a2a ks us k with
 | none=>rfl
 | some u =>
  rw [e] at b
  have:=a.mpr (b.mp rfl)
  rw [h] at this; cases this
noncomputable def e0r (v w:FV):Option (Option FV):=match v with
 | .dct ks vs=>(a6s w).bind fun ps=>(a1c ps).bind fun k=>some (a2a ks vs k)
 | .dci ks vs=>(a2n w).bind fun k=>some (a2a ks vs k)
 | .dcz _ ks vs=>(a6s w).bind fun ps=>(a1c ps).bind fun k=>some (a2a ks vs k)
 | _=>none
noncomputable def dgF (v w:FV):Option FV:=(e0r v w).bind id
noncomputable def b8z (v w:FV):Option FV:=(e0r v w).map fun o=>o.getD .non
noncomputable def d3m:FV→Option Unit
 | .dct _ _=>some ()
 | .dci _ _=>some ()
 | _=>none
noncomputable def c2p (v j x:FV):Option FV:=match v with
 | .dct ks vs=>(a6s j).bind fun ps=>(a1c ps).bind fun k=>if ks.length < big then some (.dct (a2q ks vs k x).1 (a2q ks vs k x).2) else none
 | .dci ks vs=>(a2n j).bind fun k=>if ks.length < big then some (.dci (a2q ks vs k x).1 (a2q ks vs k x).2) else none
 | _=>none
noncomputable def RO (K:Γd) (S:Hp):Option FV→Option V→Prop
 | none,o=>o=none
 | some p,o=>∃ u,o=some u∧RV K S p u
section
variable {X:Cx} {K:Γd} {S H:Hp}
theorem b5q {κ:Type} [DecidableEq κ] {ks:List κ} {vs:List FV} {us:List V} {k:κ} (h1:ks.length=vs.length) (r:RVs K S vs us):RO K S (a2a ks vs k) (a2a ks us k):=by
 cases e:a2a ks vs k with
 | none=>exact b8h h1 (by rw [h1,r.length]) e
 | some p=>exact a9a r e
theorem RH.dcz {o:Obj} {ks:List (List Int)} {vs:List FV} {x:V} (hs:Same S H) (r:RH K S H (.dcz o ks vs) x):∃ a us,x=.ref a∧ks.length=vs.length∧H a=some (.frz o (.dT ((a1r ks).zip us)))∧RVs K S vs us:=by
 rcases r with ⟨a,xs,e,h0,h1,h2⟩ | ⟨a,e,_,qs,xs,e2,h1,h2⟩
 ·exact ⟨a,xs,e,h0,hs _ _ h1,h2⟩
 ·obtain ⟨hl,rfl⟩:=itd e2
  exact ⟨a,xs,e,hl,h1,h2⟩
theorem b8x {v w:FV} {x y:V} {o:Option FV} (hs:Same S H) (rv:RH K S H v x) (rw':RH K S H w y) (e:e0r v w=some o):∃ a o',x=.ref a∧L2.DGet H a y o'∧RO K S o o':=by
 cases v with
 | dct ks vs =>
  obtain ⟨ps,e1,e2⟩:=bnd e
  obtain ⟨k,e3,e4⟩:=bnd e2
  cases a1v e1
  cases e4
  obtain ⟨a,us,rfl,hl,h1,h2⟩:=rv.dct hs
  obtain ⟨b,rfl,hb⟩:=b0d (rw'.val rfl) e3
  refine ⟨a,a2a ks us k,rfl,?_,b5q hl h2⟩
  rw [← a6g]
  exact .t h1 (hs _ _ hb)
 | dci ks vs =>
  obtain ⟨k,e3,e4⟩:=bnd e
  cases a0v e3
  cases e4
  cases rw'.int
  obtain ⟨a,us,rfl,hl,h1,h2⟩:=rv.dci hs
  refine ⟨a,a2a ks us k,rfl,?_,b5q hl h2⟩
  rw [← a5j]
  exact .k (k:=Sum.inl k) h1
 | dcz o ks vs =>
  obtain ⟨ps,e1,e2⟩:=bnd e
  obtain ⟨k,e3,e4⟩:=bnd e2
  cases a1v e1
  cases e4
  obtain ⟨a,us,rfl,hl,h1,h2⟩:=rv.dcz hs
  obtain ⟨b,rfl,hb⟩:=b0d (rw'.val rfl) e3
  refine ⟨a,a2a ks us k,rfl,?_,b5q hl h2⟩
  rw [← a6g]
  exact .inr ⟨_,_,b,.inr ⟨o,h1⟩,rfl,hs _ _ hb,rfl⟩
 | _=>cases e
theorem c6s {v:FV} {x:V} {u:Unit} (hs:Same S H) (rv:RH K S H v x) (e:d3m v=some u):∃ a,x=.ref a∧L2.IsD H a:=by
 cases v with
 | dct ks vs =>
  obtain ⟨a,us,rfl,hl,h1,h2⟩:=rv.dct hs
  exact ⟨a,rfl,.inr ⟨_,.inl h1⟩⟩
 | dci ks vs =>
  obtain ⟨a,us,rfl,hl,h1,h2⟩:=rv.dci hs
  exact ⟨a,rfl,.inl ⟨_,.inl h1⟩⟩
 | _=>cases e
end
noncomputable def c7l (i:Nat) (b:EW):EW:=fun L Q=>wp (lk L i) fun v=>wp (d3m v) fun _=>b L fun y L1=>wp (lk L1 i) fun x=>wp (b8z x y) fun z=>Q z L1
noncomputable def c4v (k:Nat) (i e:EW):SW:=fun L Q=>wp (lk L k) fun _=>e L fun x L1=>i L1 fun j L2=>wp (lk L2 k) fun y=>wp (c2p y j x) fun z=>Q .next (L2.set k (some z))
noncomputable def b8v (ek ev:EW):EW:=fun L Q=>ek L fun k L1=>ev L1 fun v L2=>wp (a2n k) fun i=>Q (.dci [i] [v]) L2
section
variable {K:Γd} {c:Cn} {md:Md} {L:a0c} {σ:L2.St} {S H:Hp}
theorem Iv.writeV (I:Iv K c md L σ S H) {i:Nat} {v w:FV} {a:Addr} {ps:List FV} {xs:List V} (m:a0i md i=.own) (e:L[i]?=some (some v)) (e1:σ[i]?=some (some (.ref a))) (hw:d3f w=some ps) (r:RVs K S ps xs) :
  Iv K c md (L.set i (some w)) σ S (upd H a (c8l w xs)):=by
 obtain ⟨a',e1',⟨h1,_⟩,_⟩:=I.own i v (fun z=>by rw [m] at z; cases z) e
 rw [e1] at e1'; cases e1'
 exact I.back m e e1 (Same.refl S) (fun b o z=>by rw [a0b fun y=>by subst y; rw [h1] at z; cases z]; exact I.sub b o z) (fun b o z=>.inl z) (fun b o z n=>by rw [a0b n]; exact z) ⟨h1,ps,xs,hw,a0d,r⟩
theorem c2o {i:Nat} {v j x z:FV} {a:Addr} {y u:V} (I:Iv K c md L σ S H) (m:a0i md i=.own) (e:L[i]?=some (some v)) (e1:σ[i]?=some (some (.ref a))) (rj:RV K S j y) (rx:RV K S x u) (h:c2p v j x=some z):∃ H',L2.DPut H a y u H'∧Iv K c md (L.set i (some z)) σ S H':=by
 obtain ⟨a',f1,⟨o1,ps,us,e9,o2,o3⟩,_⟩:=I.own i v (fun z=>by rw [m] at z; cases z) e
 rw [e1] at f1; cases f1
 have hbl:=a1i
 cases v with
 | dct ks vs =>
  obtain ⟨qs,g1,h⟩:=bnd h
  obtain ⟨k,g2,h⟩:=bnd h
  obtain ⟨hb,rfl⟩:=itd h
  obtain ⟨hl,rfl⟩:=itd e9
  cases a1v g1
  obtain ⟨b,rfl,hkb⟩:=b0d rj g2
  have hu:ks.length=us.length:=by rw [hl,o3.length]
  obtain ⟨p1,p2⟩:=a8o (ks:=ks) (k:=k) o3 rx
  refine ⟨_,.t o2 (I.sub _ _ hkb) (by simp [a1r]; lia),?_⟩
  rw [b5x ks us k u hu,← p1]
  exact I.writeV (w:=.dct _ _) m e e1 (if_pos (a5i ks _ k x hl).1) p2
 | dci ks vs =>
  obtain ⟨k,g2,h⟩:=bnd h
  obtain ⟨hb,rfl⟩:=itd h
  obtain ⟨hl,rfl⟩:=itd e9
  cases a0v g2
  cases (show y=V.int k from rj)
  have hu:ks.length=us.length:=by rw [hl,o3.length]
  obtain ⟨p1,p2⟩:=a8o (ks:=ks) (k:=k) o3 rx
  refine ⟨_,.k (k:=Sum.inl k) o2 (by simp [a3l]; lia),?_⟩
  rw [c0u ks us k u hu,← p1]
  exact I.writeV (w:=.dci _ _) m e e1 (if_pos (a5i ks _ k x hl).1) p2
 | _=>cases h
end
section
variable {X:Cx} {C:CC} {n:Nat} {sp:Γd→Nat→Sp} {fr:Bool} {a b:Expr} {ea eb:EW} {pos p px:Pos} {i:Nat} {nx:Str}
theorem d3w (ha:FE X C a ea) (hb:FE X C b eb):FF X C (.Dict [some a] [b] pos) (b8v ea eb):=PE.imp (c5r (c0z ha hb c5k) rfl rfl (by simp) (by simp)) fun σ H Q ⟨c,L,S,Q0,I,h,k⟩=>fun p hp=>by
 have fr0:=I.fresh hp
 have I0:=I.lay hp (.dK [])
 have I1:=I0.prot (a:=p) (o:=.dK []) a0d (I.sn hp) fun y u hy hu=>fr0.2.2 y u (Mo.w_imm hy) hu
 refine ⟨_,L,S,_,I1,h,fun v L1 q x S1 H1 r1 J1 s1=>⟨_,L1,S1,_,J1,q,fun w L2 q2 y S2 H2 r2 J2 s2=>?_⟩⟩
 obtain ⟨kk,e,q2⟩:=wpx q2
 cases a0v e
 cases (show x=V.int kk from r1)
 obtain ⟨g1,g2,g3⟩:=J2.prs (p,.dK []) Γn
 refine ⟨g1,[(Sum.inl kk,y)],rfl,by simp,?_⟩
 have J3:=J2.regrow (o':=.dK (a7n [] [(Sum.inl kk,y)])) (I.h0 hp) (fun q hq=>fr0.2.1 q hq) I.fzp
 have J4:=J3.unprot I.fzp
 obtain ⟨_,f2,f3⟩:=J3.prs _ Γn
 refine k _ L2 q2 p S2 _ ⟨f2,[w],[y],rfl,a0d,RVs.one r2⟩ ⟨I.h0 hp,fr0.2.1,fun z u hz hu hs=>?_⟩ J4 (s1.trans s2)
 by_cases mo:(a0i C.md z).w=true
 ·exact f3 z u mo hu hs
 ·have mo:a0i C.md z=.frz:=by cases t:a0i C.md z with | imm=>exact absurd t hz | frz=>rfl | _=>rw [t] at mo; exact absurd rfl mo
  obtain ⟨b',h1⟩:=J4.fzm z u mo hu
  obtain ⟨_,h2,_⟩:=J4.fzs _ h1
  rw [hs] at h2; cases h2
  obtain ⟨ys,h3⟩:=I.fzp _ h1
  exact fr0.2.1 _ h3 rfl
theorem fe_dgN (G:Good X C n sp) (hs:a3b b=false) (h:C.nm i nx=true) (hb:FR X C b eb):FE X C (.Subscript (.Name nx p) b pos) (b8t dgF i eb):=PE.imp (b6n (X:=X.nox) (by have:=G.room.units; show X.A.units + 1 < cLine; lia) (a0w G h) hb (a8q hs)) fun σ H Q ⟨c,L,S,Q0,I,h,k⟩=>by
 obtain ⟨v0,e,h⟩:=wpx h
 obtain ⟨x,e1,_⟩:=I.rd e
 refine ⟨x,e1,c,L,S,_,I,h,fun w L2 hw y S2 H2 r2 I2 s2=>?_⟩
 obtain ⟨v,e2,q⟩:=wpx hw
 obtain ⟨x',e3,r1⟩:=I2.rd e2
 rw [e1] at e3; cases e3
 obtain ⟨z,e4,q⟩:=wpx q
 obtain ⟨o,e5,e6⟩:=bnd e4
 obtain ⟨a,o',rfl,g,ro⟩:=b8x I2.sub r1 r2 e5
 cases (show o=some z from e6)
 obtain ⟨u,rfl,r5⟩:=ro
 exact ⟨a,u,rfl,g,k z L2 q u S2 H2 r5 I2 s2⟩
theorem d8x (G:Good X C n sp) {apos cpos:Pos} (h:C.nm i nx=true) (hl:c7u apos cpos=true) (hs:a0l b=false) (hb:FR X C b eb):FE X C (.Call (.Attribute (.Name nx p) (Γe "get") apos) [b] [] cpos) (c7l i eb):=by
 refine PE.imp (c1g (X:=X.nox) (by have:=G.room.units; show X.A.units + 1 < cLine; lia) (a0w G h) hb ⟨rfl,by rw [a0g hs]; rfl,hl,by rw [a0g hs]; rfl⟩) fun σ H Q ⟨c,L,S,Q0,I,h,k⟩=>?_
 obtain ⟨v0,e,h⟩:=wpx h
 obtain ⟨u0,e0,h⟩:=wpx h
 obtain ⟨x,e1,r0⟩:=I.rd e
 obtain ⟨a,rfl,hd⟩:=c6s I.sub r0 e0
 refine ⟨_,e1,a,rfl,hd,c,L,S,_,I,h,fun w L2 hw y S2 H2 r2 I2 s2=>?_⟩
 obtain ⟨v,e2,q⟩:=wpx hw
 obtain ⟨x',e3,r1⟩:=I2.rd e2
 rw [e1] at e3; cases e3
 obtain ⟨z,e4,q⟩:=wpx q
 obtain ⟨o,e5,rfl⟩:=mpd e4
 obtain ⟨a',o',e6,g,ro⟩:=b8x I2.sub r1 r2 e5
 cases e6
 refine ⟨o',g,k _ L2 q _ S2 H2 ?_ I2 s2⟩
 cases o with
 | none=>cases (show o'=none from ro); exact rfl
 | some q=>obtain ⟨u,rfl,r5⟩:=ro; exact r5
theorem d8h (G:Good X C n sp) (hn:C.nm i nx=true) (m:a0i C.md i=.own) (hc:(!a4w a && !a3b b)=true) (ha:FE X C a ea) (hb:FE X C b eb):FS X C fr (.Assign [.Subscript (.Name nx px) b p] a pos) (c4v i eb ea):=by
 have hc:=b2 hc
 refine PS.imp (c5i (X:=X.nox) (by have:=G.room.units; show X.A.units + 1 < cLine; lia) (a0w (pos:=px) G hn) hb ha (a2h (nb hc.1))) fun D σ H ⟨c,L,S,Q0,I,h,k⟩=>?_
 have mi:a0i C.md i≠.imm:=fun z=>by rw [m] at z; cases z
 obtain ⟨v0,e,h⟩:=wpx h
 obtain ⟨l,e1,_⟩:=I.own i v0 mi ((a4i _ _ _).mp e)
 refine ⟨c,L,S,_,I,h,fun v L1 q x S1 H1 r1 I1 s1=>⟨_,e1,c,L1,S1,_,I1,q,fun w L2 q y S2 H2 r2 I2 s2=>?_⟩⟩
 obtain ⟨v1,e2,q2⟩:=wpx q
 obtain ⟨z,e3,q3⟩:=wpx q2
 have e2:=(a4i _ _ _).mp e2
 obtain ⟨H3,g,I3⟩:=c2o I2 m e2 e1 r2 (r1.mono s2) e3
 exact ⟨l,H3,rfl,g,k .next _ q3 σ S2 _ I3 (s1.trans s2)⟩
end
section
variable (Q:FV→Prop) (i:Nat) (L:a0c)
@[scoped simp ↓] theorem d4g (b:EW) (Q:FV→a0c→Prop):c7l i b L Q=(wp (lk L i) fun v=>wp (d3m v) fun _=>b L fun y L1=>wp (lk L1 i) fun x=>wp (b8z x y) fun z=>Q z L1):=propext Iff.rfl
@[scoped simp ↓] theorem d3d (k:Nat) (i e:EW) (Q:FFl→a0c→Prop):c4v k i e L Q=(wp (lk L k) fun _=>e L fun x L1=>i L1 fun j L2=>wp (lk L2 k) fun y=>wp (c2p y j x) fun z=>Q .next (L2.set k (some z))):=propext Iff.rfl
@[scoped simp ↓] theorem d2b (ek ev:EW) (Q:FV→a0c→Prop):b8v ek ev L Q=(ek L fun k L1=>ev L1 fun v L2=>wp (a2n k) fun i=>Q (.dci [i] [v]) L2):=propext Iff.rfl
@[scoped simp ↓] theorem isD_i (ks:List Int) (vs:List FV) (Q:Unit→Prop):wp (d3m (.dci ks vs)) Q=Q ():=propext Iff.rfl
@[scoped simp ↓] theorem k_dgi (ks:List Int) (vs:List FV) (k:Int):wp (dgF (.dci ks vs) (.int k)) Q=wp (a2a ks vs k) Q:=propext Iff.rfl
@[scoped simp ↓] theorem k_dg1i (ks:List Int) (vs:List FV) (k:Int):wp (b8z (.dci ks vs) (.int k)) Q=Q ((a2a ks vs k).getD .non):=propext Iff.rfl
@[scoped simp ↓] theorem d7r (ks:List Int) (vs:List FV) (k:Int) (x:FV):wp (c2p (.dci ks vs) (.int k) x) Q↔ks.length < big∧Q (.dci (a2q ks vs k x).1 (a2q ks vs k x).2):=a3n _ _ _
end
section
variable {P:Program} {w:World} {A:Around} {E:Value→Shared→Prop} {s:Shared}
end
section
variable {X:Cx}
end
noncomputable def eSortI (a:EW):EW:=fun L Q=>a L fun v L1=>wp (a1w v) fun xs=>wp (a1c xs) fun ns=>ns.length < 64∧∀ ms:List Int,ms.Perm ns→ms.Pairwise (·≤·)→Q (.lst (ms.map .int)) L1
section
variable {X:Cx} {C:CC} {n:Nat} {sp:Γd→Nat→Sp} {a:Expr} {ea:EW} {pos p:Pos}
end
noncomputable def c0o (v:FV):Option FV:=(a1w v).bind fun xs=>(a1c xs).map fun ns=>.int ns.sum
section
variable {X:Cx}
theorem b9t (hc:X.calm=true):a1k X (.builtin "sum") (fun xs H Q=>∃ (a:Addr) (ns:List Int),xs=[.ref a]∧SqL X.K H a (ns.map V.int)∧Q (.int ns.sum) H):=by
 intro pins s σ H xs us Q I r h
 obtain ⟨a,ns,rfl,hq,q⟩:=h
 obtain ⟨u,rfl,rx⟩:=a4c r
 cases rx
 obtain ⟨its,r',pl,hz'⟩:=I.list hq
 have hlen:ns.length=its.length:=by have:=r'.length; simpa using this
 have alt:a < s.heap.objs.size:=by obtain ⟨_,e,_⟩:=pl.isList; exact Γl e
 have hh:X.A.in1.handled=none:=I.ok.hd hc
 refine call_sum_walkG (wpAny_pyIter_list pl.isList ?_)
 refine ⟨s.heap.objs.size,_,_,_,_,_,fun i=>ns.getD i 0,rfl,Walks.list hh s.heap.objs.size a (Γo alt) its.toArray,⟨⟨_,Γm _ rfl,rfl,rfl⟩,pl.isList.at fun o e=>Γc _ e⟩,?_,?_,?_⟩
 ·intro b hb'
  simp at hb'
  rcases hb' with rfl | rfl
  ·show _ < (s.heap.push _).objs.size; rw [Heap.size_push]; exact Nat.lt_succ_self _
  ·show _ < (s.heap.push _).objs.size; rw [Heap.size_push]; exact Nat.lt_succ_of_lt alt
 ·intro i v hv
  have hv:its.toArray[i]?=some v:=hv
  have hi:i < ns.length:=by rw [hlen]; simpa using (Array.getElem?_eq_some_iff.mp hv).1
  obtain ⟨t,e⟩:=Vals.mapInt r' i hi
  refine ⟨t,?_⟩
  have e':its.toArray[i]?=some (.int (ns.getD i 0) t):=by simpa using e
  rw [hv] at e'
  exact Option.some.inj e'
 ·intro h' tk t' hk
  have e:preSum (fun i=>ns.getD i 0) its.toArray.size=ns.sum:=by
   rw [List.size_toArray,← hlen,a1p ns _ (Γi _),List.take_length]
  rw [e]
  refine ⟨.int ns.sum,H,?_,⟨t',rfl⟩,q⟩
  exact I.kept (t':=tk) fun b o e=>hk b o (by simp; exact Γo (Γl e)) (Γc _ e)
theorem d2n (hc:X.calm=true):a1k X (.builtin "sum") (Rc X.K c0o):=by
 rintro pins s σ H xs us Q I r ⟨S,v,x,z,rfl,hs,rv,e,k⟩
 obtain ⟨ps,e1,e2⟩:=bnd e
 obtain ⟨ns,e3,rfl⟩:=mpd e2
 obtain ⟨a,ys,rfl,hq,ry⟩:=rv.list hs e1
 cases a1g ry e3
 exact b9t hc pins s σ H _ us Q I r ⟨a,ns,rfl,hq,k.int⟩
end
section
variable {X:Cx} {C:CC} {n:Nat} {sp:Γd→Nat→Sp} {a:Expr} {ea:EW} {pos p:Pos}
theorem d8s (G:Good X C n sp) (hg:C.gl (Γe "sum")=true) (hs:a0l a=false) (ha:FR X C a ea):FE X C (.Call (.Name (Γe "sum") p) [a] [] pos) (eUn c0o ea):=b0h (d2n G.calm) G (by decide) (by nofun) (by nofun) (by nofun) hg hs ha
end
@[scoped simp ↓] theorem f_sumG (v:FV) (Q:FV→Prop):wp (c0o v) Q↔wp (a1w v) fun xs=>wp (a1c xs) fun ns=>Q (.int ns.sum):=by
 show wp ((a1w v).bind _) Q↔_; rw [a2l]; simp only [a2o]
end Kq
end
section
namespace L2
open PySem PySem.Spec PyProof.Rows
noncomputable def ZSt (p q:Bool) (z TI TO i1 i2 a b:Addr) (i:Nat) (h:Heap):Prop:=(∃ f m,(f=.none ∨ ∃ n,f=.int n 0)∧(∃ c,m=.bool c)∧d2z h z TI TO f m)∧IsPair h TI (.ref i1) (.ref i2)∧(∃ c d,IsPair h TO c d)∧IterB p h i1 a i∧IterB q h i2 b i
theorem ZSt.keep {p q:Bool} {z TI TO i1 i2 a b:Addr} {i:Nat} {h h':Heap} (st:ZSt p q z TI TO i1 i2 a b i h) (kk:∀ c∈[z,TO,i1,i2,TI],∀ o,h.get? c=some o→h'.get? c=some o):ZSt p q z TI TO i1 i2 a b i h':=by
 obtain ⟨⟨f,m,hf0,hm0,zz⟩,zi,⟨x,y,zo⟩,t1,t2⟩:=st
 exact ⟨⟨f,m,hf0,hm0,kk z (by simp) _ zz⟩,kk TI (by simp) _ zi,⟨x,y,kk TO (by simp) _ zo⟩,t1.to fun o e=>kk i1 (by simp) o e,t2.to fun o e=>kk i2 (by simp) o e⟩
section
variable {X:Cx} {pins:List (Addr×Obj)} {σ:St} {A:Around} {R:Result→Shared→Prop}
end
end L2
end
section
namespace L2
open PySem PySem.Spec PyProof.Rows
section
variable {X:Cx} {pins:List (Addr×Obj)} {σ:St}
variable {e1 e2:Expr} {ta:TA} {pp p2 pos pos2:Pos}
end
end L2
end
section
namespace Kq
open PySem PySem.Spec PyProof.Rows L2
section
variable {X:Cx} {C:CC} {n:Nat} {sp:Γd→Nat→Sp} {a b:Expr} {ea eb:EW} {p p2 pos pos2:Pos}
end
noncomputable def inW (tg:Tg) (t:BW) (e:EW):List FV→List FV→a0c→(List FV→a0c→Prop)→Prop
 | [],acc,L,Q=>Q acc L
 | y :: r,acc,L,Q=>gW tg y L fun L1=>t L1 fun b L2=>if b=true then e L2 fun v L3=>inW tg t e r (acc++[v]) L3 Q else inW tg t e r acc L2 Q
noncomputable def b0k (n m:Nat) (tg:Tg) (t:BW) (it2:AW) (tg2:Tg) (t2:BW) (e:EW):List FV→List FV→a0c→(List FV→a0c→Prop)→Prop
 | [],acc,L,Q=>Q acc L
 | x :: xs,acc,L,Q=>gW tg x (L++Γj m none) fun L1=>t L1 fun b L2=>if b=true then it2 L2 fun ys L3=>acc.length + ys.length≤big∧inW tg2 t2 e ys acc L3 fun acc' L4=>b0k n m tg t it2 tg2 t2 e xs acc' (L4.take n) Q else b0k n m tg t it2 tg2 t2 e xs acc (L2.take n) Q
noncomputable def d2d (n m:Nat) (it:AW) (tg:Tg) (t:BW) (it2:AW) (tg2:Tg) (t2:BW) (e:EW):EW:=fun L Q=>it L fun xs L1=>L1.length=n∧b0k n m tg t it2 tg2 t2 e xs [] L1 fun ys L2=>Q (.lst ys) L2
noncomputable def liv (K:Γd) (md:Md) (it:AW):TI:=fun σ H R=>∃ c L S Q0,Iv K c md L σ S H∧it L Q0∧∀ xs L',Q0 xs L'→∀ J S' H',Iv K c md L' σ S' H'→(∀ c md,ItR K c md J xs S')→Same S S'→R J H'
noncomputable def FIv (X:Cx) (C:CC) (tg iter:Expr) (it:AW):Prop:=PI X.nox tg iter (liv X.K C.md it)
section
variable {X:Cx} {C:CC} {n:Nat} {sp:Γd→Nat→Sp} {a b tg:Expr} {ea eb:EW} {pos p:Pos}
end
section
variable {K:Γd} {c:Cn} {md:Md} {L:a0c} {σ:L2.St} {S H:Hp}
theorem d1i {n:Nat} {it2:AW} {tg:Tg} {t:BW} {e:EW} {acc:Addr} {us:List V} {ps:List FV} {Q1:List FV→a0c→Prop} {R:L2.St→Hp→Prop} (I:Iv K { c with pr:=(acc,.lst us) :: c.pr } md L σ S H)
  (h0:c.H0 acc=none) (hp:∀ p∈c.pr,p.1≠acc) (hz:∀ p∈c.fz,∃ o,(p.2,o)∈c.pr) (r:RVs K S ps us) (ht:a3k md tg=true) (hg:a8c n tg=true)
  (hh:it2 L fun ys L1=>ps.length + ys.length≤big∧inW tg t e ys ps L1 Q1)
  (k:∀ ps' us' L' σ' S' H',Q1 ps' L'→Iv K { c with pr:=(acc,.lst us') :: c.pr } md L' σ' S' H'→RVs K S' ps' us'→Same S S'→σ'.length=σ.length→(∀ q,q < n→σ'[q]?=σ[q]?)→R σ' H') :
  tIn (liv K md it2) (gT K tg) (lb K md t) (lv K md e) acc σ H R:=by
 have hbl:=a1i
 refine ⟨_,L,S,_,I,hh,fun ys L1 hx J S1 H1 I1 hJ s1=>?_⟩
 obtain ⟨hb,hc⟩:=hx
 let W:Nat→Nat→L2.St→Hp→Prop:=fun i j σ' H'=>∃ L' S' ps' us',j=(ys.drop i).length∧Iv K { c with pr:=(acc,.lst us') :: c.pr } md L' σ' S' H'∧RVs K S' ps' us'∧Same S1 S'∧σ'.length=σ.length∧(∀ q,q < n→σ'[q]?=σ[q]?)∧ps'.length≤ps.length + i∧inW tg t e (ys.drop i) ps' L' Q1
 refine ⟨W,⟨_,L1,S1,ps,us,rfl,I1,r.mono s1,Same.refl _,rfl,fun _ _=>rfl,Γi _,by rw [List.drop_zero]; exact hc⟩,?_⟩
 rintro i j σ' H' ⟨L',S',ps',us',rfl,I',r',s',hl,far0,hps,hc⟩
 obtain ⟨j1,j2⟩:=hJ _ _ i L' σ' S' H' I' s'
 cases hd:ys.drop i with
 | nil =>
  left
  rw [hd] at hc
  exact ⟨j1 (List.getElem?_eq_none_iff.mpr (List.drop_eq_nil_iff.mp hd)),k ps' us' L' σ' S' H' hc I' r' (s1.trans s') hl far0⟩
 | cons p rest =>
  right
  rw [hd] at hc
  have hi:ys[i]?=some p:=by
   have:=congrArg (·[0]?) hd
   simpa using this
  have hd':ys.drop (i + 1)=rest:=by
   have:=congrArg List.tail hd
   simpa [List.tail_drop] using this
  have hix:i < ys.length:=(List.getElem?_eq_some_iff.mp hi).1
  obtain ⟨go,yl⟩:=j2 p hi
  refine ⟨go,fun x H2 y=>?_⟩
  obtain ⟨S2,s2,tr,rx⟩:=yl x H2 y
  have I2:=tr _ _ _ _ I'
  obtain ⟨σ2,L2,gq,q2,I2,len2,far⟩:=a7v ht I2 rx hc
  refine gq _ ?_
  refine ⟨_,L2,S2,_,I2,q2,fun b L3 hb3 S3 H3 I3 s3=>?_⟩
  cases b with
  | false =>
   rw [if_neg Γk] at hb3 ⊢
   exact ⟨rest.length,by simp,L3,S3,ps',us',by rw [hd'],I3,r'.mono (s2.trans s3),s'.trans (s2.trans s3),len2.trans hl,fun q hq=>(far n hg q hq).trans (far0 q hq),by lia,by rw [hd']; exact hb3⟩
  | true =>
   rw [if_pos rfl] at hb3 ⊢
   refine ⟨_,L3,S3,_,I3,hb3,fun v L4 hv u S4 H4 r4 I4 s4=>?_⟩
   obtain ⟨k1,_⟩:=I4.prs (acc,.lst us') Γn
   have lr:=r'.length
   exact ⟨us',k1,by lia,rest.length,by simp,L4,S4,ps'++[v],us'++[u],by rw [hd'],I4.regrow h0 hp hz,(r'.mono (s2.trans (s3.trans s4))).append (RVs.one r4),s'.trans (s2.trans (s3.trans s4)),len2.trans hl,fun q hq=>(far n hg q hq).trans (far0 q hq),by simp; lia,by rw [hd']; exact hv⟩
theorem b9p {J:It} {xs:List FV} {n m:Nat} {tg:Tg} {t:BW} {it2:AW} {tg2:Tg} {t2:BW} {e:EW} {Q:VK} {Q1:List FV→a0c→Prop} (I:Iv K c md L σ S H) (hJ:ItR K c md J xs S) (hL:L.length=n) (hmd:md.length≤n) (ht:a3k md tg=true) (hg:a8c n tg=true) (ht2:a3k md tg2=true) (hg2:a8c n tg2=true) (h:b0k n m tg t it2 tg2 t2 e xs [] L Q1)
  (k:∀ acc ps L' S' H',H acc=none→Q1 ps L'→a2x K S' H' acc (.lst ps)→a7j c md L' σ acc→Iv K c md L' σ S' H'→Same S S'→Q (.ref acc) H') :
  ∀ acc,H acc=none→∃ W:Nat→Nat→Hp→Prop,(∃ m,W 0 m (upd H acc (.lst [])))∧∀ i j H,W i j H →
   (J.stop i H∧Q (.ref acc) H) ∨ (J.go i H∧∀ x H',J.yld i H x H'→gT K tg x (σ++Γj m none) H' fun σ2 H2=>Wk (σ++Γj m none) σ2∧lb K md t σ2 H2 fun b H3 =>
    if b=true then tIn (liv K md it2) (gT K tg2) (lb K md t2) (lv K md e) acc σ2 H3 fun σ3 H4=>Wk (σ++Γj m none) σ3∧∃ m',m' < j∧W (i + 1) m' H4 else ∃ m',m' < j∧W (i + 1) m' H3):=by
 intro acc hacc
 have h0:=I.h0 hacc
 have hp:∀ p∈c.pr,p.1≠acc:=(I.fresh hacc).2.1
 have hz:=I.fzp
 have hl:σ.length=n:=by rw [← I.len]; exact hL
 let W:Nat→Nat→Hp→Prop:=fun i j H1=>∃ L S1 ps us,j=(xs.drop i).length∧Iv K { c with pr:=(acc,.lst us) :: c.pr } md L σ S1 H1∧RVs K S1 ps us∧Same S S1∧L.length=n∧b0k n m tg t it2 tg2 t2 e (xs.drop i) ps L Q1
 have I1:Iv K { c with pr:=(acc,.lst []) :: c.pr } md L σ S (upd H acc (.lst [])):=(I.lay hacc _).prot a0d (I.sn hacc) fun j w hm hj=>(I.fresh hacc).2.2 j w (Mo.w_imm hm) hj
 refine ⟨W,⟨_,L,S,[],[],rfl,I1,rfl,Same.refl S,hL,by rw [List.drop_zero]; exact h⟩,?_⟩
 rintro i j H1 ⟨L,S1,ps,us,rfl,I,r,s,hL,hc⟩
 have I0:=I.unprot hz
 obtain ⟨j1,j2⟩:=hJ i L σ S1 H1 I0 s
 obtain ⟨g1,g2,g3⟩:=I.prs (acc,.lst us) Γn
 cases hd:xs.drop i with
 | nil =>
  left
  rw [hd] at hc
  refine ⟨j1 (List.getElem?_eq_none_iff.mpr (List.drop_eq_nil_iff.mp hd)),k acc ps L S1 H1 hacc hc ⟨g2,ps,us,rfl,g1,r⟩ ⟨h0,hp,fun q w hm hq hs=>?_⟩ I0 s⟩
  by_cases mo:(a0i md q).w=true
  ·exact g3 q w mo hq hs
  ·have mo:a0i md q=.frz:=by cases z:a0i md q with | imm=>exact absurd z hm | frz=>rfl | _=>rw [z] at mo; exact absurd rfl mo
   obtain ⟨b,f1⟩:=I0.fzm q w mo hq
   obtain ⟨_,f2,_⟩:=I0.fzs _ f1
   rw [hs] at f2; cases f2
   obtain ⟨ys,f3⟩:=hz _ f1
   exact hp _ f3 rfl
 | cons p rest =>
  right
  rw [hd] at hc
  have hi:xs[i]?=some p:=by
   have:=congrArg (·[0]?) hd
   simpa using this
  have hd':xs.drop (i + 1)=rest:=by
   have:=congrArg List.tail hd
   simpa [List.tail_drop] using this
  have hix:i < xs.length:=(List.getElem?_eq_some_iff.mp hi).1
  obtain ⟨go,yl⟩:=j2 p hi
  refine ⟨go,fun x H2 y=>?_⟩
  obtain ⟨S2,s2,tr,rx⟩:=yl x H2 y
  have I2:=(tr _ _ _ _ I).more m
  obtain ⟨σ2,L2,gq,q2,I2,len2,far⟩:=a7v ht I2 rx hc
  have l2:n≤σ2.length:=by rw [len2,List.length_append,hl]; lia
  have far':∀ q,q < n→σ2[q]?=σ[q]?:=fun q hq=>by rw [far n hg q hq,List.getElem?_append_left (by rw [hl]; exact hq)]
  have wk:∀ {σ3:List (Option V)},σ3.length=(σ++Γj m none).length→(∀ q,q < n→σ3[q]?=σ[q]?)→Wk (σ++Γj m none) σ3:=fun {σ3} hl3 f3=>⟨hl3,fun q v hv=>by
   have hq:q < n:=by
    by_cases h:q < σ.length
    ·rw [← hl]; exact h
    ·rw [List.getElem?_append_right (by lia),List.getElem?_replicate] at hv
     split at hv <;> cases hv
   rw [List.getElem?_append_left (by rw [hl]; exact hq)] at hv
   rw [f3 q hq]; exact hv⟩
  refine gq _ ⟨wk len2 far',?_⟩
  refine ⟨_,L2,S2,_,I2,q2,fun b L3 hb3 S3 H3 I3 s3=>?_⟩
  cases b with
  | false =>
   rw [if_neg Γk] at hb3 ⊢
   exact ⟨rest.length,by simp,L3.take n,S3,ps,us,by rw [hd'],I3.take hmd hl l2 far',r.mono (s2.trans s3),s.trans (s2.trans s3),by rw [List.length_take,I3.len]; lia,by rw [hd']; exact hb3⟩
  | true =>
   rw [if_pos rfl] at hb3 ⊢
   refine d1i (n:=n) I3 h0 hp hz (r.mono (s2.trans s3)) ht2 hg2 hb3 fun ps' us' L' σ' S' H' q' I' r' s' hl' f'=>?_
   have f'':∀ q,q < n→σ'[q]?=σ[q]?:=fun q hq=>(f' q hq).trans (far' q hq)
   exact ⟨wk (hl'.trans len2) f'',rest.length,by simp,L'.take n,S',ps',us',by rw [hd'],I'.take hmd hl (by rw [hl']; exact l2) f'',r',s.trans (s2.trans (s3.trans s')),by rw [List.length_take,I'.len,hl']; lia,by rw [hd']; exact q'⟩
end
section
variable {X:Cx} {C:CC} {n:Nat} {sp:Γd→Nat→Sp} {pos p px:Pos} {i:Nat} {nx:Str} {fr:Bool}
variable {scope:Scope} {own:List Str} {elt tgx iter tgx2 iter2:Expr} {ifs ifs2:List Expr} {it it2:AW} {tg tg2:Tg} {t t2:BW} {e:EW} {nn m:Nat} {md':Md}
structure CompOk2 (X:Cx) (C:CC) (n:Nat) (sp:Γd→Nat→Sp) (scope:Scope) (own:List Str) (elt tgx iter:Expr) (ifs:List Expr) (tgx2 iter2:Expr) (ifs2:List Expr) (nn m:Nat) (md':Md) (it:AW) (tg:Tg) (t:BW) (it2:AW) (tg2:Tg) (t2:BW) (e:EW):Prop where
 st:(C.scOk scope own && decide (C.N.length=nn) && decide (own.length=m) && decide (md'.length≤nn) && d0x C.md md' && a3k md' tg && a8c nn tg && !b7x iter)=true
 st2:(a3k md' tg2 && a8c nn tg2 && !b7x iter2)=true
 it:FI X C md' tgx iter it
 tg:∀ X',Good X' (C.sub scope own md') n sp→FG X' tgx tg
 ts:∀ X',Good X' (C.sub scope own md') n sp→FTs X' (C.sub scope own md') ifs t
 it2:∀ X',Good X' (C.sub scope own md') n sp→FIv X' (C.sub scope own md') tgx2 iter2 it2
 tg2:∀ X',Good X' (C.sub scope own md') n sp→FG X' tgx2 tg2
 ts2:∀ X',Good X' (C.sub scope own md') n sp→FTs X' (C.sub scope own md') ifs2 t2
 el:∀ X',Good X' (C.sub scope own md') n sp→FE X' (C.sub scope own md') elt e
theorem CompOk2.run (G:Good X C n sp) (h:CompOk2 X C n sp scope own elt tgx iter ifs tgx2 iter2 ifs2 nn m md' it tg t it2 tg2 t2 e) {σ:L2.St} {H:Hp} {Q:VK} (hq:lf X.K C.md (d2d nn m it tg t it2 tg2 t2 e) σ H Q):c9a (li X.K C.md md' it) (gT X.K tg) (lb X.K md' t) (liv X.K md' it2) (gT X.K tg2) (lb X.K md' t2) (lv X.K md' e) own.length σ H Q:=by
 have h0:=b2 h.st; have h1:=b2 h0.1; have h2:=b2 h1.1; have h3:=b2 h2.1; have h4:=b2 h3.1; have h5:=b2 h4.1; have h6:=b2 h5.1
 have g0:=b2 h.st2; have g1:=b2 g0.1
 obtain ⟨c,L,S,Q0,I,hh,k⟩:=hq
 refine ⟨c,L,S,_,I,hh,fun xs L1 hx J c' S1 H1 I1 un e0 hJ s1=>?_⟩
 obtain ⟨hl,hc⟩:=hx
 rw [de h5.2]
 refine b9p I1 hJ hl (de h4.2) h2.2 h1.2 g1.1 g1.2 hc fun acc ps L' S' H' hn q o fr I' s'=>k _ L' q acc S' H' o ⟨by rw [← e0]; exact fr.1,((un _ _ _ _ I1).fresh hn).2.1,fun j w hm=>fr.2.2 j w (a5w h3.2 j hm)⟩ (un _ _ _ _ I') (s1.trans s')
end
noncomputable def ePop (i:Nat):EW:=fun L Q=>wp (lk L i) fun v=>wp (a6x v) fun xs=>wp (xs[xs.length - 1]?) fun y=>Q y (L.set i (some (.lst xs.dropLast)))
noncomputable def popI (xs:List FV) (k:Int):Option FV:=if 0≤k∧k < 4611686018427387904 then xs[k.toNat]? else none
noncomputable def ePopAt (i:Nat) (a:EW):EW:=fun L Q=>wp (lk L i) fun v=>wp (a6x v) fun _=>a L fun w L1=>wp (a2n w) fun k=>wp (lk L1 i) fun x=>wp (a6x x) fun xs=>wp (popI xs k) fun y=>Q y (L1.set i (some (.lst (xs.eraseIdx k.toNat))))
section
variable {K:Γd} {S:Hp}
end
section
variable {X:Cx} {C:CC} {n:Nat} {sp:Γd→Nat→Sp} {a:Expr} {ea:EW} {pos p:Pos} {i:Nat} {nx:Str}
end
end Kq
end
section
namespace L2
open PySem PySem.Spec PyProof.Rows
section
variable {X:Cx} {a e k:Expr} {ta te tk:TE} {pos p2:Pos}
end
end L2
namespace Kq
open PySem PySem.Spec PyProof.Rows L2
noncomputable def turnLF (v:FV):Option FV:=(a6x v).map fun xs=>.lst xs.reverse
section
variable {X:Cx} {C:CC} {a:Expr} {ea:EW} {pos:Pos}
end
end Kq
end
section
namespace L2
open PySem PySem.Spec PyProof.Rows
section
variable {X:Cx} {pos:Pos}
end
end L2
namespace Kq
open PySem PySem.Spec PyProof.Rows L2
section
variable {X:Cx} {C:CC} {n:Nat} {sp:Γd→Nat→Sp} {a b d:Expr} {ea eb ed:EW} {pos px py pz:Pos} {i j l:Nat} {nx ny nz:Str} {fr:Bool}
end
end Kq
end
section
namespace Kq
open PySem PySem.Spec PyProof.Rows L2
noncomputable def eMv (j:Nat):EW:=fun L Q=>wp (lk L j) fun v=>Q v (L.set j none)
noncomputable def eCallT (call:CW) (f:Nat) (ea:EW) (as:AW):EW:=fun L Q=>ea L fun v L1=>as L1 fun vs L2=>call f (v :: vs) fun z=>Q z.1 L2
section
variable {X:Cx} {C:CC} {n:Nat} {sp:Γd→Nat→Sp} {a b:Expr} {ea eb:EW} {pos p:Pos} {call:CW}
variable {K:Γd} {c:Cn} {md:Md} {L:a0c} {σ:L2.St} {S H S' H':Hp} {i j f:Nat} {nx:Str} {xs:List Expr} {as:AW}
theorem a2i {L:a0c} {j i:Nat} {v:FV} (z:(L.set j none)[i]?=some (some v)):i≠j∧L[i]?=some (some v):=by
 by_cases q:i=j
 ·subst q
  have hj:i < L.length:=by have:=(List.getElem?_eq_some_iff.mp z).1; rwa [List.length_set] at this
  rw [List.getElem?_set_self hj] at z; cases z
 ·rw [List.getElem?_set_ne (Ne.symm q)] at z; exact ⟨q,z⟩
theorem Iv.drop (I:Iv K c md L σ S H) (hm:a0i md j=.own) (hj:j≠0):Iv K c md (L.set j none) σ S H where
 len:=by rw [List.length_set]; exact I.len
 imm:=fun i v h e=>I.imm i v h (a2i e).2
 own:=fun i v h e=>I.own i v h (a2i e).2
 dis:=fun i k v w a h1 h2 e1 e2=>I.dis i k v w a h1 h2 (a2i e1).2 (a2i e2).2
 sub:=I.sub
 frame:=I.frame
 s0:=I.s0
 grow:=I.grow
 lent:=fun a h=>by
  obtain ⟨g1,g2,g3⟩:=I.lent a h
  rw [List.getElem?_set_ne hj]; exact ⟨g1,g2,g3⟩
 fzs:=fun p hp=>by
  obtain ⟨g1,g2,g3⟩:=I.fzs p hp
  have:p.1≠j:=fun z=>by rw [z,hm] at g1; cases g1
  rw [List.getElem?_set_ne (Ne.symm this)]; exact ⟨g1,g2,g3⟩
 fzm:=fun i v h e=>I.fzm i v h (a2i e).2
 fzp:=I.fzp
 prs:=fun p hp=>let ⟨g1,g2,g3⟩:=I.prs p hp; ⟨g1,g2,fun i v h e=>g3 i v h (a2i e).2⟩
 ntp:=I.ntp
 lnt1:=fun q hq=>by
  obtain ⟨g1,g2,g3⟩:=I.lnt1 q hq
  have:q.1≠j:=fun z=>by rw [z,hm] at g1; cases g1
  rw [List.getElem?_set_ne (Ne.symm this)]; exact ⟨g1,g2,g3⟩
 tie:=fun y k x C dx fs w h1 h2 h3 h4=>I.tie y k x C dx fs w h1 h2 (a2i h3).2 (a2i h4).2
end
noncomputable def sFrz (j:Nat) (r:SW):SW:=fun L Q=>wp (lk L j) fun _=>r L fun fl L'=>Q fl (L'.set j none)
section
variable {X:Cx} {C:CC} {n:Nat} {sp:Γd→Nat→Sp} {fr:Bool} {sts:List Stmt} {r:SW}
variable {K:Γd} {c:Cn} {md md':Md} {L:a0c} {σ:L2.St} {S H:Hp} {j:Nat}
end
end Kq
end
set_option maxHeartbeats 1000000
set_option maxHeartbeats 4000000
section
namespace Kq
open PySem PySem.Spec PyProof.Rows L2 PySem.W
noncomputable def gA (a:Array Keyed) (i:Nat):Keyed:=a.getD i (.none,.none)
theorem c6y {a:Array Keyed} {i:Nat} (h:i < a.size):a[i]?=some (gA a i):=by
 simp [gA,Array.getD_eq_getD_getElem?,getElem?_pos a i h]
structure Cmp (prog:Program) (w:World) (A:Around) (E:Value→Shared→Prop) (s:Shared) (kd:SortKind) (Ok:Keyed→Prop) (lt:Keyed→Keyed→Bool):Prop where
 run:∀ x y,Ok x→Ok y→∀ (st:SortSt) (Q:Option Bool→SortSt→Prop),kindOf st=kd→Q (some (lt x y)) st→wpS (model prog w) A E s (lt' x y) Q st
 refl:∀ x,lt x x=false
 trans:∀ x y z,lt y x=false→lt z y=false→lt z x=false
 asym:∀ x y,lt x y=true→lt y x=false
noncomputable def Srt (lt:Keyed→Keyed→Bool) (a:Array Keyed) (lo hi:Nat):Prop:=∀ i j,lo≤i→i≤j→j < hi→lt (gA a j) (gA a i)=false
noncomputable def Out (a b:Array Keyed) (lo hi:Nat):Prop:=b.Perm a∧∀ k,k < lo ∨ hi≤k→gA b k=gA a k
theorem Out.refl (a:Array Keyed) (lo hi:Nat):Out a a lo hi:=⟨Array.Perm.refl _,fun _ _=>rfl⟩
theorem Out.trans {a b c:Array Keyed} {lo hi:Nat} (h:Out a b lo hi) (g:Out b c lo hi):Out a c lo hi:=⟨g.1.trans h.1,fun k hk=>(g.2 k hk).trans (h.2 k hk)⟩
theorem Out.size {a b:Array Keyed} {lo hi:Nat} (h:Out a b lo hi):b.size=a.size:=h.1.size_eq
noncomputable def AllOk (Ok:Keyed→Prop) (a:Array Keyed):Prop:=∀ x∈a.toList,Ok x
theorem AllOk.at {Ok:Keyed→Prop} {a:Array Keyed} (h:AllOk Ok a) {i:Nat} (hi:i < a.size):Ok (gA a i):=by
 refine h _ ?_
 have:=c6y hi
 rw [← Array.getElem?_toList] at this
 exact List.mem_of_getElem? this
theorem AllOk.perm {Ok:Keyed→Prop} {a b:Array Keyed} (h:AllOk Ok a) (p:b.Perm a):AllOk Ok b:=fun x hx=>h x ((Array.perm_iff_toList_perm.mp p).mem_iff.mp hx)
theorem Srt.out {lt:Keyed→Keyed→Bool} {a b:Array Keyed} {lo hi l h:Nat} (s:Srt lt a l h) (o:Out a b lo hi) (d:h≤lo ∨ hi≤l):Srt lt b l h:=fun i j h1 h2 h3=>by
 rw [o.2 i (by lia),o.2 j (by lia)]; exact s i j h1 h2 h3
section
variable {prog:Program} {w:World} {A:Around} {E:Value→Shared→Prop} {s:Shared} {kd:SortKind} {Ok:Keyed→Prop} {lt:Keyed→Keyed→Bool}
abbrev stA (kd:SortKind) (a:Array Keyed) (p:Array (Nat×Nat×Nat)) (g:Nat):SortSt:=SortSt.mk' kd a p g none
theorem ask (C:Cmp prog w A E s kd Ok lt) {a:Array Keyed} {p:Array (Nat×Nat×Nat)} {g i j:Nat} {Q:Option Bool→SortSt→Prop} (ho:AllOk Ok a) (hi:i < a.size) (hj:j < a.size) (h:Q (some (lt (gA a i) (gA a j))) (stA kd a p g)):wpS (model prog w) A E s (ltAt' i j) Q (stA kd a p g):=by
 rw [ltAt'_eq]
 refine wpS_bind (wpS_get ?_)
 show wpS _ _ _ _ (do let x ← elem' a i; let y ← elem' a j; lt' x y) Q _
 rw [elem'_eq,elem'_eq,c6y hi,c6y hj]
 exact wpS_bind (wpS_pure (wpS_bind (wpS_pure (C.run _ _ (ho.at hi) (ho.at hj) _ _ rfl h))))
theorem turned {a:Array Keyed} {p:Array (Nat×Nat×Nat)} {g i j:Nat} {Q:Unit→SortSt→Prop} (h:Q () (stA kd (mirror a i j ((j - i) / 2)) p g)):wpS (model prog w) A E s (reverseSlice' i j) Q (stA kd a p g):=by
 rw [reverseSlice'_eq]; exact wpS_modify h
end
section
variable {prog:Program} {w:World} {A:Around} {E:Value→Shared→Prop} {s:Shared} {kd:SortKind} {Ok:Keyed→Prop} {lt:Keyed→Keyed→Bool}
end
section
variable {prog:Program} {w:World} {A:Around} {E:Value→Shared→Prop} {s:Shared} {kd:SortKind} {Ok:Keyed→Prop} {lt:Keyed→Keyed→Bool}
end
abbrev Asc {α:Type} (lt:α→α→Bool) (l:List α):Prop:=l.Pairwise fun x y=>lt y x=false
structure MI {α:Type} (lt:α→α→Bool) (X Y O:List α) (i j:Nat):Prop where
 perm:O.Perm (X.take i++Y.take j)
 srt:Asc lt O
 bef:∀ x∈O,∀ y∈X.drop i++Y.drop j,lt y x=false
section
variable {α:Type} {lt:α→α→Bool} {X Y O:List α} {i j k:Nat}
theorem MI.swap (h:MI lt X Y O i j):MI lt Y X O j i:=⟨h.perm.trans List.perm_append_comm,h.srt,fun x hx y hy=>h.bef x hx y (by simpa [or_comm] using hy)⟩
theorem MI.more (h:MI lt X Y O i j) (hX:Asc lt X) (hc:∀ x∈(X.drop i).take k,∀ y∈Y.drop j,lt y x=false):MI lt X Y (O++(X.drop i).take k) (i + k) j:=by
 have hsub:X.drop i=(X.drop i).take k++X.drop (i + k):=by rw [← List.drop_drop,List.take_append_drop]
 have hXd:Asc lt (X.drop i):=hX.sublist (List.drop_sublist _ _)
 rw [hsub] at hXd
 obtain ⟨s1,s2,s3⟩:=List.pairwise_append.mp hXd
 refine ⟨?_,?_,fun x hx y hy=>?_⟩
 ·rw [List.take_add,List.append_assoc]
  refine (h.perm.append_right _).trans ?_
  rw [List.append_assoc]
  exact List.Perm.append_left _ List.perm_append_comm
 ·refine List.pairwise_append.mpr ⟨h.srt,s1,fun x hx y hy=>h.bef x hx y (List.mem_append_left _ (List.mem_of_mem_take hy))⟩
 ·rcases List.mem_append.mp hx with hx | hx
  ·refine h.bef x hx y ?_
   rcases List.mem_append.mp hy with hy | hy
   ·rw [hsub]; exact List.mem_append_left _ (List.mem_append_right _ hy)
   ·exact List.mem_append_right _ hy
  ·rcases List.mem_append.mp hy with hy | hy
   ·exact s3 x hx y hy
   ·exact hc x hx y hy
noncomputable def Mrg (lt:α→α→Bool) (X Y R:List α):Prop:=R.Perm (X++Y)∧Asc lt R
theorem Mrg.swap {R:List α} (h:Mrg lt X Y R):Mrg lt Y X R:=⟨h.1.trans List.perm_append_comm,h.2⟩
end
section
variable {lt:Keyed→Keyed→Bool} {x y o:Array Keyed} {i j k:Nat}
abbrev MA (lt:Keyed→Keyed→Bool) (x y o:Array Keyed) (i j:Nat):Prop:=MI lt x.toList y.toList o.toList i j
theorem MA.swap (h:MA lt x y o i j):MA lt y x o j i:=MI.swap h
end
section
variable {prog:Program} {w:World} {A:Around} {E:Value→Shared→Prop} {s:Shared} {kd:SortKind} {Ok:Keyed→Prop} {lt:Keyed→Keyed→Bool}
end
abbrev rv (lt:Keyed→Keyed→Bool):Keyed→Keyed→Bool:=fun u v=>lt v u
noncomputable def MH (lt:Keyed→Keyed→Bool) (x y o:Array Keyed) (i j:Nat):Prop:=MI (rv lt) x.toList.reverse y.toList.reverse o.toList (x.size - i) (y.size - j)
section
variable {lt:Keyed→Keyed→Bool} {x y o:Array Keyed} {i j t:Nat}
theorem MH.swap (h:MH lt x y o i j):MH lt y x o j i:=MI.swap h
end
section
variable {prog:Program} {w:World} {A:Around} {E:Value→Shared→Prop} {s:Shared} {kd:SortKind} {Ok:Keyed→Prop} {lt:Keyed→Keyed→Bool}
end
noncomputable def back (r:Array Keyed) (s:Nat) (a:Array Keyed):Array Keyed:=r.toList.zipIdx.foldl (fun a q=>a.setIfInBounds (s + q.2) q.1) a
section
variable {prog:Program} {w:World} {A:Around} {E:Value→Shared→Prop} {s:Shared} {kd:SortKind} {Ok:Keyed→Prop} {lt:Keyed→Keyed→Bool}
end
noncomputable def Cov (lt:Keyed→Keyed→Bool) (a:Array Keyed):List (Nat×Nat×Nat)→Nat→Nat→Prop
 | [],s,e=>s=e
 | (u,n,_) :: r,s,e=>u=s∧1≤n∧Srt lt a s (s + n)∧Cov lt a r (s + n) e
section
variable {lt:Keyed→Keyed→Bool} {a b:Array Keyed}
theorem Cov.le:∀ {l:List (Nat×Nat×Nat)} {s e:Nat},Cov lt a l s e→s + l.length≤e
 | [],s,e,h=>by cases (show s=e from h); simp
 | (u,n,_) :: r,s,e,⟨_,h2,_,h4⟩=>by have:=h4.le; simp; lia
theorem Cov.out:∀ {l:List (Nat×Nat×Nat)} {s e lo hi:Nat},Cov lt a l s e→Out a b lo hi→e≤lo ∨ hi≤s→Cov lt b l s e
 | [],s,e,lo,hi,h,o,d=>h
 | (u,n,_) :: r,s,e,lo,hi,⟨h1,h2,h3,h4⟩,o,d=>⟨h1,h2,h3.out o (by have:=h4.le; lia),h4.out o (by lia)⟩
theorem Cov.snoc:∀ {l:List (Nat×Nat×Nat)} {s e n f:Nat},Cov lt a l s e→1≤n→Srt lt a e (e + n)→Cov lt a (l++[(e,n,f)]) s (e + n)
 | [],s,e,n,f,h,h1,h2=>by cases (show s=e from h); exact ⟨rfl,h1,h2,rfl⟩
 | (u,m,_) :: r,s,e,n,f,⟨g1,g2,g3,g4⟩,h1,h2=>⟨g1,g2,g3,g4.snoc h1 h2⟩
theorem Cov.join : ∀ {l : List (Nat × Nat × Nat)} {i s e : Nat}, Cov lt a l s e → i + 1 < l.length → ∃ u m f n f', l[i]? = some (u, m, f) ∧ l[i + 1]? = some (u + m, n, f') ∧ 1 ≤ m ∧ 1 ≤ n ∧ s ≤ u ∧ u + m + n ≤ e ∧ Srt lt a u (u + m) ∧ Srt lt a (u + m) (u + m + n) ∧
      ∀ b, Out a b u (u + m + n) → Srt lt b u (u + m + n) → Cov lt b ((l.set i (u, m + n, f)).eraseIdx (i + 1)) s e
  | [], i, s, e, h, hi => by simp at hi
  | [_], i, s, e, h, hi => by simp at hi
  | (u, m, f) :: (v, n, f') :: r, 0, s, e, ⟨g1, g2, g3, g4, g5, g6, g7⟩, hi => by
    subst g1; subst g4
    refine ⟨u, m, f, n, f', rfl, rfl, g2, g5, Γi _, by have := g7.le; lia, g3, g6, fun b o hs => ?_⟩
    refine ⟨rfl, by lia, by rw [← Nat.add_assoc]; exact hs, ?_⟩
    rw [← Nat.add_assoc]
    exact g7.out o (.inr (Γi _))
  | (u, m, f) :: q :: r, i + 1, s, e, ⟨g1, g2, g3, g4⟩, hi => by
    obtain ⟨u', m', f1, n', f2, e1, e2, h1, h2, h3, h4, h5, h6, h7⟩ := Cov.join (i := i) g4 (by simpa using hi)
    refine ⟨u', m', f1, n', f2, by simpa using e1, by simpa using e2, h1, h2, by lia, h4, h5, h6, fun b o hs => ?_⟩
    have := h7 b o hs
    rw [List.set_cons_succ, List.eraseIdx_cons_succ]
    exact ⟨g1, g2, g3.out o (.inl h3), this⟩
end
section
variable {prog:Program} {w:World} {A:Around} {E:Value→Shared→Prop} {s:Shared} {kd:SortKind} {Ok:Keyed→Prop} {lt:Keyed→Keyed→Bool}
end
section
variable {prog:Program} {w:World} {A:Around} {E:Value→Shared→Prop} {s:Shared} {vs:List Value} {kd:SortKind} {kf:Value→List Int}
end
noncomputable def numsOf (h:Heap):Value→List Int
 | .ref a=>match h.get? a with
  | some o=>match o.data with
   | .seq us _=>us.toList.map numOf
   | _=>[]
  | none=>[]
 | _=>[]
section
variable {prog:Program} {w:World} {A:Around} {E:Value→Shared→Prop} {s:Shared} {vs:List Value}
noncomputable def NumTup (h:Heap) (v:Value) (ks:List Int):Prop:=∃ (a:Addr) (o:Obj) (us:List Value) (n:Nat),v=.ref a∧h.get? a=some o∧o.cls=.type "tuple"∧o.data=.seq us.toArray n∧Vals (ks.map V.int) us∧ks≠[]
theorem NumTup.keep {h h':Heap} {v:Value} {ks:List Int} (x:NumTup h v ks) (k:∀ b o,h.get? b=some o→h'.get? b=some o):NumTup h' v ks:=by
 obtain ⟨a,o,us,n,e,h1,h2⟩:=x
 exact ⟨a,o,us,n,e,k _ _ h1,h2⟩
end
noncomputable def fkey:FV→List Int
 | .tup ps=>(a1c ps).getD []
 | _=>[]
noncomputable def eSortB (m:Nat) (a:EW):EW:=fun L Q=>a L fun v L1=>wp (a3r v) fun xs=>b5e xs=true∧xs.length≤m∧∀ ys:List FV,ys.Perm xs→(ys.Pairwise fun x y=>lexLt (fkey y) (fkey x)=false)→Q (.lst ys) L1
section
variable {K:Γd} {S:Hp}
end
section
variable {X:Cx}
end
section
variable {X:Cx} {C:CC} {n:Nat} {sp:Γd→Nat→Sp} {a:Expr} {ea:EW} {pos p:Pos}
end
noncomputable def EntAt (h:Heap) (d:Addr) (es:Array DictEntry) (ep:Nat):Prop:=∃ o,h.get? d=some o∧o.ExactDict∧o.data=.dict es ep
section
variable {prog:Program} {w:World} {A:Around} {E:Value→Shared→Prop} {s:Shared} {it d:Addr} {i n ep:Nat} {es:Array DictEntry}
theorem EntAt.keep {h h':Heap} (x:EntAt h d es ep) (k:∀ o,h.get? d=some o→h'.get? d=some o):EntAt h' d es ep:=by
 obtain ⟨o,ho,r⟩:=x
 exact ⟨o,k o ho,r⟩
end
section
variable {X:Cx} {pins:List (Addr×Obj)} {σ:L2.St} {H:Hp} {s:Shared} {a:Addr}
end
noncomputable def keyF (k:List Int):FV:=.tup (k.map .int)
section
variable {X:Cx} {C:CC} {n:Nat} {sp:Γd→Nat→Sp} {tg:Expr} {p:Pos} {i:Nat} {nx:Str}
variable {K:Γd} {c:Cn} {md:Md}
end
section
variable {prog:Program} {w:World} {A:Around} {E:Value→Shared→Prop} {s:Shared} {d:Addr} {es:Array DictEntry} {ep:Nat}
end
section
variable {X:Cx}
end
noncomputable def d2h:FV→Option (List (List Int))
 | .dct ks _=>some ks
 | .dcz _ ks _=>some ks
 | _=>none
noncomputable def eSortE (m j:Nat):EW:=fun L Q=>wp (lk L j) fun v=>wp (d2h v) fun ks=>ks.length≤m∧(∀ k∈ks,k≠[])∧∀ ys:List (List Int),ys.Perm ks→(ys.Pairwise fun x y=>lexLt y x=false)→Q (.lst (ys.map keyF)) L
section
variable {X:Cx} {C:CC} {n:Nat} {sp:Γd→Nat→Sp} {pos p p':Pos} {i:Nat} {nx:Str}
theorem Iv.tups {K:Γd} {c:Cn} {md:Md} {L:a0c} {σ:L2.St} {H:Hp}:∀ {ys:List (List Int)} {zs:List V} {S:Hp},Iv K c md L σ S H→Paired (fun (k:List Int) (z:V)=>∃ b:Addr,z=V.ref b∧H b=some (.tup (k.map V.int))) ys zs→∃ S',Iv K c md L σ S' H∧Same S S'∧RVs K S' (ys.map keyF) zs
 | _,_,S,I,.nil=>⟨S,I,Same.refl S,rfl⟩
 | _,_,S,I,.cons (a:=k) (b:=z) ⟨b,e,hb⟩ t=>by
  subst e
  obtain ⟨S',I',s',r⟩:=Iv.tups I t
  obtain ⟨I2,s2⟩:=I'.tup hb
  exact ⟨_,I2,s'.trans s2,V.ref b,_,rfl,⟨b,_,rfl,a0d,RVs.ns k⟩,r.mono s2⟩
end
noncomputable def e1w (xs:Array Nat):Prop:=∀ i j (hi:i < xs.size) (hj:j < xs.size),i < j→xs[i] < xs[j]
noncomputable def TabOk (t:SetTable) (l:Bool):Prop:=t.led=l∧t.dummies = #[]∧(t.plain=true→e1w t.place)
theorem TabOk.fresh (f m:Nat) (l:Bool):TabOk (.fresh f m l) l:=⟨rfl,rfl,fun _ i j hi=>absurd hi (Nat.not_lt_zero _)⟩
noncomputable def NumEs (l:List (Int×Value)):Prop:=∀ e∈l,∃ k tk,e=(hashInt k,Value.int k tk)
theorem NumEs.perm {l l':List (Int×Value)} (h:NumEs l) (p:l'.Perm l):NumEs l':=fun e he=>h e (p.mem_iff.mp he)
noncomputable def c3z (l:List (Int×Value)):List Int:=l.map fun e=>numOf e.2
structure SetData (w:World) (o:Obj) (ns:List Int) (es:Array (Int×Value)) (ep:Nat) (t:SetTable):Prop where
 ex:o.ExactSet
 dat:o.data=.set es ep t
 num:NumEs es.toList
 perm:(c3z es.toList).Perm ns
 a1z:ns.length < scanBound
 fits:t.fits es.size=true
 tab:TabOk t (!w.params.followText "set-order")
noncomputable def SetN (w:World) (h:Heap) (a:Addr) (ns:List Int):Prop:=ns.Nodup∧∃ o es ep t,h.get? a=some o∧SetData w o ns es ep t
theorem SetData.size {w:World} {o:Obj} {ns:List Int} {es:Array (Int×Value)} {ep:Nat} {t:SetTable} (d:SetData w o ns es ep t):es.size=ns.length:=by
 have:=d.perm.length_eq
 rw [c3z,List.length_map,Array.length_toList] at this
 exact this
section
variable {prog:Program} {w:World} {A:Around} {E:Value→Shared→Prop} {s:Shared} {a:Addr}
end
theorem a7x {α:Type}:∀ {l:List α} {i:Nat} (h:i < l.length),(l[i] :: l.eraseIdx i).Perm l
 | x :: l,0,_=>by simp
 | x :: l,i + 1,h=>by
  have:=a7x (l:=l) (i:=i) (by simpa using h)
  simp only [List.getElem_cons_succ,List.eraseIdx_cons_succ]
  exact (List.Perm.swap x _ _).trans (this.cons x)
theorem b6g {α:Type} (f:Nat→Nat):∀ (n k:Nat) (l:List α) (out:Array α),n=l.length→(pickOrder.go f n k l out).toList.Perm (out.toList++l)
 | 0,k,l,out,h=>by
  cases l with
  | nil=>unfold pickOrder.go; simp
  | cons=>simp at h
 | n + 1,k,l,out,h=>by
  unfold pickOrder.go
  have hp:0 < l.length:=by lia
  have hm:f k % l.length < l.length:=Nat.mod_lt _ hp
  rw [List.getElem?_eq_getElem hm]
  dsimp only
  refine (b6g f n (k + 1) (l.eraseIdx (f k % l.length)) _ (by rw [List.length_eraseIdx_of_lt hm]; lia)).trans ?_
  rw [Array.toList_push,List.append_assoc]
  refine List.Perm.append_left _ ?_
  exact a7x hm
theorem b6f {α:Type} (f:Nat→Nat) (xs:Array α):(pickOrder f xs).toList.Perm xs.toList:=by
 unfold pickOrder
 simpa using b6g f xs.size 0 xs.toList #[] (by simp)
section
variable {prog:Program} {w:World} {A:Around} {E:Value→Shared→Prop} {s:Shared} {a:Addr}
end
section
variable {prog:Program} {w:World} {A:Around} {E:Value→Shared→Prop} {s:Shared} {a:Addr}
noncomputable def SetIt (h:Heap) (it a:Addr) (f:Value) (i n ep:Nat):Prop:=∃ o,h.get? it=some o∧o.cls=.type "set_iterator"∧o.data=.fields #[f,.int i 0,.ref a,.int n 0,.int ep 0]
theorem SetIt.keep {h h':Heap} {it a:Addr} {f:Value} {i n ep:Nat} (x:SetIt h it a f i n ep) (k:∀ o,h.get? it=some o→h'.get? it=some o):SetIt h' it a f i n ep:=let ⟨o,ho,r⟩:=x; ⟨o,k o ho,r⟩
inductive Goes (w:World) (h:Heap) (a:Addr) (es:Array (Int×Value)) (ep:Nat) (t:SetTable):List Value→Nat→Value→Prop
 | text {i:Nat} {sl:Nat}:w.params.followText "set-order" = true→Goes w h a es ep t ((pickOrder (w.params.setOrder a ep) es).toList.map (·.2)) i (.int sl 0)
 | table {i:Nat}:w.params.followText "set-order" = false→(!t.plain && decide (es.size > 1))=false→Goes w h a es ep t (es.toList.map (·.2)) i (.int ((if i=0 then 0 else t.place.getD (i - 1) 0 + 1:Nat):Int) 0)
 | drawn {i:Nat} {p:Addr} {od:List Nat}:w.params.followText "set-order" = false→h.IsTuple p (od.map fun (n:Nat)=>rawInt n).toArray→od.Perm (List.range es.size)→Goes w h a es ep t (od.map fun n=>(es.getD n (0,.none)).2) i (.ref p)
theorem Goes.keep {h h':Heap} {es:Array (Int×Value)} {ep:Nat} {t:SetTable} {vs:List Value} {i:Nat} {f:Value} (g:Goes w h a es ep t vs i f) (k:∀ p,f=.ref p→∀ o,h.get? p=some o→h'.get? p=some o):Goes w h' a es ep t vs i f:=by
 cases g with
 | text hb=>exact .text hb
 | table hb hd=>exact .table hb hd
 | @drawn _ p od hb ht pm =>
  obtain ⟨ot,o1,r⟩:=ht
  exact .drawn hb ⟨ot,k p rfl ot o1,r⟩ pm
theorem Goes.perm {ns:List Int} {o:Obj} {h:Heap} {es:Array (Int×Value)} {ep:Nat} {t:SetTable} {vs:List Value} {i:Nat} {f:Value} (d:SetData w o ns es ep t) (g:Goes w h a es ep t vs i f):vs.Perm (es.toList.map (·.2)):=by
 cases g with
 | text hb=>exact (b6f _ _).map _
 | table hb hd=>exact .refl _
 | @drawn _ p od hb ht pm =>
  refine (pm.map _).trans (.of_eq ?_)
  apply List.ext_getElem
  ·simp
  ·intro i i1 i2
   simp at i1
   simp [Array.getD_eq_getD_getElem?,i1]
end
section
variable {prog:Program} {w:World} {A:Around} {E:Value→Shared→Prop} {s:Shared} {a:Addr} {ns:List Int} {o:Obj} {es:Array (Int×Value)} {ep:Nat} {t:SetTable}
end
theorem SetN.none {w:World} {h:Heap} {a:Addr} (e:h.get? a=some { cls:=.type "set",dict:=none,data:=.set #[] 0 (.fresh 0 0 (!w.params.followText "set-order")) }):SetN w h a [] :=
 ⟨List.nodup_nil,_,#[],0,_,e,⟨⟨rfl,rfl,rfl⟩,rfl,fun e he=>by simp at he,.refl _,by decide,rfl,TabOk.fresh _ _ _⟩⟩
theorem SetN.keep {w:World} {h h':Heap} {a:Addr} {ns:List Int} (x:SetN w h a ns) (k:∀ o,h.get? a=some o→h'.get? a=some o):SetN w h' a ns:=by
 obtain ⟨nd,o,es,ep,t,ho,d⟩:=x
 exact ⟨nd,o,es,ep,t,k o ho,d⟩
section
variable {prog:Program} {w:World} {A:Around} {R:Result→Shared→Prop} {E:Value→Shared→Prop} {s:Shared} {I:Addr} {fp wr:List Addr} {G:Array GenState→Array GenState→Prop} {n:Nat} {P:Nat→Value→Prop} {St:Nat→Shared→Prop}
end
section
variable {prog:Program} {w:World} {A:Around} {E:Value→Shared→Prop} {s:Shared}
structure NumSrc (prog:Program) (w:World) (s:Shared) (l:Addr) (T:String) (ks:List Int):Prop where
 ty:s.TypeIs (.ref l) T
 su:isSubtype (.type T) (.type "set")=pure false
 sf:isSubtype (.type T) (.type "frozenset")=pure false
 nd:(Value.type T == Value.type "dict")=false
 it:∀ h:Heap,(∀ b o,s.heap.get? b=some o→h.get? b=some o)→∃ (oI:Obj) (P:Nat→Value→Prop) (St:Nat→Heap→Prop),(∀ (A':Around) (E':Value→Shared→Prop) (Q:Value→Shared→Prop),Q (.ref h.objs.size) { s with heap:=h.push oI }→wpAny (model prog w) A' (pyIter (.ref l)) Q E' { s with heap:=h })∧(∀ A':Around,A'.handled=none→Walks prog w A' h.objs.size [h.objs.size,l] [h.objs.size] ks.length P St)∧St 0 (h.push oI)∧∀ i v,P i v→∃ t,v=.int (ks.getD i 0) t
end
section
variable {X:Cx}
noncomputable def SetO (w:World) (a:Addr) (ns:List Int):HO:=.ext fun h=>SetN w h a ns
end
section
variable {X:Cx} {C:CC} {n:Nat} {sp:Γd→Nat→Sp} {a:Expr} {ea:EW} {pos pos' p p':Pos}
end
end Kq
end
section
namespace L2
open PySem PySem.Spec PyProof.Rows
section
variable {prog:Program} {w:World} {A:Around} {R:Result→Shared→Prop} {s:Shared}
end
section
variable {X:Cx} {elt tg iter tg2 iter2:Expr} {ifs ifs2:List Expr} {scope:Scope} {own:List Str} {pos:Pos} {wi wi2:TI} {g g2:TG} {tt tt2:TT} {te:TE}
end
end L2
end
section
namespace Kq
open PySem PySem.Spec PyProof.Rows L2
noncomputable def inS (tg:Tg) (t:BW) (e:EW):List FV→List Int→a0c→(List Int→a0c→Prop)→Prop
 | [],acc,L,Q=>Q acc L
 | y :: r,acc,L,Q=>gW tg y L fun L1=>t L1 fun b L2=>if b=true then e L2 fun v L3=>wp (a2n v) fun k=>inS tg t e r (acc++[k]) L3 Q else inS tg t e r acc L2 Q
noncomputable def b3g (n m:Nat) (tg:Tg) (t:BW) (it2:AW) (tg2:Tg) (t2:BW) (e:EW):List FV→List Int→a0c→(List Int→a0c→Prop)→Prop
 | [],acc,L,Q=>Q acc L
 | x :: xs,acc,L,Q=>gW tg x (L++Γj m none) fun L1=>t L1 fun b L2=>if b=true then it2 L2 fun ys L3=>acc.length + ys.length≤4000∧inS tg2 t2 e ys acc L3 fun acc' L4=>b3g n m tg t it2 tg2 t2 e xs acc' (L4.take n) Q else b3g n m tg t it2 tg2 t2 e xs acc (L2.take n) Q
noncomputable def e0m (n m:Nat) (it:AW) (tg:Tg) (t:BW) (it2:AW) (tg2:Tg) (t2:BW) (e:EW):EW:=fun L Q=>it L fun xs L1=>L1.length=n∧b3g n m tg t it2 tg2 t2 e xs [] L1 fun ns L2=>ns.length≤4000∧∀ ms:List Int,(∀ x,x∈ms↔x∈ns)→ms.Pairwise (· < ·)→Q (.lst (ms.map .int)) L2
section
variable {X:Cx} {C:CC} {n:Nat} {sp:Γd→Nat→Sp} {a b tg:Expr} {ea eb:EW} {pos p:Pos}
end
section
variable {K:Γd} {c:Cn} {md:Md} {L:a0c} {σ:L2.St} {S H:Hp}
end
section
variable {X:Cx} {C:CC} {n:Nat} {sp:Γd→Nat→Sp} {pos pos' p:Pos}
variable {scope:Scope} {own:List Str} {elt tgx iter tgx2 iter2:Expr} {ifs ifs2:List Expr} {it it2:AW} {tg tg2:Tg} {t t2:BW} {e:EW} {nn m:Nat} {md':Md}
end
noncomputable def dsF:FV→Option (List D):=fun v=>(fD a0j v).bind fun d=>match d with | .lst ys=>some ys | _=>none
noncomputable def idxD (x:D):List D→Option Nat
 | []=>none
 | y :: r=>if D.eqv y x=true then some 0 else (idxD x r).map (· + 1)
noncomputable def indexF (v w:FV):Option FV:=(dsF v).bind fun ys=>(fD a0j w).bind fun x=>(idxD x ys).bind fun j=>if j < big then some (.int (j:Int)) else none
noncomputable def countF (v w:FV):Option FV:=(dsF v).bind fun ys=>(fD a0j w).bind fun x=>some (.int ((ys.countP fun y=>D.eqv y x:Nat):Int))
noncomputable def eMRN (f:FV→FV→Option FV) (i:Nat) (b:EW):EW:=fun L Q=>wp (lk L i) fun v=>wp (a6x v) fun _=>b L fun y L1=>wp (lk L1 i) fun x=>wp (f x y) fun z=>Q z L1
section
variable {X:Cx} {pins:List (Addr×Obj)} {s:Shared} {σ:L2.St} {H S:Hp}
end
section
variable {X:Cx} {C:CC} {n:Nat} {sp:Γd→Nat→Sp} {a b:Expr} {ea eb:EW} {p:Pos} {i:Nat} {nx:Str}
end
noncomputable def e0l (n m:Nat) (it:AW) (tg:Tg) (t:BW) (it2:AW) (tg2:Tg) (t2:BW) (e:EW):EW:=fun L Q=>it L fun xs L1=>L1.length=n∧b3g n m tg t it2 tg2 t2 e xs [] L1 fun ns L2=>ns.length≤63∧∀ ms:List Int,(∀ x,x∈ms↔x∈ns)→ms.Pairwise (· < ·)→Q (.lst (ms.map .int)) L2
section
variable {X:Cx} {C:CC} {n:Nat} {sp:Γd→Nat→Sp} {pos pos' p:Pos}
variable {scope:Scope} {own:List Str} {elt tgx iter tgx2 iter2:Expr} {ifs ifs2:List Expr} {it it2:AW} {tg tg2:Tg} {t t2:BW} {e:EW} {nn m:Nat} {md':Md}
end
noncomputable def b6r:List FV→Option (List (Option Int))
 | []=>some []
 | .int i :: r=>(b6r r).map (some i :: ·)
 | .non :: r=>(b6r r).map (none :: ·)
 | _=>none
noncomputable def b9r (n m:Nat) (tg:Tg) (t:BW) (ek ev:EW):List FV→List (List (Option Int))→List FV→a0c→(List (List (Option Int))→List FV→a0c→Prop)→Prop
 | [],ks,vs,L,Q=>Q ks vs L
 | x :: xs,ks,vs,L,Q=>gW tg x (L++Γj m none) fun L1=>t L1 fun b L2=>if b=true then ek L2 fun kx L3=>wp (a6s kx) fun ps=>wp (b6r ps) fun k=>ev L3 fun v L4=>b9r n m tg t ek ev xs (a2q ks vs k v).1 (a2q ks vs k v).2 (L4.take n) Q else b9r n m tg t ek ev xs ks vs (L2.take n) Q
noncomputable def eCompN (n m:Nat) (it:AW) (tg:Tg) (t:BW) (ek ev:EW):EW:=fun L Q=>it L fun xs L1=>L1.length=n∧xs.length≤big∧b9r n m tg t ek ev xs [] [] L1 fun ks vs L2=>Q (.dcn none ks vs) L2
section
variable {K:Γd} {c:Cn} {md:Md} {L:a0c} {σ:L2.St} {S H:Hp}
end
section
variable {X:Cx} {C:CC} {n:Nat} {sp:Γd→Nat→Sp} {pos:Pos} {scope:Scope} {own:List Str} {kx vx tgx iter:Expr} {ifs:List Expr} {it:AW} {tg:Tg} {t:BW} {ek ev:EW} {nn m:Nat} {md':Md}
end
noncomputable def dgnF (v w:FV):Option FV:=match v with
 | .dcn _ ks vs=>(a6s w).bind fun ps=>(b6r ps).bind fun k=>a2a ks vs k
 | _=>none
noncomputable def dpnF (v j x:FV):Option FV:=match v with
 | .dcn none ks vs=>(a6s j).bind fun ps=>(b6r ps).bind fun k=>if ks.length < big then some (.dcn none (a2q ks vs k x).1 (a2q ks vs k x).2) else none
 | _=>none
noncomputable def sSetN (k:Nat) (i e:EW):SW:=fun L Q=>wp (lk L k) fun _=>e L fun x L1=>i L1 fun j L2=>wp (lk L2 k) fun y=>wp (dpnF y j x) fun z=>Q .next (L2.set k (some z))
noncomputable def sAugN (f:Int→Int→Int) (k:Nat) (i e:EW):SW:=fun L Q=>wp (lk L k) fun _=>i L fun j L1=>wp (lk L1 k) fun v=>wp (dgnF v j) fun x0=>wp (a2n x0) fun a=>e L1 fun x L2=>wp (a2n x) fun b=>wp (lk L2 k) fun w=>wp (dpnF w j (.int (f a b))) fun z=>Q .next (L2.set k (some z))
section
variable {K:Γd} {S H:Hp} {c:Cn} {md:Md} {L:a0c} {σ:L2.St}
theorem RH.dcn {z:Option Obj} {ks:List (List (Option Int))} {vs:List FV} {x:V} (hs:Same S H) (r:RH K S H (.dcn z ks vs) x):∃ a us,x=.ref a∧ks.length=vs.length∧H a=some (hoN (.dT ((c6f ks).zip us)) z)∧RVs K S vs us:=by
 rcases r with ⟨a,xs,e,h0,h1,h2⟩ | ⟨a,e,_,qs,xs,e2,h1,h2⟩
 ·exact ⟨a,xs,e,h0,hs _ _ h1,h2⟩
 ·obtain ⟨hl,rfl⟩:=itd e2
  exact ⟨a,xs,e,hl,h1,h2⟩
end
section
variable {X:Cx} {C:CC} {n:Nat} {sp:Γd→Nat→Sp} {fr:Bool} {a b:Expr} {ea eb:EW} {pos p px:Pos} {i:Nat} {nx:Str}
end
section
variable {X:Cx} {pins pins0:List (Addr×Obj)} {σ σ0:L2.St} {H H0:Hp} {s s0:Shared} {a:Addr}
end
noncomputable def sThw (j:Nat) (s:SW):SW:=fun L Q=>wp (lk L j) fun v=>match v with
 | .dcn none ks vs=>∀ o,s (L.set j (some (.dcn (some o) ks vs))) fun fl L1=>match fl with
  | .next=>wp (lk L1 j) fun w=>match w with
   | .dcn (some _) ks' vs'=>Q .next (L1.set j (some (.dcn none ks' vs')))
   | _=>False
  | _=>False
 | _=>False
noncomputable def oF:Option Int→FV
 | some i=>.int i
 | none=>.non
noncomputable def keyN (k:List (Option Int)):FV:=.tup (k.map oF)
section
variable {X:Cx} {C:CC} {n:Nat} {sp:Γd→Nat→Sp} {tg:Expr} {p:Pos} {i j:Nat} {nx:Str} {fr:Bool} {st:Stmt} {s:SW}
variable {K:Γd} {c:Cn} {md:Md} {S:Hp}
end
section
variable {X:Cx}
end
noncomputable def e0d (x y:FV):Option FV:=(a6x x).bind fun xs=>(a6x y).bind fun ys=>if xs.length + ys.length≤big then some (.lst (xs++ys)) else none
noncomputable def sAugL (i:Nat) (e:EW):SW:=fun L Q=>wp (lk L i) fun _=>e L fun y L1=>wp (lk L1 i) fun x=>wp (e0d x y) fun z=>Q .next (L1.set i (some z))
section
variable {X:Cx} {C:CC} {n:Nat} {sp:Γd→Nat→Sp} {fr:Bool} {a:Expr} {e:EW} {pos px:Pos} {i:Nat} {nx:Str}
end
section
variable {X:Cx} {C:CC} {n:Nat} {sp:Γd→Nat→Sp} {fr:Bool} {a b:Expr} {ea eb:EW} {pos px py pt p2:Pos} {i j kt k2:Nat} {nx ny:Str}
theorem d3s (G:Good X C n sp) (hm:((decide (a0i C.md i=.own) && decide (i≠0)) && (decide (a0i C.md j=.own) && decide (j≠0)))=true) (h:c1j C i j nx ny px py a b=true) (ha:FF X C a ea) (hb:FF X C b eb):FS X C fr (.Assign [.Tuple [.Name nx px,.Name ny py] kt pt] (.Tuple [a,b] k2 p2) pos) (a1n (a4y (a0a ea (a0a eb a0p))) (.tp [i,j])):=by
 obtain ⟨sa,sb,hij⟩:=d0e h
 refine PS.imp (d0f G h (a0n ha (a0n hb a1o (a0g sb)) (a0g sa))) fun D σ H ⟨c,L,S,Q0,I,h,k⟩=>?_
 have hm:=b2 hm; have hm1:=b2 hm.1; have hm2:=b2 hm.2
 refine ⟨c,L,S,_,I,h,fun v L1 q l S1 H1 o f I1 s1=>?_⟩
 obtain ⟨o1,ps,us,e9,o2,o3⟩:=o
 have I2:=I1.prot o2 o1 fun y u hy hu=>f.2.2 y u (Mo.w_imm hy) hu
 refine ⟨_,L1,S1,_,I2,q,fun w L2 q l2 S2 H2 ow f2 I3 s2=>⟨.ref l,.ref l2,rfl,?_⟩⟩
 have nl:l≠l2:=f2.2.1 (l,c8l v us) Γn
 obtain ⟨g1,g2,g3⟩:=I3.prs (l,c8l v us) Γn
 have I4:=I3.unprot I1.fzp
 have nf:∀ y u,a0i C.md y≠.imm→L2[y]?=some (some u)→σ[y]?≠some (some (.ref l)):=fun y u hy hu hs=>by
  by_cases mo:(a0i C.md y).w=true
  ·exact g3 y u mo hu hs
  ·have mo:a0i C.md y=.frz:=by cases z:a0i C.md y with | imm=>exact absurd z hy | frz=>rfl | _=>rw [z] at mo; exact absurd rfl mo
   obtain ⟨b',f1⟩:=I4.fzm y u mo hu
   obtain ⟨_,f2,_⟩:=I4.fzs _ f1
   rw [hs] at f2; cases f2
   obtain ⟨ys,f3⟩:=I1.fzp _ f1
   exact f.2.1 _ f3 rfl
 have I5:=I4.set (x:=.ref l) (v:=v) (fun _ _=>de hm1.2) (fun z=>by rw [de hm1.1] at z; cases z) (.inr ⟨de hm1.1,l,rfl,⟨g2,ps,us,e9,g1,o3.mono s2⟩,f.1,f.2.1,fun y u _ hy hu=>nf y u hy hu⟩)
 refine k .next _ q.2 _ S2 H2 (I5.set (x:=.ref l2) (v:=w) (fun _ _=>de hm2.2) (fun z=>by rw [de hm2.1] at z; cases z) (.inr ⟨de hm2.1,l2,rfl,ow,f2.1,fun p hp=>f2.2.1 p (Γh _ hp),fun y u _ hy hu=>?_⟩)) (s1.trans s2)
 by_cases hyi:y=i
 ·subst hyi
  intro z
  have hl:y < σ.length:=by
   have:=(List.getElem?_eq_some_iff.mp z).1
   rwa [List.length_set] at this
  rw [List.getElem?_set_self hl] at z
  cases z
  exact nl rfl
 ·rw [List.getElem?_set_ne (Ne.symm hyi)] at hu ⊢
  exact f2.2.2 y u hy hu
end
section
variable (Q:FV→Prop) (L:a0c)
end
section
variable {X:Cx} {C:CC} {n:Nat} {sp:Γd→Nat→Sp} {fr:Bool} {pos p px:Pos} {scope:Scope} {own:List Str} {kx vx tgx iter:Expr} {ifs:List Expr} {it:AW} {tg:Tg} {t:BW} {ek ev:EW} {nn m:Nat} {md':Md} {i:Nat} {nx:Str}
end
noncomputable def lenDF (v:FV):Option FV:=match v with
 | .dci ks _=>some (.int ks.length)
 | _=>none
section
variable {X:Cx} {C:CC} {n:Nat} {sp:Γd→Nat→Sp} {a:Expr} {ea:EW} {pos p:Pos}
end
noncomputable def c4r (v:FV) (lo hi:Option Int):Option FV:=(a1w v).map fun xs=>.lst (a9g xs lo hi)
noncomputable def eSlL (a:EW) (l h:OW):EW:=fun L Q=>a L fun x L1=>l L1 fun i L2=>h L2 fun j L3=>wp (c4r x i j) fun z=>Q z L3
section
variable {X:Cx} {C:CC} {n:Nat} {sp:Γd→Nat→Sp} {a:Expr} {ea:EW} {pos:Pos}
variable {xl xh:Option Expr} {wl wh:OW} {p2:Pos}
end
mutual
noncomputable def fla:FV→Bool
 | .non=>true
 | .bl _=>true
 | .int _=>true
 | .str _=>true
 | .shn _=>true
 | .scr _=>true
 | .tup xs=>d3t xs
 | .lst _=>false
 | .dct _ _=>false
 | .dci _ _=>false
 | .dcz _ _ _=>false
 | .dcn _ _ _=>false
 | .obj _ _ _ _=>false
noncomputable def d3t:List FV→Bool
 | []=>true
 | x :: xs=>fla x && d3t xs
end
noncomputable def d7a (v:FV):Bool:=match d3f v with
 | some ps=>d3t ps
 | none=>false
noncomputable def d3h:Md→a0c→Bool
 | _,[]=>true
 | ms,none :: L=>d3h ms.tail L
 | ms,some v :: L=>(if a0i ms 0=.imm then fla v else d7a v) && d3h ms.tail L
noncomputable def nl (S:Hp):Hp:=fun a=>match S a with
 | some (.lst _)=>none
 | o=>o
section
variable {K:Γd} {S S' H:Hp}
theorem d0t {a:Addr} {o:HO} (h:S a=some o) (n:∀ xs,o≠.lst xs):nl S a=some o:=by
 unfold nl
 split
 ·rename_i xs z; rw [h] at z; exact absurd (Option.some.inj z) (n xs)
 ·exact h
mutual
theorem RV.nl:∀ {p:FV} {v:V},fla p=true→RV K S p v→RV K (nl S) p v
 | .non,v,_,h=>h
 | .bl b,v,_,h=>h
 | .int i,v,_,h=>h
 | .str _,v,_,h=>h
 | .shn _,v,_,h=>h
 | .tup ps,v,n,⟨a,xs,e,h1,h2⟩=>⟨a,xs,e,d0t h1 (fun _ z=>nomatch z),RVs.nl n h2⟩
 | .lst ps,v,n,h=>by cases n
 | .dct ks vs,v,n,h=>by cases n
 | .dci ks vs,v,n,h=>by cases n
 | .dcz o ks vs,v,n,h=>by cases n
 | .dcn z ks vs,v,n,h=>by cases n
 | .obj _ _ _ _,v,n,h=>by cases n
 | .scr ns,v,_,⟨a,e,h⟩=>⟨a,e,h.elim (fun ⟨o,h⟩=>.inl ⟨o,d0t h (fun _ z=>nomatch z)⟩) .inr⟩
theorem RVs.nl:∀ {ps:List FV} {vs:List V},d3t ps=true→RVs K S ps vs→RVs K (nl S) ps vs
 | [],vs,_,h=>h
 | p :: ps,vs,n,⟨v,r,e,h1,h2⟩=>⟨v,r,e,RV.nl (b2 n).1 h1,RVs.nl (b2 n).2 h2⟩
end
variable {c:Cn} {md:Md} {L:a0c} {σ:L2.St} {j:Nat}
end
noncomputable def sScope (md:Md) (r:SW):SW:=fun L Q=>d3h md L=true∧r L fun fl L'=>d3h md L'=true∧(match fl with | .ret v=>fla v=true | _=>True)∧Q fl L'
section
variable {X:Cx} {C:CC} {n:Nat} {sp:Γd→Nat→Sp} {fr:Bool} {st:Stmt} {sts:List Stmt} {s r:SW} {o:Expr} {e:EW} {pos p:Pos} {j:Nat}
open Classical in
end
mutual
noncomputable def D.ns:D→Bool
 | .non=>true
 | .bl _=>true
 | .int _=>true
 | .str _=>false
 | .tup xs=>D.nss xs
 | .lst xs=>D.nss xs
noncomputable def D.nss:List D→Bool
 | []=>true
 | x :: xs=>D.ns x && D.nss xs
end
theorem a4t {a b:Str} (ha:PyData.strOk a=true) (hb:PyData.strOk b=true):PyData.strOk (a++b)=true:=by
 show Array.all (a.cps++b.cps) _=true
 rw [Array.all_append]
 exact Bool.and_eq_true_iff.mpr ⟨ha,hb⟩
theorem b6v {s:Str} (hs:PyData.strOk s=true):∀ {ts:List Str},(∀ t∈ts,PyData.strOk t=true)→PyData.strOk (Str.join s ts)=true
 | [],_=>a2y ""
 | [a],h=>h a (by simp)
 | a :: b :: r,h=>by
  simp only [Str.join]
  exact a4t (a4t (h a (by simp)) hs) (b6v hs fun t ht=>h t (by simp [List.mem_cons.mp ht]))
theorem b6w:∀ {ts:List Str} {k:Nat} {acc:Str},PyData.strOk acc=true→(∀ t∈ts,PyData.strOk t=true)→PyData.strOk (textFrom k acc ts)=true
 | [],k,acc,ha,_=>ha
 | t :: r,k,acc,ha,h=>by
  unfold textFrom
  refine b6w ?_ fun x hx=>h x (by simp [hx])
  split
  ·exact a4t (a4t ha (a2y _)) (h t (by simp))
  ·exact a4t ha (h t (by simp))
mutual
theorem c9d:∀ d:D,d.ns=true→PyData.strOk (dPy d).shown=true
 | .non,_=>by simp only [dPy,PyData.shown]; exact a2y _
 | .bl b,_=>by simp only [dPy,PyData.shown]; split <;> exact a2y _
 | .int i,_=>by simp only [dPy,PyData.shown]; exact a2y _
 | .str _,h=>by cases h
 | .tup xs,h=>by
  simp only [dPy,PyData.shown,tupleText]
  exact a4t (a4t (a2y _) (b6v (a2y _) (b0z xs h))) (a2y _)
 | .lst xs,h=>by
  simp only [dPy,PyData.shown,listText]
  exact a4t (b6w (a2y _) (b0z xs h)) (a2y _)
theorem b0z:∀ ds:List D,D.nss ds=true→∀ t∈PyData.shownAll (a3p ds),PyData.strOk t=true
 | [],_,t,ht=>by simp [a3p,PyData.shownAll] at ht
 | d :: ds,h,t,ht=>by
  simp only [a3p,PyData.shownAll] at ht
  have h:=b2 h
  rcases List.mem_cons.mp ht with rfl | ht
  ·exact c9d d h.1
  ·exact b0z ds h.2 t ht
end
open Classical in
noncomputable def nePF (a b:FV):Option FV:=if ∃ i d,a=.tup [.int i,.shn d]∧b=a∧d.ns=true then some (.bl false) else none
section
variable {X:Cx}
variable {C:CC} {n:Nat} {sp:Γd→Nat→Sp} {a b:Expr} {ea eb:EW} {pos:Pos}
end
end Kq
end
section
namespace Kq
@[scoped simp ↓ high] theorem lk_1 (a0:Option FV) (v:FV) (L:a0c) (Q:FV→Prop):wp (lk (a0 :: some v :: L) 1) Q=Q v:=propext Iff.rfl
@[scoped simp ↓ high] theorem lk_2 (a0 a1:Option FV) (v:FV) (L:a0c) (Q:FV→Prop):wp (lk (a0 :: a1 :: some v :: L) 2) Q=Q v:=propext Iff.rfl
@[scoped simp ↓ high] theorem lk_3 (a0 a1 a2:Option FV) (v:FV) (L:a0c) (Q:FV→Prop):wp (lk (a0 :: a1 :: a2 :: some v :: L) 3) Q=Q v:=propext Iff.rfl
@[scoped simp ↓ high] theorem lk_4 (a0 a1 a2 a3:Option FV) (v:FV) (L:a0c) (Q:FV→Prop):wp (lk (a0 :: a1 :: a2 :: a3 :: some v :: L) 4) Q=Q v:=propext Iff.rfl
@[scoped simp ↓ high] theorem lk_5 (a0 a1 a2 a3 a4:Option FV) (v:FV) (L:a0c) (Q:FV→Prop):wp (lk (a0 :: a1 :: a2 :: a3 :: a4 :: some v :: L) 5) Q=Q v:=propext Iff.rfl
@[scoped simp ↓ high] theorem lk_6 (a0 a1 a2 a3 a4 a5:Option FV) (v:FV) (L:a0c) (Q:FV→Prop):wp (lk (a0 :: a1 :: a2 :: a3 :: a4 :: a5 :: some v :: L) 6) Q=Q v:=propext Iff.rfl
@[scoped simp ↓ high] theorem lk_7 (a0 a1 a2 a3 a4 a5 a6:Option FV) (v:FV) (L:a0c) (Q:FV→Prop):wp (lk (a0 :: a1 :: a2 :: a3 :: a4 :: a5 :: a6 :: some v :: L) 7) Q=Q v:=propext Iff.rfl
@[scoped simp ↓ high] theorem lk_8 (a0 a1 a2 a3 a4 a5 a6 a7:Option FV) (v:FV) (L:a0c) (Q:FV→Prop):wp (lk (a0 :: a1 :: a2 :: a3 :: a4 :: a5 :: a6 :: a7 :: some v :: L) 8) Q=Q v:=propext Iff.rfl
@[scoped simp ↓ high] theorem lk_9 (a0 a1 a2 a3 a4 a5 a6 a7 a8:Option FV) (v:FV) (L:a0c) (Q:FV→Prop):wp (lk (a0 :: a1 :: a2 :: a3 :: a4 :: a5 :: a6 :: a7 :: a8 :: some v :: L) 9) Q=Q v:=propext Iff.rfl
@[scoped simp ↓ high] theorem lk_10 (a0 a1 a2 a3 a4 a5 a6 a7 a8 a9:Option FV) (v:FV) (L:a0c) (Q:FV→Prop):wp (lk (a0 :: a1 :: a2 :: a3 :: a4 :: a5 :: a6 :: a7 :: a8 :: a9 :: some v :: L) 10) Q=Q v:=propext Iff.rfl
@[scoped simp ↓ high] theorem lk_11 (a0 a1 a2 a3 a4 a5 a6 a7 a8 a9 a10:Option FV) (v:FV) (L:a0c) (Q:FV→Prop):wp (lk (a0 :: a1 :: a2 :: a3 :: a4 :: a5 :: a6 :: a7 :: a8 :: a9 :: a10 :: some v :: L) 11) Q=Q v:=propext Iff.rfl
end Kq
end
section
namespace Kq
open PySem PySem.Spec PySem.Calls PyProof.Rows L2 PySem.W
theorem c0j (h:Heap):AllIn (whole h) h:=fun p hp=>by
 obtain ⟨a,_,e⟩:=List.mem_filterMap.mp hp
 obtain ⟨o,e1,e2⟩:=Option.map_eq_some_iff.mp e
 rw [← e2]; exact e1
theorem d1f {r:Option (Option Value)} {f:Addr} (h:isR r f=true):r=some (some (.ref f)):=by
 unfold isR at h
 split at h
 ·rw [beq_iff_eq.mp h]
 ·cases h
theorem c6r {r:Option (Option Value)} (h:d7t r=true):r=some none:=by
 unfold d7t at h
 split at h
 ·rfl
 ·cases h
theorem c6t {r:Option (Option Value)} {x:String} (h:d7u r x=true):r=some (some (.builtin x)):=by
 unfold d7u at h
 split at h
 ·rw [beq_iff_eq.mp h]
 ·cases h
theorem d0w {r:Option Value} {f:Addr} (h:mgR r f=true):r=some (.ref f):=by
 unfold mgR at h
 split at h
 ·rw [beq_iff_eq.mp h]
 ·cases h
structure CF (K:Frag) (mg:Str→Option Value) (c:CSp):Prop where
 mg:mg c.c=some (.ref c.a)
 cl:Cls K c.a
 fl:∀ f∈c.fl,NoAttr K c.a f
 ms:∀ m∈c.ms,findIn K (.ref c.a) m.1=some (some (.ref m.2))∧isFn K (.ref m.2)=true∧keepIn K (.ref m.2)=true∧fnB K m.2=true
 mks:makesIn K c.a=true
 kp:keepIn K (.ref c.a)=true
theorem CF.of {K:Frag} {mg:Str→Option Value} {c:CSp} (h:cB K mg c=true):CF K mg c:=by
 obtain ⟨h1,h⟩:=b2 h
 obtain ⟨h2,h⟩:=b2 h
 obtain ⟨h3,h⟩:=b2 h
 obtain ⟨h4,h⟩:=b2 h
 obtain ⟨h5,h⟩:=b2 h
 obtain ⟨h6,h⟩:=b2 h
 obtain ⟨h7,h⟩:=b2 h
 obtain ⟨h8,h9⟩:=b2 h
 refine ⟨d0w h1,⟨h2,h3,h4,c6t h5⟩,fun f hf=>c6r (List.all_eq_true.mp h6 f hf),fun m hm=>?_,h8,h9⟩
 obtain ⟨g1,g⟩:=b2 (List.all_eq_true.mp h7 m hm)
 obtain ⟨g2,g⟩:=b2 g
 obtain ⟨g3,g4⟩:=b2 g
 exact ⟨d1f g1,g2,g3,g4⟩
noncomputable def VF (K:Frag) (p:Vw):Prop:=∃ fd,Fun K p.m p.q p.st p.f fd
noncomputable def YPC (vw:List Vw) (w:World) (h:Heap):Prop:=∀ p∈vw,∃ o,h.get? p.f=some o∧c8s o=some p.due
theorem YPC.of {vw:List Vw} {w:World} {s:Shared} (h:YfC vw s=YaC vw):YPC vw w s.heap:=fun p hp=>by
 obtain ⟨i,hi,e⟩:=List.mem_iff_getElem.mp hp
 have:=congrArg (·[i]?) h
 simp only [YfC,YaC,List.getElem?_map,List.getElem?_eq_getElem hi,e,Option.map_some] at this
 exact Option.bind_eq_some_iff.mp (Option.some.inj this)
theorem YPC.keeps {vw:List Vw} {w:World} {h h':Heap} (y:YPC vw w h) (k:∀ (b:Addr) (o:Obj),h.get? b=some o→h'.get? b=some o):YPC vw w h':=fun p hp=>let ⟨o,e1,e2⟩:=y p hp; ⟨o,k _ _ e1,e2⟩
theorem VF.of {vw:List Vw} {w:World} {h:Heap} {K:Frag} (A:AllIn K h) (y:YPC vw w h) {p:Vw} (hp:p∈vw) (kp:keepIn K (.ref p.f)=true) (fb:fnB K p.f=true):VF K p:=by
 obtain ⟨o,e1,e2⟩:=y p hp
 unfold fnB at fb
 split at fb
 ·rename_i oc od fd osl lk
  have:=A _ (a2j lk)
  rw [e1] at this
  cases this
  have e3:c0l fd=p.due:=Option.some.inj e2
  obtain ⟨f1,f2,f3,f4,f5,f6,f7,f8,f9,f10,f11,f12,f13,f14,f15⟩:=fd
  simp only [c0l,Vw.due,fnOf,Prod.mk.injEq] at e3
  obtain ⟨rfl,rfl,rfl,rfl,rfl,rfl,rfl,rfl,rfl⟩:=e3
  exact ⟨_,c3x lk fb kp⟩
 ·cases fb
noncomputable def XPC (q:Program) (cs:List CSp) (mg:Str→Option Value) (h:Heap):Prop:=XL q [] mg h∧∃ K,AllIn K h∧allB cs ((recsOf q).map (·.name)) K mg=true
theorem XPC.of {q:Program} {cs:List CSp} (s:Shared) (h:XtC q cs s=true):XPC q cs (s.heap.nsMap mainGlobals) s.heap:=⟨xl_of s (b2 h).1,_,c0j _,(b2 h).2⟩
theorem XPC.keeps {q:Program} {cs:List CSp} (mg:Str→Option Value) (h h':Heap) (x:XPC q cs mg h) (k:∀ (b:Addr) (o:Obj),h.get? b=some o→h'.get? b=some o):XPC q cs mg h':=let ⟨x1,K,x2,x3⟩:=x; ⟨XL.keeps mg h h' x1 k,K,fun p hp=>k _ _ (x2 p hp),x3⟩
theorem DIn.in {q:Program} {loose:List Str} {mean:ExcName→Option Value} {mg mb:Str→Option Value} {h:Heap} {K:Frag} (T:Top q loose mean mg mb h) (A:AllIn K h) {d:DefRec} (hd:d∈recsOf q) (b:dB K mg d.name=true):DIn K mg d:=by
 obtain ⟨a,o,pm,cd,doc,g1,g2,g3,c,oc,vs,t,g4,g5,g6⟩:=T.fn d hd
 unfold dB at b
 rw [g1] at b
 dsimp only at b
 split at b
 ·rename_i x1 x2 fd x3 lk
  have:=A _ (a2j lk)
  rw [g2] at this
  cases this
  cases g3
  rw [g4] at b
  obtain ⟨u,hu⟩:=Option.isSome_iff_exists.mp b
  have h2:=A _ (a2j hu)
  rw [g5] at h2
  cases h2
  exact ⟨a,_,pm,cd,doc,g1,a2j lk,rfl,c,_,vs,t,g4,a2j hu,g6⟩
 ·cases b
theorem walkC {l:OpenLaw} {n k:Nat} {q:Program} {cs:List CSp} {vw:List Vw} {d:DefRec} {ds:List DefRec} {x:Str} {sp:Frag→Sp}
  (hn:l.most=some n) (hn2:n≤sizeLine) (hdf:d.params.defaults=[]) (hr:Room k callerA) (hds:ds=recsOf q) (hfree:(bltNames.all fun b=>freeIn q (looseW q []) (Γe b))=true) (hvw:(vw.all fun p=>cs.any fun c=>c.ms.any fun m=>m.2 == p.f)=true)
  (F:∀ (w:World) (K:Frag) (mg:Str→Option Value) (fa:Addr) (h:Heap),AllIn K h→(∀ d∈ds,DIn K mg d)→(∀ c∈cs,CF K mg c)→(∀ p∈vw,VF K p)→(∀ b∈bltNames,mg (Γe b)=none)→mg d.name=some (.ref fa) →
   ∃ fd:FuncData,(∀ (s:Shared) (u:Value),BindsTo s fd ⟨[u],[]⟩ [(x,u)])∧∀ base:Heap,FnOk l.prog w K mg base CX0 k fa fd [x] (sp K))
  (hsp:∀ (K:Frag) (H:Hp) (a:Addr) (ns:List Int),ns.length≤n→d2y H→SqL K H a (ns.map V.int)→sp K [.ref a] H (fun v _=>v=.bl true) fun _ _ _=>False) :
  WalkO q [] (XPC q cs) (YPC vw) l.row.toRowW d [] (fun f vs=>PySem.call f vs):=by
 refine Att.attach_call hn hdf fun w s₀ s₁ mg mb fa o pm cd doc a vs ns G Y ho hd hcd hmg hobj hints hlen hg=>?_
 obtain ⟨_,K,hK,hB⟩:=G.X
 have hB:=b2 hB
 have hC:∀ c∈cs,CF K mg c:=fun c hc=>CF.of (List.all_eq_true.mp hB.2 c hc)
 have hD:∀ d∈ds,DIn K mg d:=fun d hd=>DIn.in G.T hK (hds ▸ hd) (List.all_eq_true.mp hB.1 _ (List.mem_map.mpr ⟨d,hds ▸ hd,rfl⟩))
 have hV:∀ p∈vw,VF K p:=fun p hp=>by
  obtain ⟨c,hc,z⟩:=List.any_eq_true.mp (List.all_eq_true.mp hvw p hp)
  obtain ⟨m,hm,z⟩:=List.any_eq_true.mp z
  have z:=beq_iff_eq.mp z
  obtain ⟨_,_,g3,g4⟩:=(hC c hc).ms m hm
  exact VF.of hK Y hp (z ▸ g3) (z ▸ g4)
 obtain ⟨fd,hb,hF⟩:=F w K mg fa _ hK hD hC hV (fun b hb=>c7a G.T (List.all_eq_true.mp hfree b hb)) hmg
 exact b2w hK.to G.T.g G.T.b G.T.builtins G.T.nolimit hg hobj hints (Nat.le_trans hlen hn2) hr (fun base _ _=>hF base) hb (fun H hO hS=>hsp K H a ns hlen hO hS) fun H e s' z=>z
theorem row_holdsC {l:OpenLaw} {q:Program} {cs:List CSp} {vw:List Vw} {d:DefRec} {N:Nat} (said:l.wellSaid=true) (left:LeftO l.prog q [] (fun s=>XtC q cs s && recOk (RowW.records l.row.toRowW) s) (YfC vw) (fun _=>YaC vw) N)
  (hdef:defOf q l.name=some (d,[])) (hp:l.prog.theDef l.name=some (d.params,d.body,d.scope)) (hk:kwWritten? d.params.kwonlyargs d.params.kw_defaults=some []) (hwr:(!l.writes || l.row.records.isEmpty)=true)
  (ok:(chainsOk q && opensWell l.prog && (frees l.row.toRowW && l.row.within.isEmpty))=true) (hb:l.prog.bare) (hw:l.row.toRowW.promised)
  (call:WalkO q [] (XPC q cs) (YPC vw) l.row.toRowW d [] fun f vs=>PySem.call f vs):l.Holds :=
 holds_law said fun k1=>holds_open (r:=l.row) left (fun w s h=>YPC.of h) (fun w h h' y k=>y.keeps k) (fun s e=>XPC.of s (Bool.and_eq_true_iff.mp e).1) XPC.keeps hdef hp hk (fun s e=>recFacts_of (Bool.and_eq_true_iff.mp e).2) hwr k1 ok hb hw call
end Kq
end
section
namespace Kq
open PySem PySem.Spec PyProof.Rows L2
noncomputable def opn (H:Hp) (a C dx:Addr) (fs:List (Str×V)) (gs:List (Addr×List V)):Hp:=fun b=>if b=a then some (.ins C dx fs) else match gs.lookup b with
 | some ys=>some (.lst ys)
 | none=>H b
structure Big (H:Hp) (a C dx:Addr) (fs:List (Str×V)) (gs:List (Addr×List V)):Prop where
 at_:H a=some (.big C dx fs gs)
 dxo:H dx=some (.own a)
 gso:∀ g∈gs,H g.1=some (.own a)
 nd:(a :: dx :: gs.map (·.1)).Nodup
theorem b1j {l:Addr} {ys:List V}:∀ {gs:List (Addr×List V)},(gs.map (·.1)).Nodup→(l,ys)∈gs→gs.lookup l=some ys
 | [],_,h=>absurd h List.not_mem_nil
 | (b,zs) :: gs,nd,h=>by
  obtain ⟨n1,n2⟩:=List.nodup_cons.mp nd
  rw [List.lookup_cons]
  rcases List.mem_cons.mp h with z | z
  ·cases z; simp
  ·have:l≠b:=fun y=>n1 (List.mem_map.mpr ⟨_,z,y⟩)
   rw [beq_eq_false_iff_ne.mpr this]
   exact b1j n2 z
theorem a1u {l:Addr} {ys:List V}:∀ {gs:List (Addr×List V)},gs.lookup l=some ys→(l,ys)∈gs
 | [],h=>by simp at h
 | (b,zs) :: gs,h=>by
  rw [List.lookup_cons] at h
  split at h
  ·rename_i e; cases h; rw [beq_iff_eq.mp e]; exact Γn
  ·exact Γh _ (a1u h)
section
variable {X:Cx} {pins:List (Addr×Obj)} {σ:L2.St} {H:Hp} {s:Shared} {a C dx:Addr} {fs:List (Str×V)} {gs:List (Addr×List V)}
theorem a3q (I:Inv X pins σ H s) (h:H a=some (.big C dx fs gs)):Big H a C dx fs gs:=by
 obtain ⟨d,gg,nd,_⟩:=(show ObjOk X.prog X.w H s.heap a (.big C dx fs gs) from I.hok a _ h)
 exact ⟨h,d,gg,nd⟩
theorem a5u:opn H a C dx fs gs a=some (.ins C dx fs):=if_pos rfl
theorem Big.ndg (B:Big H a C dx fs gs):(gs.map (·.1)).Nodup:=(List.nodup_cons.mp (List.nodup_cons.mp B.nd).2).2
theorem Big.ne (B:Big H a C dx fs gs) {g:Addr×List V} (hg:g∈gs):g.1≠a:=fun z=>(List.nodup_cons.mp B.nd).1 (Γh _ (List.mem_map.mpr ⟨g,hg,z⟩))
theorem Big.opl (B:Big H a C dx fs gs) {l:Addr} {ys:List V} (hg:(l,ys)∈gs):opn H a C dx fs gs l=some (.lst ys):=by
 unfold opn
 rw [if_neg (B.ne hg),b1j B.ndg hg]
theorem d7b {b:Addr} (h:b≠a) (hg:gs.lookup b=none):opn H a C dx fs gs b=H b:=by
 unfold opn
 rw [if_neg h,hg]
theorem a1l (B:Big H a C dx fs gs) (b:Addr):b=a ∨ (∃ ys,(b,ys)∈gs∧opn H a C dx fs gs b=some (.lst ys)∧H b=some (.own a)) ∨ (b≠a∧gs.lookup b=none∧opn H a C dx fs gs b=H b):=by
 by_cases h:b=a
 ·exact .inl h
 ·cases e:gs.lookup b with
  | none=>exact .inr (.inr ⟨h,rfl,d7b h e⟩)
  | some ys=>have m:=a1u e; exact .inr (.inl ⟨ys,m,B.opl m,B.gso _ m⟩)
theorem Big.dxn (B:Big H a C dx fs gs):opn H a C dx fs gs dx=some (.own a):=by
 have n:=List.nodup_cons.mp (List.nodup_cons.mp B.nd).2
 have h1:dx≠a:=fun z=>(List.nodup_cons.mp B.nd).1 (by rw [z]; exact Γn)
 rcases a1l B dx with z | ⟨ys,m,_⟩ | ⟨_,_,e⟩
 ·exact absurd z h1
 ·exact absurd (List.mem_map.mpr ⟨_,m,rfl⟩) n.1
 ·rw [e]; exact B.dxo
theorem a2d (I:Inv X pins σ H s) (h:H a=some (.big C dx fs gs)):Inv X pins σ (opn H a C dx fs gs) s:=by
 have B:=a3q I h
 obtain ⟨d,gg,nd,z,e,mm,ls⟩:=(show ObjOk X.prog X.w H s.heap a (.big C dx fs gs) from I.hok a _ h)
 have same:∀ {b:Addr} {u:HO},H b=some u→(∀ x,u≠.own x)→u≠.big C dx fs gs→opn H a C dx fs gs b=some u:=fun {b u} e1 n1 n2=>by
  rcases a1l B b with z | ⟨ys,m,_,e2⟩ | ⟨_,_,e2⟩
  ·rw [z,h] at e1; cases e1; exact absurd rfl n2
  ·rw [e2] at e1; cases e1; exact absurd rfl (n1 a)
  ·rw [e2]; exact e1
 refine I.un (t':=s.toks) (h':=s.heap) ⟨fun b o' e _ _ _=>e,fun b o' e _ _ _=>⟨o'.slots,e⟩,fun b o' e n _=>?_,fun b o' e _=>⟨o',e⟩,fun b xs e=>same e (fun _ z=>nomatch z) (fun z=>nomatch z),fun b o' u e=>same e (fun _ z=>nomatch z) (fun z=>nomatch z),fun b ps e=>⟨#[],by rw [Array.append_empty]; exact same e (fun _ z=>nomatch z) (fun z=>nomatch z)⟩⟩ fun b u e1=>?_
 ·rcases a1l B b with z | ⟨ys,m,_,e2⟩ | ⟨_,_,e2⟩
  ·rw [z,h] at n; cases n
  ·rw [e2] at n; cases n
  ·rw [e2]; exact n
 ·rcases a1l B b with rfl | ⟨ys,m,e2,_⟩ | ⟨h1,h2,e2⟩
  ·rw [a5u] at e1; cases e1
   exact ⟨B.dxn,z,(fun y=>(List.nodup_cons.mp nd).1 (by rw [y]; exact Γn)),e,mm⟩
  ·rw [e2] at e1; cases e1
   exact ls _ m
  ·rw [e2] at e1
   refine (I.hok b u e1).stay (fun _ _ _ q=>q) (fun c e3=>?_) fun c xs e3=>same e3 (fun _ z=>nomatch z) (fun z=>nomatch z)
   rcases a1l B c with rfl | ⟨ys,m,_,e4⟩ | ⟨_,_,e4⟩
   ·rw [h] at e3; cases e3
   ·rw [e4] at e3; cases e3; exact absurd rfl h1
   ·rw [e4]; exact e3
theorem a3c (I:Inv X pins σ (opn H a C dx fs gs) s) (B:Big H a C dx fs gs):Inv X pins σ H s:=by
 have same:∀ {b:Addr} {u:HO},opn H a C dx fs gs b=some u→(∀ ys,u≠.lst ys)→u≠.ins C dx fs→H b=some u:=fun {b u} e1 n1 n2=>by
  rcases a1l B b with rfl | ⟨ys,m,e2,_⟩ | ⟨_,_,e2⟩
  ·rw [a5u] at e1; cases e1; exact absurd rfl n2
  ·rw [e2] at e1; cases e1; exact absurd rfl (n1 ys)
  ·rw [← e2]; exact e1
 refine I.un (t':=s.toks) (h':=s.heap) ⟨fun b o' e _ _ _=>e,fun b o' e _ _ _=>⟨o'.slots,e⟩,fun b o' e n _=>?_,fun b o' e _=>⟨o',e⟩,fun b xs e=>same e (fun _ z=>nomatch z) (fun z=>nomatch z),fun b o' u e=>same e (fun _ z=>nomatch z) (fun z=>nomatch z),fun b ps e=>⟨#[],by rw [Array.append_empty]; exact same e (fun _ z=>nomatch z) (fun z=>nomatch z)⟩⟩ fun b u e1=>?_
 ·rcases a1l B b with rfl | ⟨ys,m,e2,_⟩ | ⟨_,_,e2⟩
  ·rw [a5u] at n; cases n
  ·rw [e2] at n; cases n
  ·rw [← e2]; exact n
 ·rcases a1l B b with rfl | ⟨ys,m,e2,e3⟩ | ⟨h1,h2,e2⟩
  ·rw [B.at_] at e1; cases e1
   obtain ⟨_,z,_,e,mm⟩:=(show ObjOk X.prog X.w (opn H b C dx fs gs) s.heap b (.ins C dx fs) from I.hok b _ a5u)
   exact ⟨B.dxo,B.gso,B.nd,z,e,mm,fun g hg=>(show ObjOk X.prog X.w (opn H b C dx fs gs) s.heap g.1 (.lst g.2) from I.hok g.1 _ (B.opl (ys:=g.2) hg))⟩
  ·rw [e3] at e1; cases e1
   obtain ⟨_,its,n,_,e⟩:=(show ObjOk X.prog X.w (opn H a C dx fs gs) s.heap b (.lst ys) from I.hok b _ e2)
   exact ⟨_,e⟩
  ·refine (I.hok b u (by rw [e2]; exact e1)).stay (fun _ _ _ q=>q) (fun c e3=>same e3 (fun _ z=>nomatch z) (fun z=>nomatch z)) fun c xs e3=>same e3 (fun _ z=>nomatch z) (fun z=>nomatch z)
theorem b6t (B:Big H a C dx fs gs) {p:Addr} (o:HO) (hp:H p=none):upd (opn H a C dx fs gs) p o=opn (upd H p o) a C dx fs gs∧Big (upd H p o) a C dx fs gs:=by
 have n:∀ {b u},H b=some u→b≠p:=fun e z=>by rw [z,hp] at e; cases e
 refine ⟨?_,by rw [a0b (n B.at_)]; exact B.at_,by rw [a0b (n B.dxo)]; exact B.dxo,fun g hg=>by rw [a0b (n (B.gso g hg))]; exact B.gso g hg,B.nd⟩
 funext b
 unfold opn
 by_cases h:b=a
 ·rw [a0b (by rw [h]; exact n B.at_),if_pos h,if_pos h]
 ·rw [if_neg h]
  cases e:gs.lookup b with
  | none =>
   by_cases z:b=p
   ·rw [z,a0d,a0d]
   ·rw [a0b z,a0b z,if_neg h,e]
  | some ys=>rw [a0b (n (B.gso _ (a1u e))),if_neg h,e]
noncomputable def a6v (gs:List (Addr×List V)) (l:Addr) (ys:List V):List (Addr×List V):=gs.map fun g=>if g.1=l then (l,ys) else g
theorem a8p (l:Addr) (ys:List V):∀ gs:List (Addr×List V),(a6v gs l ys).map (·.1)=gs.map (·.1)
 | []=>rfl
 | g :: gs=>by
  show (if g.1=l then (l,ys) else g).1 :: (a6v gs l ys).map (·.1)=_
  rw [a8p l ys gs]
  split
  ·rename_i e; rw [List.map_cons,e]
  ·rfl
theorem a5r (l:Addr) (ys:List V) (b:Addr):∀ gs:List (Addr×List V),(a6v gs l ys).lookup b=if b=l then (gs.lookup b).map fun _=>ys else gs.lookup b
 | []=>by simp [a6v]
 | g :: gs=>by
  show List.lookup b ((if g.1=l then (l,ys) else g) :: a6v gs l ys)=_
  obtain ⟨g1,g2⟩:=g
  by_cases e:g1=l
  ·subst e
   rw [if_pos rfl,List.lookup_cons,List.lookup_cons,a5r]
   by_cases h:b=g1
   ·subst h; simp
   ·rw [beq_eq_false_iff_ne.mpr h]
  ·rw [if_neg e,List.lookup_cons,List.lookup_cons,a5r]
   by_cases h:b=g1
   ·subst h; simp [e]
   ·rw [beq_eq_false_iff_ne.mpr h]
theorem b6s (B:Big H a C dx fs gs) {l:Addr} {zs:List V} (ys:List V) (hl:(l,zs)∈gs):upd (opn H a C dx fs gs) l (.lst ys)=opn (upd H a (.big C dx fs (a6v gs l ys))) a C dx fs (a6v gs l ys)∧Big (upd H a (.big C dx fs (a6v gs l ys))) a C dx fs (a6v gs l ys):=by
 have na:=B.ne hl
 have nn:∀ {b u},H b=some u→(∀ x y z w,u≠.big x y z w)→b≠a:=fun e n z=>by rw [z,B.at_] at e; exact n _ _ _ _ (Option.some.inj e).symm
 refine ⟨?_,a0d,by rw [a0b (nn B.dxo (fun _ _ _ _ z=>nomatch z))]; exact B.dxo,fun g hg=>?_,by rw [a8p]; exact B.nd⟩
 ·funext b
  unfold opn
  rw [a5r]
  by_cases h:b=a
  ·rw [a0b (by rw [h]; exact Ne.symm na),if_pos h,if_pos h]
  ·rw [if_neg h,a0b h]
   by_cases z:b=l
   ·subst z; rw [a0d,if_pos rfl,b1j B.ndg hl]; rfl
   ·rw [a0b z,if_neg h,if_neg z]
 ·have:g.1∈gs.map (·.1):=by rw [← a8p l ys]; exact List.mem_map.mpr ⟨g,hg,rfl⟩
  obtain ⟨g',hg',e⟩:=List.mem_map.mp this
  rw [← e,a0b (B.ne hg')]; exact B.gso g' hg'
theorem b6u (B:Big H a C dx fs gs) (fs':List (Str×V)):upd (opn H a C dx fs gs) a (.ins C dx fs')=opn (upd H a (.big C dx fs' gs)) a C dx fs' gs∧Big (upd H a (.big C dx fs' gs)) a C dx fs' gs:=by
 have nn:∀ {b u},H b=some u→(∀ x y z w,u≠.big x y z w)→b≠a:=fun e n z=>by rw [z,B.at_] at e; exact n _ _ _ _ (Option.some.inj e).symm
 refine ⟨?_,a0d,by rw [a0b (nn B.dxo (fun _ _ _ _ z=>nomatch z))]; exact B.dxo,fun g hg=>by rw [a0b (B.ne hg)]; exact B.gso g hg,B.nd⟩
 funext b
 unfold opn
 by_cases h:b=a
 ·rw [h,a0d,if_pos rfl]
 ·rw [a0b h,if_neg h,if_neg h,a0b h]
theorem c5y (B:Big H a C dx fs gs) {p:Addr} (hp:H p=none) (fs':List (Str×V)) (ys:List V):upd (upd (opn H a C dx fs gs) p (.lst ys)) a (.ins C dx fs')=opn (upd (upd H p (.own a)) a (.big C dx fs' ((p,ys) :: gs))) a C dx fs' ((p,ys) :: gs)∧Big (upd (upd H p (.own a)) a (.big C dx fs' ((p,ys) :: gs))) a C dx fs' ((p,ys) :: gs):=by
 have n:∀ {b u},H b=some u→b≠p:=fun e z=>by rw [z,hp] at e; cases e
 have nn:∀ {b u},H b=some u→(∀ x y z w,u≠.big x y z w)→b≠a:=fun e n z=>by rw [z,B.at_] at e; exact n _ _ _ _ (Option.some.inj e).symm
 have pa:p≠a:=Ne.symm (n B.at_)
 refine ⟨?_,a0d,by rw [a0b (nn B.dxo (fun _ _ _ _ z=>nomatch z)),a0b (n B.dxo)]; exact B.dxo,fun g hg=>?_,?_⟩
 ·funext b
  unfold opn
  by_cases h:b=a
  ·rw [h,a0d,if_pos rfl]
  ·rw [a0b h,if_neg h,a0b h,List.lookup_cons]
   by_cases z:b=p
   ·subst z; rw [a0d]; simp
   ·rw [a0b z,if_neg h,beq_eq_false_iff_ne.mpr z,a0b z]
 ·rcases List.mem_cons.mp hg with z | z
  ·rw [z,a0b pa]; exact a0d
  ·rw [a0b (B.ne z),a0b (n (B.gso g z))]; exact B.gso g z
 ·obtain ⟨n1,n2⟩:=List.nodup_cons.mp B.nd
  obtain ⟨n3,n4⟩:=List.nodup_cons.mp n2
  refine List.nodup_cons.mpr ⟨fun z=>?_,List.nodup_cons.mpr ⟨fun z=>?_,List.nodup_cons.mpr ⟨fun z=>?_,n4⟩⟩⟩
  ·rcases List.mem_cons.mp z with z | z
   ·exact n1 (by rw [z]; exact Γn)
   ·rcases List.mem_cons.mp z with z | z
    ·exact pa z.symm
    ·exact n1 (Γh _ z)
  ·rcases List.mem_cons.mp z with z | z
   ·exact n B.dxo z
   ·exact n3 z
  ·obtain ⟨g,hg,e⟩:=List.mem_map.mp z
   exact n (B.gso g hg) e
end
noncomputable def Cl (a C dx:Addr) (Q:Hp→Prop) (H2:Hp):Prop:=∃ H' fs gs,H2=opn H' a C dx fs gs∧Big H' a C dx fs gs∧Q H'
section
variable {X:Cx} {pins:List (Addr×Obj)} {σ:L2.St} {H:Hp} {s:Shared} {a Ca dx:Addr} {fs:List (Str×V)} {gs:List (Addr×List V)}
theorem d1x {Q:VK} {u:Value} {s':Shared} (h:EP X pins σ (fun v H2=>Cl a Ca dx (Q v) H2) u s'):EP X pins σ Q u s':=by
 obtain ⟨v,H2,I,r,H',fs,gs,rfl,B,q⟩:=h
 exact ⟨v,H',a3c I B,r,q⟩
theorem c7s {f:Value} {r:List V→Hp→VK→Prop} (hc:a1k X f r):a1k X f (fun xs H Q=>∃ a C dx fs gs,H a=some (.big C dx fs gs)∧(Big H a C dx fs gs→r xs (opn H a C dx fs gs) (fun v H2=>Cl a C dx (Q v) H2))):=by
 rintro pins s σ H xs us Q I rv ⟨a,C,dx,fs,gs,h,q⟩
 exact thn (hc pins s σ _ xs us _ (a2d I h) rv (q (a3q I h))) fun u s' h=>d1x h
theorem d5t {t:d4x} (hs:d4y X t):d4y X (fun o i v H Q=>∃ a C dx fs gs,H a=some (.big C dx fs gs)∧(Big H a C dx fs gs→t o i v (opn H a C dx fs gs) (fun H2=>Cl a C dx Q H2))):=by
 rintro pins s σ H o i v ov iv u Q I ro ri rv ⟨a,C,dx,fs,gs,h,q⟩
 exact thn (hs pins s σ _ o i v ov iv u _ (a2d I h) ro ri rv (q (a3q I h))) fun u s' ⟨H2,I2,H',fs',gs',e,B,q⟩=>⟨H',a3c (e ▸ I2) B,q⟩
variable {i:Nat} {nx:Str} {p pos:Pos} {f:Str}
theorem a3u (ho:PE X (.Name nx p) (c0c i)):PE X (.Attribute (.Name nx p) f pos) (fun σ H Q=>∃ a C dx fs gs v,σ[i]?=some (some (.ref a))∧H a=some (.big C dx fs gs)∧Cls X.K C∧NoAttr X.K C f∧fs.lookup f=some v∧Q v H):=by
 rintro pins s σ H Q I ⟨a,C,dx,fs,gs,v,e1,h,c,n,l,q⟩
 refine c7y rfl (thn (ho pins s σ H (fun x H1=>x=.ref a∧H1=H) I ⟨_,e1,rfl,rfl⟩) fun u s1 ⟨x,H1,I1,rx,ex,eh⟩=>?_)
 subst ex; subst eh
 obtain rfl:u=Value.ref a:=rx
 exact a7u (a2d I1 h) a5u c n l fun u' s2 I2 ru=>⟨v,H1,a3c I2 (a3q I1 h),ru,q⟩
theorem b6d {value:Expr} {tv:TE} {pos':Pos} (ho:PE X (.Name nx p) (c0c i)) (hv:PE X value tv) (hs:swapsWith value (some (.Attribute (.Name nx p) f pos')) pos.line X.env=pure false):PS X (.Assign [.Attribute (.Name nx p) f pos'] value pos) (fun D σ H=>tv σ H fun y H1=>∃ a C dx fs gs,σ[i]?=some (some (.ref a))∧H1 a=some (.big C dx fs gs)∧Cls X.K C∧NoAttr X.K C f∧fs.length < 1000∧(Big H1 a C dx fs gs→Cl a C dx (D.nx σ) (upd (opn H1 a C dx fs gs) a (.ins C dx (a4p f y fs))))):=by
 intro pins s σ H D I h
 refine plainObj_wpAny_Assign_Attribute (thn (hv pins s σ H _ I h) fun u s1 ⟨y,H1,I1,ry,a,C,dx,fs,gs,e1,h1,c,n,l,q⟩=>thn (ho pins s1 σ H1 (fun x H2=>x=.ref a∧H2=H1) I1 ⟨_,e1,rfl,rfl⟩) fun ov s2 ⟨x,H2,I2,rx,ex,eh⟩=>?_) hs
 subst ex; subst eh
 obtain rfl:ov=Value.ref a:=rx
 refine a7m (a2d I2 h1) a5u c n l ry fun s3 I3=>?_
 obtain ⟨H',fs',gs',e,B,q⟩:=q (a3q I2 h1)
 exact ⟨σ,H',a3c (e ▸ I3) B,q⟩
theorem c5j {op:Operator} {rd:V→V→Hp→VK→Prop} {value:Expr} {tv:TE} {tpos:Pos} (ho:PE X (.Name nx p) (c0c i)) (hv:PE X value tv) (hop:InOp X op rd):PS X (.AugAssign (.Attribute (.Name nx p) f tpos) op value pos) (fun D σ H=>∃ a C dx fs gs v,σ[i]?=some (some (.ref a))∧H a=some (.big C dx fs gs)∧Cls X.K C∧NoAttr X.K C f∧fs.lookup f=some v∧tv σ H fun y H2=>rd v y H2 fun z H3=>∃ fs' gs',H3 a=some (.big C dx fs' gs')∧fs'.length < 1000∧D.nx σ (upd H3 a (.big C dx (a4p f z fs') gs'))):=by
 rintro pins s σ H D I ⟨a,C,dx,fs,gs,v,e1,h,c,n,l,q⟩
 refine wpAny_AugAssign_AttributeAny (thn (ho pins s σ H (fun x H1=>x=.ref a∧H1=H) I ⟨_,e1,rfl,rfl⟩) fun ov s1 ⟨x,H1,I1,rx,ex,eh⟩=>?_)
 subst ex; subst eh
 obtain rfl:ov=Value.ref a:=rx
 refine a7u (a2d I1 h) a5u c n l fun u s2 I2 ru=>?_
 have I2:=a3c I2 (a3q I1 h)
 refine thn (hv pins s2 σ H1 _ I2 q) fun w3 s3 ⟨y,H2,I3,ry,q3⟩=>thn (hop pins s3 σ H2 v y u w3 _ I3 ru ry q3) fun w4 s4 ⟨z,H3,I4,rz,fs',gs',ea',l',q4⟩=>?_
 have B:=a3q I4 ea'
 refine a7m (a2d I4 ea') a5u c n l' rz fun s5 I5=>?_
 obtain ⟨e5,B5⟩:=b6u B (a4p f z fs')
 rw [e5] at I5
 exact ⟨σ,_,a3c I5 B5,q4⟩
theorem d0c {o e:Expr} {es:List Expr} {to:TE} {t:TA} {name:Str} {apos cpos:Pos} {T id:String} {r:V→List V→Hp→VK→Prop} (pa:PlainAttrs T) (slot:Slot T name id) (hty:typeOf (.builtin id)=pure (.type "method_descriptor")) (hm:MtR X id r) (ho:PE X o to) (ha:PA X (e :: es) t)
  (hbase:attributeBase o name X.env (eval o X.env)=eval o X.env)
  (hfew:((backTo cpos (starEach (e :: es) X.env)).all (fun x=>!x.1) && (backToKw cpos (keywordEach [] X.env)).all (fun x=>x.1.isSome) && decide ((e :: es).length + ([]:List Keyword).length + (if ([]:List Keyword).isEmpty then 0 else 1) < 30))=true)
  (hline:(apos.endLine == cpos.line)=true) (hs:starEach (e :: es) X.env=(false,eval e X.env) :: starEach es X.env) (hplain:(backTo cpos (starEach es X.env)).any (·.1)=false) :
  PE X (.Call (.Attribute o name apos) (e :: es) [] cpos) (fun σ H Q=>to σ H fun x H1=>(∃ a C dx fs gs,H1 a=some (.big C dx fs gs)∧(Big H1 a C dx fs gs→tyV X.K T x (opn H1 a C dx fs gs)))∧t σ H1 fun xs H2=>∃ a C dx fs gs,H2 a=some (.big C dx fs gs)∧(Big H2 a C dx fs gs→r x xs (opn H2 a C dx fs gs) fun v H3=>Cl a C dx (Q v) H3)):=by
 intro pins s σ H Q I h
 refine wpAny_Call_method_late hbase hfew hline rfl (thn (ho pins s σ H _ I h) fun v s1 ⟨x,H1,I1,r1,⟨a,C,dx,fs,gs,h1,ty⟩,q1⟩=>?_)
 obtain ⟨t1,t2⟩:=c3c (a2d I1 h1) r1 (ty (a3q I1 h1))
 refine ⟨T,id,pa,slot,hty,t1,t2,?_⟩
 have hA:=ha cpos pins s1 σ H1 _ I1 q1
 rw [hs] at hA ⊢
 refine Calls.callWith_builtin (by show (false || (backTo cpos (starEach es X.env)).any (·.1))=false; rw [hplain] <;> rfl) (Calls.evalArgs_plain ?_)
 exact thn hA fun us s2 ⟨vs,H2,I2,r2,a,C,dx,fs,gs,h2,q2⟩=>thn (hm pins s2 σ _ x vs v us _ (a2d I2 h2) r1 r2 (q2 (a3q I2 h2))) fun u s' h=>d1x h
variable {CX:CXT} {k:Nat} {g:Addr} {fd:FuncData} {ps:List Str} {sp:Sp} {m:Str} {apos:Pos} {e:Expr} {es:List Expr} {t:TA} {E:XK}
theorem c1d {pl:Sem Bool} (ho:PE X (.Name nx p) (c0c i)) (c:Cls X.K Ca) (hm:Meth X.K Ca m g) (F:FnOk X.prog X.w X.K X.mg X.base CX k g fd ps sp) (hr:Room k X.A) (hb:Binds X.K fd ps []) (hx:a5a CX X E) (ha:PA X (e :: es) t)
  (hst:starEach (e :: es) X.env=(false,eval e X.env) :: starEach es X.env) (hpl:(backTo pos (starEach es X.env)).any (·.1)=false)
  (ht:eval (.Call (.Attribute (.Name nx p) m apos) (e :: es) [] pos) X.env=(do
   let ov ← eval (.Name nx p) X.env
   standAt apos.atName
   let (f,first) ← holding [ov] (getMethod ov m pl)
   callWith pos f first (backTo pos (starEach (e :: es) X.env)) (backToKw pos (keywordEach [] X.env)))) :
  PE X (.Call (.Attribute (.Name nx p) m apos) (e :: es) [] pos) (fun σ H Q=>∃ a dx fs gs,σ[i]?=some (some (.ref a))∧H a=some (.big Ca dx fs gs)∧fs.lookup m=none∧t σ H fun vs H2=>sp (.ref a :: vs) H2 Q E):=by
 rintro pins s σ H Q I ⟨a,dx,fs,gs,e1,h,l,q⟩
 refine PySem.W.methodCall_KW (pl:=pl) (thn (ho pins s σ H (fun x H1=>x=.ref a∧H1=H) I ⟨_,e1,rfl,rfl⟩) fun u s1 ⟨x,H1,I1,rx,ex,eh⟩=>?_) ht
 subst ex; subst eh
 obtain rfl:u=Value.ref a:=rx
 refine a7t (a2d I1 h) a5u c hm l ?_
 refine PySem.W.callWith_K (first:=[.ref a]) (h₀:=X.base) I1.ok.mod.kin hm.kp (thn (ha pos pins s1 σ H1 _ I1 q) fun us s2 ⟨vs,H2,I2,r,q2⟩=>⟨I2.kIn,?_⟩) hst hpl
 exact b5o (us:=.ref a :: us) (vs:=.ref a :: vs) F hr hb .nil hx I2 (.cons rfl r) (by rw [List.append_nil]; exact q2)
theorem b6k {pl:Sem Bool} (ho:PE X (.Name nx p) (c0c i)) (c:Cls X.K Ca) (hm:Meth X.K Ca m g) (F:FnOk X.prog X.w X.K X.mg X.base CX k g fd ps sp) (hr:Room k X.A) (hb:Binds X.K fd ps []) (hx:a5a CX X E)
  (ht:eval (.Call (.Attribute (.Name nx p) m apos) [] [] pos) X.env=(do
   let ov ← eval (.Name nx p) X.env
   standAt apos.atName
   let (f,first) ← holding [ov] (getMethod ov m pl)
   callWith pos f first (backTo pos (starEach [] X.env)) (backToKw pos (keywordEach [] X.env)))) :
  PE X (.Call (.Attribute (.Name nx p) m apos) [] [] pos) (fun σ H Q=>∃ a dx fs gs,σ[i]?=some (some (.ref a))∧H a=some (.big Ca dx fs gs)∧fs.lookup m=none∧sp [.ref a] H Q E):=by
 rintro pins s σ H Q I ⟨a,dx,fs,gs,e1,h,l,q⟩
 refine PySem.W.methodCall_KW (pl:=pl) (thn (ho pins s σ H (fun x H1=>x=.ref a∧H1=H) I ⟨_,e1,rfl,rfl⟩) fun u s1 ⟨x,H1,I1,rx,ex,eh⟩=>?_) ht
 subst ex; subst eh
 obtain rfl:u=Value.ref a:=rx
 refine a7t (a2d I1 h) a5u c hm l ?_
 exact PySem.W.callWith_K0 (first:=[.ref a]) I1.kIn hm.kp (b5o (us:=[.ref a]) (vs:=[.ref a]) F hr hb .nil hx I1 (.cons rfl .nil) q)
theorem a9m {Q:VK} {us:List Value} {vs:List V} (M:Mk X.K Ca g) (F:FnOk X.prog X.w X.K X.mg X.base CX k g fd ps sp) (hr:RoomS k X.A) (hb:Binds X.K fd ps []) (hx:a5a CX X E) (I:Inv X pins σ H s) (r:Vals vs us)
  (h:∀ x dx,H x=none→H dx=none→dx≠x→sp (.ref x :: vs) (upd (upd H dx (.own x)) x (.big Ca dx [] [])) (fun v H2=>v=.non∧Q (.ref x) H2) E) :
  wpAny (model X.prog X.w) X.A (call (.ref Ca) us) (EP X pins σ Q) X.xe s:=by
 have f1:=I.hok.fresh (Nat.le_succ _)
 have f2:=I.hok.fresh (Γi _)
 have ne:s.heap.objs.size≠s.heap.objs.size + 1:=Γo (Nat.lt_succ_self _)
 have hq:=h (s.heap.objs.size + 1) s.heap.objs.size f1 f2 ne
 have B:Big (upd (upd H s.heap.objs.size (.own (s.heap.objs.size + 1))) (s.heap.objs.size + 1) (.big Ca s.heap.objs.size [] [])) (s.heap.objs.size + 1) Ca s.heap.objs.size [] []:=⟨a0d,by rw [a0b ne,a0d],fun g hg=>absurd hg List.not_mem_nil,by simp⟩
 have I2:=Inv.made (C:=Ca) I
 have e0:upd (upd H s.heap.objs.size (.own (s.heap.objs.size + 1))) (s.heap.objs.size + 1) (.ins Ca s.heap.objs.size [])=opn (upd (upd H s.heap.objs.size (.own (s.heap.objs.size + 1))) (s.heap.objs.size + 1) (.big Ca s.heap.objs.size [] [])) (s.heap.objs.size + 1) Ca s.heap.objs.size [] []:=by
  funext b
  unfold opn
  by_cases z:b=s.heap.objs.size + 1
  ·rw [z,a0d,if_pos rfl]
  ·rw [a0b z,if_neg z,a0b z]; rfl
 rw [e0] at I2
 have I2:=a3c I2 B
 have r2:Vals (V.ref (s.heap.objs.size + 1) :: vs) (Value.ref (s.heap.objs.size + 1) :: us):=.cons rfl r
 have hl:(Value.ref (s.heap.objs.size + 1) :: us++[]).length=ps.length:=by
  have e:=r2.length
  rw [F.len _ _ _ _ hq] at e
  rw [List.append_nil]; exact e.symm
 have hbb:=hb _ (Value.ref (s.heap.objs.size + 1) :: us) I2.kIn hl
 rw [List.append_nil] at hbb
 refine wpAny_call (c1q (f:=g) I.kIn M.makes M.init (beq_iff_eq.mp M.fn) (codeAny_mono (F.run _ X.stack _ _ ⟨Value.ref (s.heap.objs.size + 1) :: us,[]⟩ (Value.ref (s.heap.objs.size + 1) :: us) _ _ E (hr.make Ca us [])
  (I2.env0.make Ca us []) hbb r2 hq) fun r s' hq'=>?_))
 cases r with
 | error e=>exact hx pins σ _ _ e s' I2 hq'
 | ok fl =>
  cases fl with
  | ret u =>
   obtain ⟨v,H',I3,rv,ev,q3⟩:=I2.after hq'
   subst ev
   exact ⟨rv,⟨V.ref (s.heap.objs.size + 1),H',I3,rfl,q3⟩⟩
  | next=>exact False.elim hq'
  | brk=>exact False.elim hq'
  | cont=>exact False.elim hq'
variable {x:Str}
theorem c1e (M:Mk X.K Ca g) (F:FnOk X.prog X.w X.K X.mg X.base CX k g fd ps sp) (hr:RoomS k X.A) (hg:Gl X x) (hm:X.mg x=some (.ref Ca)) (hb:Binds X.K fd ps []) (hx:a5a CX X E)
  (ha:PA X (e :: es) t) (hdb:(x == ("__debug__":Str))=false) (he:starEach (e :: es) X.env=(false,eval e X.env) :: starEach es X.env) (hpl:(backTo pos (starEach es X.env)).any (·.1)=false) :
  PE X (.Call (.Name x p) (e :: es) [] pos) (fun σ H Q=>t σ H fun vs H1=>∀ x dx,H1 x=none→H1 dx=none→dx≠x→sp (.ref x :: vs) (upd (upd H1 dx (.own x)) x (.big Ca dx [] [])) (fun v H2=>v=.non∧Q (.ref x) H2) E):=by
 intro pins s σ H Q I h
 refine wpAny_Call_Name_kw (b1l I hg hm ?_ hdb)
 refine PySem.W.callWith_K (h₀:=X.base) I.ok.mod.kin M.kp (thn (ha pos pins s σ H _ I h) fun us s1 ⟨vs,H1,I1,r,q⟩=>⟨I1.kIn,?_⟩) he hpl
 exact a9m M F hr hb hx I1 r q
theorem b6l (M:Mk X.K Ca g) (F:FnOk X.prog X.w X.K X.mg X.base CX k g fd ps sp) (hr:RoomS k X.A) (hg:Gl X x) (hm:X.mg x=some (.ref Ca)) (hb:Binds X.K fd ps []) (hx:a5a CX X E)
  (hdb:(x == ("__debug__":Str))=false) :
  PE X (.Call (.Name x p) [] [] pos) (fun σ H Q=>∀ x dx,H x=none→H dx=none→dx≠x→sp [.ref x] (upd (upd H dx (.own x)) x (.big Ca dx [] [])) (fun v H2=>v=.non∧Q (.ref x) H2) E):=by
 intro pins s σ H Q I h
 refine wpAny_Call_Name_kw (b1l I hg hm ?_ hdb)
 exact PySem.W.callWith_K0 I.kIn M.kp (a9m (us:=[]) M F hr hb hx I .nil h)
end
noncomputable def vF:V→Option FV
 | .int i=>some (.int i)
 | .non=>some .non
 | _=>none
noncomputable def vI:FV→Option V
 | .int i=>some (.int i)
 | .non=>some .non
 | _=>none
noncomputable def c7c (Ca:Addr) (f:Str):FV→Option FV
 | .obj C _ fs _=>if C=Ca then (fs.lookup f).bind vF else none
 | _=>none
noncomputable def lsA (fs:List (Str×V)) (gs:List (Addr×List V)) (f:Str):Option (Addr×List V):=match fs.lookup f with
 | some (.ref l)=>(gs.lookup l).map fun ys=>(l,ys)
 | _=>none
noncomputable def lsF (Ca:Addr) (f:Str):FV→Option (List FV)
 | .obj C _ fs gs=>if C=Ca then (lsA fs gs f).bind fun p=>a3v vF p.2 else none
 | _=>none
noncomputable def c0i (Ca:Addr) (f:Str) (u:V):FV→Option FV
 | .obj C dx fs gs=>if C=Ca then (lsA fs gs f).bind fun p=>if p.2.length < big then some (.obj C dx fs (a6v gs p.1 (p.2++[u]))) else none else none
 | _=>none
noncomputable def c9e (Ca:Addr) (f:Str) (k:Int) (u:V):FV→Option FV
 | .obj C dx fs gs=>if C=Ca then (lsA fs gs f).bind fun p=>(ixN p.2.length k).map fun j=>.obj C dx fs (a6v gs p.1 (p.2.set j u)) else none
 | _=>none
noncomputable def c0e (Ca:Addr) (f:Str) (u:V):FV→Option FV
 | .obj C dx fs gs=>if C=Ca∧fs.length < 1000 then some (.obj C dx (a4p f u fs) gs) else none
 | _=>none
noncomputable def d2a (i:Nat) (Ca:Addr) (f:Str):EW:=fun L Q=>wp (lk L i) fun o=>wp (c7c Ca f o) fun z=>Q z L
noncomputable def a5c (i:Nat) (Ca:Addr) (f:Str) (F:FV→Option FV):EW:=fun L Q=>wp (lk L i) fun o=>wp (lsF Ca f o) fun xs=>wp (F (.lst xs)) fun z=>(∀ ps,z≠.lst ps)∧Q z L
noncomputable def a3w (i:Nat) (Ca:Addr) (f:Str) (e:EW):EW:=fun L Q=>wp (lk L i) fun o=>wp (lsF Ca f o) fun _=>e L fun v L1=>wp (vI v) fun u=>wp (lk L1 i) fun o1=>o1=o∧wp (c0i Ca f u o1) fun o2=>Q .non (L1.set i (some o2))
noncomputable def a8j (i:Nat) (Ca:Addr) (f:Str) (ek ev:EW):SW:=fun L Q=>wp (lk L i) fun o=>ev L fun v L1=>wp (vI v) fun u=>wp (lk L1 i) fun o1=>o1=o∧wp (lsF Ca f o1) fun _=>ek L1 fun w L2=>wp (a2n w) fun k=>wp (lk L2 i) fun o2=>o2=o∧wp (c9e Ca f k u o2) fun o3=>Q .next (L2.set i (some o3))
noncomputable def a3t (i:Nat) (Ca:Addr) (f:Str) (e:EW):SW:=fun L Q=>e L fun v L1=>wp (vI v) fun u=>wp (lk L1 i) fun o=>wp (c0e Ca f u o) fun o1=>Q .next (L1.set i (some o1))
noncomputable def a8k (i:Nat) (Ca:Addr) (f:Str) (g:Int→Int→Int) (e:EW):SW:=fun L Q=>wp (lk L i) fun o=>wp (c7c Ca f o) fun z=>e L fun w L1=>wp (lk L1 i) fun o1=>o1=o∧wp (a2n z) fun a=>wp (a2n w) fun b=>wp (c0e Ca f (.int (g a b)) o1) fun o2=>Q .next (L1.set i (some o2))
noncomputable def d3k (Ca:Addr) (f:Str) (Q:FV→Prop):FV→Prop
 | .obj C dx fs gs=>C=Ca∧fs.length < 1000∧∀ p,(∀ g∈gs,g.1≠p)→Q (.obj C dx (a4p f (.ref p) fs) ((p,[]) :: gs))
 | _=>False
noncomputable def a3s (i:Nat) (Ca:Addr) (f:Str):SW:=fun L Q=>wp (lk L i) fun o=>d3k Ca f (fun o1=>Q .next (L.set i (some o1))) o
noncomputable def isO (Ca:Addr) (m:Str):FV→Prop
 | .obj C _ fs _=>C=Ca∧fs.lookup m=none
 | _=>False
noncomputable def a2p (call:CW) (f i:Nat) (Ca:Addr) (m:Str) (as:AW):EW:=fun L Q=>wp (lk L i) fun o=>isO Ca m o∧a1f call f i as L Q
noncomputable def b1q (call:CW) (f:Nat) (Ca:Addr) (as:AW):EW:=fun L Q=>as L fun xs L1=>∀ dx,call f (.obj Ca dx [] [] :: xs) fun z=>z.1=.non∧Q z.2 L1
section
@[scoped simp ↓] theorem e0p (i:Nat) (Ca:Addr) (f:Str) (L:a0c) (Q:FV→a0c→Prop):d2a i Ca f L Q=(wp (lk L i) fun o=>wp (c7c Ca f o) fun z=>Q z L):=propext Iff.rfl
@[scoped simp ↓] theorem d4d (i:Nat) (Ca:Addr) (f:Str) (F:FV→Option FV) (L:a0c) (Q:FV→a0c→Prop):a5c i Ca f F L Q=(wp (lk L i) fun o=>wp (lsF Ca f o) fun xs=>wp (F (.lst xs)) fun z=>(∀ ps,z≠.lst ps)∧Q z L):=propext Iff.rfl
@[scoped simp ↓] theorem c8p (i:Nat) (Ca:Addr) (f:Str) (e:EW) (L:a0c) (Q:FV→a0c→Prop):a3w i Ca f e L Q=(wp (lk L i) fun o=>wp (lsF Ca f o) fun _=>e L fun v L1=>wp (vI v) fun u=>wp (lk L1 i) fun o1=>o1=o∧wp (c0i Ca f u o1) fun o2=>Q .non (L1.set i (some o2))):=propext Iff.rfl
@[scoped simp ↓] theorem c8h (i:Nat) (Ca:Addr) (f:Str) (ek ev:EW) (L:a0c) (Q:FFl→a0c→Prop):a8j i Ca f ek ev L Q=(wp (lk L i) fun o=>ev L fun v L1=>wp (vI v) fun u=>wp (lk L1 i) fun o1=>o1=o∧wp (lsF Ca f o1) fun _=>ek L1 fun w L2=>wp (a2n w) fun k=>wp (lk L2 i) fun o2=>o2=o∧wp (c9e Ca f k u o2) fun o3=>Q .next (L2.set i (some o3))):=propext Iff.rfl
@[scoped simp ↓] theorem c8j (i:Nat) (Ca:Addr) (f:Str) (e:EW) (L:a0c) (Q:FFl→a0c→Prop):a3t i Ca f e L Q=(e L fun v L1=>wp (vI v) fun u=>wp (lk L1 i) fun o=>wp (c0e Ca f u o) fun o1=>Q .next (L1.set i (some o1))):=propext Iff.rfl
@[scoped simp ↓] theorem c8k (i:Nat) (Ca:Addr) (f:Str) (g:Int→Int→Int) (e:EW) (L:a0c) (Q:FFl→a0c→Prop):a8k i Ca f g e L Q=(wp (lk L i) fun o=>wp (c7c Ca f o) fun z=>e L fun w L1=>wp (lk L1 i) fun o1=>o1=o∧wp (a2n z) fun a=>wp (a2n w) fun b=>wp (c0e Ca f (.int (g a b)) o1) fun o2=>Q .next (L1.set i (some o2))):=propext Iff.rfl
@[scoped simp ↓] theorem c8i (i:Nat) (Ca:Addr) (f:Str) (L:a0c) (Q:FFl→a0c→Prop):a3s i Ca f L Q=(wp (lk L i) fun o=>d3k Ca f (fun o1=>Q .next (L.set i (some o1))) o):=propext Iff.rfl
@[scoped simp ↓] theorem d1z (call:CW) (f i:Nat) (Ca:Addr) (m:Str) (as:AW) (L:a0c) (Q:FV→a0c→Prop):a2p call f i Ca m as L Q=(wp (lk L i) fun o=>isO Ca m o∧a1f call f i as L Q):=propext Iff.rfl
@[scoped simp ↓] theorem d4f (call:CW) (f:Nat) (Ca:Addr) (as:AW) (L:a0c) (Q:FV→a0c→Prop):b1q call f Ca as L Q=(as L fun xs L1=>∀ dx,call f (.obj Ca dx [] [] :: xs) fun z=>z.1=.non∧Q z.2 L1):=propext Iff.rfl
end
theorem ifd {α:Type} {c:Prop} [Decidable c] {a:Option α} {z:α} (h:(if c then a else none)=some z):c∧a=some z:=by
 by_cases y:c
 ·rw [if_pos y] at h; exact ⟨y,h⟩
 ·rw [if_neg y] at h; cases h
theorem RV.vF {K:Γd} {S:Hp} {v:V} {z:FV} (h:Kq.vF v=some z):RV K S z v:=by
 cases v <;> cases h <;> rfl
theorem RV.vI {K:Γd} {S:Hp} {z:FV} {u x:V} (h:Kq.vI z=some u) (r:RV K S z x):x=u:=by
 cases z <;> cases h
 ·exact r
 ·exact r
theorem RVs.vFs {K:Γd} {S:Hp}:∀ {vs:List V} {zs:List FV},a3v vF vs=some zs→RVs K S zs vs
 | [],zs,h=>by cases h; rfl
 | v :: vs,zs,h=>by
  obtain ⟨z,e1,h⟩:=bnd h
  obtain ⟨r,e2,rfl⟩:=mpd h
  exact ⟨v,vs,rfl,RV.vF e1,RVs.vFs e2⟩
section
variable {X:Cx} {C:CC} {n:Nat} {sp:Γd→Nat→Sp} {fr:Bool} {a b:Expr} {e ea eb:EW} {pos p px p2 apos:Pos} {i f:Nat} {nx fl:Str} {Ca:Addr}
variable {K:Γd} {c:Cn} {md:Md} {L:a0c} {σ:L2.St} {S H:Hp}
theorem Iv.obj (I:Iv K c md L σ S H) (m:a0i md i=.own) {C dx:Addr} {fs:List (Str×V)} {gs:List (Addr×List V)} (e:lk L i=some (.obj C dx fs gs)):∃ l,σ[i]?=some (some (.ref l))∧H l=some (.big C dx fs gs):=by
 obtain ⟨l,e1,⟨_,ps,xs,e2,h,_⟩,_⟩:=I.own i _ (fun z=>by rw [m] at z; cases z) ((a4i _ _ _).mp e)
 exact ⟨l,e1,h⟩
theorem Iv.wobj (I:Iv K c md L σ S H) (m:a0i md i=.own) {C dx C' dx':Addr} {fs fs':List (Str×V)} {gs gs':List (Addr×List V)} (e:lk L i=some (.obj C dx fs gs)) {l:Addr} (e1:σ[i]?=some (some (.ref l))):Iv K c md (L.set i (some (.obj C' dx' fs' gs'))) σ S (upd H l (.big C' dx' fs' gs')) :=
 I.writeV (w:=.obj C' dx' fs' gs') m ((a4i _ _ _).mp e) e1 rfl (xs:=[]) rfl
theorem fe_fld (G:Good X C n sp) (h:C.nm i nx=true) (m:a0i C.md i=.own) (hf:decide ((Ca,fl)∈C.fl)=true):FE X C (.Attribute (.Name nx p) fl pos) (d2a i Ca fl):=PE.imp (a3u (a0w G h)) fun σ H Q ⟨c,L,S,Q0,I,h,k⟩=>by
 obtain ⟨o,e,h⟩:=wpx h
 obtain ⟨z,e2,q⟩:=wpx h
 cases o with
 | obj C' dx fs gs =>
  obtain ⟨rfl,e3⟩:=ifd (show (if C'=Ca then (fs.lookup fl).bind vF else none)=some z from e2)
  obtain ⟨v,e4,e5⟩:=bnd e3
  obtain ⟨l,e1,hh⟩:=I.obj m e
  obtain ⟨g1,g2⟩:=G.fls _ (de hf)
  exact ⟨l,_,dx,fs,gs,v,e1,hh,g1,g2,e4,k z L q v S H (RV.vF e5) I (Same.refl S)⟩
 | _=>cases e2
theorem b7j {fs:List (Str×V)} {gs:List (Addr×List V)} {p:Addr×List V} (h:lsA fs gs fl=some p):fs.lookup fl=some (.ref p.1)∧gs.lookup p.1=some p.2:=by
 unfold lsA at h
 split at h
 ·rename_i l hl
  obtain ⟨ys,e3,rfl⟩:=mpd h
  exact ⟨hl,e3⟩
 ·cases h
theorem b2q {Ca:Addr} {o:FV} {xs:List FV} (h:lsF Ca fl o=some xs):∃ dx fs gs l ys,o=.obj Ca dx fs gs∧fs.lookup fl=some (.ref l)∧gs.lookup l=some ys∧a3v vF ys=some xs:=by
 cases o with
 | obj C' dx fs gs =>
  obtain ⟨y,h⟩:=ifd (show (if C'=Ca then (lsA fs gs fl).bind fun p=>a3v vF p.2 else none)=some xs from h)
  obtain ⟨p,e1,e2⟩:=bnd h
  obtain ⟨g1,g2⟩:=b7j e1
  exact ⟨dx,fs,gs,p.1,p.2,by rw [y],g1,g2,e2⟩
 | _=>cases h
theorem b1a {F:FV→Option FV} (G:Good X C n sp) (m:a0i C.md i=.own) (hf:decide ((Ca,fl)∈C.fl)=true) {σ:L2.St} {H:Hp} {Q:VK} (h:lv X.K C.md (a5c i Ca fl F) σ H Q):∃ a C dx fs gs v,σ[i]?=some (some (.ref a))∧H a=some (.big C dx fs gs)∧Cls X.K C∧NoAttr X.K C fl∧fs.lookup fl=some v∧∃ a C dx fs gs,H a=some (.big C dx fs gs)∧(Big H a C dx fs gs→Rc X.K F [v] (opn H a C dx fs gs) fun v H2=>Cl a C dx (Q v) H2):=by
 obtain ⟨c,L,S,Q0,I,h,k⟩:=h
 obtain ⟨o,e,h⟩:=wpx h
 obtain ⟨xs,e2,h⟩:=wpx h
 obtain ⟨z,e3,nl,q⟩:=wpx h
 obtain ⟨dx,fs,gs,l,ys,rfl,h1,h2,h3⟩:=b2q e2
 obtain ⟨a,e1,hh⟩:=I.obj m e
 obtain ⟨g1,g2⟩:=G.fls _ (de hf)
 refine ⟨a,_,dx,fs,gs,.ref l,e1,hh,g1,g2,h1,a,_,dx,fs,gs,hh,fun B=>?_⟩
 have hm:=a1u h2
 refine ⟨fun _=>none,.lst xs,.ref l,z,rfl,(fun _ _ e=>by cases e),.inr ⟨l,rfl,rfl,xs,ys,rfl,B.opl hm,RVs.vFs h3⟩,e3,⟨fun x _ r=>⟨H,fs,gs,rfl,B,k z L q x S H (r.mono (fun _ _ e=>by cases e)) I (Same.refl S)⟩,fun ps us p0 ez r hp=>?_,fun ps us p0 ez _ _=>absurd ez (nl ps)⟩⟩
 have hp:H p0=none:=by
  rcases a1l B p0 with y | ⟨zs,_,y,_⟩ | ⟨_,_,y⟩
  ·rw [y,a5u] at hp; cases hp
  ·rw [y] at hp; cases hp
  ·rw [← y]; exact hp
 obtain ⟨e5,B5⟩:=b6t B (.tup us) hp
 exact ⟨_,fs,gs,e5,B5,k z L q _ _ _ (by rw [ez]; exact ⟨p0,us,rfl,a0d,r.mono (fun _ _ e=>by cases e)⟩) (I.new hp _) (a0r (I.sn hp))⟩
theorem d1s (G:Good X C n sp) (hg:C.gl (Γe "len")=true) (h:C.nm i nx=true) (m:a0i C.md i=.own) (hf:decide ((Ca,fl)∈C.fl)=true):FE X C (.Call (.Name (Γe "len") p) [.Attribute (.Name nx px) fl apos] [] pos) (a5c i Ca fl a6a) :=
 PE.imp (a4h (c7s d2s) (G.gl hg) (G.blt "len" (by decide)) (by nofun) (a0n (a3u (a0w G h)) a1o (a0g rfl)) (by nofun) (by nofun) (a0g rfl) rfl) fun σ H Q h=>b1a G m hf h
theorem d1r (G:Good X C n sp) (hg:C.gl (Γe "sum")=true) (h:C.nm i nx=true) (m:a0i C.md i=.own) (hf:decide ((Ca,fl)∈C.fl)=true):FE X C (.Call (.Name (Γe "sum") p) [.Attribute (.Name nx px) fl apos] [] pos) (a5c i Ca fl b0x) :=
 PE.imp (a4h (c7s (c4d G.calm)) (G.gl hg) (G.blt "sum" (by decide)) (by nofun) (a0n (a3u (a0w G h)) a1o (a0g rfl)) (by nofun) (by nofun) (a0g rfl) rfl) fun σ H Q h=>b1a G m hf h
theorem d1q (G:Good X C n sp) (hg:C.gl (Γe "tuple")=true) (h:C.nm i nx=true) (m:a0i C.md i=.own) (hf:decide ((Ca,fl)∈C.fl)=true):FE X C (.Call (.Name (Γe "tuple") p) [.Attribute (.Name nx px) fl apos] [] pos) (a5c i Ca fl a2g) :=
 PE.imp (a9s (c7s b9v) (G.gl hg) (G.blt "tuple" (by decide)) (by nofun) (a0n (a3u (a0w G h)) a1o (a0g rfl)) (by nofun) (by nofun) (a0g rfl) rfl) fun σ H Q h=>b1a G m hf h
end
section
variable {X:Cx} {C:CC} {n:Nat} {sp:Γd→Nat→Sp} {fr:Bool} {a b:Expr} {e ea eb:EW} {pos p px p2 apos cpos:Pos} {i k:Nat} {nx fl:Str} {Ca:Addr} {xs:List Expr} {as:AW} {call:CW} {m cn:Str}
variable {K:Γd} {c:Cn} {md:Md} {L:a0c} {σ:L2.St} {S H:Hp}
theorem c8c {u:V} {o o2:FV} (h:c0i Ca fl u o=some o2):∃ dx fs gs l ys,o=.obj Ca dx fs gs∧fs.lookup fl=some (.ref l)∧gs.lookup l=some ys∧ys.length < big∧o2=.obj Ca dx fs (a6v gs l (ys++[u])):=by
 cases o with
 | obj C' dx fs gs =>
  obtain ⟨y,h⟩:=ifd (show (if C'=Ca then (lsA fs gs fl).bind fun p=>if p.2.length < big then some (FV.obj C' dx fs (a6v gs p.1 (p.2++[u]))) else none else none)=some o2 from h)
  obtain ⟨p,e1,e2⟩:=bnd h
  obtain ⟨g1,g2⟩:=b7j e1
  obtain ⟨hl,rfl⟩:=itd e2
  subst y
  exact ⟨dx,fs,gs,p.1,p.2,rfl,g1,g2,hl,rfl⟩
 | _=>cases h
theorem c4u {u:V} {j:Int} {o o2:FV} (h:c9e Ca fl j u o=some o2):∃ dx fs gs l ys q,o=.obj Ca dx fs gs∧fs.lookup fl=some (.ref l)∧gs.lookup l=some ys∧ixN ys.length j=some q∧o2=.obj Ca dx fs (a6v gs l (ys.set q u)):=by
 cases o with
 | obj C' dx fs gs =>
  obtain ⟨y,h⟩:=ifd (show (if C'=Ca then (lsA fs gs fl).bind fun p=>(ixN p.2.length j).map fun q=>FV.obj C' dx fs (a6v gs p.1 (p.2.set q u)) else none)=some o2 from h)
  obtain ⟨p,e1,e2⟩:=bnd h
  obtain ⟨g1,g2⟩:=b7j e1
  obtain ⟨q,hq,rfl⟩:=mpd e2
  subst y
  exact ⟨dx,fs,gs,p.1,p.2,q,rfl,g1,g2,hq,rfl⟩
 | _=>cases h
theorem b5z {u:V} {o o2:FV} (h:c0e Ca fl u o=some o2):∃ dx fs gs,o=.obj Ca dx fs gs∧fs.length < 1000∧o2=.obj Ca dx (a4p fl u fs) gs:=by
 cases o with
 | obj C' dx fs gs =>
  obtain ⟨⟨y,hl⟩,rfl⟩:=itd (show (if C'=Ca∧fs.length < 1000 then some (FV.obj C' dx (a4p fl u fs) gs) else none)=some o2 from h)
  subst y
  exact ⟨dx,fs,gs,rfl,hl,rfl⟩
 | _=>cases h
theorem d1t (G:Good X C n sp) (h:C.nm i nx=true) (mo:a0i C.md i=.own) (hf:decide ((Ca,fl)∈C.fl)=true) (hl:c7u apos cpos=true) (hs:a0l a=false) (ha:FE X C a ea):FE X C (.Call (.Attribute (.Attribute (.Name nx p) fl p2) (Γe "append") apos) [a] [] cpos) (a3w i Ca fl ea):=by
 refine PE.imp (d0c PySem.F.plainAttrs_list PySem.F.slot_list_append PySem.F.type_list_append a5v (a3u (a0w G h)) (a0n ha a1o (a0g hs)) rfl (by rw [a0g hs]; rfl) hl (a0g hs) rfl) fun σ H Q ⟨c,L,S,Q0,I,h,k⟩=>?_
 obtain ⟨o,e,h⟩:=wpx h
 obtain ⟨xs,e2,h⟩:=wpx h
 obtain ⟨dx,fs,gs,l,ys,rfl,h1,h2,h3⟩:=b2q e2
 obtain ⟨g1,g2⟩:=G.fls _ (de hf)
 obtain ⟨a,e1,hh⟩:=I.obj mo e
 refine ⟨a,_,dx,fs,gs,.ref l,e1,hh,g1,g2,h1,⟨a,_,dx,fs,gs,hh,fun B=>.inl ⟨rfl,ys,SqL.of (B.opl (a1u h2))⟩⟩,c,L,S,_,I,h,fun v L1 q x S1 H1 r1 I1 s1=>?_⟩
 obtain ⟨u,e3,q⟩:=wpx q
 obtain ⟨o1,e4,rfl,q⟩:=wpx q
 obtain ⟨o2,e5,q⟩:=wpx q
 obtain ⟨dx',fs',gs',l',ys',ee,h4,h5,hb,rfl⟩:=c8c e5
 cases ee
 rw [h1] at h4; cases h4
 obtain ⟨a',e1',hh'⟩:=I1.obj mo e4
 rw [e1] at e1'; cases e1'
 cases RV.vI e3 r1
 refine ⟨a,_,_,_,_,hh',fun B=>?_⟩
 have hm:=a1u h5
 have:=a1i
 obtain ⟨e6,B6⟩:=b6s B (ys'++[x]) hm
 exact ⟨l,ys',x,rfl,rfl,B.opl hm,by lia,_,_,_,e6,B6,k .non _ q .non S1 _ rfl (I1.wobj mo e4 e1) s1⟩
theorem d1j (G:Good X C n sp) (h:C.nm i nx=true) (mo:a0i C.md i=.own) (hf:decide ((Ca,fl)∈C.fl)=true) (hc:(!a4w a && !a3b b)=true) (ha:FE X C a ea) (hb:FE X C b eb):FS X C fr (.Assign [.Subscript (.Attribute (.Name nx p) fl p2) b px] a pos) (a8j i Ca fl eb ea):=by
 have hc:=b2 hc
 refine PS.imp (b2k (X:=X.nox) ha (c3l (a3u (a0w G h)) hb (d5t b2e) (b2d (nb hc.2))) (by simp only [swapsWithSole]; exact a2h (nb hc.1)) rfl rfl) fun D σ H ⟨c,L,S,Q0,I,h,k⟩=>?_
 obtain ⟨o,e,h⟩:=wpx h
 obtain ⟨g1,g2⟩:=G.fls _ (de hf)
 refine ⟨c,L,S,_,I,h,fun v L1 q x S1 H1 r1 I1 s1=>?_⟩
 obtain ⟨u,e3,q⟩:=wpx q
 obtain ⟨o1,e4,rfl,q⟩:=wpx q
 obtain ⟨xs,e5,q⟩:=wpx q
 obtain ⟨dx,fs,gs,l,ys,rfl,h1,h2,h3⟩:=b2q e5
 obtain ⟨a,e1,hh⟩:=I1.obj mo e4
 cases RV.vI e3 r1
 refine ⟨a,_,dx,fs,gs,.ref l,e1,hh,g1,g2,h1,c,L1,S1,_,I1,q,fun w L2 q y S2 H2 r2 I2 s2=>?_⟩
 obtain ⟨j,e6,qa⟩:=wpx q
 obtain ⟨o2,e7,rfl,qb⟩:=wpx qa
 obtain ⟨o3,e8,qc⟩:=wpx qb
 have e6:=a0v e6
 rw [e6] at r2
 obtain rfl:y=.int j:=r2
 obtain ⟨dx',fs',gs',l',ys',jj,ee,h4,h5,hq,rfl⟩:=c4u e8
 cases ee
 rw [h1] at h4; cases h4
 obtain ⟨a',e1',hh'⟩:=I2.obj mo e7
 rw [e1] at e1'; cases e1'
 refine ⟨a,_,_,_,_,hh',fun B=>?_⟩
 have hm:=a1u h5
 obtain ⟨e9,B9⟩:=b6s B (ys'.set jj x) hm
 exact ⟨l,ys',j,jj,rfl,rfl,B.opl hm,hq,_,_,_,e9,B9,k .next _ qc σ S2 _ (I2.wobj mo e7 e1) (s1.trans s2)⟩
theorem d1l (G:Good X C n sp) (h:C.nm i nx=true) (mo:a0i C.md i=.own) (hf:decide ((Ca,fl)∈C.fl)=true) (hc:a4w a=false) (ha:FE X C a ea):FS X C fr (.Assign [.Attribute (.Name nx p) fl px] a pos) (a3t i Ca fl ea):=by
 refine PS.imp (b6d (a0w G h) ha (a2h hc)) fun D σ H ⟨c,L,S,Q0,I,h,k⟩=>⟨c,L,S,_,I,h,fun v L1 q x S1 H1 r1 I1 s1=>?_⟩
 obtain ⟨u,e3,q⟩:=wpx q
 obtain ⟨o,e4,q⟩:=wpx q
 obtain ⟨o2,e5,q⟩:=wpx q
 obtain ⟨dx,fs,gs,rfl,hl,rfl⟩:=b5z e5
 obtain ⟨g1,g2⟩:=G.fls _ (de hf)
 obtain ⟨a,e1,hh⟩:=I1.obj mo e4
 cases RV.vI e3 r1
 refine ⟨a,_,dx,fs,gs,e1,hh,g1,g2,hl,fun B=>?_⟩
 obtain ⟨e6,B6⟩:=b6u B (a4p fl x fs)
 exact ⟨_,_,_,e6,B6,k .next _ q σ S1 _ (I1.wobj mo e4 e1) s1⟩
theorem d1m (G:Good X C n sp) (h:C.nm i nx=true) (mo:a0i C.md i=.own) (hf:decide ((Ca,fl)∈C.fl)=true) (ha:FE X C a ea):FS X C fr (.AugAssign (.Attribute (.Name nx p) fl px) .Add a pos) (a8k i Ca fl (fun i j=>i + j) ea):=by
 refine PS.imp (c5j (a0w G h) ha (d1h (X:=X.nox))) fun D σ H ⟨c,L,S,Q0,I,h,k⟩=>?_
 obtain ⟨o,e,h⟩:=wpx h
 obtain ⟨z,e2,h⟩:=wpx h
 cases o with
 | obj C' dx fs gs =>
  obtain ⟨rfl,e3⟩:=ifd (show (if C'=Ca then (fs.lookup fl).bind vF else none)=some z from e2)
  obtain ⟨v,e4,e5⟩:=bnd e3
  obtain ⟨l,e1,hh⟩:=I.obj mo e
  obtain ⟨g1,g2⟩:=G.fls _ (de hf)
  refine ⟨l,_,dx,fs,gs,v,e1,hh,g1,g2,e4,c,L,S,_,I,h,fun w L1 q y S1 H1 r1 I1 s1=>?_⟩
  obtain ⟨o1,e6,rfl,q⟩:=wpx q
  obtain ⟨a,e7,qa⟩:=wpx q
  obtain ⟨b,e8,qb⟩:=wpx qa
  obtain ⟨o2,e9,qc⟩:=wpx qb
  have e7:=a0v e7
  have e8:=a0v e8
  rw [e7] at e5
  rw [e8] at r1
  obtain ⟨dx',fs',gs',ee,hl,rfl⟩:=b5z e9
  cases ee
  obtain rfl:v=.int a:=by cases v <;> cases e5; rfl
  obtain rfl:y=.int b:=r1
  obtain ⟨l',e1',hh'⟩:=I1.obj mo e6
  rw [e1] at e1'; cases e1'
  exact ⟨a,b,rfl,rfl,_,_,hh',hl,k .next _ qc σ S1 _ (I1.wobj mo e6 e1) s1⟩
 | _=>cases e2
theorem d1k (G:Good X C n sp) (h:C.nm i nx=true) (mo:a0i C.md i=.own) (hf:decide ((Ca,fl)∈C.fl)=true):FS X C fr (.Assign [.Attribute (.Name nx p) fl px] (.List [] p2) pos) (a3s i Ca fl):=by
 refine PS.imp (b6d (a0w G h) (b6m a1o) (a2h rfl)) fun D σ H ⟨c,L,S,Q0,I,h,k⟩=>?_
 obtain ⟨o,e,h⟩:=wpx h
 cases o with
 | obj C' dx fs gs =>
  obtain ⟨rfl,hl,q⟩:=h
  obtain ⟨g1,g2⟩:=G.fls _ (de hf)
  obtain ⟨a,e1,hh⟩:=I.obj mo e
  refine ⟨Nat.zero_le _,fun p0 hp=>?_⟩
  have na:a≠p0:=fun z=>by rw [z,hp] at hh; cases hh
  refine ⟨a,_,dx,fs,gs,e1,by rw [a0b na]; exact hh,g1,g2,hl,fun B=>?_⟩
  have B0:Big H a C' dx fs gs:=by
   have nn:∀ {b u},upd H p0 (.lst []) b=some u→(∀ ys,u≠.lst ys)→H b=some u:=fun {b u} e n=>by
    by_cases z:b=p0
    ·rw [z,a0d] at e; cases e; exact absurd rfl (n [])
    ·rwa [a0b z] at e
   exact ⟨hh,nn B.dxo (fun _ z=>nomatch z),fun g hg=>nn (B.gso g hg) (fun _ z=>nomatch z),B.nd⟩
  rw [← (b6t B0 (.lst []) hp).1]
  obtain ⟨e6,B6⟩:=c5y B0 hp (a4p fl (.ref p0) fs) []
  have hg:∀ g∈gs,g.1≠p0:=fun g hg z=>by have:=B0.gso g hg; rw [z,hp] at this; cases this
  exact ⟨_,_,_,e6,B6,k .next _ (q p0 hg) σ S _ ((I.lay hp _).wobj mo e e1) (Same.refl S)⟩
 | _=>exact h.elim
theorem a9w {env : Env} {es : List Expr} (hl : (apos.endLine == pos.line) = true) (hf : methodCallForm (es.length + ([] : List Keyword).length) (backTo pos (starEach es env)) (backToKw pos (keywordEach [] env)) = true) : ∃ pl : Sem Bool, eval (.Call (.Attribute (.Name nx p) m apos) es [] pos) env = (do
      let ov ← eval (.Name nx p) env
      standAt apos.atName
      let (f, first) ← holding [ov] (getMethod ov m pl)
      callWith pos f first (backTo pos (starEach es env)) (backToKw pos (keywordEach [] env))) := by
  refine ⟨(do
      let x ← importBound (Expr.Name nx p) env
      pure (x.getD true)), ?_⟩
  rw [arm_eval_Call]
  show (do
      let ov ← attributeBase (Expr.Name nx p) m env (eval (Expr.Name nx p) env)
      standAt apos.atName
      methodCall (Expr.Name nx p) m apos pos env ov (es.length + ([] : List Keyword).length) (backTo pos (starEach es env)) (backToKw pos (keywordEach [] env))) = _
  unfold methodCall
  rw [hf]
  unfold methodCallPos calleeOf
  rw [show (!true || apos.endLine == pos.line) = true from hl]
  rfl
theorem b8k:∀ {xs:List Expr} {env:Env},a1e xs=true→(backTo pos (starEach xs env)).all (fun x=>!x.1)=true
 | [],_,_=>rfl
 | x :: xs,env,h=>by
  have h:=b2 (show (!a0l x && a1e xs)=true from h)
  rw [a0g (nb h.1)]
  show (true && (backTo pos (starEach xs env)).all (fun x=>!x.1))=true
  rw [b8k h.2]; rfl
theorem c2e {xs:List Expr} {env:Env} (h:a1e xs=true) (hl:decide (xs.length < 30)=true):methodCallForm (xs.length + ([]:List Keyword).length) (backTo pos (starEach xs env)) (backToKw pos (keywordEach [] env))=true:=by
 unfold methodCallForm
 rw [b8k h]
 show (true && true && decide (xs.length + 0 + 0 < 30))=true
 exact hl
theorem c7e {a:Expr} {xs:List Expr} (G:Good X C n sp) (he:sp X.K (C.fns.length + k)=spQ X.K call true false (C.fns.length + k)) (hk:C.ms[k]?=some (cn,Ca,m)) (hm:(m == ("__init__":Str))=false) (h:C.nm i nx=true) (mo:a0i C.md i=.own) (hl:c7u apos pos=true) (hs:a1e (a :: xs)=true) (hn:decide ((a :: xs).length < 30)=true) (ha:FA X C (a :: xs) as):FE X C (.Call (.Attribute (.Name nx p) m apos) (a :: xs) [] pos) (a2p call (C.fns.length + k) i Ca m as):=by
 obtain ⟨fa,fd,ps,h1,h2,_,h4,h5,h6⟩:=G.mts k cn Ca m hk
 have hs':=b2 (show (!a0l a && a1e xs)=true from hs)
 obtain ⟨pl,hev⟩:=a9w (nx:=nx) (p:=p) (m:=m) (env:=X.env) hl (c2e (pos:=pos) hs hn)
 refine PE.imp (c1d (X:=X.nox) (a0w G h) h2 (h4 fun z=>by rw [z] at hm; simp at hm) h6 G.room.toRoom h5 b6q ha (a0g (nb hs'.1)) (a5h hs'.2) hev) fun σ H Q ⟨c,L,S,Q0,I,h,kk⟩=>?_
 obtain ⟨o,e,ho,hc9⟩:=wpx h
 cases o with
 | obj C' dx fs gs =>
  obtain ⟨rfl,hl⟩:=ho
  obtain ⟨l,e1,hh⟩:=I.obj mo e
  have:=a9f (fr:=false) (Q:=Q) I mo hc9 fun v L' x H1 S' H' q r I' s' _=>kk v L' q x S' H' r I' s'
  obtain ⟨x,e2,q⟩:=this
  rw [e1] at e2; cases e2
  refine ⟨l,dx,fs,gs,e1,hh,hl,?_⟩
  rw [he]
  exact q
 | _=>exact ho.elim
theorem c2g (G:Good X C n sp) (he:sp X.K (C.fns.length + k)=spQ X.K call true false (C.fns.length + k)) (hk:C.ms[k]?=some (cn,Ca,m)) (hm:(m == ("__init__":Str))=false) (h:C.nm i nx=true) (mo:a0i C.md i=.own) (hl:c7u apos pos=true):FE X C (.Call (.Attribute (.Name nx p) m apos) [] [] pos) (a2p call (C.fns.length + k) i Ca m a0p):=by
 obtain ⟨fa,fd,ps,h1,h2,_,h4,h5,h6⟩:=G.mts k cn Ca m hk
 obtain ⟨pl,hev⟩:=a9w (nx:=nx) (p:=p) (m:=m) (env:=X.env) (es:=[]) hl rfl
 refine PE.imp (b6k (X:=X.nox) (a0w G h) h2 (h4 fun z=>by rw [z] at hm; simp at hm) h6 G.room.toRoom h5 b6q hev) fun σ H Q ⟨c,L,S,Q0,I,h,kk⟩=>?_
 obtain ⟨o,e,ho,hc9⟩:=wpx h
 cases o with
 | obj C' dx fs gs =>
  obtain ⟨rfl,hl⟩:=ho
  obtain ⟨l,e1,hh⟩:=I.obj mo e
  refine ⟨l,dx,fs,gs,e1,hh,hl,?_⟩
  rw [he]
  have:=a9f (fr:=false) (Q:=Q) I mo hc9 fun v L' x H1 S' H' q r I' s' _=>kk v L' q x S' H' r I' s'
  obtain ⟨x,e2,c2,L2,S2,Q2,I2,h2,k2⟩:=this
  rw [e1] at e2; cases e2
  exact k2 [] L2 h2 [] S2 H rfl I2 (Same.refl S2)
 | _=>exact ho.elim
theorem b7f {Q:VK} {f:Nat} {Q1:FV→a0c→Prop} (I:Iv K c md L σ S H) {vs:List FV} {us:List V} (r:RVs K S vs us) (h:∀ dx,call f (.obj Ca dx [] [] :: vs) fun z=>z.1=.non∧Q1 z.2 L)
  (k:∀ v,Q1 v L→∀ a S' H',a2x K S' H' a v→a7j c md L σ a→Iv K c md L σ S' H'→Same S S'→Q (.ref a) H'):∀ x dx,H x=none→H dx=none→dx≠x→spQ K call true false f (.ref x :: us) (upd (upd H dx (.own x)) x (.big Ca dx [] [])) (fun v H2=>v=.non∧Q (.ref x) H2) E0:=by
 intro x dx hx hd ne
 have hx1:upd H dx (.own x) x=none:=by rw [a0b (Ne.symm ne)]; exact hx
 have I1:=(I.lay hd (.own x)).lay hx1 (.big Ca dx [] [])
 refine ⟨S,.obj Ca dx [] [] :: vs,_,I1.sub,⟨_,vs,x,us,rfl,rfl,⟨I.sn hx,[],[],rfl,a0d,rfl⟩,r⟩,h dx,fun z q y S' H' kp r=>?_⟩
 obtain ⟨e1,q⟩:=q
 have r:RV K S' z.1 y:=r
 rw [e1] at r
 refine ⟨r,?_⟩
 have fx:=I.fresh hx
 have old:∀ {b u},H b=some u→b≠x∧b≠dx:=fun {b u} e=>⟨(fun z=>by rw [z,hx] at e; cases e),(fun z=>by rw [z,hd] at e; cases e)⟩
 have I2:Iv K c md L σ S' H':=I.go3 kp.same kp.sub (fun a o e=>?_) fun a o e=>?_
 ·exact k z.2 q x S' H' (kp.back x rfl) fx I2 kp.same
 ·rcases kp.grow a o e with y | y | y
  ·exact .inl y
  ·refine .inr (.inl ?_)
   by_cases z1:a=x
   ·rw [z1]; exact hx
   ·rw [a0b z1] at y
    by_cases z2:a=dx
    ·rw [z2]; exact hd
    ·rwa [a0b z2] at y
  ·exact .inr (.inr y)
 ·obtain ⟨n1,n2⟩:=old e
  exact kp.keep a o (by rw [a0b n1,a0b n2]; exact e) fun z=>n1 (by cases z; rfl)
theorem c7d {a:Expr} {xs:List Expr} (G:Good X C n sp) (he:sp X.K (C.fns.length + k)=spQ X.K call true false (C.fns.length + k)) (hk:C.ms[k]?=some (cn,Ca,("__init__":Str))) (hg:C.gl cn=true) (hd:(cn == ("__debug__":Str))=false) (hs:a1e (a :: xs)=true) (ha:FA X C (a :: xs) as):FF X C (.Call (.Name cn p) (a :: xs) [] pos) (b1q call (C.fns.length + k) Ca as):=by
 obtain ⟨fa,fd,ps,h1,h2,h3,h4,h5,h6⟩:=G.mts k cn Ca _ hk
 have hs':=b2 (show (!a0l a && a1e xs)=true from hs)
 refine PE.imp (c1e (X:=X.nox) (h3 rfl) h6 G.room (G.gl hg) h1 h5 b6q ha hd (a0g (nb hs'.1)) (a5h hs'.2)) fun σ H Q ⟨c,L,S,Q0,I,h,kk⟩=>⟨c,L,S,_,I,h,fun vs L1 q us S1 H1 r1 I1 s1=>?_⟩
 rw [he]
 exact b7f I1 r1 q fun v qv a S' H' o fr I' s'=>kk v L1 qv a S' H' o fr I' (s1.trans s')
theorem c2f (G:Good X C n sp) (he:sp X.K (C.fns.length + k)=spQ X.K call true false (C.fns.length + k)) (hk:C.ms[k]?=some (cn,Ca,("__init__":Str))) (hg:C.gl cn=true) (hd:(cn == ("__debug__":Str))=false):FF X C (.Call (.Name cn p) [] [] pos) (b1q call (C.fns.length + k) Ca a0p):=by
 obtain ⟨fa,fd,ps,h1,h2,h3,h4,h5,h6⟩:=G.mts k cn Ca _ hk
 refine PE.imp (b6l (X:=X.nox) (h3 rfl) h6 G.room (G.gl hg) h1 h5 b6q hd) fun σ H Q ⟨c,L,S,Q0,I,h,kk⟩=>?_
 rw [he]
 exact b7f I (vs:=[]) (us:=[]) rfl h fun v qv a S' H' o fr I' s'=>kk v L qv a S' H' o fr I' s'
end
section
variable {X:Cx} {C:CC} {n:Nat} {sp:Γd→Nat→Sp} {pos p apos:Pos} {i f:Nat} {nx:Str} {Ca:Addr} {a:Expr} {xs:List Expr} {as:AW} {call:CW} {m cn:Str}
theorem d3z (G:Good X C n sp) (hle:decide (C.fns.length≤f)=true) (he:sp X.K f=spQ X.K call true false f) (hk:(C.ms[f - C.fns.length]?).map (·.2)=some (Ca,m)) (hm:(m == ("__init__":Str))=false) (h:C.nm i nx=true) (mo:a0i C.md i=.own) (hl:c7u apos pos=true) (hs:(a1e (a :: xs) && decide ((a :: xs).length < 30))=true) (ha:FA X C (a :: xs) as):FE X C (.Call (.Attribute (.Name nx p) m apos) (a :: xs) [] pos) (a2p call f i Ca m as):=by
 have e:C.fns.length + (f - C.fns.length)=f:=by have:=de hle; lia
 obtain ⟨⟨cn,q2⟩,hk,rfl⟩:=mpd hk
 have:=c7e (call:=call) (p:=p) G (k:=f - C.fns.length) (by rw [e]; exact he) hk hm h mo hl (b2 hs).1 (b2 hs).2 ha
 rwa [e] at this
theorem d1u (G:Good X C n sp) (hle:decide (C.fns.length≤f)=true) (he:sp X.K f=spQ X.K call true false f) (hk:(C.ms[f - C.fns.length]?).map (·.2)=some (Ca,m)) (hm:(m == ("__init__":Str))=false) (h:C.nm i nx=true) (mo:a0i C.md i=.own) (hl:c7u apos pos=true):FE X C (.Call (.Attribute (.Name nx p) m apos) [] [] pos) (a2p call f i Ca m a0p):=by
 have e:C.fns.length + (f - C.fns.length)=f:=by have:=de hle; lia
 obtain ⟨⟨cn,q2⟩,hk,rfl⟩:=mpd hk
 have:=c2g (call:=call) (p:=p) G (k:=f - C.fns.length) (by rw [e]; exact he) hk hm h mo hl
 rwa [e] at this
theorem d3v (G:Good X C n sp) (hle:decide (C.fns.length≤f)=true) (he:sp X.K f=spQ X.K call true false f) (hk:C.ms[f - C.fns.length]?=some (cn,Ca,("__init__":Str))) (hg:C.gl cn=true) (hd:(cn == ("__debug__":Str))=false) (hs:a1e (a :: xs)=true) (ha:FA X C (a :: xs) as):FF X C (.Call (.Name cn p) (a :: xs) [] pos) (b1q call f Ca as):=by
 have e:C.fns.length + (f - C.fns.length)=f:=by have:=de hle; lia
 have:=c7d (call:=call) (p:=p) (pos:=pos) G (k:=f - C.fns.length) (by rw [e]; exact he) hk hg hd hs ha
 rwa [e] at this
theorem d1o (G:Good X C n sp) (hle:decide (C.fns.length≤f)=true) (he:sp X.K f=spQ X.K call true false f) (hk:C.ms[f - C.fns.length]?=some (cn,Ca,("__init__":Str))) (hg:C.gl cn=true) (hd:(cn == ("__debug__":Str))=false):FF X C (.Call (.Name cn p) [] [] pos) (b1q call f Ca a0p):=by
 have e:C.fns.length + (f - C.fns.length)=f:=by have:=de hle; lia
 have:=c2f (call:=call) (p:=p) (pos:=pos) G (k:=f - C.fns.length) (by rw [e]; exact he) hk hg hd
 rwa [e] at this
end
noncomputable def d6a:SW:=fun _ _=>False
noncomputable def c7w (i:Nat) (Ca:Addr) (f:Str):BW:=fun L Q=>wp (lk L i) fun o=>wp (lsF Ca f o) fun xs=>Q (!xs.isEmpty) L
@[scoped simp ↓] theorem d5z (L:a0c) (Q:FFl→a0c→Prop):d6a L Q=False:=rfl
@[scoped simp ↓] theorem d4s (i:Nat) (Ca:Addr) (f:Str) (L:a0c) (Q:Bool→a0c→Prop):c7w i Ca f L Q=(wp (lk L i) fun o=>wp (lsF Ca f o) fun xs=>Q (!xs.isEmpty) L):=propext Iff.rfl
section
variable {X:Cx} {C:CC} {n:Nat} {sp:Γd→Nat→Sp} {fr:Bool} {i:Nat} {nx fl:Str} {p pos:Pos} {Ca:Addr} {a:Expr} {ta:TE}
theorem fs_nev {st:Stmt}:FS X C fr st d6a:=fun pins s σ H D I ⟨c,L,S,Q0,_,h,_⟩=>h.elim
theorem b6c (ha:PE X a ta) (he:∀ whole,isTrue a X.env whole=(do let v ← whole; standAt a.pos; holding [v] (truthy v))) :
  PT X a (fun σ H Q=>ta σ H fun x H1=>∃ b C dx fs gs,H1 b=some (.big C dx fs gs)∧(Big H1 b C dx fs gs→∃ k,d2x X.K x (opn H1 b C dx fs gs) k∧Q k H1)):=by
 intro pins s σ H Q I h
 refine isTrue_plain (thn (ha pins s σ H _ I h) fun v s1 ⟨x,H1,I1,r1,b,C,dx,fs,gs,hb,q1⟩=>?_) (he _)
 have B:=a3q I1 hb
 obtain ⟨k,t,q⟩:=q1 B
 exact thn (b5g pins s1 σ _ x v (fun k' H2=>k'=k∧H2=opn H1 b C dx fs gs) (a2d I1 hb) r1 ⟨k,t,rfl,rfl⟩) fun k' s' ⟨H2,I2,e1,e2⟩=>⟨H1,a3c (e2 ▸ I2) B,e1 ▸ q⟩
theorem e0a (G:Good X C n sp) (h:C.nm i nx=true) (m:a0i C.md i=.own) (hf:decide ((Ca,fl)∈C.fl)=true):FB X C (.Attribute (.Name nx p) fl pos) (c7w i Ca fl):=PT.imp (b6c (a3u (a0w G h)) (fun _=>rfl)) fun σ H Q ⟨c,L,S,Q0,I,h,k⟩=>by
 obtain ⟨o,e,h⟩:=wpx h
 obtain ⟨xs,e2,q⟩:=wpx h
 obtain ⟨dx,fs,gs,l,ys,rfl,h1,h2,h3⟩:=b2q e2
 obtain ⟨a,e1,hh⟩:=I.obj m e
 obtain ⟨g1,g2⟩:=G.fls _ (de hf)
 refine ⟨a,_,dx,fs,gs,.ref l,e1,hh,g1,g2,h1,a,_,dx,fs,gs,hh,fun B=>?_⟩
 have hm:=a1u h2
 refine ⟨!ys.isEmpty,.inl ⟨ys,SqL.of (B.opl hm),rfl⟩,?_⟩
 have el:=a8t h3
 have e0:ys.isEmpty=xs.isEmpty:=by cases ys <;> cases xs <;> simp at el ⊢
 rw [e0]
 exact k _ L q S H I (Same.refl S)
end
end Kq
end
set_option maxRecDepth 10000
set_option maxHeartbeats 1000000
section
namespace Kq
noncomputable def bd0 (call:CW):SW:=a1y (d4j (eUn (d1e .int) (a0e 0)) (eUn d7i (eUn (d1e .bool) (a0e 0))))
noncomputable def bd1 (call:CW):SW:=a1y (d4j (eUn (d1e .tuple) (a0e 0)) (eOp eqB (eUn a6a (a0e 0)) (a0e 1)))
noncomputable def bd2 (call:CW):SW:=a0t (a1n (eUn a6a (eOp ixF (a0e 0) (eC (.int 0)))) (.nm 2)) (a0t (sIf (c4e (a2e (a1h call 1 (a0a (a0e 1) (a0a (a0e 2) a0p))))) (a1y (eC (.bl false))) a6u) (a0t (a1n (a1h call 4 (a0a (a0e 0) a0p)) (.nm 3)) (a0t (c0d (b4d (a0e 1)) (.tp [4,5]) (sIf (c7x (a2e (eUn a1s (a0e 5))) (c4e (c7x (a2e (a1h call 0 (a0a (a0e 5) a0p))) (a2e (eOp b8b (a4y (a0a (a0e 5) (a0a (a0e 4) a0p))) (a0e 3)))))) (a1y (eC (.bl false))) a6u)) (a1y (eUn d4v (a2t 6 1 (b2z (a0e 2)) (.nm 6) a2f (a1h call 3 (a0a (a0e 1) (a0a (a0e 6) a0p)))))))))
noncomputable def bd3 (call:CW):SW:=a0t (a1n (eOp ixF (a0e 0) (a0e 1)) (.nm 2)) (a0t (c0d (b2z (eUn a6a (a0e 0))) (.nm 3) (a0t (sIf (a2e (eUn a2m (a0e 2))) (a1y (eC (.bl true))) a6u) (a1n (eOp ixF (a0e 0) (a0e 2)) (.nm 2)))) (a1y (eC (.bl false))))
noncomputable def bd4 (call:CW):SW:=a1y (b8w 1 3 (c8o (eOp ixF (a0e 0) (eC (.int 1)))) (.tp [1,2,3]) a2f (a4y (a0a (a0e 1) (a0a (a0e 2) a0p))) (a0e 3))
noncomputable def bd5 (call:CW):SW:=a0t (a1n (a1h call 4 (a0a (a0e 0) a0p)) (.nm 2)) (a1y (a2t 3 2 (b4d (a0e 1)) (.tp [3,4]) a2f (eIf (a2e (eUn a2m (a0e 4))) (eOp ixF (eOp ixF (a0e 0) (eC (.int 0))) (a0e 3)) (eOp c7o (a0e 2) (a4y (a0a (a0e 4) (a0a (a0e 3) a0p)))))))
noncomputable def bd6 (call:CW):SW:=a1y (eUn b0x (a1h call 5 (a0a (a0e 0) (a0a (a0e 1) a0p))))
noncomputable def bd7 (call:CW):SW:=a0t (a1n (c0h (a0a (a0e 1) a0p)) (.nm 2)) (a0t (a1n (eOp ixF (a0e 0) (a0e 1)) (.nm 3)) (a0t (d3c (a2e (eUn a1s (a0e 3))) (a0t (b5n (c2l d4t 2 (a0e 3))) (a1n (eOp ixF (a0e 0) (a0e 3)) (.nm 3)))) (a1y (eUn c5a (a0e 2)))))
noncomputable def bd8 (call:CW):SW:=a1y (eOp b2a (eUn a6a (a1h call 7 (a0a (a0e 0) (a0a (a0e 1) a0p)))) (eC (.int 1)))
noncomputable def bd9 (call:CW):SW:=a0t (a1n (a1h call 5 (a0a (a0e 0) (a0a (a0e 1) a0p))) (.nm 2)) (a1y (eUn a2g (a2t 3 1 (b2z (eUn a6a (a0e 1))) (.nm 3) a2f (eUn c0o (a2t 4 1 (c8o (a1h call 7 (a0a (a0e 1) (a0a (a0e 3) a0p)))) (.nm 4) a2f (eOp ixF (a0e 2) (a0e 4)))))))
noncomputable def e1q (call:CW):SW:=a0t (a1n (a0e 0) (.tp [1,2])) (a1y (a4y (a0a (a0e 1) (a0a (eUn a2g (a2t 3 2 (b4d (a0e 2)) (.tp [3,4]) a2f (a4y (a0a (a0e 3) (a0a (eOp a3m (a0e 3) (eC (.int 1))) (a0a (a0e 4) a0p)))))) a0p))))
noncomputable def d4q (call:CW):SW:=a1y (eUn a2g (a2t 2 1 (b2z (eUn a6a (eOp ixF (a0e 0) (eC (.int 0))))) (.nm 2) a2f (eIf (a2e (eOp b8b (a0e 2) (a0e 1))) (eC .non) (eOp b2a (a0e 2) (eC (.int 1))))))
noncomputable def d4p (call:CW):SW:=a1y (a1h call 6 (a0a (a1h call 10 (a0a (a0e 0) a0p)) (a0a (a1h call 11 (a0a (a0e 0) (a0a (a0e 1) a0p))) a0p)))
noncomputable def d4o (call:CW):SW:=a1y (a1h call 9 (a0a (a1h call 10 (a0a (a0e 0) a0p)) (a0a (a1h call 11 (a0a (a0e 0) (a0a (a0e 1) a0p))) a0p)))
noncomputable def e1p (call:CW):SW:=a0t (a1n (a0e 0) (.tp [3,4])) (a1y (eOp a3m (eOp ixF (a0e 3) (a0e 1)) (eUn b0x (eSl (a0e 4) (b1b (a0e 1)) (b1b (eOp b2a (a0e 2) (eC (.int 1))))))))
noncomputable def e1o (call:CW):SW:=a0t (a1n (eUn a6a (eOp ixF (a0e 0) (eC (.int 0)))) (.nm 2)) (a1y (a1h call 16 (a0a (a0e 0) (a0a (a2t 3 1 (b2z (a0e 2)) (.nm 3) a2f (eOp b7d (eOp a3m (eOp a3m (a0e 3) (a0e 1)) (eC (.int 1))) (a0e 2))) a0p))))
noncomputable def e1n (call:CW):SW:=a0t (a1n (eUn a6a (eOp ixF (a0e 0) (eC (.int 0)))) (.nm 2)) (a0t (a1n (b8v (a0e 2) (a4y (a0a (eC (.int 0)) (a0a (a4y a0p) a0p)))) (.nm 3)) (a0t (c0d (c6w (a0e 2)) (.nm 4) (a0t (a1n (c0h a0p) (.nm 5)) (a0t (c0d (iRng2 (eOp a3m (a0e 4) (eC (.int 1))) (eOp a3m (eOp ixF (a0e 1) (a0e 4)) (eC (.int 1)))) (.nm 6) (sIf (a2e (eOp b8b (a0e 6) (a0e 3))) (a0t (a1n (b8t dgF 3 (a0e 6)) (.tp [7,8])) (b5n (c2l d4t 5 (a4y (a0a (eOp a3m (a1h call 14 (a0a (a0e 0) (a0a (a0e 4) (a0a (a0e 6) a0p)))) (a0e 7)) (a0a (eOp a3m (a4y (a0a (a0e 4) a0p)) (a0e 8)) a0p)))))) a6u)) (sIf (a2e (a0e 5)) (c4v 3 (a0e 4) (eUn b3t (a0e 5))) a6u)))) (a1y (c7l 3 (eC (.int 0))))))
noncomputable def e1m (call:CW):SW:=a0t (a1n (eOp c3o (eOp c0f (eOp a3m (eOp a3m (eOp c3o (a0e 0) (eC (.int 2147483629))) (eOp c0f (eOp c0f (a0e 1) (a0e 1)) (eC (.int 7919)))) (eC (.int 11))) (eC (.int 48271))) (eC (.int 2147483647))) (.nm 2)) (a1y (eOp c3o (eOp c0f (a0e 2) (a0e 2)) (eC (.int 1999999973))))
noncomputable def e1l (call:CW):SW:=a0t (a1n (eIf (a2e (eOp ltB (a0e 1) (eUn a6a (a0e 0)))) (eOp ixF (a0e 0) (a0e 1)) (eC (.int 0))) (.nm 2)) (a1y (c0h (a0a (eOp c0f (eUn d2w (a0e 2)) (eUn b1z (eOp geB (eUn d2w (a0e 2)) (eOp c9s (eC (.int 10)) (eC (.int 18)))))) (a0a (eOp a3m (a0e 2) (eOp c0f (eC (.int 1000003)) (a0e 1))) (a0a (eC (.int 0)) a0p)))))
noncomputable def d4n (call:CW):SW:=a0t (d3e 0 (eC (.int 2)) (eOp a3m (b8t ixF 0 (eC (.int 2))) (eC (.int 1)))) (a0t (sIf (a2e (eOp gtB (b8t ixF 0 (eC (.int 0))) (eC (.int 0)))) (a0t (a1n (eOp c3o (b8t ixF 0 (eC (.int 0))) (a0e 1)) (.nm 2)) (a0t (d3e 0 (eC (.int 0)) (eOp b8l (b8t ixF 0 (eC (.int 0))) (a0e 1))) (a1y (a0e 2)))) a6u) (a1y (eOp c3o (eOp b8l (a1h call 17 (a0a (a1h call 17 (a0a (b8t ixF 0 (eC (.int 1))) (a0a (b8t ixF 0 (eC (.int 2))) a0p))) (a0a (eOp a3m (b8t ixF 0 (eC (.int 2))) (eC (.int 64))) a0p))) (eC (.int 64))) (a0e 1))))
noncomputable def e1k (call:CW):SW:=a0t (a1n (a1f call 19 0 (a0a (eC (.int 4)) a0p)) (.nm 2)) (a0t (sIf (c7x (a2e (eOp eqB (a0e 2) (eC (.int 3)))) (a2e (eOp eqB (a0e 1) (eC (.int 0))))) (a1y (eOp a3m (eC (.int 1)) (a1f call 19 0 (a0a (eOp b2a (eOp c9s (eC (.int 10)) (eC (.int 9))) (eC (.int 20))) a0p)))) a6u) (a1y (eOp a3m (eC (.int 1)) (a1f call 19 0 (a0a (eOp ixF (c0h (a0a (eC (.int 9)) (a0a (eC (.int 9)) (a0a (eC (.int 40)) (a0a (eC (.int 3)) a0p))))) (a0e 2)) a0p)))))
noncomputable def e1j (call:CW):SW:=a0t (a1n (eIf (a2e (eOp gtB (a1f call 19 0 (a0a (eC (.int 8)) a0p)) (eC (.int 0)))) (eOp a3m (eC (.int 1)) (a1f call 19 0 (a0a (eC (.int 7)) a0p))) (eOp a3m (eC (.int 8)) (a1f call 19 0 (a0a (eOp b2a (a0e 1) (eC (.int 7))) a0p)))) (.nm 2)) (a0t (a1n (a1f call 19 0 (a0a (eC (.int 4)) a0p)) (.nm 3)) (a0t (a1n (eUn a2g (a2t 5 1 (b2z (a0e 2)) (.nm 5) a2f (eOp a3m (a1f call 20 0 (a0a (a0e 3) a0p)) (eOp ixF (c0h (a0a (eC (.int 0)) (a0a (eC (.int 9)) a0p))) (a1f call 19 0 (a0a (eC (.int 2)) a0p)))))) (.nm 4)) (a1y (a4y (a0a (a0e 4) (a0a (eUn a2g (a2t 5 1 (b2z (eOp b2a (a0e 2) (eC (.int 1)))) (.nm 5) a2f (a1f call 20 0 (a0a (a0e 3) a0p)))) a0p))))))
noncomputable def e1i (call:CW):SW:=a0t (a1n (c0h (a0a (a4y (a0a (eC (.int 0)) a0p)) a0p)) (.nm 1)) (a0t (c0d (iRng2 (eC (.int 1)) (a0e 0)) (.nm 2) (a1n (eOp a3m (a0e 1) (a2t 3 1 (c8o (a0e 1)) (.nm 3) a2f (eOp a3m (a0e 3) (a4y (a0a (a0e 2) a0p))))) (.nm 1))) (a1y (a0e 1)))
noncomputable def e1h (call:CW):SW:=a0t (a1n (a4y (a0a (a2p call 28 0 77 "row_now" a0p) (a0a (a2p call 29 0 77 "kept_now" a0p) a0p))) (.tp [2,3])) (a0t (a1n (eOp ixF (a0e 2) (eC (.int 0))) (.nm 4)) (a0t (a1n (a4y (a0a (a1h call 12 (a0a (a0e 2) (a0a (a0e 3) a0p))) (a0a (eOp ixF (a1h call 15 (a0a (a0e 2) (a0a (eUn a6a (a0e 4)) a0p))) (eC (.int 0))) a0p))) (.tp [5,6])) (a0t (sIf (bOr (a2e (eOp gtB (a0e 5) (eOp c0f (eC (.int 2)) (a0e 6)))) (a2e (eOp neB (eSl (a0e 3) b6y (b1b (eUn a6a (a0e 1)))) (a0e 1)))) (a1y (eC (.bl false))) a6u) (a0t (sIf (a2e (eOp ltB (eUn a6a (a0e 4)) (eC (.int 7)))) (a0t (a1n (a2t 11 1 (c8o (a1h call 22 (a0a (eUn a6a (a0e 4)) a0p))) (.nm 11) a2f (a1h call 12 (a0a (a0e 2) (a0a (a0e 11) a0p)))) (.nm 7)) (sIf (a2e (eOp neB (a0e 6) (eUn c1p (a0e 7)))) (a1y (eC (.bl false))) a6u)) a6u) (a0t (a1n (eC (.int 0)) (.nm 8)) (a0t (c0d (b4d (a1h call 13 (a0a (a0e 2) (a0a (a0e 3) a0p)))) (.tp [9,10]) (a0t (a1n (eIf (a2e (eOp b8b (a0e 9) (a0e 3))) (a0e 9) (a0e 8)) (.nm 8)) (sIf (a2e (eOp gtB (a0e 10) (eOp a3m (eOp ixF (a0e 4) (a0e 8)) (eOp ixF (a0e 4) (a0e 9))))) (a1y (eC (.bl false))) a6u))) (a1y (eC (.bl true)))))))))
noncomputable def e1g (call:CW):SW:=a0t (a1n (eUn a6a (eOp ixF (a0e 1) (eC (.int 0)))) (.nm 4)) (a0t (a1n (a4y (a0a (eOp ixF (a0e 1) (eC (.int 0))) (a0a (eUn a2g (a2t 7 1 (b2z (eOp b2a (a0e 4) (eC (.int 1)))) (.nm 7) a2f (a4y (a0a (eOp a3m (a0e 7) (eC (.int 1))) (a0a (a0e 7) (a0a (eOp ixF (eOp ixF (a0e 1) (eC (.int 1))) (a0e 7)) a0p)))))) a0p))) (.nm 5)) (a0t (a1n (a2p call 32 0 119 "laying_now" a0p) (.nm 6)) (a0t (sIf (bOr (c4e (a2e (a1h call 2 (a0a (a0e 5) (a0a (a0e 6) a0p))))) (a2e (eOp neB (a1h call 6 (a0a (a0e 5) (a0a (a0e 6) a0p))) (a2p call 33 0 119 "room_now" a0p)))) (a1y (eC (.bl false))) a6u) (a0t (sIf (a2e (eUn d4u (a2t 7 1 (b2z (a0e 4)) (.nm 7) a2f (eOp gtB (a1h call 8 (a0a (a0e 6) (a0a (a0e 7) a0p))) (a0e 2))))) (a1y (eC (.bl false))) a6u) (a0t (sIf (a2e (eOp neB (eOp ixF (a1h call 9 (a0a (a0e 5) (a0a (a0e 6) a0p))) (eUn c8n (eC (.int 1)))) (eOp ixF (eOp ixF (a0e 1) (eC (.int 0))) (eUn c8n (eC (.int 1)))))) (a1y (eC (.bl false))) a6u) (a1y (eOp ltB (eUn a6a (a2t 7 1 (b2z (eOp b2a (a0e 4) (eC (.int 1)))) (.nm 7) (a2e (eOp neB (eOp ixF (a0e 6) (a0e 7)) (eOp ixF (a0e 3) (a0e 7)))) (a0e 7))) (eC (.int 2)))))))))
noncomputable def e1f (call:CW):SW:=a0t (c0d (b2z (eOp a3m (eOp b7d (eC (.int 5)) (eUn a6a (a0e 0))) (eC (.int 1)))) (.nm 1) (a0t (a1n (a1h call 18 (a0a (a0e 0) (a0a (a0e 1) a0p))) (.nm 2)) (a0t (a1n (a1f call 21 2 (a0a (eC (.int 30)) a0p)) (.tp [3,4])) (a0t (a1n (a1f call 19 2 (a0a (eC (.int 5)) a0p)) (.nm 5)) (a0t (a1n (a4y (a0a (b1q call 26 77 a0p) (a0a (b1q call 30 119 (a0a (a0e 5) a0p)) a0p))) (.tp [6,7])) (c0d (b2z (eUn a6a (a0e 3))) (.nm 8) (a0t (a1n (a4y (a0a (a2p call 29 6 77 "kept_now" a0p) (a0a (a2p call 32 7 119 "laying_now" a0p) a0p))) (.tp [9,10])) (a0t (a1n (eIf (a2e (eOp gtB (a0e 8) (eC (.int 0)))) (eOp ixF (a0e 4) (eOp b2a (a0e 8) (eC (.int 1)))) (eC (.int 1))) (.nm 11)) (a0t (b5n (a2p call 27 6 77 "grown" (a0a (eOp ixF (a0e 3) (a0e 8)) (a0a (a0e 11) a0p)))) (a0t (b5n (a2p call 31 7 119 "grown" (a0a (eOp ixF (a0e 3) (a0e 8)) (a0a (a0e 11) a0p)))) (a0t (sIf (c4e (a2e (a1f call 23 6 (a0a (a0e 9) a0p)))) (a1y (eC (.bl false))) a6u) (sIf (c4e (a2e (a1f call 24 7 (a0a (a4y (a0a (eSl (a0e 3) b6y (b1b (eOp a3m (a0e 8) (eC (.int 1))))) (a0a (eSl (a0e 4) b6y (b1b (a0e 8))) a0p))) (a0a (a0e 5) (a0a (a0e 10) a0p)))))) (a1y (eC (.bl false))) a6u)))))))))))) (a1y (eC (.bl true)))
noncomputable def e1e (call:CW):SW:=a0t (a3s 0 77 "wholes") (a0t (a3s 0 77 "steps") (a0t (a3s 0 77 "kept") (a3t 0 77 "since" (eC (.int 0)))))
noncomputable def e1d (call:CW):SW:=a0t (a1n (a5c 0 77 "wholes" a6a) (.nm 3)) (a0t (b5n (a3w 0 77 "wholes" (a0e 1))) (a0t (sIf (a2e (eOp gtB (a0e 3) (eC (.int 0)))) (a0t (b5n (a3w 0 77 "steps" (a0e 2))) (a8k 0 77 "since" (fun i j=>i + j) (a0e 2))) a6u) (a0t (sIf (c7x (a2e (eOp gtB (a0e 3) (eC (.int 0)))) (a2e (eOp leB (d2a 0 77 "since") (a0e 1)))) (a1y (eC (.str "change"))) a6u) (a0t (b5n (a3w 0 77 "kept" (a0e 3))) (a0t (a3t 0 77 "since" (eC (.int 0))) (a1y (eC (.str "whole"))))))))
noncomputable def e1c (call:CW):SW:=a0t (sIf (c4e (c7w 0 77 "wholes")) d6a a6u) (a1y (a4y (a0a (a5c 0 77 "wholes" a2g) (a0a (a5c 0 77 "steps" a2g) a0p))))
noncomputable def d4m (call:CW):SW:=a1y (a5c 0 77 "kept" a2g)
noncomputable def e1b (call:CW):SW:=a0t (a3t 0 119 "most" (a0e 1)) (a0t (a3s 0 119 "laying") (a0t (a3s 0 119 "sizes") (a3t 0 119 "deepest" (eC (.int 0)))))
noncomputable def e1a (call:CW):SW:=a0t (a1n (a5c 0 119 "laying" a6a) (.nm 3)) (a0t (a1n (a4y a0p) (.nm 4)) (a0t (sIf (c7x (a2e (eOp gtB (a0e 3) (eC (.int 0)))) (a2e (eOp ltB (d2a 0 119 "deepest") (d2a 0 119 "most")))) (a0t (a8j 0 119 "laying" (eUn c8n (eC (.int 1))) (a0e 3)) (a0t (a8j 0 119 "sizes" (eUn c8n (eC (.int 1))) (a0e 2)) (a0t (a8k 0 119 "deepest" (fun i j=>i + j) (eC (.int 1))) (a1n (a4y (a0a (eOp b2a (a0e 3) (eC (.int 1))) a0p)) (.nm 4))))) (a3t 0 119 "deepest" (eC (.int 0)))) (a0t (b5n (a3w 0 119 "laying" (eC .non))) (a0t (b5n (a3w 0 119 "sizes" (a0e 1))) (a1y (a0e 4))))))
noncomputable def d4l (call:CW):SW:=a1y (a5c 0 119 "laying" a2g)
noncomputable def d4k (call:CW):SW:=a1y (a5c 0 119 "sizes" b0x)
noncomputable def fd0:FD:=⟨1,1,bd0,false,false⟩
noncomputable def fd1:FD:=⟨2,2,bd1,false,false⟩
noncomputable def fd2:FD:=⟨2,6,bd2,false,false⟩
noncomputable def fd3:FD:=⟨2,4,bd3,false,false⟩
noncomputable def fd4:FD:=⟨1,1,bd4,false,false⟩
noncomputable def fd5:FD:=⟨2,3,bd5,false,false⟩
noncomputable def fd6:FD:=⟨2,2,bd6,false,false⟩
noncomputable def fd7:FD:=⟨2,4,bd7,false,false⟩
noncomputable def fd8:FD:=⟨2,2,bd8,false,false⟩
noncomputable def fd9:FD:=⟨2,3,bd9,false,false⟩
noncomputable def d9y:FD:=⟨1,3,e1q,false,false⟩
noncomputable def d9x:FD:=⟨2,2,d4q,false,false⟩
noncomputable def d9w:FD:=⟨2,2,d4p,false,false⟩
noncomputable def d9v:FD:=⟨2,2,d4o,false,false⟩
noncomputable def d9u:FD:=⟨3,5,e1p,false,false⟩
noncomputable def d9t:FD:=⟨2,3,e1o,false,false⟩
noncomputable def d9s:FD:=⟨2,9,e1n,false,false⟩
noncomputable def d9r:FD:=⟨2,3,e1m,false,false⟩
noncomputable def d9q:FD:=⟨2,3,e1l,false,true⟩
noncomputable def d4c:FD:=⟨2,3,d4n,true,false⟩
noncomputable def d9p:FD:=⟨2,3,e1k,true,false⟩
noncomputable def d9o:FD:=⟨2,5,e1j,true,false⟩
noncomputable def d9n:FD:=⟨1,3,e1i,false,false⟩
noncomputable def d9m:FD:=⟨2,11,e1h,true,false⟩
noncomputable def d9l:FD:=⟨4,7,e1g,true,false⟩
noncomputable def d9k:FD:=⟨1,12,e1f,false,false⟩
noncomputable def d9j:FD:=⟨1,1,e1e,true,false⟩
noncomputable def d9i:FD:=⟨3,4,e1d,true,false⟩
noncomputable def d9h:FD:=⟨1,1,e1c,true,false⟩
noncomputable def d9g:FD:=⟨1,1,d4m,true,false⟩
noncomputable def d9f:FD:=⟨2,2,e1b,true,false⟩
noncomputable def d9e:FD:=⟨3,5,e1a,true,false⟩
noncomputable def d9d:FD:=⟨1,1,d4l,true,false⟩
noncomputable def d9c:FD:=⟨1,1,d4k,true,false⟩
noncomputable def tb:List FD:=[fd0,fd1,fd2,fd3,fd4,fd5,fd6,fd7,fd8,fd9,d9y,d9x,d9w,d9v,d9u,d9t,d9s,d9r,d9q,d4c,d9p,d9o,d9n,d9m,d9l,d9k,d9j,d9i,d9h,d9g,d9f,d9e,d9d,d9c]
noncomputable def mixV (a k:Int):Int:=((a % 2147483629 + k * k * 7919 + 11) * 48271 % 2147483647) * ((a % 2147483629 + k * k * 7919 + 11) * 48271 % 2147483647) % 1999999973
theorem b5l (x:Int):a1z (x % 2147483647)=true:=by
 have:=Int.emod_nonneg x (show (2147483647:Int)≠0 by decide)
 have:=Int.emod_lt_of_pos x (show (0:Int) < 2147483647 by decide)
 simp only [a1z,decide_eq_true_eq]; lia
theorem b2c {i:Int} (h:0≤i) (h':i < 2 ^ 60):a1z i=true:=by
 simp only [a1z,decide_eq_true_eq]; lia
theorem a0k {i:Int} (h:0≤i) (h':i < 2 ^ 60):a1a i=true:=by
 simp only [a1a,decide_eq_true_eq]; lia
theorem d0v (d:Nat) (a k:Int) (hk:a1z k=true) (Q:FV×FV→Prop):callW tb (d + 1) 17 [.int a,.int k] Q↔Q (.int (mixV a k),.non):=by
 have h2:a1z 48271=true:=by decide
 have h3:a1z 7919=true:=by decide
 rw [a9e (fd:=d9r) rfl rfl]
 simp [d9r,e1m,h2,h3,hk,b5l,mixV]
noncomputable def Lf (n:Int) (v:FV):Prop:=∃ a b c,v=.lst [.int a,.int b,.int c]∧0≤c∧c≤n
theorem Lf.mono {n m:Int} {v:FV} (h:Lf n v) (k:n≤m):Lf m v:=by
 obtain ⟨a,b,c,h,h1,h2⟩:=h
 exact ⟨a,b,c,h,h1,by lia⟩
theorem a2r (d:Nat) {many n:Int} {v:FV} {Q:FV×FV→Prop} (hs:Lf n v) (hn:n < 1000000) (h1:0 < many) (h2:many < 1073741824)
  (q:∀ u v',0≤u→u < many→Lf (n + 1) v'→Q (.int u,v')):callW tb (d + 2) 19 [v,.int many] Q:=by
 obtain ⟨a,b,c,rfl,h3,h4⟩:=hs
 refine a0h (fd:=d4c) rfl rfl ?_
 have s1:a1z (c + 1)=true:=b2c (by lia) (by lia)
 have s2:a1z (c + 1 + 64)=true:=b2c (by lia) (by lia)
 by_cases ha:0 < a
 ·simp [d4c,d4n,ixN,ha,h1,h2]
  exact q _ _ (Int.emod_nonneg _ (by lia)) (Int.emod_lt_of_pos _ h1) ⟨_,_,_,rfl,by lia,by lia⟩
 ·simp [d4c,d4n,ixN,ha,h1,h2,d0v,s1,s2]
  exact q _ _ (Int.emod_nonneg _ (by lia)) (Int.emod_lt_of_pos _ h1) ⟨_,_,_,rfl,by lia,by lia⟩
theorem c6l (d:Nat) (ns:List Int) (k:Nat) {Q:FV×FV→Prop} (q:∀ v y,Lf 0 v→Q (v,y)):callW tb (d + 1) 18 [.scr ns,.int k] Q:=by
 refine a0h (fd:=d9q) rfl rfl ?_
 have h1:a1z 1000003=true:=by decide
 have h2:a1z 0=true:=by decide
 have h4:a1z 10=true:=by decide
 have h5:∀ r:Bool,a1z (if r=true then 1 else 0)=true:=by intro r; cases r <;> decide
 simp [d9q,e1l]
 split
 ·rename_i hk
  rw [a2v rfl (show (ns.map FV.int)[k]?=some (.int ns[k]) by simp [hk])]
  simp [h1,h4,h5,big]
  exact ⟨.inr (by by_cases hh:1000000000000000000≤(if ns[k] < 0 then -ns[k] else ns[k]) <;> simp only [hh,if_true,if_false] <;> decide),q _ _ ⟨_,_,_,rfl,by lia,by lia⟩⟩
 ·simp [h1,h2,h4,big]
  exact q _ _ ⟨_,_,_,rfl,by lia,by lia⟩
mutual
noncomputable def dF:D→FV
 | .non=>.non
 | .bl b=>.bl b
 | .int i=>.int i
 | .str x=>.str x
 | .tup xs=>.tup (dFs xs)
 | .lst xs=>.lst (dFs xs)
noncomputable def dFs:List D→List FV
 | []=>[]
 | x :: r=>dF x :: dFs r
end
theorem a9c:∀ xs:List D,dFs xs=xs.map dF
 | []=>rfl
 | x :: r=>by rw [dFs,a9c r]; rfl
mutual
noncomputable def dep:D→Nat
 | .tup xs=>b9b xs + 1
 | .lst xs=>b9b xs + 1
 | .non=>0 | .bl _=>0 | .int _=>0 | .str _=>0
noncomputable def b9b:List D→Nat
 | []=>0
 | x :: r=>max (dep x) (b9b r)
end
mutual
theorem b8n:∀ (x:D) (n:Nat),dep x < n→fD n (dF x)=some x
 | .non,0,h=>by lia
 | .non,n + 1,h=>rfl
 | .bl _,0,h=>by lia
 | .bl _,n + 1,h=>rfl
 | .int _,0,h=>by lia
 | .int _,n + 1,h=>rfl
 | .str _,0,h=>by lia
 | .str _,n + 1,h=>rfl
 | .tup xs,0,h=>by lia
 | .tup xs,n + 1,h=>by simp only [dF,fD]; rw [b8m xs n (by simp only [dep] at h; lia)]; rfl
 | .lst xs,0,h=>by lia
 | .lst xs,n + 1,h=>by simp only [dF,fD]; rw [b8m xs n (by simp only [dep] at h; lia)]; rfl
theorem b8m:∀ (xs:List D) (n:Nat),b9b xs < n→a3v (fD n) (dFs xs)=some xs
 | [],n,h=>rfl
 | x :: r,n,h=>by
  simp only [b9b] at h
  simp only [dFs,a3v,b8n x n (by lia),b8m r n (by lia),Option.bind_some,Option.map_some]
end
noncomputable def Vl (k p:Nat) (x:FV):Prop:=∃ d,x=dF d∧dep d≤p∧d.fit=true∧d.wt≤k
theorem Vl.mono {k k' p p':Nat} {x:FV} (h:Vl k p x) (hk:k≤k') (hp:p≤p'):Vl k' p' x:=by
 obtain ⟨d,e,h1,h2,h3⟩:=h
 exact ⟨d,e,by lia,h2,by lia⟩
theorem Vl.all {k p:Nat}:∀ {xs:List FV},(∀ x∈xs,Vl k p x)→∃ ds:List D,xs=dFs ds∧b9b ds≤p∧D.fits ds=true∧D.wts ds≤ds.length * (k + 1)∧ds.length=xs.length
 | [],_=>⟨[],rfl,Nat.zero_le _,rfl,by simp [D.wts],rfl⟩
 | x :: r,h=>by
  obtain ⟨d,e,h1,h2,h3⟩:=h x (Γn ..)
  obtain ⟨ds,e',h1',h2',h3',h4'⟩:=Vl.all (xs:=r) fun y hy=>h y (Γh _ hy)
  refine ⟨d :: ds,by rw [e,e']; rfl,by simp only [b9b]; lia,by simp only [D.fits,h2,h2',Bool.and_self],?_,by simp [h4']⟩
  simp only [D.wts,List.length_cons,Nat.add_mul,Nat.one_mul]; lia
theorem Vl.tup {k p m:Nat} {xs:List FV} (h:∀ x∈xs,Vl k p x) (hl:xs.length≤m):Vl (m * (k + 1)) (p + 1) (.tup xs):=by
 obtain ⟨ds,e,h1,h2,h3,h4⟩:=Vl.all h
 refine ⟨.tup ds,by rw [e]; rfl,by simp only [dep]; lia,by simp only [D.fit,h2],?_⟩
 simp only [D.wt]
 exact Nat.le_trans h3 (Nat.mul_le_mul_right _ (by lia))
theorem Vl.lst {k p m:Nat} {xs:List FV} (h:∀ x∈xs,Vl k p x) (hl:xs.length≤m):Vl (m * (k + 1)) (p + 1) (.lst xs):=by
 obtain ⟨ds,e,h1,h2,h3,h4⟩:=Vl.all h
 refine ⟨.lst ds,by rw [e]; rfl,by simp only [dep]; lia,by simp only [D.fit,h2],?_⟩
 simp only [D.wt]
 exact Nat.le_trans h3 (Nat.mul_le_mul_right _ (by lia))
theorem Vl.int {i:Int} (h:-(2 ^ 40) < i) (h':i < 2 ^ 40):Vl 41 0 (.int i):=⟨.int i,rfl,Γi _,by simp only [D.fit,decide_eq_true_eq]; lia,by simp only [D.wt]; rw [if_pos ⟨h,h'⟩]; exact Γi _⟩
theorem Vl.bl {b:Bool}:Vl 0 0 (.bl b):=⟨.bl b,rfl,Γi _,rfl,Γi _⟩
theorem Vl.non:Vl 0 0 .non:=⟨.non,rfl,Γi _,rfl,Γi _⟩
theorem e0e {a b:D} (ha:dep a < 40) (hb:dep b < 40):eqF (dF a) (dF b)=some (D.eqv a b):=by
 have go:(fD a0j (dF a)).bind (fun x=>(fD a0j (dF b)).bind fun y=>some (D.eqv x y))=some (D.eqv a b):=by
  rw [b8n a a0j ha,b8n b a0j hb]; rfl
 unfold eqF
 split
 ·rename_i x y e1 e2; cases a <;> cases e1
 ·exact go
theorem b9m {α:Type} (xs:List α) (n:Nat):a9g xs none (some (n:Int))=xs.take n:=by
 have h:sIx xs.length xs.length (some (n:Int))=min n xs.length:=by simp only [sIx]; rw [if_neg (by lia)]; simp
 unfold a9g
 rw [h]
 show (xs.drop 0).take (min n xs.length - 0)=_
 rw [List.drop_zero,Nat.sub_zero,List.take_eq_take_iff]; lia
theorem a8r {α β:Type} (f:α→FV) (g:β→FV):∀ (xs:List α) (ys:List β),a3a (xs.map f) (ys.map g)=(xs.zip ys).map fun p=>.tup [f p.1,g p.2]
 | [],ys=>rfl
 | x :: xs,[]=>rfl
 | x :: xs,y :: ys=>by
  show FV.tup [f x,g y] :: a3a (xs.map f) (ys.map g)=_
  rw [a8r f g xs ys]; rfl
abbrev Chg:=Nat×Nat×Int
noncomputable def b8s (c:Chg):FV:=.tup [.int c.1,.int c.2.1,.int c.2.2]
structure Gst (ws:List Int) (cs:List Chg):Prop where
 w:∀ x∈ws,1≤x
 c:∀ x∈cs,x.1 < ws.length∧x.2.1 < ws.length∧x.1≠x.2.1∧1≤x.2.2
 s:∀ x∈cs.zip (cs.drop 1),lexLt [(x.1.1:Int),x.1.2.1] [(x.2.1:Int),x.2.2.1]=true
noncomputable def b4i (ws:List Int) (cs:List Chg):FV:=.tup [.tup (ws.map .int),.tup (cs.map b8s)]
theorem c2x {α:Type} (xs:List α):(xs.map fun _=>FV.bl true)=xs.map fun x=>FV.bl ((fun _=>true) x):=rfl
theorem d2v {α:Type} (xs:List α):(xs.all fun _=>true)=true:=by simp
theorem a4q {cs:List Chg} (h:∀ x∈cs.zip (cs.drop 1),lexLt [(x.1.1:Int),x.1.2.1] [(x.2.1:Int),x.2.2.1]=true):(cs.map fun c=>[(c.1:Int),c.2.1]).Nodup:=by
 have lt:∀ a b c d:Int,lexLt [a,b] [c,d]=true↔(a < c ∨ a=c∧b < d):=fun a b c d=>by
  by_cases e:a=c
  ·subst e
   by_cases e2:b=d
   ·subst e2; simp [lexLt]
   ·simp [lexLt,e2]
  ·simp [lexLt,e]
 have go:∀ (cs:List Chg) (a b:Nat),(∀ x∈cs.zip (cs.drop 1),lexLt [(x.1.1:Int),x.1.2.1] [(x.2.1:Int),x.2.2.1]=true)→(∀ c∈cs.head?,a < c.1 ∨ a=c.1∧b < c.2.1)→(∀ c∈cs,a < c.1 ∨ a=c.1∧b < c.2.1)∧(cs.map fun c=>[(c.1:Int),c.2.1]).Nodup:=by
  intro cs
  induction cs with
  | nil=>intro a b _ _; simp
  | cons x r ih =>
   intro a b hs hh
   have hx:=hh x (by simp)
   have h2:=ih x.1 x.2.1 (fun p hp=>hs p (by
    cases r with
    | nil=>simp at hp
    | cons y q=>simp at hp ⊢; exact .inr hp)) (fun c hc=>by
    cases r with
    | nil=>simp at hc
    | cons y q =>
     simp at hc; subst hc
     have:=(lt _ _ _ _).mp (hs (x,y) (by simp))
     dsimp only at this
     lia)
   refine ⟨fun c hc=>?_,?_⟩
   ·rcases List.mem_cons.mp hc with rfl | hc
    ·exact hx
    ·have:=h2.1 c hc; lia
   ·simp only [List.map_cons,List.nodup_cons]
    refine ⟨fun hm=>?_,h2.2⟩
    obtain ⟨c,hc,e⟩:=List.mem_map.mp hm
    have:=h2.1 c hc
    simp at e; lia
 cases cs with
 | nil=>simp
 | cons x r =>
  have h2:=go r x.1 x.2.1 (fun p hp=>h p (by
   cases r with
   | nil=>simp at hp
   | cons y q=>simp at hp ⊢; exact .inr hp)) (fun c hc=>by
   cases r with
   | nil=>simp at hc
   | cons y q =>
    simp at hc; subst hc
    have:=(lt _ _ _ _).mp (h (x,y) (by simp))
    dsimp only at this
    lia)
  simp only [List.map_cons,List.nodup_cons]
  refine ⟨fun hm=>?_,h2.2⟩
  obtain ⟨c,hc,e⟩:=List.mem_map.mp hm
  have:=h2.1 c hc
  simp at e; lia
noncomputable def keyH (c:Chg):List Int:=[c.1,c.2.1]
theorem a8g (d:Nat) {ws:List Int} {cs:List Chg} (h:Gst ws cs) (hc:cs.length≤1000) {Q:FV×FV→Prop} (q:Q (.dct (cs.map keyH) (cs.map fun c=>.int c.2.2),.non)):callW tb (d + 1) 4 [b4i ws cs] Q:=by
 refine a0h (fd:=fd4) rfl rfl ?_
 simp [fd4,bd4,b4i,big]
 refine ⟨by lia,?_⟩
 refine b0j (f:=b8s) (g:=keyH) (h:=fun c=>.int c.2.2) cs [] [] (by simp) (a4q h.s) (fun x hx K k=>?_) (by simpa using q)
 simp [b8s,big]
 exact k
noncomputable def a1x:Option Nat→FV | none=>.non | some a=>.int a
theorem c6v (m:Int) (ks:List Int) (R:Bool→Prop):wp (inF (.int m) (.tup (ks.map .int))) R↔R (decide (m∈ks)):=by
 have h:FV.tup (ks.map .int)=dF (.tup (ks.map .int)):=by simp [dF,a9c,Function.comp_def]
 have hd:∀ xs:List Int,b9b (xs.map D.int)=0:=fun xs=>by induction xs with | nil=>rfl | cons x r ih=>simp [b9b,dep,ih]
 have e:inF (.int m) (.tup (ks.map .int))=some (decide (m∈ks)):=by
  unfold inF
  rw [h,show FV.int m=dF (.int m) from rfl,b8n _ a0j (by simp [dep,a0j]),b8n _ a0j (by simp only [dep,hd,a0j]; lia)]
  simp only [Option.bind_some,inD]
  congr 1
  induction ks with
  | nil=>simp
  | cons x r ih =>
   have ih:(r.map D.int).any (fun y=>D.eqv y (D.int m))=decide (m∈r):=ih (by simp [dF,a9c,Function.comp_def])
   simp only [List.map_cons,List.any_cons,D.eqv,ih,List.mem_cons]
   rw [Bool.eq_iff_iff]; simp; constructor <;> (rintro (h | h) <;> first | exact .inl h.symm | exact .inr h)
 rw [e]; exact Iff.rfl
theorem b2p (d:Nat) {n g:Int} {v:FV} {Q:FV×FV→Prop} (hs:Lf n v) (h0:0≤n) (hn:n < 100000) (q:∀ s v',1≤s→s < 1000000000→Lf (n + 2) v'→Q (.int s,v')):callW tb (d + 3) 20 [v,.int g] Q:=by
 refine a0h (fd:=d9p) rfl rfl ?_
 simp [d9p,e1k,big]
 refine a2r d hs (by lia) (by decide) (by decide) fun u v1 u0 u1 l1=>?_
 simp
 have fin:wp (atF [FV.int 9,FV.int 9,FV.int 40,FV.int 3] u) fun z=>callW tb (d + 2) 19 [v1,z] fun z=>wp (a3m (FV.int 1) z.fst) fun z_1=>Q (z_1,z.snd):=by
  refine c4f u0 u1 ?_
  intro f hf
  obtain ⟨k,rfl,k0,k1⟩:∃ k:Int,f=.int k∧0 < k∧k≤40:=by
   simp at hf
   rcases hf with rfl | rfl | rfl | rfl <;> exact ⟨_,rfl,by decide,by decide⟩
  refine a2r d l1 (by lia) k0 (by lia) fun w v2 w0 w1 l2=>?_
  simp
  exact q _ _ (by lia) (by lia) (l2.mono (by lia))
 refine ite2 (fun h=>?_) (fun h=>fin)
 refine ite2 (fun h=>?_) (fun h=>fin)
 refine ⟨by decide,a2r d l1 (by lia) (by decide) (by decide) fun w v2 w0 w1 l2=>?_⟩
 simp
 exact q _ _ (by lia) (by lia) (l2.mono (by lia))
noncomputable def Szs (xs:List Int):Prop:=∀ x∈xs,1≤x∧x < 2000000000
theorem c9g (d : Nat) {n M : Int} {v : FV} {Q : FV × FV → Prop} (hs : Lf n v) (h0 : 0 ≤ n) (hn : n < 10000) (hM : 8 ≤ M) (hM2 : M ≤ 30) (q : ∀ (ws ss : List Int) v', 1 ≤ ws.length → ws.length ≤ 30 → ss.length + 1 = ws.length → Szs ws → Szs ss → Lf (n + 200) v' → Q (.tup [.tup (ws.map .int), .tup (ss.map .int)], v')) : callW tb (d + 4) 21 [v, .int M] Q := by
  refine a0h (fd := d9o) rfl rfl ?_
  simp [d9o, e1j, big]
  refine a2r (d + 1) hs (by lia) (by decide) (by decide) fun u v1 u0 u1 l1 => ?_
  simp
  have tail : ∀ (m : Nat) (v2 : FV), 1 ≤ m → m ≤ 30 → Lf (n + 2) v2 → callW tb (d + 3) 19 [v2, FV.int 4] fun z =>
      a1a (m : Int) = true ∧ (upF 0 (m : Int).toNat).length ≤ 100000 ∧
        a3z 5 1 (Tg.nm 5) a2f
          (eOp a3m (a1f (callW tb (d + 3)) 20 0 (a0a (a0e 3) a0p))
            (eOp ixF (c0h (a0a (eC (FV.int 0)) (a0a (eC (FV.int 9)) a0p)))
              (a1f (callW tb (d + 3)) 19 0 (a0a (eC (FV.int 2)) a0p))))
          (upF 0 (m : Int).toNat) [] [some z.snd, some (FV.int M), some (FV.int m), some z.fst, none] fun ys L2 =>
          wp (lk (List.set L2 4 (some (FV.tup ys))) 4) fun x =>
            wp (lk (List.set L2 4 (some (FV.tup ys))) 2) fun x_1 =>
              wp (b2a x_1 (FV.int 1)) fun z =>
                wp (a2n z) fun j =>
                  a1a j = true ∧ List.length L2 = 5 ∧ (upF 0 j.toNat).length ≤ 100000 ∧
                        a3z 5 1 (Tg.nm 5) a2f (a1f (callW tb (d + 3)) 20 0 (a0a (a0e 3) a0p)) (upF 0 j.toNat)
                          [] (List.set L2 4 (some (FV.tup ys))) fun ys L2 =>
                          wp (lk L2 0) fun x_2 => Q (FV.tup [x, FV.tup ys], x_2) := by
    intro m v2 m1 m2 l2
    refine a2r (d + 1) l2 (by lia) (by decide) (by decide) fun g v3 g0 g1 l3 => ?_
    refine ⟨a0k (by lia) (by lia), ?_⟩
    rw [Int.toNat_natCast, a1d]
    refine ⟨by simp; lia, ?_⟩
    refine a6p (f := fun i : Nat => FV.int i) (I := fun ds acc L => ∃ v' xs, L = [some v', some (.int M), some (.int m), some (.int g), none] ∧ acc = xs.map .int ∧ xs.length = ds.length ∧ Szs xs ∧ Lf (n + 3 + 3 * ds.length) v') (List.range m) (List.range m) [] [] _ rfl ⟨v3, [], rfl, rfl, rfl, by simp [Szs], by simpa [Int.add_assoc] using l3⟩ ?_ ?_
    · rintro ds x r acc L K e ⟨v', xs, rfl, rfl, hl, hx, lf⟩ k
      have hd : ds.length < 30 := by have := congrArg List.length e; simp at this; lia
      simp
      refine b2p d lf (by lia) (by lia) fun s v4 s0 s1 l4 => ?_
      simp [big]
      refine a2r (d + 1) l4 (by lia) (by decide) (by decide) fun w v5 w0 w1 l5 => ?_
      simp
      refine c4f w0 w1 ?_
      intro f hf
      obtain ⟨p, rfl, p0, p1⟩ : ∃ p : Int, f = .int p ∧ 0 ≤ p ∧ p ≤ 9 := by
        simp at hf
        rcases hf with rfl | rfl <;> exact ⟨_, rfl, by decide, by decide⟩
      simp
      refine k _ _ ⟨v5, xs ++ [s + p], rfl, by simp, by simp [hl], ?_, l5.mono (by simp; lia)⟩
      intro y hy
      rcases List.mem_append.mp hy with hy | hy
      · exact hx y hy
      · simp at hy; subst hy; lia
    · rintro ys L ⟨v', ws, rfl, rfl, hl, hx, lf⟩
      simp only [List.length_range] at hl lf
      simp
      refine ⟨a0k (by lia) (by lia), ?_⟩
      rw [a1d]
      refine ⟨by simp; lia, ?_⟩
      refine a6p (f := fun i : Nat => FV.int i) (I := fun ds acc L => ∃ v' xs, L = [some v', some (.int M), some (.int m), some (.int g), some (.tup (ws.map .int))] ∧ acc = xs.map .int ∧ xs.length = ds.length ∧ Szs xs ∧ Lf (n + 93 + 3 * ds.length) v') (List.range (m - 1)) (List.range (m - 1)) [] [] _ rfl ⟨v', [], rfl, rfl, rfl, by simp [Szs], lf.mono (by simp; lia)⟩ ?_ ?_
      · rintro ds x r acc L K e ⟨v', xs, rfl, rfl, hl, hx, lf⟩ k
        have hd : ds.length < 30 := by have := congrArg List.length e; simp at this; lia
        simp
        refine b2p d lf (by lia) (by lia) fun s v4 s0 s1 l4 => ?_
        simp
        refine k _ _ ⟨v4, xs ++ [s], rfl, by simp, by simp [hl], ?_, l4.mono (by simp; lia)⟩
        intro y hy
        rcases List.mem_append.mp hy with hy | hy
        · exact hx y hy
        · simp at hy; subst hy; lia
      · rintro ys L ⟨v', ss, rfl, rfl, hl2, hx2, lf⟩
        simp only [List.length_range] at hl2 lf
        simp
        exact q ws ss v' (by lia) (by lia) (by lia) hx hx2 (lf.mono (by lia))
  refine ite2 (fun h => ?_) (fun h => ?_)
  · refine a2r (d + 1) l1 (by lia) (by decide) (by decide) fun w v2 w0 w1 l2 => ?_
    obtain ⟨m, hm⟩ : ∃ m : Nat, 1 + w = m := ⟨(1 + w).toNat, by lia⟩
    simp
    rw [hm]
    exact tail m v2 (by lia) (by lia) (l2.mono (by lia))
  · refine a2r (d + 1) l1 (by lia) (by lia) (by lia) fun w v2 w0 w1 l2 => ?_
    obtain ⟨m, hm⟩ : ∃ m : Nat, 8 + w = m := ⟨(8 + w).toNat, by lia⟩
    simp
    rw [hm]
    exact tail m v2 (by lia) (by lia) (l2.mono (by lia))
noncomputable def b3q (ss:List Int):List Chg:=(List.range ss.length).map fun i=>(i,i + 1,ss.getD i 0)
theorem c4w {ws ss:List Int} (hw:Szs ws) (hs:Szs ss) (hl:ss.length + 1=ws.length):Gst ws (b3q ss):=by
 refine ⟨fun x hx=>(hw x hx).1,fun x hx=>?_,fun x hx=>?_⟩
 ·obtain ⟨i,hi,rfl⟩:=List.mem_map.mp hx
  have hi:=List.mem_range.mp hi
  refine ⟨by show i < _; lia,by show i + 1 < _; lia,by show i≠i + 1; lia,?_⟩
  show 1≤ss.getD i 0
  simp only [List.getD,List.getElem?_eq_getElem hi,Option.getD_some]
  exact (hs _ (List.getElem_mem hi)).1
 ·obtain ⟨j,hj⟩:=List.mem_iff_getElem?.mp hx
  obtain ⟨h1,h2⟩:=List.getElem?_zip_eq_some.mp hj
  rw [List.getElem?_drop] at h2
  simp only [b3q,List.getElem?_map] at h1 h2
  obtain ⟨a,e1,e2⟩:=Option.map_eq_some_iff.mp h1
  obtain ⟨b,e3,e4⟩:=Option.map_eq_some_iff.mp h2
  have ha:a=j:=by have:=(List.getElem?_eq_some_iff.mp e1).2; simpa using this.symm
  have hb:b=1 + j:=by have:=(List.getElem?_eq_some_iff.mp e3).2; simpa using this.symm
  rw [← e2,← e4,ha,hb]
  show lexLt [(j:Int),((j + 1:Nat):Int)] [((1 + j:Nat):Int),((1 + j + 1:Nat):Int)]=true
  have:¬ (j:Int)=((1 + j:Nat):Int):=by lia
  rw [lexLt,if_neg this,decide_eq_true_eq]
  lia
theorem c0q (ss:List Int):(b3q ss).length=ss.length:=by simp [b3q]
noncomputable def b7p (ks:List Nat) (n:Nat):List (Option Nat):=(List.range n).map fun m=>if m∈ks then none else some (m - 1)
theorem a9n (d:Nat) {ws ss:List Int} (hl:ss.length≤30) {Q:FV×FV→Prop} (q:Q (b4i ws (b3q ss),.non)):callW tb (d + 1) 10 [.tup [.tup (ws.map .int),.tup (ss.map .int)]] Q:=by
 refine a0h (fd:=d9y) rfl rfl ?_
 simp [d9y,e1q,big]
 rw [a1d,a8r]
 refine ⟨by simp; lia,?_⟩
 refine a0y (g:=fun p:Nat×Int=>b8s (p.1,p.1 + 1,p.2)) ((List.range ss.length).zip ss) [] (fun x hx K k=>?_) ?_
 ·simp [big]
  simpa [b8s] using k
 ·have e:((List.range ss.length).zip ss).map (fun p:Nat×Int=>b8s (p.1,p.1 + 1,p.2))=(b3q ss).map b8s:=by
   apply List.ext_getElem
   ·simp [b3q]
   ·intro i h1 h2
    simp at h1 h2
    have:i < ss.length:=by simpa [b3q] using h2
    simp [b3q,this,List.getD]
  rw [List.nil_append,e]
  simpa [b4i] using q
theorem b8a (m:Nat) (ks:List Nat) (R:Bool→Prop):wp (inF (.int m) (.tup (ks.map fun i:Nat=>.int i))) R↔R (decide (m∈ks)):=by
 have ek:(ks.map fun i:Nat=>FV.int i)=(ks.map fun i:Nat=>(i:Int)).map .int:=by simp
 rw [ek,c6v]
 have:((m:Int)∈ks.map fun i:Nat=>(i:Int))↔m∈ks:=by
  rw [List.mem_map]
  exact ⟨fun ⟨a,h,e⟩=>(show a=m by lia) ▸ h,fun h=>⟨m,h,rfl⟩⟩
 simp only [this]
theorem b5r (d:Nat) {ws ss:List Int} {ks:List Nat} (hl:ws.length≤30) (h0:0∈ks) {Q:FV×FV→Prop} (q:Q (.tup ((b7p ks ws.length).map a1x),.non)):callW tb (d + 1) 11 [.tup [.tup (ws.map .int),.tup (ss.map .int)],.tup (ks.map fun i:Nat=>.int i)] Q:=by
 refine a0h (fd:=d9x) rfl rfl ?_
 simp [d9x,d4q,big]
 refine ⟨a0k (by lia) (by lia),?_⟩
 rw [a1d]
 refine ⟨by simp; lia,?_⟩
 refine a0y (f:=fun i:Nat=>FV.int i) (g:=fun m=>a1x (if m∈ks then none else some (m - 1))) (List.range ws.length) [] (fun m hm K k=>?_) ?_
 ·simp [b8a]
  refine ite2 (fun h=>?_) (fun h=>?_)
  ·rw [if_pos h] at k; simpa [a1x] using k
  ·rw [if_neg h] at k
   have hm0:m≠0:=fun z=>h (by rw [z]; exact h0)
   have:((m - 1:Nat):Int)=(m:Int) - 1:=by lia
   simpa [a1x,this] using k
 ·simp
  simpa [b7p,Function.comp_def] using q
theorem c7r {α:Type} (xs:List α) (i t:Nat):a9g xs (some (i:Int)) (some ((i:Int) + (t:Int)))=(xs.drop i).take t:=by
 have h1:sIx xs.length 0 (some (i:Int))=min i xs.length:=by simp only [sIx]; rw [if_neg (by lia)]; simp
 have h2:sIx xs.length xs.length (some ((i:Int) + (t:Int)))=min (i + t) xs.length:=by simp only [sIx]; rw [if_neg (by lia)]; congr 1
 unfold a9g
 rw [h1,h2]
 by_cases hi:i≤xs.length
 ·rw [Nat.min_eq_left hi,List.take_eq_take_iff,List.length_drop]; lia
 ·rw [Nat.min_eq_right (show xs.length≤i by lia),List.drop_of_length_le (Γi _),List.drop_of_length_le (by lia)]; simp
theorem c7q {α:Type} (xs:List α) {i j:Nat} (h:i≤j):a9g xs (some (i:Int)) (some (j:Int))=(xs.drop i).take (j - i):=by
 obtain ⟨t,rfl⟩:∃ t,j=i + t:=⟨j - i,by lia⟩
 rw [Nat.add_sub_cancel_left,← c7r]; simp
noncomputable def kp (ws ss:List Int) (ks:List Nat) (m:Nat):Int:=if m∈ks then ws.getD m 0 else ss.getD (m - 1) 0
noncomputable def a4o (ks:List Nat):Nat→List Nat
 | 0=>[0]
 | m + 1=>if m + 1∈ks then [m + 1] else a4o ks m++[m + 1]
noncomputable def a5g (ws ss:List Int) (b e:Nat):Int:=ws.getD b 0 + ((ss.drop b).take (e - 1 - b)).sum
theorem c4p {ws ss:List Int} {ks:List Nat} {b e:Nat} (hb:b∈ks) (h1:b < e) (h2:e≤ss.length + 1) (hn:∀ i,b < i→i < e→i ∉ ks):((List.range' b (e - b)).map (kp ws ss ks)).sum=a5g ws ss b e:=by
 obtain ⟨t,rfl⟩:∃ t,e=b + t + 1:=⟨e - b - 1,by lia⟩
 have e1:b + t + 1 - b=t + 1:=by lia
 have e2:b + t + 1 - 1 - b=t:=by lia
 rw [a5g,e1,e2,List.range'_succ,List.map_cons,List.sum_cons,kp,if_pos hb]
 congr 2
 apply List.ext_getElem
 ·simp; lia
 ·intro i h3 h4
  have h5:i < t:=by simpa using h3
  simp only [List.getElem_map,List.getElem_range',List.getElem_take,List.getElem_drop]
  rw [kp,if_neg (hn _ (by lia) (by lia)),show b + 1 + 1 * i - 1=b + i by lia,List.getD,List.getElem?_eq_getElem (by lia)]; rfl
noncomputable def a6t (ks:List Nat) (n:Nat):List (Nat×Nat):=ks.zip (ks.drop 1++[n])
theorem b0y:∀ {ks:List Nat} {n:Nat},ks.Pairwise (· < ·)→(∀ k∈ks,k < n)→∀ p∈a6t ks n,p.1∈ks∧p.1 < p.2∧p.2≤n∧∀ i,p.1 < i→i < p.2→i ∉ ks
 | [],n,_,_,p,hp=>by simp [a6t] at hp
 | [k],n,_,hk,p,hp=>by
  have:p=(k,n):=by simpa [a6t] using hp
  subst this
  have:=hk k (by simp)
  exact ⟨by simp,this,Γi _,fun i h1 h2 h3=>by simp at h3; lia⟩
 | k :: k2 :: r,n,hs,hk,p,hp=>by
  obtain ⟨h1,h2⟩:=List.pairwise_cons.mp hs
  have hp:p=(k,k2) ∨ p∈a6t (k2 :: r) n:=by simpa [a6t] using hp
  rcases hp with rfl | hp
  ·refine ⟨by simp,h1 k2 (by simp),Nat.le_of_lt (hk k2 (by simp)),fun i h3 h4 h5=>?_⟩
   rcases List.mem_cons.mp h5 with h5 | h5
   ·simp at h3; lia
   ·rcases List.mem_cons.mp h5 with h6 | h6
    ·simp at h4; lia
    ·have:=(List.pairwise_cons.mp h2).1 i h6
     simp at h4; lia
  ·obtain ⟨a,b,c,d⟩:=b0y h2 (fun x hx=>hk x (Γh _ hx)) p hp
   refine ⟨Γh _ a,b,c,fun i h3 h4 h5=>?_⟩
   rcases List.mem_cons.mp h5 with h5 | h5
   ·have:=h1 _ a; lia
   ·exact d i h3 h4 h5
theorem b2b {α:Type} (f:Nat→α):∀ {k:Nat} {r:List Nat} {n:Nat},(k :: r).Pairwise (· < ·)→(∀ x∈k :: r,x < n)→(a6t (k :: r) n).flatMap (fun p=>(List.range' p.1 (p.2 - p.1)).map f)=(List.range' k (n - k)).map f
 | k,[],n,_,_=>by simp [a6t]
 | k,k2 :: r,n,hs,hk=>by
  obtain ⟨h1,h2⟩:=List.pairwise_cons.mp hs
  have e:a6t (k :: k2 :: r) n=(k,k2) :: a6t (k2 :: r) n:=by simp [a6t]
  rw [e,List.flatMap_cons,b2b f h2 fun x hx=>hk x (Γh _ hx),← List.map_append]
  congr 1
  have a:=h1 k2 (by simp)
  have b:=hk k2 (by simp)
  show List.range' k (k2 - k)++List.range' k2 (n - k2)=_
  have e2:List.range' k2 (n - k2)=List.range' (k + 1 * (k2 - k)) (n - k2):=by congr 1; lia
  rw [e2,List.range'_append]
  congr 1; lia
theorem b7t {ks:List Nat} (h0:0∈ks) (hs:ks.Pairwise (· < ·)):∃ r,ks=0 :: r:=by
 cases ks with
 | nil=>cases h0
 | cons k r =>
  rcases List.mem_cons.mp h0 with h | h
  ·exact ⟨r,by rw [← h]⟩
  ·have:=(List.pairwise_cons.mp hs).1 0 h; lia
theorem b3o {α:Type} (f:Nat→α) {ks:List Nat} {n:Nat} (h0:0∈ks) (hs:ks.Pairwise (· < ·)) (hk:∀ x∈ks,x < n):(a6t ks n).flatMap (fun p=>(List.range' p.1 (p.2 - p.1)).map f)=(List.range n).map f:=by
 obtain ⟨r,rfl⟩:=b7t h0 hs
 rw [b2b f hs hk,List.range_eq_range']; rfl
noncomputable def rd (ws ss:List Int) (ks:List Nat) (m:Nat):Int:=((a4o ks m).map (kp ws ss ks)).sum
theorem b3a {α:Type} (g:α→List Int):∀ xs:List α,(xs.flatMap g).sum=(xs.map fun x=>(g x).sum).sum
 | []=>rfl
 | x :: r=>by rw [List.flatMap_cons,List.sum_append,b3a g r]; rfl
theorem c4y {ws ss:List Int} {ks:List Nat} (hl:ss.length + 1=ws.length) (h0:0∈ks) (hs:ks.Pairwise (· < ·)) (hk:∀ x∈ks,x < ws.length):((List.range ws.length).map (kp ws ss ks)).sum=((a6t ks ws.length).map fun p=>a5g ws ss p.1 p.2).sum:=by
 rw [← b3o _ h0 hs hk,b3a]
 congr 1
 apply List.map_congr_left
 intro p hp
 obtain ⟨a,b,c,d⟩:=b0y hs hk p hp
 exact c4p a b (by lia) d
theorem b1o:∀ {cs:List Chg} {c:Chg},(cs.map keyH).Nodup→c∈cs→a2a (cs.map keyH) (cs.map fun c=>FV.int c.2.2) (keyH c)=some (.int c.2.2)
 | x :: r,c,hn,hc=>by
  simp only [List.map_cons,List.nodup_cons] at hn
  show (if keyH x=keyH c then some (FV.int x.2.2) else a2a (r.map keyH) (r.map fun c=>FV.int c.2.2) (keyH c))=_
  rcases List.mem_cons.mp hc with rfl | hc
  ·rw [if_pos rfl]
  ·rw [if_neg fun e:keyH x=keyH c=>hn.1 (by rw [e]; exact List.mem_map.mpr ⟨c,hc,rfl⟩)]
   exact b1o hn.2 hc
theorem a5m (ws:List Int) (cs:List Chg) (Q:List FV→Prop):wp (a3r (b4i ws cs)) Q↔Q [.tup (ws.map .int),.tup (cs.map b8s)]:=Iff.rfl
theorem b9x {xs:List Int} {i:Nat} (h:i < xs.length) (Q:FV→Prop):wp (atF (xs.map .int) (i:Int)) Q↔Q (.int (xs.getD i 0)) :=
 a2v rfl (by rw [List.getElem?_map,List.getElem?_eq_getElem h]; simp [List.getD,h])
theorem b5j {xs:List Int} (hl:xs.length≤1000) (h:∀ x∈xs,0≤x∧x < 2000000000) {Q:Int→Prop} (q:Q xs.sum):wp (c4n (xs.map .int)) Q:=by
 simp only [c4n,a2l,a3g,a0f]
 rw [a3n]
 refine ⟨⟨by simp only [big]; lia,?_⟩,q⟩
 rw [List.all_eq_true]
 intro x hx
 have:=h x hx
 simp only [a5o,decide_eq_true_eq]; lia
theorem c1u (ks:List Nat) (n:Nat):a3a ((List.range n).map fun i:Nat=>FV.int i) ((b7p ks n).map a1x)=(List.range n).map fun m:Nat=>FV.tup [.int (m:Int),a1x (if m∈ks then none else some (m - 1))]:=by
 rw [a8r]
 apply List.ext_getElem
 ·simp [b7p]
 ·intro i h1 h2
  simp [b7p]
structure Rw (ws ss:List Int) (ks:List Nat):Prop where
 hw:Szs ws
 hs:Szs ss
 hl:ss.length + 1=ws.length
 hn:ws.length≤30
 h0:0∈ks
 hc:ks.length≤30
 hp:ks.Pairwise (· < ·)
 hk:∀ k∈ks,k < ws.length
theorem b8i {xs:List Int} (h:Szs xs) {i:Nat} (hi:i < xs.length):1≤xs.getD i 0∧xs.getD i 0 < 2000000000:=by
 rw [List.getD,List.getElem?_eq_getElem hi]; exact h _ (List.getElem_mem hi)
theorem d7q {ws ss:List Int} {ks:List Nat} (h:Rw ws ss ks) {m:Nat} (hm:m < ws.length):1≤kp ws ss ks m∧kp ws ss ks m < 2000000000:=by
 unfold kp
 split
 ·exact b8i h.hw hm
 ·rename_i hk
  have:m≠0:=fun z=>hk (z ▸ h.h0)
  have:=h.hl
  exact b8i h.hs (by lia)
noncomputable def b4j (ks:List Nat) (n:Nat):FV:=.tup ((b7p ks n).map a1x)
theorem a4m (ks:List Nat) (n:Nat) (Q:List FV→Prop):wp (a3r (b4j ks n)) Q↔Q ((b7p ks n).map a1x):=Iff.rfl
theorem b2v (ks:List Nat) (n:Nat):(b7p ks n).length=n:=by simp [b7p]
theorem c3u (d:Nat) {ws ss:List Int} {ks:List Nat} (h:Rw ws ss ks) {Q:FV×FV→Prop} (q:Q (.lst (((List.range ws.length).map (kp ws ss ks)).map .int),.non)):callW tb (d + 2) 5 [b4i ws (b3q ss),b4j ks ws.length] Q:=by
 have hn:=h.hn
 have hl:=h.hl
 have hG:=c4w h.hw h.hs h.hl
 refine a0h (fd:=fd5) rfl rfl ?_
 simp [fd5,bd5]
 refine a8g d hG (by rw [c0q]; lia) ?_
 simp [a4m,b2v,a5m]
 rw [a1d,c1u]
 refine ⟨by simp [big]; lia,?_⟩
 refine a0y (g:=fun m=>.int (kp ws ss ks m)) (List.range ws.length) [] (fun m hm K k=>?_) ?_
 ·have hm:=List.mem_range.mp hm
  by_cases hk:m∈ks
  ·rw [kp,if_pos hk] at k
   simp [hk,a1x,a5m]
   rw [b9x hm]
   exact k
  ·rw [kp,if_neg hk] at k
   have m0:m≠0:=fun z=>hk (z ▸ h.h0)
   have mem:((m - 1,m,ss.getD (m - 1) 0):Chg)∈b3q ss:=List.mem_map.mpr ⟨m - 1,List.mem_range.mpr (by lia),by rw [show m - 1 + 1=m by lia]⟩
   have e:=b1o (a4q hG.s) mem
   simp only [keyH] at e
   simp [hk,a1x,big]
   rw [e]
   exact k
 ·simpa [List.map_map,Function.comp_def] using q
theorem c4x (d:Nat) {ws ss:List Int} {ks:List Nat} (h:Rw ws ss ks) {Q:FV×FV→Prop} (q:Q (.int ((List.range ws.length).map (kp ws ss ks)).sum,.non)):callW tb (d + 3) 6 [b4i ws (b3q ss),b4j ks ws.length] Q:=by
 have hn:=h.hn
 refine a0h (fd:=fd6) rfl rfl ?_
 simp [fd6,bd6]
 refine c3u d h ?_
 simp only [sq_l]
 refine b5j (by simp; lia) ?_ q
 intro x hx
 obtain ⟨m,hm,rfl⟩:=List.mem_map.mp hx
 have:=d7q h (List.mem_range.mp hm)
 lia
theorem b4y {ks:List Nat}:∀ {m i:Nat},i∈a4o ks m→i≤m
 | 0,i,h=>by simp [a4o] at h; lia
 | m + 1,i,h=>by
  unfold a4o at h
  split at h
  ·simp at h; lia
  ·rcases List.mem_append.mp h with h | h
   ·have:=b4y h; lia
   ·simp at h; lia
theorem b4z {ks:List Nat}:∀ m:Nat,(a4o ks m).length≤m + 1∧1≤(a4o ks m).length
 | 0=>by simp [a4o]
 | m + 1=>by
  unfold a4o
  split
  ·simp
  ·have:=b4z (ks:=ks) m; simp; lia
noncomputable def e0f (ks:List Nat) (m:Nat):FV:=.tup ((a4o ks m).map fun i:Nat=>.int i)
theorem c2j (ks:List Nat) (m:Nat) (Q:List FV→Prop):wp (a3r (e0f ks m)) Q↔Q ((a4o ks m).map fun i:Nat=>.int i):=Iff.rfl
theorem b9w {ks:List Nat} {n i:Nat} (h:i < n) (Q:FV→Prop):wp (atF ((b7p ks n).map a1x) (i:Int)) Q↔Q (a1x (if i∈ks then none else some (i - 1))) :=
 a2v rfl (by simp [b7p,h])
theorem c8r (d:Nat) {ks:List Nat} {n m:Nat} (hn:n≤30) (h0:0∈ks) (hm:m < n) {Q:FV×FV→Prop} (q:Q (e0f ks m,.non)):callW tb (d + 1) 7 [b4j ks n,.int m] Q:=by
 refine a0h (fd:=fd7) rfl rfl ?_
 simp [fd7,bd7,big,a4m]
 rw [b9w hm]
 -- out++the way of what is yet to come,read backwards
 refine while_by (I:=fun t L=>∃ (o:Option Nat) (out:List Nat),L=[some (b4j ks n),some (.int m),some (.lst (out.map fun i:Nat=>.int i)),some (a1x o)]∧out.length + t≤31∧(match o with | none=>a4o ks m=out.reverse | some p=>p < m∧t=p + 1∧a4o ks m=a4o ks p++out.reverse)) ?_ (m:=m) ⟨if m∈ks then none else some (m - 1),[m],rfl,by simp; lia,?_⟩
 ·rintro t L K ⟨o,out,rfl,hl,ho⟩ k
  cases o with
  | none =>
   dsimp only at ho
   simp [a1x]
   simpa [e0f,ho] using q
  | some p =>
   obtain ⟨hp,rfl,hw⟩:=ho
   simp [a1x,big,a4m]
   refine ⟨by lia,?_⟩
   rw [b9w (by lia)]
   by_cases hk:p∈ks
   ·refine k 0 _ (by lia) ⟨none,out++[p],by simp [hk],by simp; lia,?_⟩
    show a4o ks m=_
    rw [hw]
    cases p with
    | zero=>simp [a4o]
    | succ p=>simp [a4o,hk]
   ·have p0:p≠0:=fun z=>hk (z ▸ h0)
    obtain ⟨r,rfl⟩:∃ r,p=r + 1:=⟨p - 1,by lia⟩
    refine k (r + 1) _ (by lia) ⟨some r,out++[r + 1],by simp [hk],by simp; lia,by lia,rfl,?_⟩
    rw [hw]
    simp [a4o,hk]
 ·by_cases hk:m∈ks
  ·rw [if_pos hk]
   show a4o ks m=_
   cases m with
   | zero=>simp [a4o]
   | succ m=>simp [a4o,hk]
  ·have p0:m≠0:=fun z=>hk (z ▸ h0)
   obtain ⟨r,rfl⟩:∃ r,m=r + 1:=⟨m - 1,by lia⟩
   rw [if_neg hk]
   refine ⟨by lia,?_,?_⟩
   ·rfl
   ·simp [a4o,hk]
theorem c0r (d:Nat) {ws ss:List Int} {ks:List Nat} (h:Rw ws ss ks) {Q:FV×FV→Prop} (q:Q (.tup (((List.range ws.length).map (rd ws ss ks)).map .int),.non)):callW tb (d + 3) 9 [b4i ws (b3q ss),b4j ks ws.length] Q:=by
 have hn:=h.hn
 refine a0h (fd:=fd9) rfl rfl ?_
 simp [fd9,bd9]
 refine c3u d h ?_
 simp [a4m,b2v]
 refine ⟨a0k (by lia) (by lia),?_⟩
 rw [a1d]
 refine ⟨by simp [big]; lia,?_⟩
 refine a0y (f:=fun i:Nat=>FV.int i) (g:=fun m=>.int (rd ws ss ks m)) (List.range ws.length) [] (fun m hm K k=>?_) ?_
 ·have hm:=List.mem_range.mp hm
  have hwl:=(b4z (ks:=ks) m).1
  simp
  refine c8r (d + 1) h.hn h.h0 hm ?_
  simp [c2j]
  refine ⟨by simp [big]; lia,?_⟩
  refine a0y (f:=fun i:Nat=>FV.int i) (g:=fun i=>.int (kp ws ss ks i)) (a4o ks m) [] (fun i hi K k=>?_) ?_
  ·have hi:=b4y hi
   simp
   rw [a2v rfl (show ((List.range ws.length).map (FV.int ∘ kp ws ss ks))[i]?=some (.int (kp ws ss ks i)) by simp [show i < ws.length by lia])]
   exact k
  ·have e:((a4o ks m).map fun i=>FV.int (kp ws ss ks i))=((a4o ks m).map (kp ws ss ks)).map .int:=by simp
   rw [List.nil_append,e]
   rw [a3g,a0f]
   exact k
 ·simpa [List.map_map,Function.comp_def] using q
noncomputable def b8q (ws ss:List Int):FV:=.tup [.tup (ws.map .int),.tup (ss.map .int)]
theorem b3c (ws ss:List Int) (Q:List FV→Prop):wp (a3r (b8q ws ss)) Q↔Q [.tup (ws.map .int),.tup (ss.map .int)]:=Iff.rfl
noncomputable def a6j (ks:List Nat):FV:=.tup (ks.map fun i:Nat=>.int i)
theorem c2k (ks:List Nat) (Q:List FV→Prop):wp (a3r (a6j ks)) Q↔Q (ks.map fun i:Nat=>.int i):=Iff.rfl
theorem b2h (d:Nat) {ws ss:List Int} {ks:List Nat} (h:Rw ws ss ks) {Q:FV×FV→Prop} (q:Q (.int ((List.range ws.length).map (kp ws ss ks)).sum,.non)):callW tb (d + 4) 12 [b8q ws ss,a6j ks] Q:=by
 have hn:=h.hn
 have hl:=h.hl
 refine a0h (fd:=d9w) rfl rfl ?_
 simp [d9w,d4p]
 refine a9n (d + 2) (by lia) ?_
 dsimp only
 refine b5r (d + 2) h.hn h.h0 ?_
 dsimp only
 exact c4x d h q
theorem b5p (d:Nat) {ws ss:List Int} {ks:List Nat} (h:Rw ws ss ks) {Q:FV×FV→Prop} (q:Q (.tup (((List.range ws.length).map (rd ws ss ks)).map .int),.non)):callW tb (d + 4) 13 [b8q ws ss,a6j ks] Q:=by
 have hn:=h.hn
 have hl:=h.hl
 refine a0h (fd:=d9v) rfl rfl ?_
 simp [d9v,d4o]
 refine a9n (d + 2) (by lia) ?_
 dsimp only
 refine b5r (d + 2) h.hn h.h0 ?_
 dsimp only
 exact c0r d h q
noncomputable def deps' (ks:List Nat) (n:Nat):List Int:=(List.range n).map fun m=>((a4o ks m).length:Int) - 1
noncomputable def mx (xs:List Int):Int:=c1o (xs.headD 0) xs.tail
theorem c4m {xs:List Int} (hl:xs.length≤1000) (h:∀ x∈xs,0≤x∧x≤100000000000) {Q:Int→Prop} (q:Q xs.sum):wp (c4n (xs.map .int)) Q:=by
 simp only [c4n,a2l,a3g,a0f]
 rw [a3n]
 refine ⟨⟨by simp only [big]; lia,?_⟩,q⟩
 rw [List.all_eq_true]
 intro x hx
 have:=h x hx
 simp only [a5o,decide_eq_true_eq]; lia
noncomputable def nxt (n:Nat):List Nat→Nat
 | []=>n
 | k :: _=>k
noncomputable def vp (ok:Nat→Nat→Bool) (n:Nat):List Nat→Prop
 | []=>True
 | k :: r=>k < nxt n r∧ok k (nxt n r)=true∧vp ok n r
noncomputable def pc (c:Nat→Nat→Int) (n:Nat):List Nat→Int
 | []=>0
 | k :: r=>c k (nxt n r) + pc c n r
noncomputable def lxN:List Nat→List Nat→Bool
 | [],[]=>false
 | [],_ :: _=>true
 | _ :: _,[]=>false
 | a :: r,b :: q=>if a=b then lxN r q else decide (a < b)
abbrev PT:=Int×List Nat
noncomputable def ltP (x y:PT):Bool:=if x.1=y.1 then lxN x.2 y.2 else decide (x.1 < y.1)
theorem b1h:∀ a:List Nat,lxN a a=false
 | []=>rfl
 | a :: r=>by simp [lxN,b1h r]
theorem a9x:∀ {a b c:List Nat},lxN a b=true→lxN b c=true→lxN a c=true
 | [],[],_,h,_=>by cases h
 | [],b :: q,[],_,h=>by cases h
 | [],b :: q,c :: s,_,_=>rfl
 | a :: r,[],_,h,_=>by cases h
 | a :: r,b :: q,[],_,h=>by cases h
 | a :: r,b :: q,c :: s,h,g=>by
  simp only [lxN] at h g ⊢
  by_cases e1:a=b
  ·subst e1
   rw [if_pos rfl] at h
   by_cases e2:a=c
   ·subst e2; rw [if_pos rfl] at g ⊢; exact a9x h g
   ·rw [if_neg e2] at g ⊢; exact g
  ·rw [if_neg e1] at h
   have h:=of_decide_eq_true h
   by_cases e2:b=c
   ·subst e2; rw [if_neg e1]; exact decide_eq_true h
   ·rw [if_neg e2] at g
    have g:=of_decide_eq_true g
    rw [if_neg (by lia)]; exact decide_eq_true (by lia)
theorem b7i:∀ {a b:List Nat},lxN a b=false→lxN b a=false→a=b
 | [],[],_,_=>rfl
 | [],b :: q,h,_=>by cases h
 | a :: r,[],_,h=>by cases h
 | a :: r,b :: q,h,g=>by
  simp only [lxN] at h g
  by_cases e:a=b
  ·subst e
   rw [if_pos rfl] at h g
   rw [b7i h g]
  ·rw [if_neg e] at h
   rw [if_neg (Ne.symm e)] at g
   have h:=of_decide_eq_false h
   have g:=of_decide_eq_false g
   lia
theorem b1i (a:PT):ltP a a=false:=by simp [ltP,b1h]
theorem a9y {a b c:PT} (h:ltP a b=true) (g:ltP b c=true):ltP a c=true:=by
 simp only [ltP] at h g ⊢
 by_cases e1:a.1=b.1
 ·rw [if_pos e1] at h
  by_cases e2:b.1=c.1
  ·rw [if_pos e2] at g; rw [if_pos (e1.trans e2)]; exact a9x h g
  ·rw [if_neg e2] at g
   have g:=of_decide_eq_true g
   rw [if_neg (by lia)]; exact decide_eq_true (by lia)
 ·rw [if_neg e1] at h
  have h:=of_decide_eq_true h
  by_cases e2:b.1=c.1
  ·rw [if_neg (by lia)]; exact decide_eq_true (by lia)
  ·rw [if_neg e2] at g
   have g:=of_decide_eq_true g
   rw [if_neg (by lia)]; exact decide_eq_true (by lia)
theorem c6i {a b:PT} (h:ltP a b=false) (g:ltP b a=false):a=b:=by
 simp only [ltP] at h g
 by_cases e1:a.1=b.1
 ·rw [if_pos e1] at h; rw [if_pos e1.symm] at g
  exact Prod.ext e1 (b7i h g)
 ·rw [if_neg e1] at h; rw [if_neg (Ne.symm e1)] at g
  have h:=of_decide_eq_false h
  have g:=of_decide_eq_false g
  lia
theorem a6d {a b c:PT} (h:ltP b a=false) (g:ltP c b=false):ltP c a=false:=by
 cases e:ltP c a with
 | false=>rfl
 | true =>
  cases e2:ltP a b with
  | true=>rw [a9y e e2] at g; cases g
  | false=>rw [c6i e2 h,g] at e; cases e
theorem c6m {a b:PT} (h:ltP b a=false):a.1≤b.1:=by
 simp only [ltP] at h
 by_cases e:b.1=a.1
 ·lia
 ·rw [if_neg e] at h
  have:=of_decide_eq_false h
  lia
theorem c1r {c:Int} {i:Nat} {x y:PT}:ltP (c + x.1,i :: x.2) (c + y.1,i :: y.2)=ltP x y:=by
 simp only [ltP,lxN,if_true]
 by_cases e:x.1=y.1
 ·rw [if_pos e,if_pos (by lia)]
 ·rw [if_neg e,if_neg (by lia)]
  congr 1
  exact propext ⟨fun h=>by lia,fun h=>by lia⟩
theorem b2u {α:Type} (lt:α→α→Bool):∀ (xs:List α) (b:α),a1b lt b xs∈b :: xs
 | [],b=>by simp [a1b]
 | x :: r,b=>by
  have:=b2u lt r (if lt x b=true then x else b)
  show a1b lt (if lt x b=true then x else b) r∈_
  split at this <;> rename_i h
  ·rw [if_pos h]; exact Γh _ this
  ·rw [if_neg h]
   rcases List.mem_cons.mp this with e | e
   ·rw [e]; simp
   ·exact Γh _ (Γh _ e)
theorem b2t:∀ (xs:List PT) (b:PT),∀ x∈b :: xs,ltP x (a1b ltP b xs)=false
 | [],b,x,h=>by
  rcases List.mem_cons.mp h with rfl | h
  ·exact b1i _
  ·cases h
 | y :: r,b,x,h=>by
  show ltP x (a1b ltP (if ltP y b=true then y else b) r)=false
  have ih:=b2t r (if ltP y b=true then y else b)
  have h0:=ih _ Γn
  rcases List.mem_cons.mp h with rfl | h
  ·by_cases e:ltP y x=true
   ·rw [if_pos e] at h0 ⊢
    refine a6d h0 ?_
    cases e2:ltP x y with
    | false=>rfl
    | true=>have:=a9y e e2; rw [b1i] at this; cases this
   ·rw [if_neg e] at h0 ⊢; exact h0
  ·rcases List.mem_cons.mp h with rfl | h
   ·by_cases e:ltP x b=true
    ·rw [if_pos e] at h0 ⊢; exact h0
    ·rw [if_neg e] at h0 ⊢
     exact a6d h0 (by simpa using e)
   ·exact ih x (Γh _ h)
noncomputable def Bst (ok:Nat→Nat→Bool) (c:Nat→Nat→Int) (n i:Nat):Option PT→Prop
 | some p=>p.1=pc c n p.2∧nxt n p.2=i∧vp ok n p.2∧∀ ks,nxt n ks=i→vp ok n ks→ltP (pc c n ks,ks) p=false
 | none=>∀ ks,nxt n ks=i→¬ vp ok n ks
section
variable {ok ok':Nat→Nat→Bool} {c:Nat→Nat→Int} {n:Nat}
theorem b5b:∀ {ks:List Nat},vp ok n ks→(∀ k∈ks,k < n)∧ks.Pairwise (· < ·)∧∀ k∈ks,nxt n ks≤k
 | [],_=>by simp
 | k :: r,h=>by
  obtain ⟨h1,h2,h3⟩:=h
  obtain ⟨a,b,d⟩:=b5b h3
  have hk:k < n:=by
   cases r with
   | nil=>exact h1
   | cons x q=>have:=a x (by simp); simp [nxt] at h1; lia
  refine ⟨fun x hx=>?_,List.pairwise_cons.mpr ⟨fun x hx=>?_,b⟩,fun x hx=>?_⟩
  ·rcases List.mem_cons.mp hx with rfl | hx
   ·exact hk
   ·exact a x hx
  ·have:=d x hx; lia
  ·show k≤x
   rcases List.mem_cons.mp hx with rfl | hx
   ·exact Γi _
   ·have:=d x hx; lia
theorem b2l {ks:List Nat} (h:vp ok n ks):nxt n ks≤n:=by
 cases ks with
 | nil=>exact Γi _
 | cons k r=>exact Nat.le_of_lt ((b5b h).1 k (by simp))
theorem c2z:∀ {ks:List Nat},vp ok n ks→ks.length + nxt n ks≤n
 | [],_=>by simp [nxt]
 | k :: r,⟨h1,_,h3⟩=>by
  have:=c2z h3
  show r.length + 1 + k≤n
  lia
theorem c7t:Bst ok c n n (some (0,[])):=by
 refine ⟨rfl,rfl,trivial,fun ks h1 h2=>?_⟩
 cases ks with
 | nil=>exact b1i _
 | cons k r=>have:=(b5b h2).1 k (by simp); simp [nxt] at h1; lia
theorem c2w {i:Nat} (hi:i < n) (h:∀ e,i < e→e≤n→ok i e=true→Bst ok c n e none):Bst ok c n i none:=by
 intro ks h1 h2
 cases ks with
 | nil=>simp [nxt] at h1; lia
 | cons k r =>
  cases (show k=i from h1)
  exact h _ h2.1 (b2l h2.2.2) h2.2.1 r rfl h2.2.2
theorem c2v {i:Nat} {B:Nat→Option PT} (hi:i < n) (hB:∀ e,i < e→e≤n→Bst ok c n e (B e)) {p:PT} (hp:∃ e,i < e∧e≤n∧ok i e=true∧∃ q,B e=some q∧p=(c i e + q.1,i :: q.2))
  (hl:∀ e q,i < e→e≤n→ok i e=true→B e=some q→ltP (c i e + q.1,i :: q.2) p=false):Bst ok c n i (some p):=by
 obtain ⟨e,h1,h2,h3,q,hq,rfl⟩:=hp
 have b:=hB e h1 h2
 rw [hq] at b
 obtain ⟨b1,b2,b3,b4⟩:=b
 refine ⟨?_,rfl,⟨by rw [b2]; exact h1,by rw [b2]; exact h3,b3⟩,fun ks k1 k2=>?_⟩
 ·show c i e + q.1=c i (nxt n q.2) + pc c n q.2
  rw [b2,b1]
 ·cases ks with
  | nil=>simp [nxt] at k1; lia
  | cons k r =>
   cases (show k=i from k1)
   obtain ⟨k3,k4,k5⟩:=k2
   have hn:=b2l k5
   have b':=hB (nxt n r) k3 hn
   cases e2:B (nxt n r) with
   | none=>rw [e2] at b'; exact absurd k5 (b' r rfl)
   | some q' =>
    rw [e2] at b'
    have l1:=hl _ q' k3 hn k4 e2
    have l2:=b'.2.2.2 r rfl k5
    refine a6d l1 ?_
    show ltP (c i (nxt n r) + (pc c n r,r).1,i :: (pc c n r,r).2) (c i (nxt n r) + q'.1,i :: q'.2)=false
    rw [c1r]; exact l2
theorem b0n {i:Nat} {o:Option PT} (hk:∀ a e,a < e→e≤n→ok a e=ok' a e) (h:Bst ok c n i o):Bst ok' c n i o:=by
 have hv:∀ ks,vp ok n ks↔vp ok' n ks:=by
  intro ks
  induction ks with
  | nil=>exact Iff.rfl
  | cons k r ih =>
   constructor
   ·exact fun ⟨a,b,d⟩=>⟨a,by rw [← hk _ _ a (b2l d)]; exact b,ih.mp d⟩
   ·exact fun ⟨a,b,d⟩=>⟨a,by rw [hk _ _ a (b2l d)]; exact b,ih.mpr d⟩
 cases o with
 | none=>exact fun ks h1 h2=>h ks h1 ((hv ks).mpr h2)
 | some p=>exact ⟨h.1,h.2.1,(hv _).mp h.2.2.1,fun ks h1 h2=>h.2.2.2 ks h1 ((hv ks).mpr h2)⟩
end
section
variable {ok:Nat→Nat→Bool} {c:Nat→Nat→Int} {n:Nat} {B:Nat→Option PT}
end
theorem b6p (c:Nat→Nat→Int) (n:Nat):∀ ks:List Nat,pc c n ks=((a6t ks n).map fun p=>c p.1 p.2).sum
 | []=>rfl
 | [k]=>rfl
 | k :: k2 :: r=>by
  have e:a6t (k :: k2 :: r) n=(k,k2) :: a6t (k2 :: r) n:=by simp [a6t]
  show c k k2 + pc c n (k2 :: r)=_
  rw [b6p c n (k2 :: r),e]; rfl
theorem b5a (ok:Nat→Nat→Bool) (n:Nat):∀ ks:List Nat,vp ok n ks↔∀ p∈a6t ks n,p.1 < p.2∧ok p.1 p.2=true
 | []=>by simp [vp,a6t]
 | [k]=>by simp [vp,a6t,nxt]
 | k :: k2 :: r=>by
  have e:a6t (k :: k2 :: r) n=(k,k2) :: a6t (k2 :: r) n:=by simp [a6t]
  rw [e]
  have ih:=b5a ok n (k2 :: r)
  constructor
  ·rintro ⟨h1,h2,h3⟩ p hp
   rcases List.mem_cons.mp hp with rfl | hp
   ·exact ⟨h1,h2⟩
   ·exact ih.mp h3 p hp
  ·intro h
   have h0:=h (k,k2) (by simp)
   exact ⟨h0.1,h0.2,ih.mpr fun p hp=>h p (Γh _ hp)⟩
noncomputable def AK:Nat→List (List Nat)
 | 0=>[[0]]
 | m + 1=>AK m++(AK m).map fun ks=>ks++[m + 1]
theorem b3k:∀ m,(AK m).length=2 ^ m
 | 0=>rfl
 | m + 1=>by simp [AK,b3k m]; lia
theorem c0b:∀ m,∀ ks∈AK m,(∃ r,ks=0 :: r)∧ks.Pairwise (· < ·)∧(∀ k∈ks,k≤m)∧ks.length≤m + 1
 | 0,ks,h=>by simp [AK] at h; subst h; simp
 | m + 1,ks,h=>by
  rcases List.mem_append.mp h with h | h
  ·obtain ⟨a,b,c,d⟩:=c0b m ks h
   exact ⟨a,b,fun k hk=>Nat.le_succ_of_le (c k hk),by lia⟩
  ·obtain ⟨ks',h',rfl⟩:=List.mem_map.mp h
   obtain ⟨⟨r,rfl⟩,b,c,d⟩:=c0b m ks' h'
   refine ⟨⟨r++[m + 1],rfl⟩,?_,fun k hk=>?_,by simp at d ⊢; lia⟩
   ·rw [List.pairwise_append]
    exact ⟨b,by simp,fun x hx y hy=>by simp at hy; have:=c x hx; lia⟩
   ·rcases List.mem_append.mp hk with hk | hk
    ·exact Nat.le_succ_of_le (c k hk)
    ·simp at hk; lia
theorem b3l:∀ (m:Nat) (r:List Nat),(0 :: r).Pairwise (· < ·)→(∀ k∈r,k≤m)→(0 :: r)∈AK m
 | 0,r,h,hk=>by
  cases r with
  | nil=>simp [AK]
  | cons k s=>have:=(List.pairwise_cons.mp h).1 k (by simp); have:=hk k (by simp); lia
 | m + 1,r,h,hk=>by
  by_cases hm:m + 1∈r
  ·obtain ⟨s,t,rfl⟩:=List.append_of_mem hm
   have ht:t=[]:=by
    cases t with
    | nil=>rfl
    | cons y t =>
     have h1:=(List.pairwise_cons.mp h).2
     have h2:=(List.pairwise_append.mp h1).2.1
     have:=(List.pairwise_cons.mp h2).1 y (by simp)
     have:=hk y (by simp)
     lia
   subst ht
   have h1:=(List.pairwise_cons.mp h)
   have h2:=List.pairwise_append.mp h1.2
   refine List.mem_append_right _ (List.mem_map.mpr ⟨0 :: s,b3l m s ?_ fun k hk'=>?_,rfl⟩)
   ·exact List.pairwise_cons.mpr ⟨fun x hx=>h1.1 x (List.mem_append_left _ hx),h2.1⟩
   ·have:=h2.2.2 k hk' (m + 1) (by simp); lia
  ·refine List.mem_append_left _ (b3l m r h fun k hk'=>?_)
   have:=hk k hk'
   have:k≠m + 1:=fun z=>hm (z ▸ hk')
   lia
theorem c3a {ok:Nat→Nat→Bool} {n:Nat} (h:∀ i,i < n→ok i (i + 1)=true):∀ t,t≤n→vp ok n (List.range' (n - t) t)∧nxt n (List.range' (n - t) t)=n - t
 | 0,_=>⟨trivial,by simp [nxt]⟩
 | t + 1,ht=>by
  obtain ⟨a,b⟩:=c3a h t (by lia)
  rw [show n - (t + 1)=n - t - 1 by lia,List.range'_succ,show n - t - 1 + 1=n - t by lia]
  refine ⟨⟨by rw [b]; lia,?_,a⟩,rfl⟩
  rw [b]
  have:=h (n - t - 1) (by lia)
  rwa [show n - t - 1 + 1=n - t by lia] at this
structure Rwo (ws ss:List Int):Prop where
 hw:Szs ws
 hs:Szs ss
 hl:ss.length + 1=ws.length
 hn:ws.length≤30
theorem c4q (d:Nat) {ws ss:List Int} (h:Rwo ws ss) {b e:Nat} (hb:b < ws.length) (he:b < e) {i:Int} (hi:i=e) {Q:FV×FV→Prop} (q:Q (.int (a5g ws ss b e),.non)):callW tb (d + 1) 14 [b8q ws ss,.int b,.int i] Q:=by
 subst hi
 have hn:=h.hn
 have hl:=h.hl
 refine a0h (fd:=d9u) rfl rfl ?_
 simp [d9u,e1p,b8q]
 rw [b9x hb]
 have e1:(e:Int) - 1=((e - 1:Nat):Int):=by lia
 simp
 rw [e1,c7q _ (show b≤e - 1 by lia),← List.map_drop,← List.map_take]
 refine b5j (by simp; lia) ?_ ?_
 ·intro x hx
  have:=h.hs x (List.mem_of_mem_drop (List.mem_of_mem_take hx))
  lia
 ·simpa [a5g] using q
noncomputable def b4u (p:PT):FV:=.tup [.int p.1,.tup (p.2.map fun i:Nat=>.int i)]
noncomputable def e0g:Option PT→FV
 | none=>.non
 | some p=>b4u p
theorem c7f (n:Nat) (hn:1 < n) (ks:List Nat):fD n (.tup (ks.map fun i:Nat=>.int i))=some (.tup (ks.map fun i:Nat=>.int i)):=by
 obtain ⟨m,rfl⟩:∃ m,n=m + 2:=⟨n - 2,by lia⟩
 have:a3v (fD (m + 1)) (ks.map fun i:Nat=>FV.int i)=some (ks.map fun i:Nat=>D.int i):=by
  induction ks with
  | nil=>rfl
  | cons k r ih =>
   show ((some (D.int k)).bind fun y=>(a3v (fD (m + 1)) (r.map fun i:Nat=>FV.int i)).map (y :: ·))=_
   rw [ih]; rfl
 show (a3v (fD (m + 1)) (ks.map fun i:Nat=>FV.int i)).map D.tup=_
 rw [this]; rfl
theorem a6i:∀ a b:List Nat,D.eqvs (a.map fun i:Nat=>.int i) (b.map fun i:Nat=>.int i)=decide (a=b)
 | [],[]=>by simp [D.eqvs]
 | [],b :: q=>by simp [D.eqvs]
 | a :: r,[]=>by simp [D.eqvs]
 | a :: r,b :: q=>by
  simp only [List.map_cons,D.eqvs,D.eqv,a6i r q]
  by_cases h:a=b
  ·subst h; simp
  ·have:¬ (a:Int)=(b:Int):=by lia
   simp [h,this]
theorem a9z:∀ a b:List Nat,c0g (a.map fun i:Nat=>.int i) (b.map fun i:Nat=>.int i)=some (lxN a b)
 | [],[]=>by simp [c0g,lxN]
 | [],b :: q=>by simp [c0g,lxN]
 | a :: r,[]=>by simp [c0g,lxN]
 | a :: r,b :: q=>by
  simp only [List.map_cons,c0g,D.eqv,lxN,ltD,a9z r q]
  by_cases h:a=b
  ·subst h; simp
  ·have:¬ (a:Int)=(b:Int):=by lia
   simp [h,this]
noncomputable def b8r (p:PT):D:=.tup [.int p.1,.tup (p.2.map fun i:Nat=>.int i)]
theorem c7i (p:PT):fD a0j (b4u p)=some (b8r p):=by
 have:=c7f 39 (by decide) p.2
 show ((some (D.int p.1)).bind fun y=>((fD 39 (FV.tup (p.2.map fun i:Nat=>.int i))).bind fun z=>(some []).map (z :: ·)).map (y :: ·)).map D.tup=_
 rw [this]; rfl
theorem c7h (a b:PT):ltD (b8r a) (b8r b)=some (ltP a b):=by
 simp only [b8r,ltD,c0g,D.eqv,a6i,a9z,ltP]
 by_cases e:a.1=b.1
 ·rw [if_pos e,if_pos (by simpa using e)]
  by_cases e2:a.2=b.2
  ·rw [e2,if_pos (by simp),b1h]
  ·rw [if_neg (by simpa using e2)]
 ·rw [if_neg e,if_neg (by simpa using e)]
theorem minP (p:PT) (r:List PT) (Q:FV→Prop):wp (b3t (.lst ((p :: r).map b4u))) Q↔Q (b4u (a1b ltP p r)):=c6h b4u b8r ltP c7i c7h (fun a ps z=>nomatch z) p r Q
theorem b4v {κ α:Type} [DecidableEq κ] {k:κ} {v:α}:∀ (r:List κ) (q:List α),r.length=q.length→k ∉ r→List.zipWith (fun k' v'=>if k'=k then v else v') r q=q
 | [],[],_,_=>rfl
 | [],a :: b,h,_=>by simp at h
 | a :: b,[],h,_=>by simp at h
 | a :: b,a' :: b',h,hr=>by
  have h1:¬ a=k:=fun z=>hr (by simp [z])
  rw [List.zipWith_cons_cons,if_neg h1,b4v b b' (by simpa using h) fun z=>hr (Γh _ z)]
theorem c2c {κ α:Type} [DecidableEq κ]:∀ {ks:List κ} {vs:List α} (k:κ) (v:α) (j:κ),ks.length=vs.length→a2a (a2q ks vs k v).1 (a2q ks vs k v).2 j=if j=k then some v else a2a ks vs j:=by
 have go1:∀ {ks:List κ} {vs:List α} (k:κ) (v:α) (j:κ),ks.length=vs.length→k∈ks→a2a ks (List.zipWith (fun k' v'=>if k'=k then v else v') ks vs) j=if j=k then some v else a2a ks vs j:=by
  intro ks
  induction ks with
  | nil=>intro vs k v j _ h; simp at h
  | cons x r ih =>
   intro vs k v j hl hk
   cases vs with
   | nil=>simp at hl
   | cons y q =>
    simp only [List.zipWith_cons_cons,a2a]
    by_cases e:x=j
    ·subst e
     by_cases e2:x=k
     ·subst e2; simp
     ·simp [e2]
    ·rw [if_neg e,if_neg e]
     by_cases hr:k∈r
     ·exact ih k v j (by simpa using hl) hr
     ·have hx:k=x:=by simpa [hr] using hk
      subst hx
      have:=b4v (k:=k) (v:=v) r q (by simpa using hl) hr
      rw [this,if_neg (Ne.symm e)]
 have go2:∀ {ks:List κ} {vs:List α} (k:κ) (v:α) (j:κ),ks.length=vs.length→k ∉ ks→a2a (ks++[k]) (vs++[v]) j=if j=k then some v else a2a ks vs j:=by
  intro ks
  induction ks with
  | nil =>
   intro vs k v j hl _
   have:vs=[]:=by cases vs with | nil=>rfl | cons=>simp at hl
   subst this
   simp only [List.nil_append,a2a]
   by_cases e:k=j
   ·subst e; simp
   ·simp [e,Ne.symm e]
  | cons x r ih =>
   intro vs k v j hl hk
   cases vs with
   | nil=>simp at hl
   | cons y q =>
    simp only [List.cons_append,a2a]
    by_cases e:x=j
    ·subst e
     have:¬ x=k:=fun z=>hk (by simp [z])
     simp [this]
    ·rw [if_neg e,if_neg e]
     exact ih k v j (by simpa using hl) fun z=>hk (Γh _ z)
 intro ks vs k v j hl
 unfold a2q
 by_cases e:k∈ks
 ·rw [if_pos e]; exact go1 k v j hl e
 ·rw [if_neg e]; exact go2 k v j hl e
theorem b0b:∀ (xs:List Int) (b:Int),a1j b xs∈b :: xs
 | [],b=>by simp [a1j]
 | x :: r,b=>by
  have:=b0b r (if x < b then x else b)
  show a1j (if x < b then x else b) r∈_
  split at this <;> rename_i h
  ·rw [if_pos h]; exact Γh _ this
  ·rw [if_neg h]
   rcases List.mem_cons.mp this with e | e
   ·rw [e]; simp
   ·exact Γh _ (Γh _ e)
theorem a6b:∀ (xs:List Int) (b:Int),a1j b xs≤b∧∀ x∈xs,a1j b xs≤x
 | [],b=>⟨Int.le_refl _,by simp⟩
 | x :: r,b=>by
  have:=a6b r (if x < b then x else b)
  show a1j (if x < b then x else b) r≤b∧∀ y∈x :: r,a1j (if x < b then x else b) r≤y
  refine ⟨by have:=this.1; split at this <;> lia,fun y hy=>?_⟩
  rcases List.mem_cons.mp hy with rfl | hy
  ·have:=this.1; split at this <;> lia
  ·exact this.2 y hy
theorem c1t (d:Nat) {ws ss:List Int} (h:Rwo ws ss) {es:List Nat} (he:es.length=ws.length) (hb:∀ e∈es,e≤ws.length) {Q:FV×FV→Prop} (q:∀ o,Bst (fun i e=>decide (e≤es.getD i 0)) (a5g ws ss) ws.length 0 o→Q (e0g o,.non)) :
  callW tb (d + 2) 16 [b8q ws ss,.lst (es.map fun i:Nat=>.int i)] Q:=by
 have hn:=h.hn
 have hl:=h.hl
 refine a0h (fd:=d9s) rfl rfl ?_
 simp [d9s,e1n,b3c,big]
 refine ⟨a0k (by lia) (by lia),?_⟩
 rw [b3d]
 refine a5k (f:=fun i:Nat=>FV.int i) (I:=fun ds L=>∃ (ks:List Int) (vs:List FV) (B:Nat→Option PT) (i:Nat) (a b c e f:Option FV),L=[some (b8q ws ss),some (.lst (es.map fun i:Nat=>.int i)),some (.int ws.length),some (.dci ks vs),a,b,c,e,f]∧i + ds.length=ws.length∧ks.length=vs.length∧ks.length≤ds.length + 1 ∧
   (∀ j:Nat,j≤ws.length→a2a ks vs (j:Int)=if i≤j then (B j).map b4u else none)∧∀ j,i≤j→j≤ws.length→Bst (fun i e=>decide (e≤es.getD i 0)) (a5g ws ss) ws.length j (B j)) (List.range ws.length).reverse (List.range ws.length).reverse [] _ rfl ?_ ?_ ?_
 ·refine ⟨_,_,fun j=>if j=ws.length then some (0,[]) else none,ws.length,_,_,_,_,_,rfl,rfl,rfl,by simp,fun j hj=>?_,fun j h1 h2=>?_⟩
  ·by_cases e:j=ws.length
   ·subst e; simp [a2a,b4u]
   ·have:¬ (ws.length:Int)=(j:Int):=by lia
    rw [if_neg (by lia)]
    simp [a2a,this]
  ·have:j=ws.length:=by lia
   subst this
   simp only [if_true]
   exact c7t
 ·rintro ds x r L K e ⟨ks,vs,B,i,a,b,c,e1,f1,rfl,hi,hkl,hks,hg,hB⟩ k
  have hx:x + 1=i:=by
   have e2:=congrArg (fun l=>l[ds.length]?) e
   have hd:ds.length < ws.length:=by have:=congrArg List.length e; simp at this; lia
   simp [List.getElem?_reverse,hd] at e2
   lia
  subst hx
  have hxn:x < ws.length:=by lia
  have hd:ds.length < 30:=by lia
  obtain ⟨E,hE⟩:∃ E,es.getD x 0=E:=⟨_,rfl⟩
  have hex:es[x]?=some E:=by rw [← hE,List.getD,List.getElem?_eq_getElem (by lia)]; rfl
  have hel:E≤ws.length:=hb _ (List.mem_of_getElem? hex)
  simp
  rw [a2v (n:=x) rfl (show (es.map fun i:Nat=>FV.int i)[x]?=some (.int E) by rw [List.getElem?_map,hex]; rfl)]
  simp
  refine ⟨⟨a0k (by lia) (by lia),a0k (by lia) (by lia)⟩,?_⟩
  have hg1:∀ j:Nat,x < j→j≤ws.length→a2a ks vs (j:Int)=(B j).map b4u:=fun j h1 h2=>by rw [hg j h2,if_pos (show x + 1≤j from h1)]
  rw [show ((x:Int) + 1)=((x + 1:Nat):Int) by lia]
  refine a3j (I:=fun j L=>∃ c e f,L=[some (b8q ws ss),some (.lst (es.map fun i:Nat=>.int i)),some (.int ws.length),some (.dci ks vs),some (.int x),some (.lst (((List.range' (x + 1) (j - (x + 1))).filterMap fun e=>(B e).map fun q:PT=>(a5g ws ss x e + q.1,x :: q.2)).map b4u)),c,e,f]) _ (x + 1) _ ⟨c,e1,f1,by simp⟩ ?_ ?_
  ·rintro j L K2 hj1 hj2 ⟨c,e,f,rfl⟩ k2
   have hjn:j≤ws.length:=by lia
   have hr:List.range' (x + 1) (j + 1 - (x + 1))=List.range' (x + 1) (j - (x + 1))++[j]:=by
    rw [show j + 1 - (x + 1)=(j - (x + 1)) + 1 by lia,List.range'_concat]
    congr 2; lia
   have hlen:((List.range' (x + 1) (j - (x + 1))).filterMap fun e=>(B e).map fun q:PT=>(a5g ws ss x e + q.1,x :: q.2)).length≤30:=by
    refine Nat.le_trans (List.length_filterMap_le _ _) ?_
    simp; lia
   simp
   have hmem:((j:Int)∈ks)↔(B j).isSome=true:=by
    rw [← a2k (vs:=vs) (j:Int) hkl,hg1 j (by lia) hjn]
    cases B j <;> simp
   cases hBj:B j with
   | none =>
    rw [hBj] at hmem
    rw [if_neg (by simpa using hmem)]
    refine k2 _ ?_
    rw [hr,List.filterMap_append,show [j].filterMap (fun e=>(B e).map fun q:PT=>(a5g ws ss x e + q.1,x :: q.2))=[] by simp [hBj],List.append_nil]
    exact ⟨_,_,_,rfl⟩
   | some p =>
    rw [hBj] at hmem
    rw [if_pos (by simpa using hmem)]
    have hgj:=hg1 j (by lia) hjn
    rw [hBj] at hgj
    rw [hgj]
    simp [b4u]
    have hpl:p.2.length≤30:=by
     have b1:=hB j (by lia) hjn
     rw [hBj] at b1
     have b2:=c2z b1.2.2.1
     lia
    refine c4q d h hxn (by lia) rfl ?_
    simp [big]
    refine ⟨by lia,by lia,?_⟩
    refine k2 _ ?_
    rw [hr,List.filterMap_append,show [j].filterMap (fun e=>(B e).map fun q:PT=>(a5g ws ss x e + q.1,x :: q.2))=[(a5g ws ss x j + p.1,x :: p.2)] by simp [hBj],List.map_append]
    exact ⟨_,_,_,rfl⟩
  ·rintro L ⟨c,e,f,rfl⟩
   rw [show x + 1 + ((E:Int) + 1 - ((x + 1:Nat):Int)).toNat - (x + 1)=E - x by lia]
   generalize hps:((List.range' (x + 1) (E - x)).filterMap fun e=>(B e).map fun q:PT=>(a5g ws ss x e + q.1,x :: q.2))=ps
   have hin:∀ p,p∈ps↔∃ e,x < e∧e≤E∧∃ q,B e=some q∧p=(a5g ws ss x e + q.1,x :: q.2):=by
    intro p
    rw [← hps,List.mem_filterMap]
    constructor
    ·rintro ⟨e,he,h2⟩
     obtain ⟨q,hq,rfl⟩:=Option.map_eq_some_iff.mp h2
     have:=List.mem_range'_1.mp he
     exact ⟨e,by lia,by lia,q,hq,rfl⟩
    ·rintro ⟨e,h1,h2,q,hq,rfl⟩
     exact ⟨e,List.mem_range'_1.mpr (by lia),by rw [hq]; rfl⟩
   simp
   cases ps with
   | nil =>
    simp
    refine k _ ⟨ks,vs,fun j=>if j=x then none else B j,x,_,_,_,_,_,rfl,by simp; lia,hkl,by simp; lia,fun j hj=>?_,fun j h1 h2=>?_⟩
    ·rw [hg j hj]
     by_cases e:j=x
     ·subst e; rw [if_neg (by lia)]; simp
     ·by_cases e2:x≤j
      ·rw [if_pos e2,if_pos (by lia)]; simp [e]
      ·rw [if_neg e2,if_neg (by lia)]
    ·by_cases e:j=x
     ·subst e
      simp only [if_true]
      refine c2w hxn fun e h3 h4 h5=>?_
      have h5:e≤E:=by rw [← hE]; exact of_decide_eq_true h5
      cases hBe:B e with
      | none=>have:=hB e (by lia) h4; rw [hBe] at this; exact this
      | some p=>exact absurd ((hin _).mpr ⟨e,h3,h5,p,hBe,rfl⟩) (by simp)
     ·simp only [e,if_false]
      exact hB j (by lia) h2
   | cons p0 pr =>
    simp only [List.map_cons,List.isEmpty_cons,Bool.not_false,if_true]
    rw [← List.map_cons,minP]
    simp [big]
    refine ⟨by lia,?_⟩
    have pl:=a5i ks vs (x:Int) (b4u (a1b ltP p0 pr)) hkl
    refine k _ ⟨_,_,fun j=>if j=x then some (a1b ltP p0 pr) else B j,x,_,_,_,_,_,rfl,by simp; lia,pl.1,by simp; lia,fun j hj=>?_,fun j h1 h2=>?_⟩
    ·rw [c2c _ _ _ hkl,hg j hj]
     by_cases e:j=x
     ·subst e; simp
     ·have:¬ (j:Int)=(x:Int):=by lia
      rw [if_neg this]
      by_cases e2:x≤j
      ·rw [if_pos e2,if_pos (by lia)]; simp [e]
      ·rw [if_neg e2,if_neg (by lia)]
    ·by_cases e:j=x
     ·subst e
      simp only [if_true]
      have hm:=(hin _).mp (b2u ltP pr p0)
      obtain ⟨e,h3,h4,q0,h5,h6⟩:=hm
      refine c2v (B:=B) hxn (fun e h1 h2=>hB e (by lia) h2) ⟨e,h3,by lia,decide_eq_true (by rw [hE]; exact h4),q0,h5,h6⟩ fun e' q' h7 h8 h9 h10=>?_
      exact b2t pr p0 _ ((hin _).mpr ⟨e',h7,by rw [← hE]; exact of_decide_eq_true h9,q',h10,rfl⟩)
     ·simp only [e,if_false]
      exact hB j (by lia) h2
 ·rintro L ⟨ks,vs,B,i,a,b,c,e,f,rfl,hi,hkl,hks,hg,hB⟩
  have hi0:i=0:=by simp at hi; lia
  subst hi0
  simp
  have h0:=hg 0 (by lia)
  simp at h0
  rw [h0]
  have:=q (B 0) (hB 0 (Γi _) (by lia))
  cases hb0:B 0 with
  | none=>rw [hb0] at this; exact this
  | some p=>rw [hb0] at this; exact this
noncomputable def encI:Option Int→FV
 | none=>.non
 | some i=>.int i
noncomputable def leO (x:Int):Option Int→Bool
 | none=>true
 | some m=>decide (x≤m)
noncomputable def okM (ws ss:List Int) (md mr:Option Int) (b e:Nat):Bool:=leO ((e:Int) - b - 1) md && leO (a5g ws ss b e) mr
noncomputable def fstO (o:Option PT):Option Int:=o.map (·.1)
theorem c0k (d:Nat) {ws ss:List Int} (h:Rwo ws ss) {m:Nat} (hm:m≤1000) {Q:FV×FV→Prop} (q:∀ o,Bst (okM ws ss (some (m:Int)) none) (a5g ws ss) ws.length 0 o→Q (e0g o,.non)):callW tb (d + 3) 15 [b8q ws ss,.int m] Q:=by
 have hn:=h.hn
 refine a0h (fd:=d9t) rfl rfl ?_
 simp [d9t,e1o,b3c]
 refine ⟨a0k (by lia) (by lia),?_⟩
 rw [a1d]
 refine ⟨by simp [big]; lia,?_⟩
 refine a0y (f:=fun i:Nat=>FV.int i) (g:=fun i:Nat=>FV.int ((min (i + m + 1) ws.length:Nat):Int)) (List.range ws.length) [] (fun i hi K k=>?_) ?_
 ·simp
  have e:(if (ws.length:Int) < (i:Int) + m + 1 then (ws.length:Int) else (i:Int) + m + 1)=((min (i + m + 1) ws.length:Nat):Int):=by split <;> lia
  rw [e]; exact k
 ·rw [List.nil_append,show (List.range ws.length).map (fun i:Nat=>FV.int ((min (i + m + 1) ws.length:Nat):Int))=((List.range ws.length).map fun i=>min (i + m + 1) ws.length).map fun i:Nat=>FV.int i by simp]
  refine c1t (d + 1) h (by simp) (fun e he=>?_) fun o ho=>q o (b0n (fun a e h1 h2=>?_) ho)
  ·obtain ⟨i,_,rfl⟩:=List.mem_map.mp he
   exact Nat.min_le_right _ _
  ·have:((List.range ws.length).map fun i=>min (i + m + 1) ws.length).getD a 0=min (a + m + 1) ws.length:=by simp [List.getD,show a < ws.length by lia]
   rw [this]
   simp only [okM,leO,Bool.and_true]
   exact decide_eq_decide.mpr ⟨fun z=>by lia,fun z=>by lia⟩
theorem b9c {ws ss:List Int} {m:Int} (hm:0≤m) {o:Option PT} (h:Bst (okM ws ss (some m) none) (a5g ws ss) ws.length 0 o):∃ p,o=some p:=by
 cases o with
 | some p=>exact ⟨p,rfl⟩
 | none =>
  have:=c3a (ok:=okM ws ss (some m) none) (n:=ws.length) (fun i _=>by simp only [okM,leO,Bool.and_true]; exact decide_eq_true (by lia)) ws.length (Γi _)
  rw [Nat.sub_self] at this
  exact absurd this.1 (h _ this.2)
theorem d3a (m:Nat):1≤(AK m).length:=by rw [b3k]; exact Nat.one_le_two_pow
theorem c2y (d:Nat) {n:Nat} (h1:1≤n) (h2:n≤9) {Q:FV×FV→Prop} (q:Q (.lst ((AK (n - 1)).map a6j),.non)):callW tb (d + 1) 22 [.int n] Q:=by
 refine a0h (fd:=d9n) rfl rfl ?_
 simp [d9n,e1i,big]
 refine ⟨⟨by decide,a0k (by lia) (by lia)⟩,?_⟩
 refine a3j (I:=fun j L=>∃ a,L=[some (.int n),some (.lst ((AK (j - 1)).map a6j)),a]) (n - 1) 1 _ ⟨none,rfl⟩ ?_ ?_
 ·rintro j L K hj1 hj2 ⟨a,rfl⟩ k
  have hl:(AK (j - 1)).length≤256:=by
   rw [b3k]
   exact Nat.pow_le_pow_right (by decide) (show j - 1≤8 by lia)
  simp
  refine ⟨by simp [big]; lia,?_⟩
  refine a0y (f:=a6j) (g:=fun ks=>a6j (ks++[j])) (AK (j - 1)) [] (fun ks hks K2 k2=>?_) ?_
  ·have:=(c0b _ ks hks).2.2.2
   simp [a6j,big] at k2 ⊢
   exact ⟨by lia,k2⟩
  ·simp [big]
   refine ⟨by lia,?_⟩
   refine k _ ⟨some (.int j),?_⟩
   obtain ⟨i,rfl⟩:∃ i,j=i + 1:=⟨j - 1,by lia⟩
   simp [AK,Function.comp_def]
 ·rintro L ⟨a,rfl⟩
  simp
  exact q
structure Cod {α:Type} [DecidableEq α] (f:α→FV) (g:α→D):Prop where
 d:∀ k x,fD (k + 3) (f x)=some (g x)
 e:∀ x y,D.eqv (g x) (g y)=decide (x=y)
section
variable {α:Type} [DecidableEq α] {f:α→FV} {g:α→D}
theorem Cod.any (h:Cod f g) (x:α) (xs:List α):((xs.map g).any fun y=>D.eqv y (g x))=decide (x∈xs):=by
 rw [List.any_map,Bool.eq_iff_iff]
 simp only [List.any_eq_true,Function.comp,h.e,decide_eq_true_eq]
 exact ⟨fun ⟨y,h1,h2⟩=>h2 ▸ h1,fun h1=>⟨x,h1,rfl⟩⟩
theorem c7g {a b:FV} {x:D} (h:fD a0j a=some x):eqF a b=eqD a b:=by
 cases a with
 | shn y=>cases h
 | _=>rfl
theorem Cod.eq (h:Cod f g) (x y:α) [i:Decidable (x=y)] (R:Bool→Prop):wp (eqF (f x) (f y)) R↔R (decide (x=y)):=by
 have e:eqF (f x) (f y)=some (decide (x=y)):=by
  rw [c7g (h.d 37 x)]
  show ((fD (37 + 3) (f x)).bind fun x=>(fD (37 + 3) (f y)).bind fun y=>some (D.eqv x y))=_
  rw [h.d,h.d]
  exact congrArg some ((h.e x y).trans (decide_eq_decide.mpr Iff.rfl))
 rw [e]; exact Iff.rfl
end
noncomputable def dLo:Option Nat→D | none=>.non | some a=>.int a
theorem codL:Cod a1x dLo:=⟨fun k x=>by cases x <;> rfl,fun x y=>by
 cases x <;> cases y <;> simp [dLo,D.eqv]
 rw [Bool.eq_iff_iff]; simp; lia⟩
theorem c7j (ks:List Nat) (lo hi:Option Int) (Q:FV→Prop):wp (a7l (a6j ks) lo hi) Q↔Q (.tup (a9g (ks.map fun i:Nat=>FV.int i) lo hi)):=Iff.rfl
theorem a8m {ws ss:List Int} {ks:List Nat} (h0:0∈ks):rd ws ss ks 0=ws.getD 0 0:=by simp [rd,a4o,kp,h0]
theorem a8n {ws ss:List Int} {ks:List Nat} (m:Nat):rd ws ss ks (m + 1)=if m + 1∈ks then ws.getD (m + 1) 0 else rd ws ss ks m + ss.getD m 0:=by
 unfold rd
 rw [a4o]
 by_cases h:m + 1∈ks
 ·simp [h,kp]
 ·simp [h,kp]
theorem b1m {ws ss:List Int} (h:Rwo ws ss) {n:Nat} (hn:ws.length=n + 1) {ks:List Nat} (hks:ks∈AK n):Rw ws ss ks:=by
 obtain ⟨⟨r,er⟩,hs,hk,hl⟩:=c0b n ks hks
 have:=h.hn
 exact ⟨h.hw,h.hs,h.hl,h.hn,by rw [er]; simp,by lia,hs,fun k hk'=>by have:=hk k hk'; lia⟩
theorem b0e {ws ss:List Int} {ks:List Nat} (h:Rw ws ss ks):((List.range ws.length).map (kp ws ss ks)).sum=pc (a5g ws ss) ws.length ks:=by
 rw [c4y h.hl h.h0 h.hp h.hk,b6p]
noncomputable def dK (ks:List Nat):D:=.tup (ks.map fun i:Nat=>.int i)
theorem dK_F (ks:List Nat):a6j ks=dF (dK ks):=by rw [dK,dF,a9c,List.map_map]; rfl
theorem b9a:∀ ks:List Nat,b9b (ks.map fun i:Nat=>D.int i)=0
 | []=>rfl
 | k :: r=>by simp [b9b,dep,b9a r]
theorem eqvK (a b:List Nat):D.eqv (dK a) (dK b)=decide (a=b):=a6i a b
theorem c7v {ok:Nat→Nat→Bool} {c:Nat→Nat→Int} {n:Nat} {p:PT} (h:Bst ok c (n + 1) 0 (some p)):p.2∈AK n:=by
 obtain ⟨b1,b2,b3,_⟩:=h
 obtain ⟨v1,v2,_⟩:=b5b b3
 cases e:p.2 with
 | nil=>rw [e] at b2; simp [nxt] at b2
 | cons k r =>
  rw [e] at b2 v1 v2
  cases (show k=0 from b2)
  exact b3l n r v2 fun x hx=>by have:=v1 x (Γh _ hx); lia
noncomputable def okT:Nat→Nat→Bool:=fun _ _=>true
theorem c6g {xs:List Int} {x:Int} {r:List Int} (h:xs=x :: r) (Q:FV→Prop):wp (d3l (xs.map .int)) Q↔Q (.int (a1j x r)):=by
 subst h
 simp only [d3l,a3g,Option.bind_some]; rfl
theorem b7o {c:Nat→Nat→Int} {n:Nat} {p:PT} (hp:Bst okT c (n + 1) 0 (some p)) {t:Int} {tr:List Int} (h:(AK n).map (fun ks=>pc c (n + 1) ks)=t :: tr):a1j t tr=p.1:=by
 have hvp:∀ ks∈AK n,vp okT (n + 1) ks∧nxt (n + 1) ks=0:=fun ks hks=>by
  obtain ⟨⟨r,rfl⟩,b,c,_⟩:=c0b n ks hks
  refine ⟨?_,rfl⟩
  rw [b5a]
  exact fun p hp=>⟨(b0y b (fun x hx=>Nat.lt_succ_of_le (c x hx)) p hp).2.1,rfl⟩
 obtain ⟨b1,b2,b3,b4⟩:=hp
 have h1:=b0b tr t
 rw [← h] at h1
 obtain ⟨ks,hks,e⟩:=List.mem_map.mp h1
 have l1:=c6m (b4 ks (hvp ks hks).2 (hvp ks hks).1)
 have hm:p.2∈AK n:=by
  cases e2:p.2 with
  | nil=>rw [e2] at b2; simp [nxt] at b2
  | cons k0 r0 =>
   rw [e2] at b2 b3
   cases (show k0=0 from b2)
   obtain ⟨c1,c2,_⟩:=b5b b3
   exact b3l n r0 c2 fun k hk=>by have:=c1 k (Γh _ hk); lia
 have h2:p.1∈t :: tr:=by rw [← h,b1]; exact List.mem_map.mpr ⟨_,hm,rfl⟩
 have l2:a1j t tr≤p.1:=by
  rcases List.mem_cons.mp h2 with z | z
  ·rw [z]; exact (a6b tr t).1
  ·exact (a6b tr t).2 _ z
 have l1:p.1≤pc c (n + 1) ks:=l1
 lia
theorem c6c (d:Nat) (i:Int) (Q:FV×FV→Prop):callW tb (d + 1) 0 [.int i] Q↔Q (.bl true,.non):=by
 rw [a9e (fd:=fd0) rfl rfl]
 simp [fd0,bd0]
theorem c4i (d:Nat) (xs:List FV) (n:Int) (Q:FV×FV→Prop):callW tb (d + 1) 1 [.tup xs,.int n] Q↔Q (.bl ((xs.length:Int) == n),.non):=by
 rw [a9e (fd:=fd1) rfl rfl]
 simp [fd1,bd1]
open PySem (Addr Str)
open L2 (V a4p)
noncomputable def vL:Option Nat→V
 | none=>.non
 | some a=>.int a
noncomputable def obN (dx l1 l2:Addr) (M dp:Int) (ls:List (Option Nat)) (zs:List Int):FV:=.obj 119 dx [("most",.int M),("laying",.ref l1),("sizes",.ref l2),("deepest",.int dp)] [(l2,zs.map V.int),(l1,ls.map vL)]
theorem b7e:∀ ls:List (Option Nat),a3v vF (ls.map vL)=some (ls.map a1x)
 | []=>rfl
 | a :: r=>by
  simp only [List.map_cons,a3v,b7e r]
  cases a <;> rfl
theorem a5x:∀ zs:List Int,a3v vF (zs.map V.int)=some (zs.map FV.int)
 | []=>rfl
 | a :: r=>by simp only [List.map_cons,a3v,a5x r]; rfl
theorem b2x {n:Nat} (h:0 < n):L2.ixN n (-1)=some (n - 1):=by
 unfold L2.ixN
 rw [if_neg (by lia),if_pos (by lia)]
 congr 1; lia
theorem b2f {α:Type} {xs:List α} (h:xs≠[]) (y:α):xs.set (xs.length - 1) y=xs.dropLast++[y]:=by
 induction xs with
 | nil=>exact absurd rfl h
 | cons a r ih =>
  cases r with
  | nil=>rfl
  | cons b q=>simpa using ih (by simp)
section
variable {dx l1 l2:Addr} {M dp:Int} {ls:List (Option Nat)} {zs:List Int}
theorem lsL (h:l1≠l2):lsF 119 "laying" (obN dx l1 l2 M dp ls zs)=some (ls.map a1x):=by
 have e:lsA [("most",.int M),("laying",.ref l1),("sizes",.ref l2),("deepest",.int dp)] [(l2,zs.map V.int),(l1,ls.map vL)] "laying" = some (l1,ls.map vL):=by
  show (List.lookup l1 [(l2,zs.map V.int),(l1,ls.map vL)]).map _=_
  rw [List.lookup_cons,beq_eq_false_iff_ne.mpr h,List.lookup_cons,beq_self_eq_true]; rfl
 show (if (119:Nat)=119 then _ else none)=_
 rw [if_pos rfl,e]
 exact b7e ls
theorem lsS:lsF 119 "sizes" (obN dx l1 l2 M dp ls zs)=some (zs.map FV.int):=by
 have e:lsA [("most",.int M),("laying",.ref l1),("sizes",.ref l2),("deepest",.int dp)] [(l2,zs.map V.int),(l1,ls.map vL)] "sizes" = some (l2,zs.map V.int):=by
  show (List.lookup l2 [(l2,zs.map V.int),(l1,ls.map vL)]).map _=_
  rw [List.lookup_cons,beq_self_eq_true]; rfl
 show (if (119:Nat)=119 then _ else none)=_
 rw [if_pos rfl,e]
 exact a5x zs
theorem fdM:c7c 119 "most" (obN dx l1 l2 M dp ls zs)=some (.int M):=rfl
theorem fdD:c7c 119 "deepest" (obN dx l1 l2 M dp ls zs)=some (.int dp):=rfl
theorem ptD (v:Int):c0e 119 "deepest" (.int v) (obN dx l1 l2 M dp ls zs)=some (obN dx l1 l2 M v ls zs):=by
 show (if (119:Nat)=119∧4 < 1000 then _ else none)=_
 rw [if_pos ⟨rfl,by decide⟩]
 rfl
theorem apL (h:l1≠l2) (hl:ls.length < big) (o:Option Nat):c0i 119 "laying" (vL o) (obN dx l1 l2 M dp ls zs)=some (obN dx l1 l2 M dp (ls++[o]) zs):=by
 have e:lsA [("most",.int M),("laying",.ref l1),("sizes",.ref l2),("deepest",.int dp)] [(l2,zs.map V.int),(l1,ls.map vL)] "laying" = some (l1,ls.map vL):=by
  show (List.lookup l1 [(l2,zs.map V.int),(l1,ls.map vL)]).map _=_
  rw [List.lookup_cons,beq_eq_false_iff_ne.mpr h,List.lookup_cons,beq_self_eq_true]; rfl
 show (if (119:Nat)=119 then _ else none)=_
 rw [if_pos rfl,e]
 show (if (ls.map vL).length < big then _ else none)=_
 rw [if_pos (by simpa using hl)]
 simp [obN,a6v,Ne.symm h]
theorem apS (h:l1≠l2) (hl:zs.length < big) (i:Int):c0i 119 "sizes" (.int i) (obN dx l1 l2 M dp ls zs)=some (obN dx l1 l2 M dp ls (zs++[i])):=by
 have e:lsA [("most",.int M),("laying",.ref l1),("sizes",.ref l2),("deepest",.int dp)] [(l2,zs.map V.int),(l1,ls.map vL)] "sizes" = some (l2,zs.map V.int):=by
  show (List.lookup l2 [(l2,zs.map V.int),(l1,ls.map vL)]).map _=_
  rw [List.lookup_cons,beq_self_eq_true]; rfl
 show (if (119:Nat)=119 then _ else none)=_
 rw [if_pos rfl,e]
 show (if (zs.map V.int).length < big then _ else none)=_
 rw [if_pos (by simpa using hl)]
 simp [obN,a6v,h]
theorem stL (h:l1≠l2) (hl:ls≠[]) (o:Option Nat):c9e 119 "laying" (-1) (vL o) (obN dx l1 l2 M dp ls zs)=some (obN dx l1 l2 M dp (ls.dropLast++[o]) zs):=by
 have e:lsA [("most",.int M),("laying",.ref l1),("sizes",.ref l2),("deepest",.int dp)] [(l2,zs.map V.int),(l1,ls.map vL)] "laying" = some (l1,ls.map vL):=by
  show (List.lookup l1 [(l2,zs.map V.int),(l1,ls.map vL)]).map _=_
  rw [List.lookup_cons,beq_eq_false_iff_ne.mpr h,List.lookup_cons,beq_self_eq_true]; rfl
 show (if (119:Nat)=119 then _ else none)=_
 rw [if_pos rfl,e]
 show (L2.ixN (ls.map vL).length (-1)).map _=_
 rw [List.length_map,b2x (by cases ls with | nil=>exact absurd rfl hl | cons a r=>simp)]
 simp only [Option.map_some]
 have e2:=b2f (xs:=ls.map vL) (by simpa using hl) (vL o)
 rw [List.length_map] at e2
 rw [e2]
 simp [obN,a6v,Ne.symm h]
theorem stS (h:l1≠l2) (hl:zs≠[]) (i:Int):c9e 119 "sizes" (-1) (.int i) (obN dx l1 l2 M dp ls zs)=some (obN dx l1 l2 M dp ls (zs.dropLast++[i])):=by
 have e:lsA [("most",.int M),("laying",.ref l1),("sizes",.ref l2),("deepest",.int dp)] [(l2,zs.map V.int),(l1,ls.map vL)] "sizes" = some (l2,zs.map V.int):=by
  show (List.lookup l2 [(l2,zs.map V.int),(l1,ls.map vL)]).map _=_
  rw [List.lookup_cons,beq_self_eq_true]; rfl
 show (if (119:Nat)=119 then _ else none)=_
 rw [if_pos rfl,e]
 show (L2.ixN (zs.map V.int).length (-1)).map _=_
 rw [List.length_map,b2x (by cases zs with | nil=>exact absurd rfl hl | cons a r=>simp)]
 simp only [Option.map_some]
 have e2:=b2f (xs:=zs.map V.int) (by simpa using hl) (V.int i)
 rw [List.length_map] at e2
 rw [e2]
 simp [obN,a6v,h]
theorem c6u (d:Nat) {Q:FV×FV→Prop} (q:∀ l1 l2,l1≠l2→Q (.non,obN dx l1 l2 M 0 [] [])):callW tb (d + 1) 30 [.obj 119 dx [] [],.int M] Q:=by
 refine a0h (fd:=d9f) rfl rfl ?_
 simp [d9f,e1b]
 have n1:(Γe "most" = Γe "laying")=False:=eq_false (by decide)
 have n2:(Γe "most" = Γe "sizes")=False:=eq_false (by decide)
 have n3:(Γe "laying" = Γe "sizes")=False:=eq_false (by decide)
 have n4:(Γe "most" = Γe "deepest")=False:=eq_false (by decide)
 have n5:(Γe "laying" = Γe "deepest")=False:=eq_false (by decide)
 have n6:(Γe "sizes" = Γe "deepest")=False:=eq_false (by decide)
 simp [vI,c0e,d3k,a4p,n1,n2,n3,n4,n5,n6]
 exact fun l1 l2 h=>q l1 l2 h
theorem b7a (d:Nat) (h:l1≠l2) {Q:FV×FV→Prop} (q:Q (.tup (ls.map a1x),obN dx l1 l2 M dp ls zs)):callW tb (d + 1) 32 [obN dx l1 l2 M dp ls zs] Q:=by
 refine a0h (fd:=d9d) rfl rfl ?_
 simp [d9d,d4l]
 rw [lsL h,a0f]
 exact q
theorem c1l (d:Nat) (hz:zs.length≤1000) (hb:∀ x∈zs,0≤x∧x≤100000000000) {Q:FV×FV→Prop} (q:Q (.int zs.sum,obN dx l1 l2 M dp ls zs)):callW tb (d + 1) 33 [obN dx l1 l2 M dp ls zs] Q:=by
 refine a0h (fd:=d9c) rfl rfl ?_
 simp [d9c,d4k]
 rw [lsS,a0f]
 exact c4m hz hb q
theorem c1y (d:Nat) (h:l1≠l2) (hl:ls.length < 1000) (hzl:zs.length=ls.length) (w:Int) (b:FV) {Q:FV×FV→Prop}
  (q1:0 < ls.length→dp < M→∃ i,b=.int i∧Q (.tup [.int ((ls.length:Int) - 1)],obN dx l1 l2 M (dp + 1) (ls.dropLast++[some ls.length]++[none]) (zs.dropLast++[i]++[w])))
  (q2:¬ (0 < ls.length∧dp < M)→Q (.tup [],obN dx l1 l2 M 0 (ls++[none]) (zs++[w]))):callW tb (d + 1) 31 [obN dx l1 l2 M dp ls zs,.int w,b] Q:=by
 refine a0h (fd:=d9e) rfl rfl ?_
 simp [d9e,e1a]
 rw [lsL h,a0f]
 simp
 have v0:vI (FV.int 0)=some (V.int 0):=rfl
 have vn:vI FV.non=some (vL none):=rfl
 have vw:vI (FV.int w)=some (V.int w):=rfl
 have hb:ls.length < big:=by simp only [big]; lia
 have hb2:zs.length < big:=by simp only [big]; lia
 have tail:¬ (0 < ls.length∧dp < M)→wp (vI (FV.int 0)) fun u=>wp (c0e 119 (Γe "deepest") u (obN dx l1 l2 M dp ls zs)) fun o1=>wp (lsF 119 (Γe "laying") o1) fun x=>wp (vI FV.non) fun u=>wp (c0i 119 (Γe "laying") u o1) fun o2=>wp (lsF 119 (Γe "sizes") o2) fun x=>wp (vI (FV.int w)) fun u=>wp (c0i 119 (Γe "sizes") u o2) fun o2=>Q (FV.tup [],o2):=fun hn=>by
  rw [v0,a0f,ptD,a0f,lsL h,a0f,vn,a0f,apL h hb,a0f,lsS,a0f,vw,a0f,apS h hb2,a0f]
  exact q2 hn
 refine ite2 (fun g1=>?_) fun g1=>tail fun z=>g1 z.1
 rw [fdD,a0f,fdM,a0f]
 simp
 refine ite2 (fun g2=>?_) fun g2=>tail fun z=>g2 z.2
 obtain ⟨i,rfl,q⟩:=q1 g1 g2
 have hne:ls≠[]:=fun z=>by rw [z] at g1; simp at g1
 have hnz:zs≠[]:=fun z=>by rw [z] at hzl; simp at hzl; lia
 have hb3:(ls.dropLast++[some ls.length]).length < big:=by simp; lia
 have hb4:(zs.dropLast++[i]).length < big:=by simp; lia
 rw [show vI (FV.int (ls.length:Int))=some (vL (some ls.length)) from rfl,a0f,stL h hne,a0f,show vI (FV.int i)=some (V.int i) from rfl,a0f,lsS,a0f,stS h hnz,a0f,fdD,a0f]
 simp
 rw [ptD,a0f]
 refine ⟨by decide,?_⟩
 rw [lsL h,a0f,vn,a0f,apL h hb3,a0f,lsS,a0f,vw,a0f,apS h hb4,a0f]
 exact q
end
noncomputable def Nxt (ls:List (Option Nat)):Prop:=∀ i,i < ls.length→ls.getD i none=none ∨ (ls.getD i none=some (i + 1)∧i + 1 < ls.length)
noncomputable def eN (ls:List (Option Nat)):Nat→Nat→Nat
 | 0,i=>i
 | k + 1,i=>match ls.getD i none with
  | none=>i
  | some _=>eN ls k (i + 1)
noncomputable def eL (ls:List (Option Nat)) (i:Nat):Nat:=eN ls (ls.length - i) i
theorem b8u {ls:List (Option Nat)} {i:Nat} (hi:i < ls.length) (h:ls.getD i none=none):eL ls i=i:=by
 unfold eL
 obtain ⟨k,hk⟩:∃ k,ls.length - i=k + 1:=⟨ls.length - i - 1,by lia⟩
 rw [hk,eN,h]
theorem c7k {ls:List (Option Nat)} {i:Nat} (hi:i < ls.length) (h:ls.getD i none=some (i + 1)):eL ls i=eL ls (i + 1):=by
 unfold eL
 obtain ⟨k,hk⟩:∃ k,ls.length - i=k + 1:=⟨ls.length - i - 1,by lia⟩
 rw [hk,eN,h,show ls.length - (i + 1)=k by lia]
theorem c2m {ls:List (Option Nat)} (h:Nxt ls):∀ (k i:Nat),ls.length - i≤k→i < ls.length→i≤eL ls i∧eL ls i < ls.length∧ls.getD (eL ls i) none=none∧∀ j,i≤j→j < eL ls i→ls.getD j none=some (j + 1)
 | 0,i,hk,hi=>by lia
 | k + 1,i,hk,hi=>by
  rcases h i hi with e | ⟨e,hi2⟩
  ·rw [b8u hi e]
   exact ⟨Γi _,hi,e,fun j h1 h2=>by lia⟩
  ·rw [c7k hi e]
   obtain ⟨g1,g2,g3,g4⟩:=c2m h k (i + 1) (by lia) hi2
   refine ⟨by lia,g2,g3,fun j h1 h2=>?_⟩
   by_cases z:j=i
   ·subst z; exact e
   ·exact g4 j (by lia) h2
theorem b4s {ls:List (Option Nat)} {i:Nat} (hi:i < ls.length) (Q:FV→Prop):wp (atF (ls.map a1x) (i:Int)) Q↔Q (a1x (ls.getD i none)) :=
 a2v rfl (by rw [List.getElem?_map,List.getElem?_eq_getElem hi]; simp [hi])
noncomputable def up (i k:Nat):List FV:=(List.range' i k).map fun j:Nat=>FV.int j
theorem c4g (i k:Nat):up i (k + 1)=up i k++[.int ((i + k:Nat):Int)]:=by
 unfold up
 rw [List.range'_concat]; simp
theorem b5w (d:Nat) {ls:List (Option Nat)} (h:Nxt ls) (hl:ls.length≤100) {i:Nat} (hi:i < ls.length) {Q:FV×FV→Prop} (q:Q (.tup (up i (eL ls i - i + 1)).reverse,.non)):callW tb (d + 1) 7 [.tup (ls.map a1x),.int i] Q:=by
 obtain ⟨g1,g2,g3,g4⟩:=c2m h _ i (Γi _) hi
 refine a0h (fd:=fd7) rfl rfl ?_
 simp [fd7,bd7]
 refine ⟨by decide,?_⟩
 rw [b4s hi]
 refine while_by (I:=fun m L=>∃ k,m=eL ls i + 1 - (i + k)∧i + k≤eL ls i∧L=[some (.tup (ls.map a1x)),some (.int i),some (.lst (up i (k + 1))),some (a1x (ls.getD (i + k) none))]) (fun m L K hI hK=>?_) (m:=eL ls i + 1 - i) ⟨0,rfl,g1,by simp [up]⟩
 obtain ⟨k,rfl,hk,rfl⟩:=hI
 by_cases z:i + k=eL ls i
 ·rw [z,g3]
  simp [a1x]
  have:eL ls i - i + 1=k + 1:=by lia
  rw [this] at q
  exact q
 ·rw [g4 (i + k) (by lia) (by lia)]
  simp [a1x]
  refine ⟨by simp [up,big]; lia,?_⟩
  rw [show ((i:Int) + (k:Int) + 1)=((i + k + 1:Nat):Int) by simp,b4s (by lia)]
  refine hK _ _ ?_ ⟨k + 1,rfl,by lia,?_⟩
  ·lia
  ·rw [c4g i (k + 1)]; simp [Int.add_assoc,Nat.add_assoc]
theorem c1i (d:Nat) {ls:List (Option Nat)} (h:Nxt ls) (hl:ls.length≤100) {i:Nat} (hi:i < ls.length) {Q:FV×FV→Prop} (q:Q (.int ((eL ls i - i:Nat):Int),.non)):callW tb (d + 2) 8 [.tup (ls.map a1x),.int i] Q:=by
 refine a0h (fd:=fd8) rfl rfl ?_
 simp [fd8,bd8]
 refine b5w d h hl hi ?_
 simp [up]
 exact q
noncomputable def lyN (M n:Nat):List (Option Nat):=(List.range n).map fun i=>if (i + 1) % (M + 1)=0 ∨ i + 1=n then none else some (i + 1)
theorem a4v (M n i:Nat) (h:i < n):(lyN M n).getD i none=if (i + 1) % (M + 1)=0 ∨ i + 1=n then none else some (i + 1):=by
 unfold lyN
 rw [List.getD_eq_getElem?_getD,List.getElem?_map,List.getElem?_range h]
 rfl
theorem a2c (M n:Nat):(lyN M n).length=n:=by simp [lyN]
theorem b7h (M n:Nat):Nxt (lyN M n):=fun i hi=>by
 rw [a2c] at hi ⊢
 rw [a4v M n i hi]
 by_cases z:(i + 1) % (M + 1)=0 ∨ i + 1=n
 ·rw [if_pos z]; exact .inl rfl
 ·rw [if_neg z]; exact .inr ⟨rfl,by lia⟩
theorem d7n (M n:Nat) (h:n % (M + 1)=0):lyN M n++[none]=lyN M (n + 1):=by
 apply List.ext_getElem
 ·simp [lyN]
 ·intro i h1 h2
  rw [List.getElem_append]
  simp only [a2c] at h2 ⊢
  split
  ·rename_i h3
   simp only [lyN,List.getElem_map,List.getElem_range]
   by_cases z:i + 1=n
   ·subst z
    rw [if_pos (.inl h),if_pos (.inl h)]
   ·by_cases y:(i + 1) % (M + 1)=0
    ·rw [if_pos (.inl y),if_pos (.inl y)]
    ·rw [if_neg (by lia),if_neg (by lia)]
  ·simp only [lyN,List.getElem_map,List.getElem_range,List.getElem_singleton]
   rw [if_pos (.inr (by lia))]
theorem d7m (M n:Nat) (h0:0 < n) (h:n % (M + 1)≠0):(lyN M n).dropLast++[some n]++[none]=lyN M (n + 1):=by
 rw [List.append_assoc]
 apply List.ext_getElem
 ·simp [lyN]; lia
 ·intro i h1 h2
  rw [List.getElem_append]
  simp only [a2c,List.length_dropLast] at h2 ⊢
  split
  ·rename_i h3
   simp only [lyN,List.getElem_dropLast,List.getElem_map,List.getElem_range]
   by_cases y:(i + 1) % (M + 1)=0
   ·rw [if_pos (.inl y),if_pos (.inl y)]
   ·rw [if_neg (by lia),if_neg (by lia)]
  ·rename_i h3
   simp only [lyN,List.getElem_map,List.getElem_range]
   obtain z | z:i=n - 1 ∨ i=n:=by lia
   ·subst z
    rw [if_neg (by rw [show n - 1 + 1=n by lia]; lia)]
    simp
    lia
   ·subst z
    rw [if_pos (.inr rfl)]
    simp [show i - (i - 1)=1 by lia]
theorem c7m (M n:Nat) (h0:0 < n):(((n - 1) % (M + 1):Nat):Int) < M↔n % (M + 1)≠0:=by
 have e:=Nat.div_add_mod (n - 1) (M + 1)
 have hr:=Nat.mod_lt (n - 1) (show 0 < M + 1 by lia)
 generalize (n - 1) / (M + 1)=q at e
 generalize (n - 1) % (M + 1)=r at e hr ⊢
 by_cases z:r=M
 ·have:n=(M + 1) * (q + 1):=by rw [Nat.mul_add]; lia
  rw [this,Nat.mul_mod_right]
  constructor <;> intro h <;> lia
 ·have:n=(M + 1) * q + (r + 1):=by lia
  rw [this,Nat.mul_add_mod,Nat.mod_eq_of_lt (by lia)]
  constructor <;> intro h <;> lia
theorem c7n (M n:Nat) (h0:0 < n) (h:n % (M + 1)≠0):(n - 1) % (M + 1) + 1=n % (M + 1):=by
 have e:=Nat.div_add_mod (n - 1) (M + 1)
 have hr:=Nat.mod_lt (n - 1) (show 0 < M + 1 by lia)
 generalize (n - 1) / (M + 1)=q at e
 generalize (n - 1) % (M + 1)=r at e hr ⊢
 by_cases z:r=M
 ·have e2:n=(M + 1) * (q + 1):=by rw [Nat.mul_add]; lia
  exact absurd (by rw [e2,Nat.mul_mod_right]) h
 ·have:n=(M + 1) * q + (r + 1):=by lia
  rw [this,Nat.mul_add_mod,Nat.mod_eq_of_lt (by lia)]
theorem d0y (M n i:Nat) (h:i < n):eL (lyN M n) i - i≤M:=by
 obtain ⟨g1,g2,g3,g4⟩:=c2m (b7h M n) _ i (Γi _) (by rw [a2c]; exact h)
 refine Classical.byContradiction fun z=>?_
 -- one of the makes i .. i + M ends a block
 have e:=Nat.div_add_mod i (M + 1)
 have hr:=Nat.mod_lt i (show 0 < M + 1 by lia)
 have hj:=g4 (i + (M - i % (M + 1))) (by lia) (by lia)
 rw [a4v M n _ (by rw [a2c] at g2; lia)] at hj
 have hz:(i + (M - i % (M + 1)) + 1) % (M + 1)=0:=by
  have:i + (M - i % (M + 1)) + 1=(M + 1) * (i / (M + 1) + 1):=by rw [Nat.mul_add]; lia
  rw [this,Nat.mul_mod_right]
 rw [if_pos (.inl hz)] at hj
 cases hj
theorem d1y (ws:List Int):a3a (upF 0 ws.length) (ws.map .int)=(List.range ws.length).map fun m:Nat=>FV.tup [.int (m:Int),.int (ws.getD m 0)]:=by
 rw [a1d]
 apply List.ext_getElem
 ·simp [a3a]
 ·intro i g1 g2
  simp [a3a] at g2 ⊢
  rw [List.getElem?_eq_getElem g2]; rfl
theorem isM {dx l1 l2:Addr} {M dp:Int} {ls:List (Option Nat)} {zs:List Int} {m:Str} (a:(m == Γe "most")=false) (b:(m == Γe "laying")=false) (c:(m == Γe "sizes")=false) (d:(m == Γe "deepest")=false):isO 119 m (obN dx l1 l2 M dp ls zs):=⟨rfl,by simp only [List.lookup,a,b,c,d]⟩
theorem a9q {n k:Nat} {ds r:List Nat} (e:List.range n=ds++k :: r):ds.length=k∧k < n:=by
 have h:=congrArg (fun l=>l[ds.length]?) e
 have hl:=congrArg List.length e
 simp at hl
 simp at h
 rw [List.getElem?_range (by lia)] at h
 simp at h
 lia
theorem b4w (ls:List (Option Nat)):a3a (upF 0 (ls.map a1x).length) (ls.map a1x)=(List.range ls.length).map fun m:Nat=>FV.tup [.int (m:Int),a1x (ls.getD m none)]:=by
 rw [a1d]
 apply List.ext_getElem
 ·simp [a3a]
 ·intro i g1 g2
  simp [a3a] at g2 ⊢
  rw [List.getElem?_eq_getElem g2]; rfl
noncomputable def obG (dx l1 l2 l3:Addr) (ws ss ks:List Int) (z:Int):FV:=.obj 77 dx [("wholes",.ref l1),("steps",.ref l2),("kept",.ref l3),("since",.int z)] [(l3,ks.map V.int),(l2,ss.map V.int),(l1,ws.map V.int)]
section
variable {dx l1 l2 l3:Addr} {ws ss ks:List Int} {z:Int}
theorem gW1 (a:l1≠l2) (b:l1≠l3):lsA [("wholes",.ref l1),("steps",.ref l2),("kept",.ref l3),("since",.int z)] [(l3,ks.map V.int),(l2,ss.map V.int),(l1,ws.map V.int)] "wholes" = some (l1,ws.map V.int):=by
 show (List.lookup l1 [(l3,ks.map V.int),(l2,ss.map V.int),(l1,ws.map V.int)]).map _=_
 rw [List.lookup_cons,beq_eq_false_iff_ne.mpr b,List.lookup_cons,beq_eq_false_iff_ne.mpr a,List.lookup_cons,beq_self_eq_true]; rfl
theorem gS1 (c:l2≠l3):lsA [("wholes",.ref l1),("steps",.ref l2),("kept",.ref l3),("since",.int z)] [(l3,ks.map V.int),(l2,ss.map V.int),(l1,ws.map V.int)] "steps" = some (l2,ss.map V.int):=by
 show (List.lookup l2 [(l3,ks.map V.int),(l2,ss.map V.int),(l1,ws.map V.int)]).map _=_
 rw [List.lookup_cons,beq_eq_false_iff_ne.mpr c,List.lookup_cons,beq_self_eq_true]; rfl
theorem gK1:lsA [("wholes",.ref l1),("steps",.ref l2),("kept",.ref l3),("since",.int z)] [(l3,ks.map V.int),(l2,ss.map V.int),(l1,ws.map V.int)] "kept" = some (l3,ks.map V.int):=by
 show (List.lookup l3 [(l3,ks.map V.int),(l2,ss.map V.int),(l1,ws.map V.int)]).map _=_
 rw [List.lookup_cons,beq_self_eq_true]; rfl
theorem glW (a:l1≠l2) (b:l1≠l3):lsF 77 "wholes" (obG dx l1 l2 l3 ws ss ks z)=some (ws.map FV.int):=by
 show (if (77:Nat)=77 then _ else none)=_
 rw [if_pos rfl,gW1 a b]
 exact a5x ws
theorem glS (c:l2≠l3):lsF 77 "steps" (obG dx l1 l2 l3 ws ss ks z)=some (ss.map FV.int):=by
 show (if (77:Nat)=77 then _ else none)=_
 rw [if_pos rfl,gS1 c]
 exact a5x ss
theorem glK:lsF 77 "kept" (obG dx l1 l2 l3 ws ss ks z)=some (ks.map FV.int):=by
 show (if (77:Nat)=77 then _ else none)=_
 rw [if_pos rfl,gK1]
 exact a5x ks
theorem gfZ:c7c 77 "since" (obG dx l1 l2 l3 ws ss ks z)=some (.int z):=rfl
theorem gpZ (v:Int):c0e 77 "since" (.int v) (obG dx l1 l2 l3 ws ss ks z)=some (obG dx l1 l2 l3 ws ss ks v):=by
 show (if (77:Nat)=77∧4 < 1000 then _ else none)=_
 rw [if_pos ⟨rfl,by decide⟩]
 rfl
theorem gaW (a:l1≠l2) (b:l1≠l3) (hl:ws.length < big) (i:Int):c0i 77 "wholes" (.int i) (obG dx l1 l2 l3 ws ss ks z)=some (obG dx l1 l2 l3 (ws++[i]) ss ks z):=by
 show (if (77:Nat)=77 then _ else none)=_
 rw [if_pos rfl,gW1 a b]
 show (if (ws.map V.int).length < big then _ else none)=_
 rw [if_pos (by simpa using hl)]
 simp [obG,a6v,Ne.symm a,Ne.symm b]
theorem gaS (a:l1≠l2) (c:l2≠l3) (hl:ss.length < big) (i:Int):c0i 77 "steps" (.int i) (obG dx l1 l2 l3 ws ss ks z)=some (obG dx l1 l2 l3 ws (ss++[i]) ks z):=by
 show (if (77:Nat)=77 then _ else none)=_
 rw [if_pos rfl,gS1 c]
 show (if (ss.map V.int).length < big then _ else none)=_
 rw [if_pos (by simpa using hl)]
 simp [obG,a6v,a,Ne.symm c]
theorem gaK (b:l1≠l3) (c:l2≠l3) (hl:ks.length < big) (i:Int):c0i 77 "kept" (.int i) (obG dx l1 l2 l3 ws ss ks z)=some (obG dx l1 l2 l3 ws ss (ks++[i]) z):=by
 show (if (77:Nat)=77 then _ else none)=_
 rw [if_pos rfl,gK1]
 show (if (ks.map V.int).length < big then _ else none)=_
 rw [if_pos (by simpa using hl)]
 simp [obG,a6v,b,c]
theorem isG {m:Str} (a:(m == Γe "wholes")=false) (b:(m == Γe "steps")=false) (c:(m == Γe "kept")=false) (d:(m == Γe "since")=false):isO 77 m (obG dx l1 l2 l3 ws ss ks z):=⟨rfl,by simp only [List.lookup,a,b,c,d]⟩
theorem c2a (d:Nat) {Q:FV×FV→Prop} (q:∀ l1 l2 l3,l1≠l2→l1≠l3→l2≠l3→Q (.non,obG dx l1 l2 l3 [] [] [] 0)):callW tb (d + 1) 26 [.obj 77 dx [] []] Q:=by
 refine a0h (fd:=d9j) rfl rfl ?_
 simp [d9j,e1e]
 have n1:(Γe "wholes" = Γe "steps")=False:=eq_false (by decide)
 have n2:(Γe "wholes" = Γe "kept")=False:=eq_false (by decide)
 have n3:(Γe "wholes" = Γe "since")=False:=eq_false (by decide)
 have n4:(Γe "steps" = Γe "kept")=False:=eq_false (by decide)
 have n5:(Γe "steps" = Γe "since")=False:=eq_false (by decide)
 have n6:(Γe "kept" = Γe "since")=False:=eq_false (by decide)
 simp [vI,c0e,d3k,a4p,n1,n2,n3,n4,n5,n6]
 exact fun p p1 a p2 b c=>q p p1 p2 a c b
theorem b8f (d:Nat) (a:l1≠l2) (b:l1≠l3) (c:l2≠l3) (hl:ws.length < 1000) (hs:ss.length < 1000) (hk:ks.length < 1000) (w s:Int) {Q:FV×FV→Prop}
  (q0:ws.length=0→Q (.str "whole",obG dx l1 l2 l3 (ws++[w]) ss (ks++[0]) 0))
  (q1:0 < ws.length→z + s≤w→Q (.str "change",obG dx l1 l2 l3 (ws++[w]) (ss++[s]) ks (z + s)))
  (q2:0 < ws.length→w < z + s→Q (.str "whole",obG dx l1 l2 l3 (ws++[w]) (ss++[s]) (ks++[(ws.length:Int)]) 0)):callW tb (d + 1) 27 [obG dx l1 l2 l3 ws ss ks z,.int w,.int s] Q:=by
 refine a0h (fd:=d9i) rfl rfl ?_
 simp [d9i,e1d]
 have v0:vI (FV.int 0)=some (V.int 0):=rfl
 have hb:ws.length < big:=by simp only [big]; lia
 have hb2:ss.length < big:=by simp only [big]; lia
 have hb3:ks.length < big:=by simp only [big]; lia
 rw [glW a b,a0f,a0f,show vI (FV.int w)=some (V.int w) from rfl,a0f,gaW a b hb,a0f]
 simp only [List.length_map]
 rcases Nat.eq_zero_or_pos ws.length with h0 | h0
 ·rw [if_neg (by lia),if_neg (by lia),glK,a0f,show vI (FV.int (ws.length:Int))=some (V.int (ws.length:Int)) from rfl,a0f,gaK b c hb3,a0f,v0,a0f,gpZ,a0f,h0]
  exact q0 h0
 ·rw [if_pos h0,glS c,a0f,show vI (FV.int s)=some (V.int s) from rfl,a0f,gaS a c hb2,a0f,gfZ,a0f]
  simp
  rw [gpZ,a0f,if_pos h0,gfZ,a0f]
  simp
  refine ite2 (fun g=>q1 h0 g) fun g=>?_
  rw [glK,a0f,show vI (FV.int (ws.length:Int))=some (V.int (ws.length:Int)) from rfl,a0f,gaK b c hb3,a0f,v0,a0f,gpZ,a0f]
  exact q2 h0 (by lia)
theorem c4z (d:Nat) (a:l1≠l2) (b:l1≠l3) (c:l2≠l3) (hl:ws≠[]) {Q:FV×FV→Prop} (q:Q (b8q ws ss,obG dx l1 l2 l3 ws ss ks z)):callW tb (d + 1) 28 [obG dx l1 l2 l3 ws ss ks z] Q:=by
 refine a0h (fd:=d9h) rfl rfl ?_
 simp [d9h,e1c]
 rw [glW a b,a0f]
 refine ⟨by simpa using hl,?_⟩
 rw [a0f,glS c,a0f]
 exact ⟨by decide,q⟩
theorem b7q (d:Nat) {Q:FV×FV→Prop} (q:Q (.tup (ks.map .int),obG dx l1 l2 l3 ws ss ks z)):callW tb (d + 1) 29 [obG dx l1 l2 l3 ws ss ks z] Q:=by
 refine a0h (fd:=d9g) rfl rfl ?_
 simp [d9g,d4m]
 rw [glK,a0f]
 simpa using q
end
theorem d0z {ws ss:List Int} {ks ks':List Nat} {w s:Int} {m:Nat} (hl:ss.length + 1=ws.length) (h0:0∈ks) (hm:m < ws.length) (hk:m∈ks'↔m∈ks):kp (ws++[w]) (ss++[s]) ks' m=kp ws ss ks m:=by
 unfold kp
 by_cases h:m∈ks
 ·rw [if_pos h,if_pos (hk.mpr h)]
  simp [List.getD,List.getElem?_append,hm]
 ·rw [if_neg h,if_neg fun z=>h (hk.mp z)]
  have:m≠0:=fun z=>h (z ▸ h0)
  simp [List.getD,List.getElem?_append,show m - 1 < ss.length by lia]
theorem a8e {ws ss:List Int} {ks ks':List Nat} {w s:Int} (hl:ss.length + 1=ws.length) (h0:0∈ks) (hk:∀ m,m < ws.length→(m∈ks'↔m∈ks)):((List.range (ws.length + 1)).map (kp (ws++[w]) (ss++[s]) ks')).sum=((List.range ws.length).map (kp ws ss ks)).sum + if ws.length∈ks' then w else s:=by
 rw [List.range_succ,List.map_append,List.sum_append]
 congr 1
 ·congr 1
  exact List.map_congr_left fun m hm=>d0z hl h0 (List.mem_range.mp hm) (hk m (List.mem_range.mp hm))
 ·simp [kp,← hl]
theorem b5t {ws ss:List Int} {ks ks':List Nat} {w s:Int} (hl:ss.length + 1=ws.length) (h0:0∈ks) (hk:∀ m,m < ws.length→(m∈ks'↔m∈ks)):∀ m,m < ws.length→rd (ws++[w]) (ss++[s]) ks' m=rd ws ss ks m
 | 0,hm=>by
  rw [a8m h0,a8m ((hk 0 hm).mpr h0)]
  simp [List.getD,List.getElem?_append,hm]
 | m + 1,hm=>by
  rw [a8n,a8n,b5t hl h0 hk m (by lia)]
  have a:(ws++[w]).getD (m + 1) 0=ws.getD (m + 1) 0:=by simp [List.getD,List.getElem?_append,hm]
  have b:(ss++[s]).getD m 0=ss.getD m 0:=by simp [List.getD,List.getElem?_append,show m < ss.length by lia]
  rw [a,b]
  by_cases h:m + 1∈ks
  ·rw [if_pos h,if_pos ((hk _ hm).mpr h)]
  ·rw [if_neg h,if_neg fun z=>h ((hk _ hm).mp z)]
noncomputable def Beg (ks:List Nat) (m b:Nat):Prop:=b≤m∧b∈ks∧∀ i,b < i→i≤m→i ∉ ks
theorem Beg.uniq {ks:List Nat} {m b c:Nat} (h:Beg ks m b) (g:Beg ks m c):b=c:=by
 obtain ⟨h1,h2,h3⟩:=h
 obtain ⟨g1,g2,g3⟩:=g
 rcases Nat.lt_trichotomy b c with z | z | z
 ·exact absurd g2 (h3 c z g1)
 ·exact z
 ·exact absurd h2 (g3 b z h1)
structure Gr (ws ss:List Int) (ks:List Nat) (z:Int):Prop where
 hl:ss.length + 1=ws.length
 hw:∀ x∈ws,1≤x
 h0:0∈ks
 hp:ks.Pairwise (· < ·)
 hk:∀ k∈ks,k < ws.length
 hc:ks.length≤ws.length
 z0:0≤z
 two:∀ ks',0∈ks'→((List.range ws.length).map (kp ws ss ks)).sum + z≤2 * ((List.range ws.length).map (kp ws ss ks')).sum
 rds:∀ m,m < ws.length→∀ b,Beg ks m b→rd ws ss ks m≤ws.getD b 0 + ws.getD m 0
 lst:∀ b,Beg ks (ws.length - 1) b→rd ws ss ks (ws.length - 1)=ws.getD b 0 + z
theorem Gr.first {w:Int} (hw:1≤w):Gr [w] [] [0] 0 where
 hl:=rfl
 hw:=by simpa using hw
 h0:=by simp
 hp:=by simp
 hk:=by simp
 hc:=by simp
 z0:=by lia
 two:=fun ks' h=>by simp [kp,h]; lia
 rds:=fun m hm b hb=>by
  obtain ⟨b1,b2,b3⟩:=hb
  have:m=0:=by simpa using hm
  subst this
  have:b=0:=by lia
  subst this
  rw [a8m (by simp)]; simp; lia
 lst:=fun b hb=>by
  obtain ⟨b1,b2,b3⟩:=hb
  simp at b1
  subst b1
  show rd [w] [] [0] 0=_
  rw [a8m (by simp)]; simp
theorem a3i {xs:List Int} {w:Int} {m:Nat} (h:m < xs.length):(xs++[w]).getD m 0=xs.getD m 0:=by simp [List.getD,List.getElem?_append,h]
theorem a4k {xs:List Int} {w:Int}:(xs++[w]).getD xs.length 0=w:=by simp [List.getD]
theorem Gr.change {ws ss:List Int} {ks:List Nat} {z w s:Int} (h:Gr ws ss ks z) (hw:1≤w) (hs:1≤s) (g:z + s≤w):Gr (ws++[w]) (ss++[s]) ks (z + s):=by
 have hn:ws.length ∉ ks:=fun y=>Nat.lt_irrefl _ (h.hk _ y)
 have hl:=h.hl
 have z0:=h.z0
 have rr:=b5t (w:=w) (s:=s) (ks':=ks) h.hl h.h0 fun _ _=>Iff.rfl
 have rl:∀ b,Beg ks ws.length b→rd (ws++[w]) (ss++[s]) ks ws.length=ws.getD b 0 + (z + s)∧b < ws.length:=fun b ⟨b1,b2,b3⟩=>by
  have hb:=h.hk b b2
  have e:=h.lst b ⟨by lia,b2,fun i h1 h2=>b3 i h1 (by lia)⟩
  refine ⟨?_,hb⟩
  rw [← hl,a8n,hl,if_neg hn,rr ss.length (by lia)]
  rw [show ws.length - 1=ss.length by lia] at e
  rw [e,a4k]; lia
 refine ⟨by simp; lia,?_,h.h0,h.hp,fun k hk=>by have:=h.hk k hk; simp; lia,by have:=h.hc; simp; lia,by lia,fun ks' h0'=>?_,fun m hm b hb=>?_,fun b hb=>?_⟩
 ·intro x hx
  rcases List.mem_append.mp hx with y | y
  ·exact h.hw x y
  ·simp at y; subst y; exact hw
 ·have t:=h.two ks' h0'
  rw [List.length_append,List.length_singleton,a8e h.hl h.h0 fun _ _=>Iff.rfl,a8e h.hl h0' fun _ _=>Iff.rfl,if_neg hn]
  split <;> lia
 ·rw [List.length_append,List.length_singleton] at hm
  by_cases y:m < ws.length
  ·have:=h.rds m y b hb
   have hb2:b < ws.length:=h.hk b hb.2.1
   rw [rr m y,a3i hb2,a3i y]; exact this
  ·have:m=ws.length:=by lia
   subst this
   obtain ⟨e,hb2⟩:=rl b hb
   rw [e,a3i hb2,a4k]; lia
 ·rw [List.length_append,List.length_singleton,Nat.add_sub_cancel] at hb ⊢
  obtain ⟨e,hb2⟩:=rl b hb
  rw [e,a3i hb2]
theorem Gr.whole {ws ss:List Int} {ks:List Nat} {z w s:Int} (h:Gr ws ss ks z) (hw:1≤w) (hs:1≤s) (g:w < z + s):Gr (ws++[w]) (ss++[s]) (ks++[ws.length]) 0:=by
 have hl:=h.hl
 have z0:=h.z0
 have hk:∀ m,m < ws.length→(m∈ks++[ws.length]↔m∈ks):=fun m hm=>by simp; lia
 have rr:=b5t (w:=w) (s:=s) h.hl h.h0 hk
 have rl:rd (ws++[w]) (ss++[s]) (ks++[ws.length]) ws.length=w:=by
  rw [← hl,a8n,if_pos (by simp),hl,a4k]
 have bl:∀ b,Beg (ks++[ws.length]) ws.length b→b=ws.length:=fun b hb=>hb.uniq ⟨Γi _,by simp,fun i h1 h2=>by lia⟩
 refine ⟨by simp; lia,?_,by simp [h.h0],?_,?_,by have:=h.hc; simp; lia,by lia,fun ks' h0'=>?_,fun m hm b hb=>?_,fun b hb=>?_⟩
 ·intro x hx
  rcases List.mem_append.mp hx with y | y
  ·exact h.hw x y
  ·simp at y; subst y; exact hw
 ·rw [List.pairwise_append]
  exact ⟨h.hp,by simp,fun a ha b hb=>by simp at hb; subst hb; exact h.hk a ha⟩
 ·intro k hk
  simp
  rcases List.mem_append.mp hk with y | y
  ·have:=h.hk k y; lia
  ·simp at y; lia
 ·have t:=h.two ks' h0'
  rw [List.length_append,List.length_singleton,a8e h.hl h.h0 hk,a8e h.hl h0' fun _ _=>Iff.rfl,if_pos (by simp)]
  split <;> lia
 ·rw [List.length_append,List.length_singleton] at hm
  by_cases y:m < ws.length
  ·obtain ⟨b1,b2,b3⟩:=hb
   have b4:=(hk b (by lia)).mp b2
   have:=h.rds m y b ⟨b1,b4,fun i h1 h2 h3=>b3 i h1 h2 (List.mem_append_left _ h3)⟩
   rw [rr m y,a3i (h.hk b b4),a3i y]; exact this
  ·have:m=ws.length:=by lia
   subst this
   cases bl b hb
   rw [rl,a4k]; lia
 ·rw [List.length_append,List.length_singleton,Nat.add_sub_cancel] at hb ⊢
  cases bl b hb
  rw [rl,a4k]; lia
theorem a7i {ws:List Int} {i:Nat} (hi:i < ws.length) (Q:FV→Prop):wp (atF (ws.map FV.int) (i:Int)) Q↔Q (.int (ws.getD i 0)) :=
 a2v rfl (by rw [List.getElem?_map,List.getElem?_eq_getElem hi]; simp [hi])
theorem b2i (d:Nat) {ws ss:List Int} {ks:List Nat} {z:Int} (G:Gr ws ss ks z) (R:Rw ws ss ks) {o A x5 x6 x7:Option FV} {Q:FFl→a0c→Prop}
  (q:∀ x8 x9 x10,Q .next [o,A,some (FV.tup [FV.tup (ws.map FV.int),FV.tup (ss.map FV.int)]),some (a6j ks),some (FV.tup (ws.map FV.int)),x5,x6,x7,x8,x9,x10]) :
  callW tb (d + 5) 13 [FV.tup [FV.tup (ws.map FV.int),FV.tup (ss.map FV.int)],a6j ks] fun z_7 =>
   wp (a3r z_7.fst) fun xs =>
    c3y (Tg.tp [9,10]) (a0t (a1n (eIf (a2e (eOp b8b (a0e 9) (a0e 3))) (a0e 9) (a0e 8)) (Tg.nm 8)) (sIf (a2e (eOp gtB (a0e 10) (eOp a3m (eOp ixF (a0e 4) (a0e 8)) (eOp ixF (a0e 4) (a0e 9))))) (a1y (eC (FV.bl false))) a6u)) (a3a (upF 0 xs.length) xs)
     [o,A,some (FV.tup [FV.tup (ws.map FV.int),FV.tup (ss.map FV.int)]),some (a6j ks),some (FV.tup (ws.map FV.int)),x5,x6,x7,some (FV.int 0),none,none] Q:=by
 refine b5p (d + 1) R ?_
 simp only [d3b,List.length_map,List.length_range]
 have ep:a3a (upF 0 ws.length) (((List.range ws.length).map (rd ws ss ks)).map FV.int)=(List.range ws.length).map fun m:Nat=>FV.tup [.int (m:Int),.int (rd ws ss ks m)]:=by
  have:=d1y ((List.range ws.length).map (rd ws ss ks))
  rw [List.length_map,List.length_range] at this
  rw [this]
  refine List.map_congr_left fun m hm=>?_
  have:=List.mem_range.mp hm
  simp [List.getD,this]
 rw [ep]
 refine a5k (I:=fun ds L=>∃ (b:Nat) (x9 x10:Option FV),L=[o,A,some (FV.tup [FV.tup (ws.map FV.int),FV.tup (ss.map FV.int)]),some (a6j ks),some (FV.tup (ws.map FV.int)),x5,x6,x7,some (.int b),x9,x10]∧b∈ks∧(ds.length=0→b=0)∧(0 < ds.length→Beg ks (ds.length - 1) b)) (List.range ws.length) (List.range ws.length) [] _ rfl ⟨0,none,none,rfl,G.h0,fun _=>rfl,fun y=>by simp at y⟩ (fun ds m r L K e hI hK=>?_) (fun L hI=>?_)
 ·obtain ⟨en,hm⟩:=a9q e
  obtain ⟨b,x9,x10,rfl,hb,hb0,hb1⟩:=hI
  rw [en] at hb0 hb1
  simp only [List.length_append,List.length_singleton,en] at hK
  simp [a6j]
  rw [b8a]
  have go:∀ b':Nat,Beg ks m b'→(wp (atF (ws.map FV.int) (b':Int)) fun x=>wp (atF (ws.map FV.int) (m:Int)) fun x_1=>wp (a3m x x_1) fun z=>wp (gtB (.int (rd ws ss ks m)) z) fun t=>wp (b0w t) fun t=>if t=true then Q (.ret (.bl false)) [o,A,some (FV.tup [FV.tup (ws.map FV.int),FV.tup (ss.map FV.int)]),some (a6j ks),some (FV.tup (ws.map FV.int)),x5,x6,x7,some (.int b'),some (.int m),some (.int (rd ws ss ks m))] else K [o,A,some (FV.tup [FV.tup (ws.map FV.int),FV.tup (ss.map FV.int)]),some (a6j ks),some (FV.tup (ws.map FV.int)),x5,x6,x7,some (.int b'),some (.int m),some (.int (rd ws ss ks m))]):=by
   intro b' hB
   have:=G.rds m hm b' hB
   rw [a7i (G.hk b' hB.2.1),a7i hm]
   generalize ws.getD b' 0=x at this ⊢
   generalize ws.getD m 0=y at this ⊢
   simp
   rw [if_neg (by lia)]
   exact hK _ ⟨b',_,_,rfl,hB.2.1,fun y=>by lia,fun _=>hB⟩
  refine ite2 (fun t=>go m ⟨Γi _,of_decide_eq_true t,fun i h1 h2=>by lia⟩) fun t=>?_
  have t:=of_decide_eq_false (Bool.eq_false_iff.mpr t)
  have hm0:0 < m:=Nat.pos_of_ne_zero fun y=>t (y ▸ G.h0)
  obtain ⟨b1,b2,b3⟩:=hb1 hm0
  exact go b ⟨by lia,b2,fun i h1 h2=>by
   by_cases y:i=m
   ·subst y; exact t
   ·exact b3 i h1 (by lia)⟩
 ·obtain ⟨b,x9,x10,rfl,_⟩:=hI
  exact q _ _ _
section
variable {dx l1 l2 l3:Addr} {ws ss:List Int} {ks:List Nat} {z:Int}
theorem b8g (d:Nat) (a:l1≠l2) (b:l1≠l3) (c:l2≠l3) (G:Gr ws ss ks z) (hw:Szs ws) (hs:Szs ss) (hn:ws.length≤30) {ka:List Nat} (hka:ks.take ka.length=ka) {Q:FV×FV→Prop} (q:Q (.bl true,obG dx l1 l2 l3 ws ss (ks.map fun i:Nat=>(i:Int)) z)):callW tb (d + 6) 23 [obG dx l1 l2 l3 ws ss (ks.map fun i:Nat=>(i:Int)) z,a6j ka] Q:=by
 have hl:=G.hl
 have R:Rw ws ss ks:=⟨hw,hs,G.hl,hn,G.h0,by have:=G.hc; lia,G.hp,G.hk⟩
 have Ro:Rwo ws ss:=⟨hw,hs,G.hl,hn⟩
 refine a0h (fd:=d9m) rfl rfl ?_
 simp [d9m,e1h]
 refine ⟨isG (by decide) (by decide) (by decide) (by decide),?_⟩
 refine c4z (d + 4) a b c (fun y=>by rw [y] at hl; simp at hl) ?_
 refine ⟨isG (by decide) (by decide) (by decide) (by decide),?_⟩
 refine b7q (d + 4) ?_
 have ek:(.tup ((ks.map fun i:Nat=>(i:Int)).map .int):FV)=a6j ks:=by simp [a6j]
 rw [ek]
 simp [b8q]
 refine ⟨by decide,?_⟩
 refine b2h (d + 1) R ?_
 refine c0k (d + 2) Ro (m:=ws.length) (by lia) fun o ho=>?_
 obtain ⟨p,rfl⟩:=b9c (by lia) ho
 obtain ⟨n,en⟩:∃ n,ws.length=n + 1:=⟨ss.length,by lia⟩
 have hT:Bst okT (a5g ws ss) ws.length 0 (some p):=b0n (fun a e h1 h2=>by simp [okM,leO,okT]; lia) ho
 have hb:p.2∈AK n:=c7v (by rw [← en]; exact ho)
 have Rp:=b1m Ro en hb
 have e1:p.1=((List.range ws.length).map (kp ws ss p.2)).sum:=by rw [b0e Rp]; exact ho.1
 have h2:=G.two p.2 Rp.h0
 rw [← e1] at h2
 have z0:=G.z0
 simp [e0g,b4u]
 refine ⟨by decide,.inl (by decide),?_⟩
 rw [if_neg (by lia),c2k,c7j,List.length_map,b9m,← List.map_take,hka]
 have ekk:∀ R:Bool→Prop,wp (eqF (.tup (ka.map fun i:Nat=>FV.int i)) (a6j ka)) R↔R true:=fun R=>by
  rw [show (.tup (ka.map fun i:Nat=>FV.int i):FV)=a6j ka from rfl,dK_F,e0e (by simp only [dK,dep,b9a]; lia) (by simp only [dK,dep,b9a]; lia),eqvK,decide_eq_true rfl]; exact Iff.rfl
 rw [ekk,if_pos rfl]
 refine ite2 (fun g=>?_) fun g=>b2i d G R fun x8 x9 x10=>by simpa using q
 refine c2y (d + 4) (n:=ws.length) (by lia) (by lia) ?_
 simp
 rw [en,Nat.add_sub_cancel]
 have hak:(AK n).length≤256:=by
  rw [b3k]
  exact Nat.pow_le_pow_right (by decide) (show n≤8 by lia)
 refine ⟨by simp only [big]; lia,?_⟩
 refine a0y (f:=a6j) (g:=fun k'=>.int (pc (a5g ws ss) (n + 1) k')) (AK n) [] (fun k' hk' K k=>?_) ?_
 ·simp
  refine b2h (d + 1) (b1m Ro en hk') ?_
  rw [b0e (b1m Ro en hk'),en]
  simpa using k
 ·obtain ⟨t,tr,et⟩:∃ t tr,(AK n).map (fun k'=>pc (a5g ws ss) (n + 1) k')=t :: tr:=by
   cases e:(AK n).map (fun k'=>pc (a5g ws ss) (n + 1) k') with
   | nil =>
    have h:=congrArg List.length e
    have h2:=d3a n
    rw [List.length_map] at h
    rw [h] at h2; simp at h2
   | cons a r=>exact ⟨a,r,rfl⟩
  rw [en] at hT
  have hL:=b7o hT et
  simp
  rw [show (AK n).map (fun k'=>FV.int (pc (a5g ws ss) (n + 1) k'))=((AK n).map (fun k'=>pc (a5g ws ss) (n + 1) k')).map FV.int by rw [List.map_map]; rfl,et]
  rw [c6g rfl,hL]
  simp
  rw [← en]
  exact b2i d G R fun x8 x9 x10=>by simpa using q
end
noncomputable def a4b (ss:List Int):List Chg:=(List.range ss.length).map fun i=>(i + 1,i,ss.getD i 0)
theorem b0s (ss:List Int):(a4b ss).length=ss.length:=by simp [a4b]
theorem b3j {ws ss:List Int} (hw:Szs ws) (hs:Szs ss) (hl:ss.length + 1=ws.length):Gst ws (a4b ss):=by
 refine ⟨fun x hx=>(hw x hx).1,fun x hx=>?_,fun x hx=>?_⟩
 ·obtain ⟨i,hi,rfl⟩:=List.mem_map.mp hx
  have hi:=List.mem_range.mp hi
  refine ⟨by show i + 1 < _; lia,by show i < _; lia,by show i + 1≠i; lia,?_⟩
  show 1≤ss.getD i 0
  simp only [List.getD,List.getElem?_eq_getElem hi,Option.getD_some]
  exact (hs _ (List.getElem_mem hi)).1
 ·obtain ⟨j,hj⟩:=List.mem_iff_getElem?.mp hx
  obtain ⟨h1,h2⟩:=List.getElem?_zip_eq_some.mp hj
  rw [List.getElem?_drop] at h2
  simp only [a4b,List.getElem?_map] at h1 h2
  obtain ⟨a,e1,e2⟩:=Option.map_eq_some_iff.mp h1
  obtain ⟨b,e3,e4⟩:=Option.map_eq_some_iff.mp h2
  have ha:a=j:=by have:=(List.getElem?_eq_some_iff.mp e1).2; simpa using this.symm
  have hb:b=1 + j:=by have:=(List.getElem?_eq_some_iff.mp e3).2; simpa using this.symm
  rw [← e2,← e4,ha,hb]
  show lexLt [((j + 1:Nat):Int),(j:Int)] [((1 + j + 1:Nat):Int),((1 + j:Nat):Int)]=true
  have:¬ ((j + 1:Nat):Int)=((1 + j + 1:Nat):Int):=by lia
  rw [lexLt,if_neg this,decide_eq_true_eq]
  lia
noncomputable def kN (ws ss:List Int) (ls:List (Option Nat)) (i:Nat):Int:=if ls.getD i none=none then ws.getD i 0 else ss.getD i 0
section
variable {ws ss:List Int} {ls:List (Option Nat)}
theorem d7s (hw:Szs ws) (hs:Szs ss) (hl:ss.length + 1=ws.length) (h:Nxt ls) (hn:ls.length=ws.length) {m:Nat} (hm:m < ls.length):1≤kN ws ss ls m∧kN ws ss ls m < 2000000000:=by
 unfold kN
 split
 ·simp only [List.getD,List.getElem?_eq_getElem (show m < ws.length by lia),Option.getD_some]
  exact hw _ (List.getElem_mem _)
 ·rename_i y
  have:m + 1 < ls.length:=by
   rcases h m hm with e | ⟨_,e⟩
   ·exact absurd e y
   ·exact e
  simp only [List.getD,List.getElem?_eq_getElem (show m < ss.length by lia),Option.getD_some]
  exact hs _ (List.getElem_mem _)
theorem d2l (d:Nat) (h:Nxt ls) (hl:ls.length≤1000) {m:Nat} (hm:m < ls.length) {Q:FV×FV→Prop} (q:Q (.bl true,.non)):callW tb (d + 1) 3 [.tup (ls.map a1x),.int m] Q:=by
 refine a0h (fd:=fd3) rfl rfl ?_
 simp [fd3,bd3]
 rw [b4s hm]
 refine ⟨a0k (by lia) (by lia),?_⟩
 refine a3j (I:=fun j L=>∃ o a,L=[some (.tup (ls.map a1x)),some (.int m),some (a1x o),a]∧m + j < ls.length∧o=ls.getD (m + j) none) ls.length 0 _ ⟨_,_,rfl,by lia,rfl⟩ ?_ ?_
 ·rintro j L K - hj ⟨o,a,rfl,ho,ro⟩ k
  rcases h (m + j) ho with e | ⟨e,e2⟩
  ·rw [e] at ro
   subst ro
   simpa [a1x] using q
  ·rw [e] at ro
   subst ro
   simp [a1x]
   rw [show ((m:Int) + (j:Int) + 1)=((m + j + 1:Nat):Int) by simp,b4s e2]
   exact k _ ⟨_,_,rfl,by lia,rfl⟩
 ·rintro L ⟨o,a,rfl,ho,ro⟩
  lia
theorem c6d (d:Nat) (hw:Szs ws) (hs:Szs ss) (hl:ss.length + 1=ws.length) (h:Nxt ls) (hn:ls.length=ws.length) (h30:ws.length≤30) {Q:FV×FV→Prop} (q:Q (.bl true,.non)):callW tb (d + 2) 2 [b4i ws (a4b ss),.tup (ls.map a1x)] Q:=by
 refine a0h (fd:=fd2) rfl rfl ?_
 simp [fd2,bd2,a5m,c4i,hn]
 refine a8g d (b3j hw hs hl) (by rw [b0s]; lia) ?_
 simp
 rw [show ws.length=(ls.map a1x).length by simp [hn],b4w]
 refine a5k (I:=fun _ L=>∃ a b,L=[some (b4i ws (a4b ss)),some (.tup (ls.map a1x)),some (.int ws.length),some (.dct ((a4b ss).map keyH) ((a4b ss).map fun c=>.int c.2.2)),a,b]) (List.range ls.length) (List.range ls.length) [] _ (by simp) ⟨none,none,by simp [hn]⟩ ?_ ?_
 ·rintro ds i r L K e ⟨a,b,rfl⟩ k
  have hi:=(a9q e).2
  rcases h i hi with y | ⟨y,y2⟩
  ·rw [y]
   simp [a1x]
   exact k _ ⟨_,_,rfl⟩
  ·rw [y]
   have mem:[((i + 1:Nat):Int),(i:Int)]∈(a4b ss).map keyH:=List.mem_map.mpr ⟨(i + 1,i,ss.getD i 0),List.mem_map.mpr ⟨i,List.mem_range.mpr (by lia),rfl⟩,rfl⟩
   simp only [Int.natCast_add,Int.natCast_one] at mem
   simp [a1x,c6c,mem,big]
   exact k _ ⟨_,_,rfl⟩
 ·rintro L ⟨a,b,rfl⟩
  simp
  refine ⟨a0k (by lia) (by lia),?_⟩
  rw [a1d]
  refine ⟨by simp [big]; lia,?_⟩
  refine a0y (f:=fun i:Nat=>FV.int i) (g:=fun _=>.bl true) (List.range ws.length) [] (fun i hi K k=>?_) ?_
  ·have hi:=List.mem_range.mp hi
   simp
   exact d2l d h (by lia) (by lia) k
  rw [List.nil_append,c2x]
  simp [a6q,d2v]
  exact q
theorem b7b (d:Nat) (hw:Szs ws) (hs:Szs ss) (hl:ss.length + 1=ws.length) (h:Nxt ls) (hn:ls.length=ws.length) (h30:ws.length≤30) {Q:FV×FV→Prop} (q:Q (.lst (((List.range ls.length).map (kN ws ss ls)).map .int),.non)):callW tb (d + 2) 5 [b4i ws (a4b ss),.tup (ls.map a1x)] Q:=by
 have hG:=b3j hw hs hl
 refine a0h (fd:=fd5) rfl rfl ?_
 simp [fd5,bd5]
 refine a8g d hG (by rw [b0s]; lia) ?_
 simp only [d3b,List.length_map]
 rw [show ls.length=(ls.map a1x).length by simp,b4w]
 refine ⟨by simp [big]; lia,?_⟩
 refine a0y (g:=fun m=>.int (kN ws ss ls m)) (List.range ls.length) [] (fun m hm K k=>?_) ?_
 ·have hm:=List.mem_range.mp hm
  rcases h m hm with y | ⟨y,y2⟩
  ·rw [kN,if_pos y] at k
   rw [y]
   simp [a1x,a5m]
   rw [a7i (by lia)]
   exact k
  ·rw [kN,if_neg (by rw [y]; simp)] at k
   have mem:((m + 1,m,ss.getD m 0):Chg)∈a4b ss:=List.mem_map.mpr ⟨m,List.mem_range.mpr (by lia),rfl⟩
   have e:=b1o (a4q hG.s) mem
   simp only [keyH,Int.natCast_add,Int.natCast_one] at e
   rw [y]
   simp [a1x,big]
   rw [e]
   exact k
 ·simpa [List.map_map,Function.comp_def] using q
theorem c3v (hw:Szs ws) (hs:Szs ss) (hl:ss.length + 1=ws.length) (h:Nxt ls) (hn:ls.length=ws.length):∀ x∈(List.range ls.length).map (kN ws ss ls),1≤x∧x < 2000000000:=fun x hx=>by
 obtain ⟨m,hm,rfl⟩:=List.mem_map.mp hx
 exact d7s hw hs hl h hn (List.mem_range.mp hm)
theorem d0q (d:Nat) (hw:Szs ws) (hs:Szs ss) (hl:ss.length + 1=ws.length) (h:Nxt ls) (hn:ls.length=ws.length) (h30:ws.length≤30) {Q:FV×FV→Prop} (q:Q (.int ((List.range ls.length).map (kN ws ss ls)).sum,.non)):callW tb (d + 3) 6 [b4i ws (a4b ss),.tup (ls.map a1x)] Q:=by
 refine a0h (fd:=fd6) rfl rfl ?_
 simp [fd6,bd6]
 refine b7b d hw hs hl h hn h30 ?_
 simp only [sq_l]
 refine b5j (by simp; lia) (fun x hx=>?_) q
 have:=c3v hw hs hl h hn x hx
 lia
noncomputable def rN (ws ss:List Int) (ls:List (Option Nat)) (m:Nat):Int:=(((List.range' m (eL ls m - m + 1)).reverse).map (kN ws ss ls)).sum
theorem d0r (d:Nat) (hw:Szs ws) (hs:Szs ss) (hl:ss.length + 1=ws.length) (h:Nxt ls) (hn:ls.length=ws.length) (h30:ws.length≤30) {Q:FV×FV→Prop} (q:Q (.tup (((List.range ls.length).map (rN ws ss ls)).map .int),.non)):callW tb (d + 3) 9 [b4i ws (a4b ss),.tup (ls.map a1x)] Q:=by
 refine a0h (fd:=fd9) rfl rfl ?_
 simp [fd9,bd9]
 refine b7b d hw hs hl h hn h30 ?_
 simp
 refine ⟨a0k (by lia) (by lia),?_⟩
 rw [a1d]
 refine ⟨by simp [big]; lia,?_⟩
 refine a0y (f:=fun i:Nat=>FV.int i) (g:=fun m=>.int (rN ws ss ls m)) (List.range ls.length) [] (fun m hm K k=>?_) ?_
 ·have hm:=List.mem_range.mp hm
  have g:=c2m h _ m (Γi _) hm
  simp
  refine b5w (d + 1) h (by lia) hm ?_
  simp only [d3b]
  rw [show (up m (eL ls m - m + 1)).reverse=(List.range' m (eL ls m - m + 1)).reverse.map fun j:Nat=>FV.int j by simp [up]]
  refine ⟨by simp [big]; lia,?_⟩
  refine a0y (f:=fun i:Nat=>FV.int i) (g:=fun i=>.int (kN ws ss ls i)) ((List.range' m (eL ls m - m + 1)).reverse) [] (fun i hi K k=>?_) ?_
  ·have hi:=List.mem_range'_1.mp (List.mem_reverse.mp hi)
   simp
   rw [a2v rfl (show ((List.range ls.length).map (FV.int ∘ kN ws ss ls))[i]?=some (.int (kN ws ss ls i)) by simp [show i < ls.length by lia])]
   exact k
  ·have e:((List.range' m (eL ls m - m + 1)).reverse.map fun i=>FV.int (kN ws ss ls i))=((List.range' m (eL ls m - m + 1)).reverse.map (kN ws ss ls)).map .int:=by rw [List.map_map]; rfl
   rw [List.nil_append,e,a3g,a0f]
   exact k
 ·simpa [List.map_map,Function.comp_def] using q
end
theorem d2u {ws:List Int} {n:Nat} (h:ws.length=n + 1) (Q:FV→Prop):wp (atF (ws.map FV.int) (-1)) Q↔Q (.int (ws.getD n 0)):=by
 have e:ixN (ws.map FV.int).length (-1)=some n:=by
  unfold ixN
  rw [List.length_map,if_neg (by lia),if_pos (by lia)]
  simp; lia
 simp only [atF,e,Option.bind_some]
 rw [List.getElem?_map,List.getElem?_eq_getElem (show n < ws.length by lia),List.getD_eq_getElem?_getD,List.getElem?_eq_getElem (show n < ws.length by lia)]
 exact Iff.rfl
theorem b7g (M n i:Nat) (h:i + 1 < n):(lyN M (n + 1)).getD i none=(lyN M n).getD i none:=by
 rw [a4v M (n + 1) i (by lia),a4v M n i (by lia)]
 by_cases y:(i + 1) % (M + 1)=0
 ·rw [if_pos (.inl y),if_pos (.inl y)]
 ·rw [if_neg (by lia),if_neg (by lia)]
theorem a8u (M n:Nat):(lyN M (n + 1)).getD n none=none:=by
 rw [a4v M (n + 1) n (by lia),if_pos (.inr rfl)]
theorem d1p {p:Nat→Bool} {n:Nat} (h:∀ i,i + 1 < n→p i=false):((List.range n).filter p).length≤1:=by
 cases n with
 | zero=>simp
 | succ n =>
  rw [List.range_succ,List.filter_append]
  have:(List.range n).filter p=[]:=List.filter_eq_nil_iff.mpr fun i hi=>by
   have:=List.mem_range.mp hi
   simp [h i (by lia)]
  rw [this]
  exact List.length_filter_le _ _
section
variable {dx l1 l2:Addr} {ws ss:List Int}
theorem b6z (d:Nat) {M n:Nat} {dp:Int} (hne:l1≠l2) (hw:Szs ws) (hs:Szs ss) (hl:ss.length + 1=ws.length) (hn:ws.length=n + 1) (h30:ws.length≤30) {Q:FV×FV→Prop} (q:Q (.bl true,obN dx l1 l2 M dp (lyN M (n + 1)) ((List.range (n + 1)).map (kN ws ss (lyN M (n + 1)))))):callW tb (d + 5) 24 [obN dx l1 l2 M dp (lyN M (n + 1)) ((List.range (n + 1)).map (kN ws ss (lyN M (n + 1)))),.tup [.tup (ws.map .int),.tup (ss.map .int)],.int M,.tup ((lyN M n).map a1x)] Q:=by
 have hN:=b7h M (n + 1)
 have hL:=a2c M (n + 1)
 have hL2:(lyN M (n + 1)).length=ws.length:=by lia
 have hall:=c3v hw hs hl hN hL2
 rw [hL] at hall
 refine a0h (fd:=d9l) rfl rfl ?_
 simp [d9l,e1g]
 refine ⟨a0k (by lia) (by lia),?_⟩
 rw [show ws.length - 1=ss.length by lia,a1d]
 refine ⟨by simp [big]; lia,?_⟩
 refine a0y (f:=fun i:Nat=>FV.int i) (g:=fun i:Nat=>b8s (i + 1,i,ss.getD i 0)) (List.range ss.length) [] (fun i hi K k=>?_) ?_
 ·have hi:=List.mem_range.mp hi
  simp
  rw [a7i hi]
  exact ⟨by decide,k⟩
 ·rw [List.nil_append,show (List.range ss.length).map (fun i:Nat=>b8s (i + 1,i,ss.getD i 0))=(a4b ss).map b8s by rw [a4b,List.map_map]; rfl]
  simp
  refine ⟨by decide,isM (by decide) (by decide) (by decide) (by decide),?_⟩
  refine b7a (d + 3) hne ?_
  refine c6d (d + 2) hw hs hl hN hL2 h30 ?_
  simp
  refine d0q (d + 1) hw hs hl hN hL2 h30 ?_
  refine ⟨isM (by decide) (by decide) (by decide) (by decide),?_⟩
  refine c1l (d + 3) (by simp; lia) (fun x hx=>by have:=hall x hx; lia) ?_
  rw [hL]
  simp
  refine ⟨a0k (by lia) (by lia),?_⟩
  rw [a1d]
  refine ⟨by simp [big]; lia,?_⟩
  refine a0y (f:=fun i:Nat=>FV.int i) (g:=fun _=>.bl false) (List.range ws.length) [] (fun i hi K k=>?_) ?_
  ·have hi:=List.mem_range.mp hi
   have hle:=d0y M (n + 1) i (by lia)
   simp
   refine c1i (d + 2) hN (by lia) (by lia) ?_
   generalize eL (lyN M (n + 1)) i - i=t at hle ⊢
   simp
   rw [decide_eq_false (by lia)]
   exact k
  ·rw [List.nil_append,show (List.range ws.length).map (fun _=>FV.bl false)=(List.range ws.length).map (fun x=>FV.bl ((fun _=>false) x)) from rfl,a6q,a0f,if_neg (by simp)]
   simp
   refine d0r (d + 1) hw hs hl hN hL2 h30 ?_
   have e1:rN ws ss (lyN M (n + 1)) n=ws.getD n 0:=by
    have e:=a8u M n
    unfold rN
    rw [b8u (by lia) e,show (List.range' n (n - n + 1)).reverse=[n] by simp]
    simp only [List.map_cons,List.map_nil,List.sum_cons,List.sum_nil]
    rw [kN,if_pos e]; lia
   have e2:((List.range (lyN M (n + 1)).length).map (rN ws ss (lyN M (n + 1)))).getD n 0=ws.getD n 0:=by rw [hL]; simp [List.getD,e1]
   simp only [d3b]
   rw [d2u (n:=n) (by simp [hL]),e2]
   simp
   rw [d2u hn]
   rw [List.getD_eq_getElem?_getD]
   simp
   refine ⟨a0k (by lia) (by lia),?_⟩
   rw [show ws.length - 1=n by lia,a1d]
   refine ⟨by simp [big]; lia,?_⟩
   refine a3y (f:=fun i:Nat=>FV.int i) (g:=fun j:Nat=>.int j) (p:=fun i=>!decide ((lyN M (n + 1)).getD i none=(lyN M n).getD i none)) (List.range n) [] (fun i hi K N k1 k2=>?_) ?_
   ·have hi:=List.mem_range.mp hi
    simp
    rw [b4s (by lia),b4s (by rw [a2c]; lia),codL.eq]
    by_cases y:(lyN M (n + 1)).getD i none=(lyN M n).getD i none
    ·simp only [decide_eq_true y]
     simpa using k2 (by simp only [decide_eq_true y,Bool.not_true])
    ·simp only [decide_eq_false y]
     simpa using k1 (by simp only [decide_eq_false y,Bool.not_false])
   ·have:=d1p (p:=fun i=>!decide ((lyN M (n + 1)).getD i none=(lyN M n).getD i none)) (n:=n) fun i hi=>by simp only [b7g M n i hi,decide_true,Bool.not_true]
    rw [List.nil_append]
    refine (?_:Q (FV.bl (decide ((((List.range n).filter fun i=>!decide ((lyN M (n + 1)).getD i none=(lyN M n).getD i none)).map fun j:Nat=>FV.int j).length < (2:Int))),_))
    rw [List.length_map,decide_eq_true (by lia)]
    exact q
end
noncomputable def zN (ws ss:List Int) (M n:Nat):List Int:=(List.range n).map (kN ws ss (lyN M n))
theorem c8q (ws ss:List Int) (M n:Nat):(zN ws ss M n).length=n:=by simp [zN]
theorem zN_0 {ws ss:List Int} {M n:Nat} (h:n % (M + 1)=0):zN ws ss M n++[ws.getD n 0]=zN ws ss M (n + 1):=by
 unfold zN
 rw [List.range_succ,List.map_append]
 congr 1
 ·refine List.map_congr_left fun i hi=>?_
  have hi:=List.mem_range.mp hi
  have e:(lyN M (n + 1)).getD i none=(lyN M n).getD i none:=by
   rw [a4v M (n + 1) i (by lia),a4v M n i hi]
   by_cases y:(i + 1) % (M + 1)=0
   ·rw [if_pos (.inl y),if_pos (.inl y)]
   ·have:i + 1≠n:=fun e=>y (e ▸ h)
    rw [if_neg (by lia),if_neg (by lia)]
  unfold kN
  rw [e]
 ·simp only [List.map_cons,List.map_nil]
  rw [kN,if_pos (a8u M n)]
theorem zN_1 {ws ss:List Int} {M n:Nat} (h0:0 < n) (h:n % (M + 1)≠0):(zN ws ss M n).dropLast++[ss.getD (n - 1) 0]++[ws.getD n 0]=zN ws ss M (n + 1):=by
 obtain ⟨m,rfl⟩:∃ m,n=m + 1:=⟨n - 1,by lia⟩
 unfold zN
 rw [List.range_succ (n:=m + 1),List.map_append,List.range_succ (n:=m),List.map_append,List.map_append]
 simp only [List.map_cons,List.map_nil,List.dropLast_concat,Nat.add_sub_cancel]
 congr 1
 ·congr 1
  ·refine List.map_congr_left fun i hi=>?_
   have hi:=List.mem_range.mp hi
   unfold kN
   rw [b7g M (m + 1) i (by lia)]
  ·have e:(lyN M (m + 1 + 1)).getD m none=some (m + 1):=by
    rw [a4v M (m + 1 + 1) m (by lia),if_neg fun y=>y.elim h (by lia)]
   rw [kN,e,if_neg (by simp)]
 ·rw [kN,if_pos (a8u M (m + 1))]
theorem b4x {ws ss:List Int} {M n:Nat} (hl:ss.length + 1=ws.length) (hn:n < ws.length):(List.range (n + 1)).map (kN (ws.take (n + 1)) (ss.take n) (lyN M (n + 1)))=zN ws ss M (n + 1):=by
 refine List.map_congr_left fun i hi=>?_
 have hi:=List.mem_range.mp hi
 unfold kN
 split
 ·simp [List.getD,List.getElem?_take,show i < n + 1 by lia]
 ·rename_i y
  have:i < n:=Nat.lt_of_le_of_ne (by lia) fun z=>y (by rw [z]; exact a8u M n)
  simp [List.getD,List.getElem?_take,this]
theorem a4f {ws:List Int} {n:Nat} (hn:n < ws.length):ws.take n++[ws.getD n 0]=ws.take (n + 1):=by
 rw [List.take_succ,List.getElem?_eq_getElem hn,List.getD_eq_getElem?_getD,List.getElem?_eq_getElem hn]; rfl
theorem a5e {ws:List Int} (h:Szs ws) (n:Nat):Szs (ws.take n):=fun x hx=>h x (List.mem_of_mem_take hx)
theorem c3g {ws:List Int} (h:Szs ws) {n:Nat} (hn:n < ws.length):1≤ws.getD n 0∧ws.getD n 0 < 2000000000:=by
 rw [List.getD_eq_getElem?_getD,List.getElem?_eq_getElem hn]; exact h _ (List.getElem_mem hn)
theorem law_val (ns : List Int) : callW tb 14 25 [.scr ns] fun z => z.1 = .bl true := by
  refine a0h (fd := d9k) rfl rfl ?_
  simp [d9k, e1f]
  refine ⟨by simp [a1a]; split <;> lia, ?_⟩
  refine a3j (I := fun _ L => ∃ a b c d e x y f g h i, L = [some (.scr ns), a, b, c, d, e, x, y, f, g, h, i]) _ 0 _ ⟨_, _, _, _, _, _, _, _, _, _, _, rfl⟩ ?_ ?_
  · rintro k L K - - ⟨a, b, c, d, e, x, y, f, g, h, i, rfl⟩ kk
    simp
    refine c6l 12 ns k fun v1 y l1 => ?_
    simp
    refine c9g 9 l1 (by lia) (by lia) (by lia) (by lia) fun ws ss v2 h1 h2 h3 hw hs l2 => ?_
    simp
    refine a2r 11 l2 (by lia) (by decide) (by decide) fun m v3 m0 m1 l3 => ?_
    obtain ⟨M, rfl⟩ := Int.eq_ofNat_of_zero_le m0
    simp
    intro dx
    refine c2a 12 fun l1 l2 l3 n1 n2 n3 => ?_
    refine ⟨rfl, ?_⟩
    intro dy
    refine c6u 12 fun j1 j2 nj => ?_
    refine ⟨rfl, by decide, a0k (by lia) (by lia), ?_⟩
    refine a3j (I := fun n L => ∃ (ks : List Nat) (z : Int) (f g h i : Option FV), L = [some (FV.scr ns), some (FV.int k), some v3, some (FV.tup (ws.map FV.int)), some (FV.tup (ss.map FV.int)), some (FV.int M), some (obG dx l1 l2 l3 (ws.take n) (ss.take (n - 1)) (ks.map fun i : Nat => (i : Int)) z), some (obN dy j1 j2 M (((n - 1) % (M + 1) : Nat) : Int) (lyN M n) (zN ws ss M n)), f, g, h, i] ∧ n ≤ ws.length ∧ (n = 0 → ks = [] ∧ z = 0) ∧ (0 < n → Gr (ws.take n) (ss.take (n - 1)) ks z)) ws.length 0 _ ⟨[], 0, _, _, _, _, rfl, by lia, fun _ => ⟨rfl, rfl⟩, fun y => by lia⟩ ?_ ?_
    · rintro n L K - hn ⟨ks, z, f, g, h, i, rfl, -, hz, hG⟩ kL
      rw [Nat.zero_add] at hn
      have hst := c7m M n
      have hnx := c7n M n
      have hd0 : n % (M + 1) = 0 → (((n + 1 - 1) % (M + 1) : Nat) : Int) = 0 := fun y => by rw [Nat.add_sub_cancel, y]; rfl
      rw [Nat.add_sub_cancel] at kL hd0
      generalize hdp : (((n - 1) % (M + 1) : Nat) : Int) = dp at hst ⊢
      simp
      refine ⟨isG (by decide) (by decide) (by decide) (by decide), ?_⟩
      refine b7q 12 ?_
      refine ⟨isM (by decide) (by decide) (by decide) (by decide), ?_⟩
      refine b7a 12 nj ?_
      refine ⟨by decide, ?_⟩
      simp
      have hlen : (ws.take n).length = n := by simp; lia
      have hwn := c3g hw hn
      have fin : ∀ (s : Int) (ks' : List Nat) (z' : Int), (0 < n → s = ss.getD (n - 1) 0) → Gr (ws.take (n + 1)) (ss.take n) ks' z' → ks'.take ks.length = ks → (callW tb 13 31 [obN dy j1 j2 M dp (lyN M n) (zN ws ss M n), .int (ws.getD n 0), .int s] fun z_4 =>
                  callW tb 13 23 [obG dx l1 l2 l3 (ws.take (n + 1)) (ss.take n) (ks'.map fun i : Nat => (i : Int)) z', FV.tup (List.map (FV.int ∘ fun i : Nat => (i : Int)) ks)] fun z =>
                    wp (b0w z.fst) fun b =>
                      b = true ∧
                        2 ≤ big ∧
                          callW tb 13 24
                            [z_4.snd,
                              FV.tup
                                [FV.tup (a9g (List.map FV.int ws) none (some ((n : Int) + 1))),
                                  FV.tup (a9g (List.map FV.int ss) none (some (n : Int)))],
                              FV.int M, FV.tup (List.map a1x (lyN M n))]
                            fun z_5 =>
                            wp (b0w z_5.fst) fun b =>
                              b = true ∧
                                K
                                  [some (FV.scr ns), some (FV.int k), some v3, some (FV.tup (List.map FV.int ws)),
                                    some (FV.tup (List.map FV.int ss)), some (FV.int M), some z.snd, some z_5.snd,
                                    some (FV.int n), some (FV.tup (List.map (FV.int ∘ fun i : Nat => (i : Int)) ks)),
                                    some (FV.tup (List.map a1x (lyN M n))), some (.int s)]) := by
        intro s ks' z' es hG' hka
        have tl : ∀ dp' : Int, dp' = ((n % (M + 1) : Nat) : Int) → (callW tb 13 23 [obG dx l1 l2 l3 (ws.take (n + 1)) (ss.take n) (ks'.map fun i : Nat => (i : Int)) z', FV.tup (List.map (FV.int ∘ fun i : Nat => (i : Int)) ks)] fun z =>
                    wp (b0w z.fst) fun b =>
                      b = true ∧
                        2 ≤ big ∧
                          callW tb 13 24
                            [obN dy j1 j2 M dp' (lyN M (n + 1)) (zN ws ss M (n + 1)),
                              FV.tup
                                [FV.tup (a9g (List.map FV.int ws) none (some ((n : Int) + 1))),
                                  FV.tup (a9g (List.map FV.int ss) none (some (n : Int)))],
                              FV.int M, FV.tup (List.map a1x (lyN M n))]
                            fun z_5 =>
                            wp (b0w z_5.fst) fun b =>
                              b = true ∧
                                K
                                  [some (FV.scr ns), some (FV.int k), some v3, some (FV.tup (List.map FV.int ws)),
                                    some (FV.tup (List.map FV.int ss)), some (FV.int M), some z.snd, some z_5.snd,
                                    some (FV.int n), some (FV.tup (List.map (FV.int ∘ fun i : Nat => (i : Int)) ks)),
                                    some (FV.tup (List.map a1x (lyN M n))), some (.int s)]) := by
          intro dp' edp
          refine b8g 7 n1 n2 n3 hG' (a5e hw _) (a5e hs _) (by simp; lia) (ka := ks) hka ?_
          simp
          refine ⟨by decide, ?_⟩
          rw [show ((n : Int) + 1) = ((n + 1 : Nat) : Int) by simp, b9m, b9m, ← List.map_take, ← List.map_take, ← b4x (M := M) h3 hn]
          refine b6z 8 nj (a5e hw _) (a5e hs _) (by simp; lia) (by simp; lia) (by simp; lia) ?_
          rw [b4x h3 hn, edp]
          simp
          exact kL _ ⟨ks', z', _, _, _, _, rfl, by lia, fun y => by lia, fun _ => hG'⟩
        refine c1y 12 nj (by rw [a2c]; lia) (by rw [a2c, c8q]) _ (.int s) (fun a1 a2 => ⟨s, rfl, ?_⟩) fun a1 => ?_
        · rw [a2c] at a1 ⊢
          have y := (hst a1).mp a2
          rw [d7m M n a1 y, es a1, zN_1 a1 y]
          rw [es a1] at tl
          exact tl _ (by rw [← hdp, ← hnx a1 y]; lia)
        · rw [a2c] at a1
          have y : n % (M + 1) = 0 := Classical.byContradiction fun y => by
            rcases Nat.eq_zero_or_pos n with e | e
            · rw [e] at y; simp at y
            · exact a1 ⟨e, (hst e).mpr y⟩
          rw [d7n M n y, zN_0 y]
          exact tl _ (hd0 y).symm
      rcases Nat.eq_zero_or_pos n with e0 | e0
      · have hzz := hz e0
        rw [if_neg (by lia)]
        refine ⟨isG (by decide) (by decide) (by decide) (by decide), ?_⟩
        rw [a7i hn]
        refine b8f 12 n1 n2 n3 (by lia) (by simp; lia) (by rw [hzz.1]; simp) _ _ (fun _ => ?_) (fun y => by lia) (fun y => by lia)
        refine ⟨isM (by decide) (by decide) (by decide) (by decide), ?_⟩
        rw [a7i hn]
        have hf := fin 1 [0] 0 (fun y => by lia) (by
          subst e0
          have := Gr.first hwn.1
          simpa [← a4f hn] using this) (by rw [hzz.1]; rfl)
        subst e0
        rw [hzz.1] at hf ⊢
        simpa [a4f hn, ← a4f hn] using hf
      · rw [if_pos e0]
        have es : (n : Int) - 1 = ((n - 1 : Nat) : Int) := by lia
        have hsn := c3g hs (n := n - 1) (by lia)
        have G := hG e0
        have ew := a4f hn
        have es2 : ss.take (n - 1) ++ [ss.getD (n - 1) 0] = ss.take n := by
          have := a4f (ws := ss) (n := n - 1) (by lia)
          rwa [show n - 1 + 1 = n by lia] at this
        rw [es, a7i (by lia)]
        refine ⟨isG (by decide) (by decide) (by decide) (by decide), ?_⟩
        rw [a7i hn]
        have kl : ks.length ≤ n := by have := G.hc; rw [hlen] at this; exact this
        refine b8f 12 n1 n2 n3 (by lia) (by simp; lia) (by simp; lia) _ _ (fun y => by lia) (fun _ y => ?_) (fun _ y => ?_)
        · refine ⟨isM (by decide) (by decide) (by decide) (by decide), ?_⟩
          rw [a7i hn, ew, es2]
          exact fin _ ks _ (fun _ => rfl) (by have := G.change hwn.1 hsn.1 y; rwa [ew, es2] at this) (List.take_length ..)
        · refine ⟨isM (by decide) (by decide) (by decide) (by decide), ?_⟩
          rw [a7i hn, ew, es2]
          have := G.whole hwn.1 hsn.1 y
          rw [hlen, ew, es2] at this
          have hf := fin _ (ks ++ [n]) 0 (fun _ => rfl) this (by simp)
          rw [hlen]
          simpa using hf
    · rintro L ⟨ks, z, f, g, h, i, rfl, _⟩
      exact kk _ ⟨_, _, _, _, _, _, _, _, _, _, _, rfl⟩
  · rintro L ⟨a, b, c, d, e, x, y, f, g, h, i, rfl⟩
    simp
end Kq
end
set_option maxRecDepth 100000
set_option maxHeartbeats 4000000
section
namespace Kq
open PySem PySem.Spec PyProof.Rows L2 PySem.W
noncomputable def d0:Df:=⟨"is_number",top 7,["thing"],["thing"],[]⟩
noncomputable def d1:Df:=⟨"is_tuple_of",top 8,["thing","many"],["thing","many"],[]⟩
noncomputable def d2:Df:=⟨"is_laying",top 10,["stock","thing"],["stock","thing","makes","sizes","make","on"],[]⟩
noncomputable def d3:Df:=⟨"comes_from_whole",top 11,["laying","make"],["laying","make","on","step"],[]⟩
noncomputable def d4:Df:=⟨"change_sizes",top 12,["stock"],["stock"],[]⟩
noncomputable def d5:Df:=⟨"kept_sizes",top 13,["stock","laying"],["stock","laying","sizes"],[]⟩
noncomputable def d6:Df:=⟨"room",top 14,["stock","laying"],["stock","laying"],[]⟩
noncomputable def d7:Df:=⟨"way",top 15,["laying","make"],["laying","make","makes","on"],[.imm,.imm,.own]⟩
noncomputable def d8:Df:=⟨"deep",top 16,["laying","make"],["laying","make"],[]⟩
noncomputable def d9:Df:=⟨"reads",top 17,["stock","laying"],["stock","laying","sizes"],[]⟩
noncomputable def d10:Df:=⟨"row_stock",top 19,["row"],["row","wholes","steps"],[]⟩
noncomputable def d11:Df:=⟨"row_laying",top 20,["row","kept"],["row","kept"],[]⟩
noncomputable def d12:Df:=⟨"row_room",top 21,["row","kept"],["row","kept"],[]⟩
noncomputable def d13:Df:=⟨"row_reads",top 22,["row","kept"],["row","kept"],[]⟩
noncomputable def d14:Df:=⟨"stretch_size",top 23,["row","first","end"],["row","first","end","wholes","steps"],[]⟩
noncomputable def d15:Df:=⟨"within_deep",top 25,["row","most"],["row","most","many"],[]⟩
noncomputable def d16:Df:=⟨"least_kept",top 26,["row","ends"],["row","ends","many","best","first","found","end","takes","kept"],[.imm,.imm,.imm,.own,.imm,.own]⟩
noncomputable def d17:Df:=⟨"_law_mix",top 28,["_law_cell","_law_k"],["_law_cell","_law_k","_law_m"],[]⟩
noncomputable def d18:Df:=⟨"_law_left",top 29,["_law_script","_law_k"],["_law_script","_law_k","_law_cell"],[]⟩
noncomputable def d19:Df:=⟨"_law_pick",top 30,["_law_left_here","_law_many"],["_law_left_here","_law_many","_law_digit"],[.own]⟩
noncomputable def d20:Df:=⟨"_law_size",top 31,["_law_left_here","_law_great"],["_law_left_here","_law_great","_law_way_drawn"],[.own]⟩
noncomputable def d21:Df:=⟨"_law_row",top 32,["_law_left_here","_law_most"],["_law_left_here","_law_most","_law_many","_law_great","_law_wholes"],[.own]⟩
noncomputable def d22:Df:=⟨"_law_all_kept",top 33,["_law_many"],["_law_many","_law_found","_law_make"],[]⟩
noncomputable def d23:Df:=⟨"_law_grown_right",top 34,["_law_one","_law_ahead"],["_law_one","_law_ahead","_law_row_here","_law_kept","_law_wholes","_law_size_here","_law_least","_law_every","_law_begin","_law_make","_law_number"],[.own]⟩
noncomputable def d24:Df:=⟨"_law_newest_right",top 35,["_law_one","_law_row_here","_law_most","_law_ahead"],["_law_one","_law_row_here","_law_most","_law_ahead","_law_many","_law_stock","_law_laid"],[.own]⟩
noncomputable def d25:Df:=⟨"law",top 36,["_law_script"],["_law_script","_law_k","_law_left_here","_law_wholes","_law_steps","_law_most","_law_one","_law_other","_law_make","_law_ahead","_law_laid","_law_step"],[.imm,.imm,.own,.imm,.imm,.imm,.own,.own]⟩
noncomputable def d26:Df:=⟨"__init__",mth 4 0,["self"],["self"],[.own]⟩
noncomputable def d27:Df:=⟨"grown",mth 4 1,["self","whole","step"],["self","whole","step","make"],[.own]⟩
noncomputable def d28:Df:=⟨"row_now",mth 4 2,["self"],["self"],[.own]⟩
noncomputable def d29:Df:=⟨"kept_now",mth 4 3,["self"],["self"],[.own]⟩
noncomputable def d30:Df:=⟨"__init__",mth 5 0,["self","most"],["self","most"],[.own]⟩
noncomputable def d31:Df:=⟨"grown",mth 5 1,["self","whole","back"],["self","whole","back","make","anew"],[.own]⟩
noncomputable def d32:Df:=⟨"laying_now",mth 5 2,["self"],["self"],[.own]⟩
noncomputable def d33:Df:=⟨"room_now",mth 5 3,["self"],["self"],[.own]⟩
noncomputable def fns:Fns:=⟨[Γe "is_number",Γe "is_tuple_of",Γe "is_laying",Γe "comes_from_whole",Γe "change_sizes",Γe "kept_sizes",Γe "room",Γe "way",Γe "deep",Γe "reads",Γe "row_stock",Γe "row_laying",Γe "row_room",Γe "row_reads",Γe "stretch_size",Γe "within_deep",Γe "least_kept",Γe "_law_mix",Γe "_law_left",Γe "_law_pick",Γe "_law_size",Γe "_law_row",Γe "_law_all_kept",Γe "_law_grown_right",Γe "_law_newest_right",Γe "law"],[(Γe "Growing",77,Γe "__init__"),(Γe "Growing",77,Γe "grown"),(Γe "Growing",77,Γe "row_now"),(Γe "Growing",77,Γe "kept_now"),(Γe "Newest",119,Γe "__init__"),(Γe "Newest",119,Γe "grown"),(Γe "Newest",119,Γe "laying_now"),(Γe "Newest",119,Γe "room_now")],[(77,Γe "wholes"),(77,Γe "steps"),(77,Γe "kept"),(77,Γe "since"),(119,Γe "most"),(119,Γe "laying"),(119,Γe "sizes"),(119,Γe "deepest")]⟩
abbrev DB (d:Df) (fr:Bool) (b:CW→SW):Prop:=∀ (X:Cx) (call:CW) (n:Nat),Good X (d.cc fns) n (spK tb call)→FSs X (d.cc fns) fr (a1m d.st) (b call)
local macro_rules | `(tactic| ac_rfl)=>do
 let g:=Lean.mkIdent `G
 let mut ts:Array (Lean.TSyntax ``Lean.Parser.Tactic.tacticSeq):=#[]
 for r in ("§fe_var 12210;e0b 03110;fe_int 00010;a0o 02010;fa_nil 00010;a3d 01010;fr_var 11110;fs_ret 01010;fe_ix 03110;fs_set 14310;d9a 16510;d3u 12110;fe_add 02010;fs_if 03010;fs_nil 00010;fe_tup 01010;d8p 11110;fe_len 13210;CompOk.mk 05110;fe_bl 00010;d8c 00010;d4a 18710;d8o 00010;fe_sub 02010;d8g 02110;fb_gt 02010;fe_mul 02010;fe_ixN 13210;fb_not 01010;fe_if 03010;d3x 13210;d1u 17710;d1n 11010;d8a 01010;fw_and 02010;d8i 01010;fe_mod 02010;fb_ne 12010;d1k 13310;d1l 15410;d1t 16510;fb_in2 13010;d8e 14310;fe_sl 03010;fe_neg 01010;d1q 14410;fe_isi 15410;ff_lst 01010;fb_lt 12010;fe_lst 01010;d8j 00010;fe_fld 13310;fe_one 01010;fe_and 02010;d9z 01010;fb_isN 01010;d8t 13210;fe_app 15410;fe_non 00010;d8w 15310;fe_pow 02010;fe_abs 13210;fs_ix 15310;d8y 02010;fb_eq 12010;fs_par 14210;fw_or1 01010;fw_or 02010;d3z 19810;d1s 14410;d1m 14310;fe_str 00010;d1j 16410;fe_not 01010;fe_eq 12010;fe_all 13210;d8z 12010;fs_whl 02010;d8r 13210;d8s 13210;d3w 02010;fe_dgN 13210;d8v 13210;d8h 15310;d8x 14310;fe_ge 02010;d3y 13210;d8d 14210;d8u 13210;fe_gt 02010;fe_any 13210;d8b 01010;fe_lt 12010;d8q 16510;d1o 15510;d3v 17610;d3s 14210;fb_le 12010;e0a 13310;fs_nev 00010;d1r 14410;fs_tup 14210;d8f 01010;fr_of 01010;fb_val 02110;fb_w 01010;fi_rng 13200;d8n 13200;fi_seq 01000;d8l 15300;d8m 13200;fe_int 00000;fe_str 00000;fe_bl 00000;fe_non 00000".drop 1).toString.splitOn ";" do
  let [n,c]:=r.splitOn " " | continue
  let [a,k,s,w,e]:=c.toList.map fun x=>x.toNat - 48 | continue
  let f:=Lean.mkIdent n.toName
  let mut as:Array Lean.Term:=if a=1 then #[g] else #[]
  for _ in [0:k] do as:=as.push (← `(?_))
  let mut t ← if as.isEmpty then `(tactic| exact $f) else `(tactic| refine $f $as*)
  if w=1 then t ← `(tactic| with_reducible $t:tactic)
  if e=1 then t ← `(tactic| ((with_reducible refine a4l ?_); $t:tactic))
  for _ in [0:s] do t ← `(tactic| (($t:tactic); first | decide +kernel | rfl))
  ts:=ts.push (← `(Lean.Parser.Tactic.tacticSeq| $t:tactic))
 ts:=ts.push (← `(Lean.Parser.Tactic.tacticSeq| first | decide +kernel))
 `(tactic| repeat' first $[| $ts]*)
local macro_rules | `(tactic| ac_nf)=>do
 let g:=Lean.mkIdent `G
 `(tactic| (intro _ $g:ident; ac_rfl))
local macro_rules | `(tactic| eq_refl)=>do
 let g:=Lean.mkIdent `G
 `(tactic| (intro $g:ident; ac_rfl))
local macro_rules | `(tactic| exists $e)=>`(tactic| (refine $e; ac_rfl))
local macro_rules | `(tactic| exists $e,$g:ident)=>`(tactic| (intro X call n $g:ident; refine $e; ac_rfl))
theorem db0:DB d0 false bd0:=by
 delta bd0
 exists a3d ?_,G
theorem db1:DB d1 false bd1:=by
 delta bd1
 exists a3d ?_,G
theorem db2:DB d2 false bd2:=by
 exists a0o ?_ ?_,G
 exists a4x G (md':=[]) ?_ ?_ ?_ ?_
 eq_refl
 exists a4l (a1q G (own:=["make"]) (md':=[]) ?_)
 ac_nf
 ac_nf
 ac_nf
theorem db3:DB d3 false bd3:=by
 exists a0o ?_ ?_,G
 exists a4x G (md':=[]) ?_ ?_ ?_ ?_
 eq_refl
theorem db4:DB d4 false bd4:=by
 delta bd4
 exists a3d ?_,G
 exists c2h G (own:=["a","b","size"]) (md':=[]) ?_ ?_
 ac_nf
 ac_nf
 ac_nf
 ac_nf
theorem db5:DB d5 false bd5:=by
 exists a0o ?_ ?_,G
 exists a4l (a1q G (own:=["make","on"]) (md':=[]) ?_)
 ac_nf
 ac_nf
 ac_nf
theorem db6:DB d6 false bd6:=by
 delta bd6
 exists a3d ?_,G
theorem db7:DB d7 false bd7:=by
 exists a0o ?_ ?_,G
theorem db8:DB d8 false bd8:=by
 delta bd8
 exists a3d ?_,G
theorem db9:DB d9 false bd9:=by
 exists a0o ?_ ?_,G
 exists a4l (a1q G (own:=["make"]) (md':=[]) ?_)
 ac_nf
 ac_nf
 ac_nf
 exists a4l (a1q G (own:=["passed"]) (md':=[]) ?_)
 ac_nf
 ac_nf
 ac_nf
theorem db10:DB d10 false e1q:=by
 exists a0o ?_ ?_,G
 exists a4l (a1q G (own:=["make","size"]) (md':=[]) ?_)
 ac_nf
 ac_nf
 ac_nf
theorem db11:DB d11 false d4q:=by
 delta d4q
 exists a3d ?_,G
 exists a4l (a1q G (own:=["make"]) (md':=[]) ?_)
 ac_nf
 ac_nf
 ac_nf
theorem db12:DB d12 false d4p:=by
 delta d4p
 exists a3d ?_,G
theorem db13:DB d13 false d4o:=by
 delta d4o
 exists a3d ?_,G
theorem db14:DB d14 false e1p:=by
 exists a0o ?_ ?_,G
theorem db15:DB d15 false e1o:=by
 exists a0o ?_ ?_,G
 exists a4l (a1q G (own:=["first"]) (md':=[]) ?_)
 ac_nf
 ac_nf
 ac_nf
theorem db16:DB d16 false e1n:=by
 exists a0o ?_ ?_,G
 exists a4x G (md':=[.imm,.imm,.imm,.own,.imm,.own]) ?_ ?_ ?_ ?_
 eq_refl
 exists a4x G (md':=[.imm,.imm,.imm,.own,.imm,.own]) ?_ ?_ ?_ ?_
 eq_refl
theorem db17:DB d17 false e1m:=by
 exists a0o ?_ ?_,G
theorem db18:DB d18 true e1l:=by
 exists a0o ?_ ?_,G
theorem db19:DB d19 false d4n:=by
 exists a0o ?_ ?_,G
theorem db20:DB d20 false e1k:=by
 exists a0o ?_ ?_,G
theorem db21:DB d21 false e1j:=by
 exists a0o ?_ ?_,G
 exists a4l (a1q G (own:=["_law_k"]) (md':=[.own]) ?_)
 ac_nf
 ac_nf
 ac_nf
 exists a4l (a1q G (own:=["_law_k"]) (md':=[.own]) ?_)
 ac_nf
 ac_nf
 ac_nf
theorem db22:DB d22 false e1i:=by
 exists a0o ?_ ?_,G
 exists a4x G (md':=[]) ?_ ?_ ?_ ?_
 eq_refl
 exists a4l (a1q G (own:=["_law_kept"]) (md':=[]) ?_)
 ac_nf
 ac_nf
 ac_nf
theorem db23:DB d23 false e1h:=by
 exists a0o ?_ ?_,G
 exists c6z G (own:=["_law_some"]) (md':=[.own]) ?_ ?_ ?_
 ac_nf
 ac_nf
 ac_nf
 exists a4x G (md':=[.own]) ?_ ?_ ?_ ?_
 eq_refl
theorem db24:DB d24 false e1g:=by
 exists a0o ?_ ?_,G
 exists a4l (a1q G (own:=["_law_make"]) (md':=[.own]) ?_)
 ac_nf
 ac_nf
 ac_nf
 exists a4l (a1q G (own:=["_law_make"]) (md':=[.own]) ?_)
 ac_nf
 ac_nf
 ac_nf
 exists a4l (a1q G (own:=["_law_make"]) (md':=[.own]) ?_)
 ac_nf
 ac_nf
 ac_nf
theorem db25:DB d25 false e1f:=by
 exists a0o ?_ ?_,G
 exists a4x G (md':=[.imm,.imm,.own,.imm,.imm,.imm,.own,.own]) ?_ ?_ ?_ ?_
 eq_refl
 exists a4x G (md':=[.imm,.imm,.own,.imm,.imm,.imm,.own,.own]) ?_ ?_ ?_ ?_
 eq_refl
theorem db26:DB d26 false e1e:=by
 exists a0o ?_ ?_,G
theorem db27:DB d27 false e1d:=by
 exists a0o ?_ ?_,G
theorem db28:DB d28 false e1c:=by
 exists a0o ?_ ?_,G
theorem db29:DB d29 false d4m:=by
 delta d4m
 exists a3d ?_,G
theorem db30:DB d30 false e1b:=by
 exists a0o ?_ ?_,G
theorem db31:DB d31 false e1a:=by
 exists a0o ?_ ?_,G
theorem db32:DB d32 false d4l:=by
 delta d4l
 exists a3d ?_,G
theorem db33:DB d33 false d4k:=by
 delta d4k
 exists a3d ?_,G
noncomputable def rc (d:Df):DefRec:=⟨Γe d.name,a3x d.st,a1m d.st,a0m d.st,d2j d.st⟩
noncomputable def recs:List DefRec:=[rc d0,rc d1,rc d2,rc d3,rc d4,rc d5,rc d6,rc d7,rc d8,rc d9,rc d10,rc d11,rc d12,rc d13,rc d14,rc d15,rc d16,rc d17,rc d18,rc d19,rc d20,rc d21,rc d22,rc d23,rc d24,rc d25]
theorem recs_eq:recs=recsOf view:=by kernel_rfl!
noncomputable def PD (K:Frag) (mg:Str→Option Value) (i:Nat) (x:Str):Prop:=∃ df fd fa fdd,tb[i]?=some fd∧Df.ok df fd.np fd.ns fd.io=true∧(∀ X call n,Good X (df.cc fns) n (spK tb call)→FSs X (df.cc fns) fd.fr (a1m df.st) (fd.body call))∧Fun K (Γe df.name) (Γe df.name) df.st fa fdd∧mg x=some (.ref fa)∧Binds K fdd df.ps []
local macro_rules | `(tactic| exists $d,$b,$j,$u)=>`(tactic| (refine And.intro (have ⟨fa,fd,m,F⟩:=DIn.fn (by assumption) ((by assumption:∀ d∈recs,DIn _ _ d) (rc $d) (List.mem_of_getElem? (i:=$j) rfl)); ⟨$d,_,fa,fd,rfl,by decide +kernel,$b,F,m,F.binds fun _ _ _ _ _ _ us hl=>$u (P:=fun us=>bindArgs _ ⟨us,[]⟩=pure (List.zip _ us)) hl (by intros; first | kernel_rfl! | rfl)⟩) ?_))
theorem e0h {K:Frag} {h:Heap} {mg:Str→Option Value} (A:AllIn K h) (D:∀ d∈recs,DIn K mg d):EachI (PD K mg) 0 fns.f:=by
 exists d0,db0,0,us1
 exists d1,db1,1,us2
 exists d2,db2,2,us2
 exists d3,db3,3,us2
 exists d4,db4,4,us1
 exists d5,db5,5,us2
 exists d6,db6,6,us2
 exists d7,db7,7,us2
 exists d8,db8,8,us2
 exists d9,db9,9,us2
 exists d10,db10,10,us1
 exists d11,db11,11,us2
 exists d12,db12,12,us2
 exists d13,db13,13,us2
 exists d14,db14,14,us3
 exists d15,db15,15,us2
 exists d16,db16,16,us2
 exists d17,db17,17,us2
 exists d18,db18,18,us2
 exists d19,db19,19,us2
 exists d20,db20,20,us2
 exists d21,db21,21,us2
 exists d22,db22,22,us1
 exists d23,db23,23,us2
 exists d24,db24,24,us4
 exists d25,db25,25,us1
 trivial
noncomputable def PM (K:Frag) (mg:Str→Option Value) (i:Nat) (x:Str×Addr×Str):Prop:=∃ df fd fa fdd nm qu,tb[fns.f.length + i]?=some fd∧Df.ok df fd.np fd.ns fd.io=true∧(∀ X call n,Good X (df.cc fns) n (spK tb call)→FSs X (df.cc fns) fd.fr (a1m df.st) (fd.body call))∧Fun K nm qu df.st fa fdd∧mg x.1=some (.ref x.2.1)∧Cls K x.2.1∧(x.2.2=("__init__":Str)→Mk K x.2.1 fa)∧(x.2.2≠("__init__":Str)→Meth K x.2.1 x.2.2 fa)∧Binds K fdd df.ps []
theorem e_ms {K:Frag} {mg:Str→Option Value} (CS:∀ c∈css,CF K mg c) (VS:∀ p∈vws,VF K p):EachI (PM K mg) 0 fns.ms:=by
 refine And.intro (have ⟨fdd,F⟩:=VS _ (List.mem_of_getElem? (i:=0) rfl); have T:=CS _ (List.mem_of_getElem? (i:=0) rfl); have M:=T.ms _ (List.mem_of_getElem? (i:=0) rfl); ⟨d26,_,_,fdd,_,_,rfl,by decide +kernel,db26,F,T.mg,T.cl,fun _=>⟨T.mks,M.1,M.2.1,T.kp⟩,fun z=>absurd rfl z,F.binds fun _ _ _ _ _ _ us hl=>us1 (P:=fun us=>bindArgs _ ⟨us,[]⟩=pure (List.zip _ us)) hl (by intros; first | kernel_rfl! | rfl)⟩) ?_
 refine And.intro (have ⟨fdd,F⟩:=VS _ (List.mem_of_getElem? (i:=1) rfl); have T:=CS _ (List.mem_of_getElem? (i:=0) rfl); have M:=T.ms _ (List.mem_of_getElem? (i:=1) rfl); ⟨d27,_,_,fdd,_,_,rfl,by decide +kernel,db27,F,T.mg,T.cl,fun z=>absurd z (by decide +kernel),fun _=>⟨M.1,M.2.1,M.2.2.1⟩,F.binds fun _ _ _ _ _ _ us hl=>us3 (P:=fun us=>bindArgs _ ⟨us,[]⟩=pure (List.zip _ us)) hl (by intros; first | kernel_rfl! | rfl)⟩) ?_
 refine And.intro (have ⟨fdd,F⟩:=VS _ (List.mem_of_getElem? (i:=2) rfl); have T:=CS _ (List.mem_of_getElem? (i:=0) rfl); have M:=T.ms _ (List.mem_of_getElem? (i:=2) rfl); ⟨d28,_,_,fdd,_,_,rfl,by decide +kernel,db28,F,T.mg,T.cl,fun z=>absurd z (by decide +kernel),fun _=>⟨M.1,M.2.1,M.2.2.1⟩,F.binds fun _ _ _ _ _ _ us hl=>us1 (P:=fun us=>bindArgs _ ⟨us,[]⟩=pure (List.zip _ us)) hl (by intros; first | kernel_rfl! | rfl)⟩) ?_
 refine And.intro (have ⟨fdd,F⟩:=VS _ (List.mem_of_getElem? (i:=3) rfl); have T:=CS _ (List.mem_of_getElem? (i:=0) rfl); have M:=T.ms _ (List.mem_of_getElem? (i:=3) rfl); ⟨d29,_,_,fdd,_,_,rfl,by decide +kernel,db29,F,T.mg,T.cl,fun z=>absurd z (by decide +kernel),fun _=>⟨M.1,M.2.1,M.2.2.1⟩,F.binds fun _ _ _ _ _ _ us hl=>us1 (P:=fun us=>bindArgs _ ⟨us,[]⟩=pure (List.zip _ us)) hl (by intros; first | kernel_rfl! | rfl)⟩) ?_
 refine And.intro (have ⟨fdd,F⟩:=VS _ (List.mem_of_getElem? (i:=4) rfl); have T:=CS _ (List.mem_of_getElem? (i:=1) rfl); have M:=T.ms _ (List.mem_of_getElem? (i:=0) rfl); ⟨d30,_,_,fdd,_,_,rfl,by decide +kernel,db30,F,T.mg,T.cl,fun _=>⟨T.mks,M.1,M.2.1,T.kp⟩,fun z=>absurd rfl z,F.binds fun _ _ _ _ _ _ us hl=>us2 (P:=fun us=>bindArgs _ ⟨us,[]⟩=pure (List.zip _ us)) hl (by intros; first | kernel_rfl! | rfl)⟩) ?_
 refine And.intro (have ⟨fdd,F⟩:=VS _ (List.mem_of_getElem? (i:=5) rfl); have T:=CS _ (List.mem_of_getElem? (i:=1) rfl); have M:=T.ms _ (List.mem_of_getElem? (i:=1) rfl); ⟨d31,_,_,fdd,_,_,rfl,by decide +kernel,db31,F,T.mg,T.cl,fun z=>absurd z (by decide +kernel),fun _=>⟨M.1,M.2.1,M.2.2.1⟩,F.binds fun _ _ _ _ _ _ us hl=>us3 (P:=fun us=>bindArgs _ ⟨us,[]⟩=pure (List.zip _ us)) hl (by intros; first | kernel_rfl! | rfl)⟩) ?_
 refine And.intro (have ⟨fdd,F⟩:=VS _ (List.mem_of_getElem? (i:=6) rfl); have T:=CS _ (List.mem_of_getElem? (i:=1) rfl); have M:=T.ms _ (List.mem_of_getElem? (i:=2) rfl); ⟨d32,_,_,fdd,_,_,rfl,by decide +kernel,db32,F,T.mg,T.cl,fun z=>absurd z (by decide +kernel),fun _=>⟨M.1,M.2.1,M.2.2.1⟩,F.binds fun _ _ _ _ _ _ us hl=>us1 (P:=fun us=>bindArgs _ ⟨us,[]⟩=pure (List.zip _ us)) hl (by intros; first | kernel_rfl! | rfl)⟩) ?_
 refine And.intro (have ⟨fdd,F⟩:=VS _ (List.mem_of_getElem? (i:=7) rfl); have T:=CS _ (List.mem_of_getElem? (i:=1) rfl); have M:=T.ms _ (List.mem_of_getElem? (i:=3) rfl); ⟨d33,_,_,fdd,_,_,rfl,by decide +kernel,db33,F,T.mg,T.cl,fun z=>absurd z (by decide +kernel),fun _=>⟨M.1,M.2.1,M.2.2.1⟩,F.binds fun _ _ _ _ _ _ us hl=>us1 (P:=fun us=>bindArgs _ ⟨us,[]⟩=pure (List.zip _ us)) hl (by intros; first | kernel_rfl! | rfl)⟩) ?_
 trivial
theorem e_fl {K:Frag} {mg:Str→Option Value} (CS:∀ c∈css,CF K mg c):∀ p∈fns.fl,Cls K p.1∧NoAttr K p.1 p.2:=by
 have h:∀ p∈fns.fl,∃ c∈css,c.a=p.1∧p.2∈c.fl:=by nofun
 intro p hp
 obtain ⟨c,hc,e,hf⟩:=h p hp
 have T:=CS c hc
 exact ⟨e ▸ T.cl,e ▸ T.fl _ hf⟩
theorem law_fn (w:World) (K:Frag) (mg:Str→Option Value) (fa:Addr) (h:Heap) (A:AllIn K h) (D:∀ d∈recs,DIn K mg d) (CS:∀ c∈css,CF K mg c) (VS:∀ p∈vws,VF K p) (blt:∀ b∈bltNames,mg (Γe b)=none) (hm:mg (Γe "law")=some (.ref fa)) :
  ∃ fd:FuncData,(∀ (s:Shared) (u:Value),BindsTo s fd ⟨[u],[]⟩ [(Γe "_law_script",u)])∧∀ base:Heap,FnOk PySem.Challenge.pw_keepwhole_k64_whole_growing_within_twice w K mg base CX0 14 fa fd [Γe "_law_script"] (spT K tb (callW tb 14) 25):=by
 obtain ⟨fa2,fd,m,F⟩:=DIn.fn A (D (rc d25) (List.mem_of_getElem? (i:=25) rfl))
 have e:=hm.symm.trans m
 cases e
 have E:∀ (f:Nat) (x:Str),fns.f[f]?=some x→PD K mg f x:=fun f x hx=>by
  have:=EachI.get (e0h A D) f x hx
  rwa [Nat.zero_add] at this
 have EM:∀ (k:Nat) (c:Str) (Ca:Addr) (m:Str),fns.ms[k]?=some (c,Ca,m)→PM K mg k (c,Ca,m):=fun k c Ca m hx=>by
  have:=EachI.get (e_ms CS VS) k _ hx
  rwa [Nat.zero_add] at this
 have FL:=e_fl CS
 refine ⟨fd,?_,fun base=>?_⟩
 ·obtain ⟨oc,od,kV,doc,pm,an,cdv,ct,osl,rfl,lk,hcd⟩:=F.ex
  exact fun s v=>.of_eq rfl
 ·obtain ⟨R1,R2⟩:=b9z (P:=PySem.Challenge.pw_keepwhole_k64_whole_growing_within_twice) (w:=w) (base:=base) blt FL E EM 13
  exact b1p (df:=d25) F rfl (by nofun) db25 R1 blt R2 FL
end Kq
end
set_option maxHeartbeats 0
section
open PySem PySem.W PyProof.Rows
theorem Kq.said : PySem.Challenge.rw_keepwhole_k64_whole_growing_within_twice.wellSaid = true := by nofun



theorem Kq.freeAll : (Kq.bltNames.all fun b => Kq.freeIn Kq.view (looseW Kq.view []) (Str.ofString b)) = true := by nofun
theorem Kq.hdef : defOf Kq.view PySem.Challenge.rw_keepwhole_k64_whole_growing_within_twice.name = some (Kq.rc Kq.d25, []) := by kernel_rfl!
theorem Kq.hp : PySem.Challenge.rw_keepwhole_k64_whole_growing_within_twice.prog.theDef PySem.Challenge.rw_keepwhole_k64_whole_growing_within_twice.name = some ((Kq.rc Kq.d25).params, (Kq.rc Kq.d25).body, (Kq.rc Kq.d25).scope) := by kernel_rfl!
theorem Kq.okq : (chainsOk Kq.view && opensWell PySem.Challenge.rw_keepwhole_k64_whole_growing_within_twice.prog && (frees PySem.Challenge.rw_keepwhole_k64_whole_growing_within_twice.row.toRowW && PySem.Challenge.rw_keepwhole_k64_whole_growing_within_twice.row.within.isEmpty)) = true := by nofun
theorem Kq.prom : PySem.Challenge.rw_keepwhole_k64_whole_growing_within_twice.row.toRowW.promised := ⟨[.list []], by nofun, by nofun⟩
theorem PySem.Challenge.cw_keepwhole_k64_whole_growing_within_twice_holds : PySem.Challenge.rw_keepwhole_k64_whole_growing_within_twice.Holds :=
  Kq.row_holdsC Kq.said Kq.left Kq.hdef Kq.hp rfl rfl Kq.okq ⟨rfl, rfl, rfl, rfl, rfl, by nofun⟩ Kq.prom (Kq.walkC (n := 63) (k := 14) (ds := Kq.recs) (x := Str.ofString "_law_script") (sp := fun K => Kq.spT K Kq.tb (Kq.callW Kq.tb 14) 25) rfl (by decide) rfl ⟨rfl, by decide, by decide, rfl⟩ Kq.recs_eq Kq.freeAll (by nofun) Kq.law_fn fun _ _ a ns hl hO hS => Kq.law_sp rfl rfl rfl hO hS (Kq.law_val ns))
end
