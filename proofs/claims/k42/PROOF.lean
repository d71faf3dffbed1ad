import PyProof.Rows.All
import Wide.All
import OpenK.AllK
import Wide.FinOn
import Lean
import PyProof.EqAt
import PyProof.EqKinds
import PyProof.TupleCall
import PyProof.DictCompW
import PyProof.Rows.Range3
import KE.KRevIter
import PyProof.AutoRange
import PyProof.FactsAll.range_2
import PyProof.Rows.CallKwBuiltin
import PyProof.ListRange
import PyProof.TupleOfGen
import PyProof.P3Eq
import PyProof.Rows.RowHeap
import PyProof.CollectIter
import PyProof.WalksMore
import PyProof.AutoSeq1
import KE.KListMore
import PyProof.AttrMissHeap
import KE.KDictOf
import KE.KSortTup
import PyProof.Rows.SortWalk
import PyProof.SumWalkG
import PyProof.DictWalks
import KE.KDictSum
import PyProof.SetKind
import PyProof.SetRoads
import PyProof.Rows.SetFrom
import PyProof.TupleKey
import PySem.Challenge.RW_keepwhole_k42_rows_that_grow_apart
namespace L2
end L2
local macro_rules | `(command| $m:declModifiers def $i:declId $s:optDeclSig $v:declVal) => if m.raw.getArgs.all (·.getNumArgs == 0) then `(command| noncomputable def $i:declId $s:optDeclSig $v:declVal) else Lean.Macro.throwUnsupported
local macro_rules | `(command| $m:declModifiers abbrev $i:declId $s:optDeclSig $v:declVal) => if m.raw.getArgs.all (·.getNumArgs == 0) then `(command| noncomputable abbrev $i:declId $s:optDeclSig $v:declVal) else Lean.Macro.throwUnsupported
local macro_rules | `(tactic| nofun) => `(tactic| decide +kernel)
set_option Elab.async false
set_option linter.all false
set_option maxRecDepth 100000
section
open PySem PySem.Spec PyProof.Rows
open PySem PySem.Spec PyProof.Rows
open PySem PySem.Spec PyProof.Rows
open PySem PySem.Spec PyProof.Rows
open PySem PySem.Spec PyProof.Rows
open PySem PySem.Spec PyProof.Rows
open PySem PySem.Spec PyProof.Rows
open PySem PySem.Spec PyProof.Rows
open PySem PySem.Spec PyProof.Rows
open PySem PySem.Spec PyProof.Rows
open PySem PyProof.Rows
open PySem.SeqAt
open PySem.AutoSeq1 (wpAny_loadPart')
open PySem.MeetsSeq PySem.MeetsSeq2 PySem.MeetsSeq3
open PySem PySem.Spec PyProof.Rows
open PySem PySem.Spec PyProof.Rows
open PySem PySem.Spec PyProof.Rows
open PySem PySem.W PySem.Calls PyProof.Rows
open PySem PySem.Spec PyProof.Rows
open PySem PySem.Spec PyProof.Rows
namespace L2
open PySem PySem.Spec PyProof.Rows
def defArgs (s:Stmt):Arguments:=match s with
 | .FunctionDef _ a _ _ _ _ _ _ _ _=>a
 | _=>{ posonlyargs:=[],args:=[],vararg:=none,kwonlyargs:=[],kw_defaults:=[],kwarg:=none,defaults:=[] }
def defBody (s:Stmt):List Stmt:=match s with
 | .FunctionDef _ _ b _ _ _ _ _ _ _=>b
 | _=>[]
def defScope (s:Stmt):Scope:=match s with
 | .FunctionDef _ _ _ _ _ _ sc _ _ _=>sc
 | _=>{ kind:=.function,names:=[],isGenerator:=false,isCoroutine:=false }
end L2
end
set_option maxHeartbeats 4000000
section
namespace Kq
open PySem PySem.Spec PyProof.Rows L2
def bltNames:List String:=["len","abs","int","sum","all","any","min","max","tuple","list","isinstance","range","zip","bool","str","enumerate","reversed","sorted","dict","set"]
end Kq
end
section
namespace Kq
open PySem PySem.Spec PySem.Calls PyProof.Rows L2 PySem.W
def freeIn (q:Program) (loose:List Str) (x:Str):Bool:=!startupNames.contains x && !loose.contains x && !((recsOf q).map (·.name)).contains x && !((litsOf q).map (·.1)).contains x && !((clssOf q loose).map (·.name)).contains x
def whole (h:Heap):Frag:=(List.range h.objs.size).filterMap fun a=>(h.get? a).map fun o=>(a,o)
structure CSp where
 c:Str
 a:Addr
 fl:List Str
 ms:List (Str×Addr)
 x:Frag→(Str→Option Value)→Bool
def xT:Frag→(Str→Option Value)→Bool:=fun _ _=>true
def isR (r:Option (Option Value)) (f:Addr):Bool:=match r with
 | some (some (.ref g))=>g == f
 | _=>false
def isNo (r:Option (Option Value)):Bool:=match r with
 | some none=>true
 | _=>false
def isBt (r:Option (Option Value)) (x:String):Bool:=match r with
 | some (some (.builtin y))=>y == x
 | _=>false
def mgR (r:Option Value) (f:Addr):Bool:=match r with
 | some (.ref g)=>g == f
 | _=>false
def fnB (K:Frag) (f:Addr):Bool:=match K.lookup f with
 | some ⟨_,_,.func fd,_⟩=>codeIn K fd.code fd.qualname
 | _=>false
def dB (K:Frag) (mg:Str→Option Value) (x:Str):Bool:=match mg x with
 | some (.ref a)=>match K.lookup a with
  | some ⟨_,_,.func fd,_⟩=>match fd.code with
   | .ref c=>(K.lookup c).isSome
   | _=>false
  | _=>false
 | _=>false
def cB (K:Frag) (mg:Str→Option Value) (c:CSp):Bool:=mgR (mg c.c) c.a && (plainGet K c.a Str.empty && (hasDictIn K c.a && (plainOver K c.a && (isBt (findIn K (.ref c.a) "__setattr__") "object.__setattr__" && (c.fl.all (fun f=>isNo (findIn K (.ref c.a) f)) && (c.ms.all (fun m=>isR (findIn K (.ref c.a) m.1) m.2 && (isFn K (.ref m.2) && (keepIn K (.ref m.2) && fnB K m.2))) && (makesIn K c.a && (keepIn K (.ref c.a) && c.x K mg))))))))
def viewF (fd:FuncData):=(fd.name,fd.qualname,fd.params,fd.body,fd.scope,fd.globals,fd.closure,fd.defaults,fd.builtins)
structure Vw where
 f:Addr
 m:Str
 q:Str
 st:Stmt
def Vw.due (p:Vw):=viewF (fnOf p.m p.q (defArgs p.st) (defBody p.st) (defScope p.st) .none .none .none .none none .none .none)
def viewO (o:Obj):=match o.data with
 | .func fd=>some (viewF fd)
 | _=>none
def YfC (vw:List Vw) (s:Shared):=vw.map fun p=>(s.heap.get? p.f).bind viewO
def YaC (vw:List Vw):=vw.map fun p=>some p.due
def allB (cs:List CSp) (xs:List Str) (K:Frag) (mg:Str→Option Value):Bool:=xs.all (dB K mg) && cs.all (cB K mg)
def XtC (q:Program) (cs:List CSp) (s:Shared):Bool:=xlAt q [] s && allB cs ((recsOf q).map (·.name)) (whole s.heap) (s.heap.nsMap mainGlobals)
end Kq
end
section
namespace Kq
open PySem PySem.Spec PyProof.Rows L2
def isDC:Stmt→Bool
 | .FunctionDef ..=>true
 | .ClassDef ..=>true
 | _=>false
def viewC (p:Program):Program:={ p with main:={ p.main with body:=p.main.body.filter isDC } }
def clsBd:Stmt→List Stmt
 | .ClassDef _ _ _ b ..=>b
 | _=>[]
end Kq
end
section
namespace Kq
open PySem PySem.Spec PyProof.Rows L2 PySem.W
def top (i:Nat):Stmt:=PySem.Challenge.pw_keepwhole_k42_rows_that_grow_apart.main.body.getD i (.Pass ⟨0,0,0,0⟩)
def mth (i j:Nat):Stmt:=(clsBd (top i)).getD j (.Pass ⟨0,0,0,0⟩)
def view:Program:=viewC PySem.Challenge.pw_keepwhole_k42_rows_that_grow_apart
def css:List CSp:=[⟨"Growing",77,["wholes","steps","kept","since"],[("__init__",53),("grown",60),("row_now",67),("kept_now",74)],xT⟩,⟨"Newest",119,["most","laying","sizes","deepest"],[("__init__",95),("grown",102),("laying_now",109),("room_now",116)],xT⟩]
def vws:List Vw:=[⟨53,"__init__","Growing.__init__",mth 4 0⟩,⟨60,"grown","Growing.grown",mth 4 1⟩,⟨67,"row_now","Growing.row_now",mth 4 2⟩,⟨74,"kept_now","Growing.kept_now",mth 4 3⟩,⟨95,"__init__","Newest.__init__",mth 5 0⟩,⟨102,"grown","Newest.grown",mth 5 1⟩,⟨109,"laying_now","Newest.laying_now",mth 5 2⟩,⟨116,"room_now","Newest.room_now",mth 5 3⟩]
end Kq
end
set_option maxHeartbeats 0
section
open PySem PySem.W PyProof.Rows
theorem Kq.said : PySem.Challenge.rw_keepwhole_k42_rows_that_grow_apart.wellSaid = true := by nofun
theorem Kq.left : LeftO PySem.Challenge.rw_keepwhole_k42_rows_that_grow_apart.prog Kq.view [] (fun s => Kq.XtC Kq.view Kq.css s && recOk (RowW.records PySem.Challenge.rw_keepwhole_k42_rows_that_grow_apart.row.toRowW) s) (Kq.YfC Kq.vws) (fun _ => Kq.YaC Kq.vws) 3000 := by
  intro w
  kernel_rfl!
theorem Kq.freeAll : (Kq.bltNames.all fun b => Kq.freeIn Kq.view (looseW Kq.view []) (Str.ofString b)) = true := by nofun
end
section
namespace L2
open PySem PySem.Spec PyProof.Rows
abbrev Key:=Sum Int (Option Str)
def keyIs:Key→Value→Bool
 | .inl k,v=>Value.isInt k v
 | .inr (some x),v=>Value.isStrOf x v
 | .inr none,v=>match v with
  | .none=>true
  | _=>false
def keyH (w:World):Key→Int
 | .inl k=>hashInt k
 | .inr (some x)=>hashStr w x
 | .inr none=>4238894112
theorem hash_none {prog:Program} {w:World} {A:Around} {E:Value→Shared→Prop} {s:Shared} {Q:Int→Shared→Prop} (h:Q 4238894112 { s with toks:=s.toks + 1 }):wpAny (model prog w) A (pyHash .none) Q E s:=by
 have hT:s.TypeIs .none "NoneType":=rfl
 show wpAny _ _ (pyHashByItsType .none) Q E s
 unfold pyHashByItsType
 have hv:[Value.none].any Value.onHeap=false:=rfl
 refine wpAny_bind ?_
 rw [cRoomFor,if_neg (by rw [hv]; exact Bool.false_ne_true)]; refine wpAny_pure ?_
 refine wpAny_bind (wpAny_specialOf hT PySem.F.slot_NoneType_hash.lookup ?_)
 show wpAny _ _ (if (some (Value.builtin "NoneType.__hash__") == some Value.none)=true then _ else _) Q E s
 rw [if_neg (by decide)]
 refine wpAny_bind (wpAny_specialOf hT PySem.F.slot_NoneType_hash.lookup ?_)
 show wpAny _ _ (callSpecialIfBoundUnlessNone? .none "__hash__" _ >>= _) Q E s
 refine wpAny_bind (wpAny_callSpecialIfBoundUnlessNone?_slot hT PySem.F.slot_NoneType_hash
  (wpAny_call_entry PySem.F.slot_NoneType_hash hT PySem.F.entry_NoneType_hash
   (show wpAny _ _ (do ret (← mkInt 4238894112)) _ _ s from wpAny_ret_mkInt ?_) (PySem.F.args_NoneType_hash_1 _)))
 show wpAny _ _ (if (decide (-(2:Int) ^ 63≤4238894112) && decide ((4238894112:Int) < 2 ^ 63))=true then _ else _) Q E _
 rw [if_pos (by decide)]
 exact wpAny_pure h
theorem keyIs_shape:∀ {k:Key} {v:Value},keyIs k v=true→(∃ i t,k=Sum.inl i∧v=Value.int i t) ∨ (∃ x t,k=Sum.inr (some x)∧v=Value.str x t) ∨ (k=Sum.inr none∧v=Value.none)
 | .inl i,v,h=>by
  obtain ⟨t,e⟩:=Value.isInt_shape (k:=i) (v:=v) h
  exact .inl ⟨i,t,rfl,e⟩
 | .inr (some x),v,h=>by
  obtain ⟨t,e⟩:=Value.isStrOf_shape (x:=x) (v:=v) h
  exact .inr (.inl ⟨x,t,rfl,e⟩)
 | .inr none,v,h=>by
  cases v with
  | none=>exact .inr (.inr ⟨rfl,rfl⟩)
  | _=>cases h
theorem key_ll (a b:Int):decide ((Sum.inl a:Key)=Sum.inl b)=(a == b):=by
 by_cases e:a=b
 ·subst e; simp
 ·have h:¬ (Sum.inl a:Key)=Sum.inl b:=fun q=>e (Sum.inl.inj q)
  rw [decide_eq_false h]
  exact (beq_eq_false_iff_ne.mpr e).symm
theorem key_rr (a b:Str):decide ((Sum.inr (some a):Key)=Sum.inr (some b))=decide (a=b):=by
 by_cases e:a=b
 ·subst e; simp
 ·have h:¬ (Sum.inr (some a):Key)=Sum.inr (some b):=fun q=>e (Option.some.inj (Sum.inr.inj q))
  rw [decide_eq_false h,decide_eq_false e]
def mixKind (prog:Program) (w:World):PySem.KeyKind prog w Key where
 is:=keyIs
 hash:=keyH w
 inj:=fun v a b ha hb=>by
  rcases keyIs_shape ha with ⟨i,t,rfl,rfl⟩ | ⟨x,t,rfl,rfl⟩ | ⟨rfl,rfl⟩ <;> rcases keyIs_shape hb with ⟨j,u,rfl,e⟩ | ⟨y,u,rfl,e⟩ | ⟨rfl,e⟩ <;> first | rfl | (injection e with e1 _; rw [e1]) | cases e
 byValue:=fun k v h=>by
  rcases keyIs_shape h with ⟨i,t,rfl,rfl⟩ | ⟨x,t,rfl,rfl⟩ | ⟨rfl,rfl⟩ <;> rfl
 pyHash:=fun hv h=>by
  rcases keyIs_shape hv with ⟨i,t,rfl,rfl⟩ | ⟨x,t,rfl,rfl⟩ | ⟨rfl,rfl⟩
  ·exact wpAny_pyHash_int h
  ·exact wpAny_pyHash_str h
  ·exact hash_none h
 eqBool:=fun hu hv h=>by
  rcases keyIs_shape hu with ⟨i,t,rfl,rfl⟩ | ⟨x,t,rfl,rfl⟩ | ⟨rfl,rfl⟩
  ·rcases keyIs_shape hv with ⟨j,u,rfl,rfl⟩ | ⟨y,u,rfl,rfl⟩ | ⟨rfl,rfl⟩
   ·rw [key_ll] at h; exact wpAny_eqBool_int h
   ·rw [decide_eq_false (show ¬ (Sum.inl i:Key)=Sum.inr (some y) from fun q=>nomatch q)] at h; exact SeqAt.EqAt.int_str i t y u _ _ _ _ h
   ·rw [decide_eq_false (show ¬ (Sum.inl i:Key)=Sum.inr none from fun q=>nomatch q)] at h; exact SeqAt.EqAt.int_none i t _ _ _ _ h
  ·rcases keyIs_shape hv with ⟨j,u,rfl,rfl⟩ | ⟨y,u,rfl,rfl⟩ | ⟨rfl,rfl⟩
   ·rw [decide_eq_false (show ¬ (Sum.inr (some x):Key)=Sum.inl j from fun q=>nomatch q)] at h; exact SeqAt.EqAt.str_int x t j u _ _ _ _ h
   ·rw [key_rr] at h; exact wpAny_eqBool_str h
   ·rw [decide_eq_false (show ¬ (Sum.inr (some x):Key)=Sum.inr none from fun q=>nomatch q)] at h; exact SeqAt.EqAt.str_none x t _ _ _ _ h
  ·rcases keyIs_shape hv with ⟨j,u,rfl,rfl⟩ | ⟨y,u,rfl,rfl⟩ | ⟨rfl,rfl⟩
   ·rw [decide_eq_false (show ¬ (Sum.inr none:Key)=Sum.inl j from fun q=>nomatch q)] at h; exact SeqAt.EqAt.none_int j u _ _ _ _ h
   ·rw [decide_eq_false (show ¬ (Sum.inr none:Key)=Sum.inr (some y) from fun q=>nomatch q)] at h; exact SeqAt.EqAt.none_str y u _ _ _ _ h
   ·rw [decide_eq_true rfl] at h; exact SeqAt.EqAt.same .none _ _ _ _ h
 «strs»:=fun k x t v h=>by
  rcases keyIs_shape h with ⟨i,u,rfl,e⟩ | ⟨y,u,rfl,e⟩ | ⟨rfl,e⟩
  ·exact nomatch e
  ·injection e with e1 _
   subst e1
   cases v <;> rfl
  ·exact nomatch e
end L2
namespace L2
open PySem PySem.Spec PyProof.Rows
inductive V where
 | non | bl (b:Bool) | int (i:Int) | str (x:Str) | byt (b:Array UInt8) | flt (b:UInt64) | ref (a:Addr) | ty (n:String)
 deriving DecidableEq
def RelV:V→Value→Prop
 | .non,u=>u=Value.none
 | .bl b,u=>u=Value.bool b
 | .int i,u=>∃ t,u=Value.int i t
 | .str x,u=>∃ t,u=Value.str x t
 | .byt b,u=>∃ t,u=Value.bytes b t
 | .flt b,u=>∃ t,u=Value.float b t
 | .ref a,u=>u=Value.ref a
 | .ty n,u=>u=Value.type n
abbrev Vals:List V→List Value→Prop:=Paired RelV
theorem Vals.length {xs:List V} {us:List Value} (r:Vals xs us):xs.length=us.length:=Paired.length r
theorem Vals.get:∀ {xs:List V} {us:List Value} {i:Nat} {x:V},Vals xs us→xs[i]?=some x→∃ u,us[i]?=some u∧RelV x u
 | _,_,_,_,.nil,e=>by simp at e
 | _,_,0,_,.cons r _,e=>by simp at e; subst e; exact ⟨_,rfl,r⟩
 | _,_,i + 1,x,.cons _ t,e=>by
  obtain ⟨u,h1,h2⟩:=Vals.get (i:=i) (x:=x) t (by simpa using e)
  exact ⟨u,by simpa using h1,h2⟩
theorem Vals.set {x:V} {u:Value} (r:RelV x u):∀ {xs:List V} {us:List Value} (i:Nat),Vals xs us→Vals (xs.set i x) (us.set i u)
 | _,_,_,.nil=>.nil
 | _,_,0,.cons _ t=>.cons r t
 | _,_,i + 1,.cons q t=>.cons q (Vals.set r i t)
theorem Vals.append:∀ {xs ys:List V} {us ws:List Value},Vals xs us→Vals ys ws→Vals (xs++ys) (us++ws):=fun h s=>by
 induction h with
 | nil=>exact s
 | cons r _ ih=>exact .cons r ih
theorem Vals.unc {x:V} {xs:List V} {us:List Value} (h:Vals (x :: xs) us):∃ u r,us=u :: r∧RelV x u∧Vals xs r:=by
 cases h with | cons r t=>exact ⟨_,_,rfl,r,t⟩
theorem Vals.unn {us:List Value} (h:Vals [] us):us=[]:=by cases h; rfl
theorem Vals.take:∀ {xs:List V} {us:List Value} (n:Nat),Vals xs us→Vals (xs.take n) (us.take n):=fun n h=>by
 induction h generalizing n with
 | nil=>cases n <;> exact .nil
 | cons r _ ih=>cases n with | zero=>exact .nil | succ n=>exact .cons r (ih n)
theorem Vals.drop:∀ {xs:List V} {us:List Value} (n:Nat),Vals xs us→Vals (xs.drop n) (us.drop n):=fun n h=>by
 induction h generalizing n with
 | nil=>cases n <;> exact .nil
 | cons r t ih=>cases n with | zero=>exact .cons r t | succ n=>exact ih n
def RelO:Option V→Option Value→Prop
 | some v,some u=>RelV v u
 | none,none=>True
 | _,_=>False
def KV {κ:Type}:List (κ×V)→List (κ×Value)→Prop:=Paired fun (p:κ×V) (q:κ×Value)=>p.1=q.1∧RelV p.2 q.2
def kV:Key→V
 | .inl i=>.int i
 | .inr (some x)=>.str x
 | .inr none=>.non
inductive HO where
 | lst (xs:List V)
 | tup (xs:List V)
 | dK (kvs:List (Key×V)) | dT (kvs:List (List Key×V))
 | set (S:Int→Bool) (n:Nat)
 | ins (C dx:Addr) (fs:List (Str×V))
 | big (C dx:Addr) (fs:List (Str×V)) (gs:List (Addr×List V))
 | own (x:Addr)
 | xd (fs:List (Str×V))
 | met (f x:Addr)
 | rng (lo hi:Int)
 | frz (o:Obj) (u:HO)
 | tbl (ps:Array Value)
 | ext (φ:Heap→Prop)
abbrev Hp:=Addr→Option HO
def upd (H:Hp) (a:Addr) (o:HO):Hp:=fun b=>if b=a then some o else H b
theorem upd_same {H:Hp} {a:Addr} {o:HO}:upd H a o a=some o:=by unfold upd; rw [if_pos rfl]
theorem upd_ne {H:Hp} {a b:Addr} {o:HO} (h:b≠a):upd H a o b=H b:=by unfold upd; rw [if_neg h]
theorem ne_of_none {H:Hp} {a b:Addr} {o:HO} (h:H a=some o) (h':H b=none):a≠b:=by
 intro e; subst e; rw [h] at h'; cases h'
section
variable (P:Program)(w:World)
def ObjOk (H:Hp) (h:Heap) (a:Addr):HO→Prop
 | .lst xs=>xs.length≤sizeLine∧∃ (its:List Value) (n:Nat),Vals xs its∧h.get? a=some { cls:=.type "list",data:=.seq its.toArray n }
 | .tup xs=>xs.length≤sizeLine∧∃ its:List Value,Vals xs its∧IsTup h a its.toArray
 | .dK kvs=>kvs.length≤sizeLine∧(a == sysModules)=false∧∃ vs,KV kvs vs∧h.DictOf (mixKind P w) a vs
 | .dT kvs=>kvs.length≤sizeLine∧(a == sysModules)=false∧∃ xs:List (List Key×Addr×Value),
   Paired (fun (p:List Key×V) (q:List Key×Addr×Value)=>p.1=q.1∧H q.2.1=some (.tup (p.1.map kV))∧RelV p.2 q.2.2) kvs xs ∧
   ∃ o es ep,h.get? a=some o∧o.ExactDict∧o.data=.dict es ep∧es.toList=xs.map (entryOfKey (tupleKind (mixKind P w)))∧(xs.map (·.1)).Nodup
 | .set S n=>h.SetOf (intKind P w) a S n
 | .ins C dx fs=>H dx=some (.own a)∧fs.length≤1000∧dx≠a∧h.get? a=some (PySem.W.instObj C dx) ∧
   ∃ mA,h.Ns1 dx mA∧(∀ f,RelO (fs.lookup f) (mA f))∧PySem.Within mA (fs.map (·.1))
 | .big C dx fs gs=>(H dx=some (.own a)∧a=dx + 1)∧(∀ g∈gs,H g.1=some (.own a))∧(a :: dx :: gs.map (·.1)).Nodup∧fs.length≤1000∧h.get? a=some (PySem.W.instObj C dx) ∧
   (∃ mA,h.Ns1 dx mA∧(∀ f,RelO (fs.lookup f) (mA f))∧PySem.Within mA (fs.map (·.1))) ∧
   ∀ g∈gs,g.2.length≤sizeLine∧∃ (its:List Value) (n:Nat),Vals g.2 its∧h.get? g.1=some { cls:=.type "list",data:=.seq its.toArray n }
 | .own _=>∃ o,h.get? a=some o
 | .xd fs=>∃ mA,h.Ns1 a mA∧∀ f,RelO (fs.lookup f) (mA f)
 | .rng lo hi=>∃ t u v,h.get? a=some { cls:=.type "range",data:=.fields #[.int lo t,.int hi u,.int 1 v] }
 | .frz o u=>h.get? a=some o∧ObjOk H h a u
 | .tbl ps=>h.get? a=some { cls:=.none,data:=.fields ps }
 | .met f x=>h.get? a=some (PySem.W.methodObj (.ref f) (.ref x))
 | .ext φ=>φ h∧(∃ o,h.get? a=some o)∧∀ h1 h2:Heap,φ h1→(∀ o,h1.get? a=some o→h2.get? a=some o)→φ h2
def HOk (H:Hp) (h:Heap):Prop:=∀ a o,H a=some o→ObjOk P w H h a o
end
section
variable {P:Program}{w:World}{H H':Hp}{h h':Heap}{a:Addr}{o:HO}
theorem ObjOk.lt (x:ObjOk P w H h a o):a < h.objs.size:=by
 cases o with
 | lst xs=>obtain ⟨_,_,_,_,e⟩:=x; exact Heap.lt_size e
 | tup xs=>obtain ⟨_,_,_,p⟩:=x; exact p.lt
 | dK kvs=>obtain ⟨_,_,_,_,o,_,_,e,_⟩:=x; exact Heap.lt_size e
 | dT kvs=>obtain ⟨_,_,_,_,o,_,_,e,_⟩:=x; exact Heap.lt_size e
 | set S n=>obtain ⟨o,_,_,_,e,_⟩:=x; exact Heap.lt_size e
 | ins C dx fs=>obtain ⟨_,_,_,e,_⟩:=x; exact Heap.lt_size e
 | big C dx fs gs=>obtain ⟨_,_,_,_,e,_⟩:=x; exact Heap.lt_size e
 | own y=>obtain ⟨_,e⟩:=x; exact Heap.lt_size e
 | xd fs=>obtain ⟨_,⟨_,_,_,e,_⟩,_⟩:=x; exact Heap.lt_size e
 | rng lo hi=>obtain ⟨_,_,_,e⟩:=x; exact Heap.lt_size e
 | frz ob u=>obtain ⟨e,_⟩:=x; exact Heap.lt_size e
 | tbl ps=>exact Heap.lt_size (show h.get? a=some _ from x)
 | met f y=>exact Heap.lt_size (show h.get? a=some _ from x)
 | ext φ=>obtain ⟨_,⟨_,e⟩,_⟩:=x; exact Heap.lt_size e
theorem Paired.mapP {α β:Type} {F G:α→β→Prop}:∀ {l₁:List α} {l₂:List β},Paired F l₁ l₂→(∀ a b,F a b→G a b)→Paired G l₁ l₂:=fun h f=>by
 induction h with
 | nil=>exact .nil
 | cons r _ ih=>exact .cons (f _ _ r) ih
theorem ObjOk.stay (x:ObjOk P w H h a o) (k:∀ b u,(b=a ∨ H b=some (.own a))→h.get? b=some u→h'.get? b=some u)
  (ho:∀ b,H b=some (.own a)→H' b=some (.own a)) (ht:∀ b xs,H b=some (.tup xs)→H' b=some (.tup xs)):ObjOk P w H' h' a o:=by
 induction o with
 | lst xs=>obtain ⟨z,its,n,r,e⟩:=x; exact ⟨z,its,n,r,k _ _ (.inl rfl) e⟩
 | tup xs=>obtain ⟨z,its,r,ob,e,c⟩:=x; exact ⟨z,its,r,ob,k _ _ (.inl rfl) e,c⟩
 | dK kvs=>obtain ⟨z,y,vs,r,ob,es,ep,e,c⟩:=x; exact ⟨z,y,vs,r,ob,es,ep,k _ _ (.inl rfl) e,c⟩
 | dT kvs =>
  obtain ⟨z,y,xs,r,ob,es,ep,e,c⟩:=x
  exact ⟨z,y,xs,Paired.mapP r fun p q z=>⟨z.1,ht _ _ z.2.1,z.2.2⟩,ob,es,ep,k _ _ (.inl rfl) e,c⟩
 | set S n=>obtain ⟨ob,es,ep,t,e,c⟩:=x; exact ⟨ob,es,ep,t,k _ _ (.inl rfl) e,c⟩
 | ins C dx fs =>
  obtain ⟨d,z,ne,e,mA,⟨od,es,ep,e2,c⟩,r⟩:=x
  exact ⟨ho _ d,z,ne,k _ _ (.inl rfl) e,mA,⟨od,es,ep,k _ _ (.inr d) e2,c⟩,r⟩
 | big C dx fs gs =>
  obtain ⟨d,gg,nd,z,e,⟨mA,⟨od,es,ep,e2,c⟩,r⟩,ls⟩:=x
  exact ⟨⟨ho _ d.1,d.2⟩,fun g m=>ho _ (gg g m),nd,z,k _ _ (.inl rfl) e,⟨mA,⟨od,es,ep,k _ _ (.inr d.1) e2,c⟩,r⟩,fun g m=>let ⟨l1,its,n,l2,l3⟩:=ls g m; ⟨l1,its,n,l2,k _ _ (.inr (gg g m)) l3⟩⟩
 | own y=>obtain ⟨ob,e⟩:=x; exact ⟨ob,k _ _ (.inl rfl) e⟩
 | xd fs=>obtain ⟨mA,⟨od,es,ep,e,c⟩,r⟩:=x; exact ⟨mA,⟨od,es,ep,k _ _ (.inl rfl) e,c⟩,r⟩
 | rng lo hi=>obtain ⟨t,u,v,e⟩:=x; exact ⟨t,u,v,k _ _ (.inl rfl) e⟩
 | frz ob u ih=>obtain ⟨e,q⟩:=x; exact ⟨k _ _ (.inl rfl) e,ih q⟩
 | tbl ps =>
  have e:h.get? a=some { cls:=.none,data:=.fields ps }:=x
  show h'.get? a=some { cls:=.none,data:=.fields ps }
  exact k a _ (.inl rfl) e
 | met f y =>
  have e:h.get? a=some (PySem.W.methodObj (.ref f) (.ref y)):=x
  show h'.get? a=some (PySem.W.methodObj (.ref f) (.ref y))
  exact k a _ (.inl rfl) e
 | ext φ=>obtain ⟨p,⟨o,e⟩,st⟩:=x; exact ⟨st _ _ p fun o q=>k _ _ (.inl rfl) q,⟨o,k _ _ (.inl rfl) e⟩,st⟩
theorem HOk.lt (x:HOk P w H h) (e:H a=some o):a < h.objs.size:=(x a o e).lt
theorem HOk.fresh (x:HOk P w H h) (e:h.objs.size≤a):H a=none:=by
 cases q:H a with
 | none=>rfl
 | some u=>exact absurd (Nat.lt_of_lt_of_le (x.lt q) e) (Nat.lt_irrefl _)
theorem HOk.kept (x:HOk P w H h) (k:∀ b u,h.get? b=some u→h'.get? b=some u):HOk P w H h':=fun a o e =>
 (x a o e).stay (fun b u _ q=>k b u q) (fun _ q=>q) fun _ _ q=>q
theorem HOk.laid (x:HOk P w H h) (k:∀ b u,h.get? b=some u→h'.get? b=some u) (hp:h.objs.size≤a) (new:ObjOk P w (upd H a o) h' a o):HOk P w (upd H a o) h':=fun b u e=>by
 have hn:=x.fresh hp
 by_cases hb:b=a
 ·subst hb; rw [upd_same] at e; cases e; exact new
 ·rw [upd_ne hb] at e
  exact (x b u e).stay (fun c v _ q=>k c v q) (fun c q=>by rw [upd_ne (ne_of_none q hn)]; exact q) fun c xs q=>by rw [upd_ne (ne_of_none q hn)]; exact q
end
def Rd (H:Hp) (a:Addr) (u:HO):Prop:=H a=some u ∨ ∃ o,H a=some (.frz o u)
theorem Rd.ok {P:Program} {w:World} {H:Hp} {h:Heap} {a:Addr} {u:HO} (r:Rd H a u) (x:HOk P w H h):ObjOk P w H h a u:=by
 rcases r with r | ⟨o,r⟩
 ·exact x a u r
 ·obtain ⟨_,q⟩:=x a _ r
  exact q
def Mut:Option HO→Prop
 | some (.lst _)=>True
 | some (.dK _)=>True
 | some (.dT _)=>True
 | some (.set _ _)=>True
 | some (.ins _ _ _)=>True
 | some (.ext _)=>True
 | _=>False
section
variable {P:Program}{w:World}{H:Hp}{h h':Heap}{x e:Addr}{o':HO}
theorem HOk.write (ok:HOk P w H h) (mu:Mut (H x)) (he:e=x ∨ H e=some (.own x)) (k:∀ b u,b≠e→h.get? b=some u→h'.get? b=some u) (heo:∃ u,h'.get? e=some u)
  (new:ObjOk P w (upd H x o') h' x o'):HOk P w (upd H x o') h':=fun b u q=>by
 have nown:∀ c y,H c=some (.own y)→c≠x:=fun c y r z=>by subst z; rw [r] at mu; exact mu
 have ntup:∀ c xs,H c=some (.tup xs)→c≠x:=fun c xs r z=>by subst z; rw [r] at mu; exact mu
 by_cases hb:b=x
 ·subst hb; rw [upd_same] at q; cases q; exact new
 ·rw [upd_ne hb] at q
  by_cases hbe:b=e
  ·have q':H b=some (.own x):=by
    rcases he with z | z
    ·exact absurd (hbe.trans z) hb
    ·rw [hbe]; exact z
   rw [q] at q'; cases q'
   obtain ⟨v,hv⟩:=heo
   exact ⟨v,by rw [hbe]; exact hv⟩
  ·refine (ok b u q).stay (fun c v hc r=>k c v ?_ r) (fun c r=>by rw [upd_ne (nown c b r)]; exact r) fun c xs r=>by rw [upd_ne (ntup c xs r)]; exact r
   rcases hc with rfl | hc
   ·exact hbe
   ·rintro rfl
    rcases he with z | z
    ·exact nown c b hc z
    ·rw [hc] at z; cases z; exact hb rfl
end
structure Un (fs ex:List Addr) (H H':Hp) (h h':Heap):Prop where
 keep:∀ b o,h.get? b=some o→H b=none→b ∉ fs→b ∉ ex→h'.get? b=some o
 slot:∀ b o,h.get? b=some o→H b=none→b∈fs→b ∉ ex→∃ sl,h'.get? b=some { o with slots:=sl }
 free:∀ b o,h.get? b=some o→H b=none→b ∉ ex→H' b=none
 there:∀ b o,h.get? b=some o→b ∉ ex→∃ o',h'.get? b=some o'
 tups:∀ b xs,H b=some (.tup xs)→H' b=some (.tup xs)
 frzs:∀ b o u,H b=some (.frz o u)→H' b=some (.frz o u)
 tbls:∀ b ps,H b=some (.tbl ps)→∃ more,H' b=some (.tbl (ps++more))
section
variable {fs ex:List Addr}{H H1:Hp}{h h1 h':Heap}{a x e:Addr}{o:HO}
theorem Un.any (u:Un fs ex H H1 h h1) {b:Addr} {ob:Obj} (q:h.get? b=some ob) (n:H b=none) (hx:b ∉ ex):∃ sl,h1.get? b=some { ob with slots:=sl }:=by
 by_cases hb:b∈fs
 ·exact u.slot b ob q n hb hx
 ·exact ⟨ob.slots,u.keep b ob q n hb hx⟩
theorem Un.kept (k:∀ b u,h.get? b=some u→h'.get? b=some u):Un fs ex H H h h' :=
 ⟨fun b ob q _ _ _=>k b ob q,fun b ob q _ _ _=>⟨ob.slots,k b ob q⟩,fun _ _ _ n _=>n,fun b ob q _=>⟨ob,k b ob q⟩,fun _ _ q=>q,fun _ _ _ q=>q,fun _ ps q=>⟨#[],by rw [q]; simp⟩⟩
theorem Un.refl:Un fs ex H H h h:=Un.kept fun _ _ q=>q
theorem Un.laid (k:∀ b u,h.get? b=some u→h'.get? b=some u) (hp:h.objs.size≤a) (hn:H a=none):Un fs ex H (upd H a o) h h' where
 keep:=fun b u q _ _ _=>k b u q
 slot:=fun b u q _ _ _=>⟨u.slots,k b u q⟩
 free:=fun b u q n _=>by rw [upd_ne (Nat.ne_of_lt (Nat.lt_of_lt_of_le (Heap.lt_size q) hp))]; exact n
 there:=fun b u q _=>⟨u,k b u q⟩
 tups:=fun b xs q=>by rw [upd_ne (ne_of_none q hn)]; exact q
 frzs:=fun b u xs q=>by rw [upd_ne (ne_of_none q hn)]; exact q
 tbls:=fun b ps q=>⟨#[],by rw [upd_ne (ne_of_none q hn),q]; simp⟩
theorem Un.write (mu:Mut (H x)) (he:e=x ∨ H e=some (.own x)) (k:∀ b u,b≠e→h.get? b=some u→h'.get? b=some u) (heo:∃ u,h'.get? e=some u):Un fs ex H (upd H x o) h h':=by
 have hx:∀ b,H b=none→b≠x:=fun b n z=>by subst z; rw [n] at mu; exact mu
 have hb:∀ b,H b=none→b≠e:=fun b n z=>by
  subst z
  rcases he with r | r
  ·exact hx b n r
  ·rw [n] at r; cases r
 have hm:∀ b u,H b=some u→¬ Mut (some u)→b≠x:=fun b u q nm z=>by subst z; rw [q] at mu; exact nm mu
 refine ⟨fun b u q n _ _=>k b u (hb b n) q,fun b u q n _ _=>⟨u.slots,k b u (hb b n) q⟩,fun b u q n _=>by rw [upd_ne (hx b n)]; exact n,fun b u q _=>?_,
  fun b xs q=>by rw [upd_ne (hm b _ q fun z=>z)]; exact q,fun b u xs q=>by rw [upd_ne (hm b _ q fun z=>z)]; exact q,fun b ps q=>⟨#[],by rw [upd_ne (hm b _ q fun z=>z),q]; simp⟩⟩
 by_cases hbe:b=e
 ·subst hbe; exact heo
 ·exact ⟨u,k b u hbe q⟩
end
def trk (h:Heap) (H:Hp):List Addr:=(List.range h.objs.size).filter fun a=>(H a).isSome
def hidT (h:Heap) (H:Hp):Heap:=PySem.W.hideAll h (trk h H)
theorem hidT_size (h:Heap) (H:Hp):(hidT h H).objs.size=h.objs.size:=PySem.W.hideAll_size _ _
theorem hidT_get {h:Heap} {H:Hp} {b:Addr} {o:Obj} (e:h.get? b=some o) (n:H b=none):(hidT h H).get? b=some o :=
 PySem.W.hideAll_get _ e fun hm=>by
  have q:(H b).isSome=true:=(List.mem_filter.mp hm).2
  rw [n] at q; simp at q
theorem of_hidT {h:Heap} {H:Hp} {b:Addr} {o:Obj} (e:(hidT h H).get? b=some o):h.get? b=some o∧H b=none:=by
 have e':h.get? b=some o:=PySem.W.of_hideAll (trk h H) e
 refine ⟨e',?_⟩
 cases q:H b with
 | none=>rfl
 | some x =>
  have hm:b∈trk h H:=List.mem_filter.mpr ⟨List.mem_range.mpr (Heap.lt_size e'),by simp [q]⟩
  have z:(hidT h H).get? b=none:=PySem.W.hideAll_none (trk h H) hm
  rw [z] at e; cases e
end L2
namespace L2
open PySem PySem.Spec PyProof.Rows
structure Mod (K:PySem.W.Frag) (mg:Str→Option Value) (base:Heap):Prop where
 kin:K.In base
 glob:base.Ns mainGlobals mg
 blt:∃ mb,base.Ns builtinsNs mb∧∀ x:Str,x≠"__name__"→mb x=bootBuiltins x
 nolimit:base.NoLimit
structure Cx where
 prog:Program
 w:World
 K:PySem.W.Frag
 mg:Str→Option Value
 base:Heap
 A:Around
 N:List Str
 s₀:Shared
 H₀:Hp
 env:Env
 outer:List Env
 stack:List Env
 ex:List Addr
 fn:Str→Bool
 calm:Bool
 pn:List (Addr×Obj)
 xe:Value→Shared→Prop
def frs (l:List Env):List Addr:=l.filterMap (·.frame)
abbrev Cx.fs (X:Cx):List Addr:=frs X.outer
def Vis (sc:Scope) (x:Str):Prop:=sc.names.lookup x=some .local ∨ sc.names.lookup x=some .cell ∨ sc.names.lookup x=some .free
def Loc (sc:Scope) (x:Str):Prop:=sc.names.lookup x=some .local ∨ sc.names.lookup x=some .cell
def Look (env:Env) (h:Heap) (m:Str→Option Value) (x:Str) (u:Value):Prop :=
 (env.kindOf x=some .local∧m x=some u) ∨ ((env.kindOf x=some .cell ∨ env.kindOf x=some .free)∧∃ c,env.cells.lookup x=some c∧h.IsCell c (some u))
structure Cx.Ok (X:Cx):Prop where
 mod:Mod X.K X.mg X.base
 kind:X.env.scope.kind=.function
 glob:X.env.globals=mainGlobals
 blt:X.env.builtins=builtinsNs
 above:X.s₀.heap.objs.size≤X.env.locals
 inj:∀ x y c,X.env.cells.lookup x=some c→X.env.cells.lookup y=some c→x=y
 has:∀ x,(X.env.kindOf x=some .cell ∨ X.env.kindOf x=some .free)→∃ c,X.env.cells.lookup x=some c
 cab:∀ x c,X.fn x=true→X.env.cells.lookup x=some c→X.s₀.heap.objs.size≤c
 hd:X.calm=true→X.A.handled=none
 frames:X.A.frames=some X.stack
 stk:X.stack=X.outer ∨ (X.stack=X.env :: X.outer∧X.env.frame=some X.env.locals)
 exf:∀ b∈X.ex,b≠X.env.locals∧∀ x c,X.env.cells.lookup x=some c→c≠b
 bs:∀ b o,X.base.get? b=some o→X.s₀.heap.get? b=some o∧X.H₀ b=none
 bsz:X.base.objs.size≤X.s₀.heap.objs.size
 noex:∀ b o,X.base.get? b=some o→b ∉ X.ex
 exfs:∀ b∈X.ex,b ∉ X.fs
 funs:X.s₀.heap.FunFrames X.base X.outer
 frf:∀ b∈X.fs,X.H₀ b=none
structure Inv (X:Cx) (pins:List (Addr×Obj)) (σ:List (Option V)) (H:Hp) (s:Shared):Prop where
 ok:X.Ok
 os:s.os=X.s₀.os
 bare:AllBare s.gens
 base:Un X.fs X.ex X.H₀ H X.s₀.heap s.heap
 loc:∃ m,s.heap.Ns X.env.locals m∧∀ (i:Nat) (x:Str) (v:V),X.N[i]?=some x→σ[i]?=some (some v)→Vis X.env.scope x→∃ u,RelV v u∧Look X.env s.heap m x u
 cell:∀ x c,X.env.cells.lookup x=some c→∃ v,s.heap.IsCell c v
 free:H X.env.locals=none
 freeC:∀ x c,X.env.cells.lookup x=some c→H c=none
 pin:∀ p∈X.pn++pins,s.heap.get? p.1=some p.2∧H p.1=none∧p.1≠X.env.locals∧p.1 ∉ X.fs∧∀ v,p.2.data≠.cell v
 hok:HOk X.prog X.w H s.heap
 len:σ.length=X.N.length
section
variable {X:Cx}{pins:List (Addr×Obj)}{σ:List (Option V)}{H H':Hp}{s:Shared}{h':Heap}
theorem Cx.Ok.nofr (ok:X.Ok) {b:Addr} {o:Obj} (e:X.base.get? b=some o):b ∉ X.fs:=fun hb=>by
 have:=(ok.funs.mem hb).1
 rw [e] at this; cases this
theorem Inv.bs (I:Inv X pins σ H s):∀ b o,X.base.get? b=some o→s.heap.get? b=some o∧H b=none:=fun b o e =>
 ⟨I.base.keep b o (I.ok.bs b o e).1 (I.ok.bs b o e).2 (I.ok.nofr e) (I.ok.noex b o e),I.base.free b o (I.ok.bs b o e).1 (I.ok.bs b o e).2 (I.ok.noex b o e)⟩
theorem Inv.bk (I:Inv X pins σ H s):∀ b o,X.base.get? b=some o→s.heap.get? b=some o:=fun b o e=>(I.bs b o e).1
theorem Inv.mod (I:Inv X pins σ H s):Mod X.K X.mg X.base:=I.ok.mod
theorem Inv.kIn (I:Inv X pins σ H s):X.K.In s.heap:=I.ok.mod.kin.keeps I.bk
theorem Inv.lt (I:Inv X pins σ H s):X.env.locals < s.heap.objs.size:=let ⟨_,hn,_⟩:=I.loc; hn.lt
theorem Inv.sz (I:Inv X pins σ H s):X.s₀.heap.objs.size≤s.heap.objs.size:=Nat.le_trans I.ok.above (Nat.le_of_lt I.lt)
theorem Inv.nofs (I:Inv X pins σ H s) {a:Addr} (h:s.heap.objs.size≤a):a ∉ X.fs:=fun hb=>by
 obtain ⟨_,o,ho,_⟩:=I.ok.funs.mem hb
 exact absurd (Nat.lt_of_lt_of_le (Heap.lt_size ho) (Nat.le_trans I.sz h)) (Nat.lt_irrefl _)
theorem Inv.cne (I:Inv X pins σ H s):∀ x c,X.env.cells.lookup x=some c→c≠X.env.locals:=fun x c e z=>by
 obtain ⟨v,o,ho,hd⟩:=I.cell x c e
 obtain ⟨m,⟨o',es,ep,ho',hd',_⟩,_⟩:=I.loc
 rw [z,ho'] at ho; cases ho; rw [hd'] at hd; cases hd
theorem Inv.funs (I:Inv X pins σ H s):s.heap.FunFrames X.base X.outer:=by
 have all:∀ (l:List Env),(∀ b∈frs l,b∈X.fs)→X.s₀.heap.FunFrames X.base l→s.heap.FunFrames X.base l:=by
  intro l
  induction l with
  | nil=>intro _ _; trivial
  | cons env r ih =>
   intro hs hl
   obtain ⟨hk,⟨L,o,hf,hn,ho,hd⟩,hr⟩:=hl
   have hL:L∈X.fs:=hs L (by unfold frs; rw [List.filterMap_cons,hf]; exact List.mem_cons_self)
   obtain ⟨sl,e⟩:=I.base.slot L o ho (I.ok.frf L hL) hL fun z=>I.ok.exfs L z hL
   exact ⟨hk,⟨L,_,hf,hn,e,hd⟩,ih (fun b hb=>hs b (by unfold frs; rw [List.filterMap_cons,hf]; exact List.mem_cons_of_mem _ hb)) hr⟩
 exact all X.outer (fun _ hb=>hb) I.ok.funs
theorem Inv.stack (I:Inv X pins σ H s):s.heap.FunFrames X.base X.stack:=by
 rcases I.ok.stk with e | ⟨e,hf⟩
 ·rw [e]; exact I.funs
 ·rw [e]
  obtain ⟨m,hn,_⟩:=I.loc
  refine .cons (by rw [I.ok.kind]; decide) hf hn ?_ I.funs
  exact Heap.get?_none_of_le (Nat.le_trans I.ok.bsz I.ok.above)
theorem Inv.stkSub (I:Inv X pins σ H s):∀ b∈frs X.stack,b∈X.env.locals :: X.fs:=fun b hb=>by
 rcases I.ok.stk with e | ⟨e,hf⟩
 ·rw [e] at hb; exact List.mem_cons_of_mem _ hb
 ·rw [e] at hb
  unfold frs at hb
  rw [List.filterMap_cons,hf] at hb
  exact hb
theorem Inv.stkFree (I:Inv X pins σ H s):∀ b∈frs X.stack,H b=none:=fun b hb=>by
 rcases List.mem_cons.mp (I.stkSub b hb) with e | hb
 ·rw [e]; exact I.free
 ·obtain ⟨_,o,ho,_⟩:=I.ok.funs.mem hb
  exact I.base.free b o ho (I.ok.frf b hb) fun z=>I.ok.exfs b z hb
theorem Inv.step {g':Array GenState} {t':Nat} {d':Drawn} {ch:List Addr} (I:Inv X pins σ H s)
  (hch:∀ b∈ch,(b∈X.ex ∨ X.s₀.heap.objs.size≤b)∧b≠X.env.locals∧(∀ x c,X.env.cells.lookup x=some c→c≠b)∧∀ p∈X.pn++pins,p.1≠b)
  (keep:∀ b o,b≠X.env.locals→b ∉ X.fs→b ∉ ch→s.heap.get? b=some o→H b=none→h'.get? b=some o)
  (slot:∀ b o,b≠X.env.locals→b∈X.fs→b ∉ ch→s.heap.get? b=some o→H b=none→∃ sl,h'.get? b=some { o with slots:=sl }) (free:∀ b o,b ∉ ch→s.heap.get? b=some o→H b=none→H' b=none)
  (there:∀ b o,b ∉ ch→s.heap.get? b=some o→∃ o',h'.get? b=some o')
  (tups:∀ b xs,H b=some (.tup xs)→H' b=some (.tup xs)) (frzs:∀ b o u,H b=some (.frz o u)→H' b=some (.frz o u)) (tbls:∀ b ps,H b=some (.tbl ps)→∃ more,H' b=some (.tbl (ps++more)))
  (ns:∀ m,s.heap.Ns X.env.locals m→h'.Ns X.env.locals m) (hok:HOk X.prog X.w H' h') (hg:AllBare g') :
  Inv X pins σ H' { s with heap:=h',gens:=g',drawn:=d',toks:=t' }:=by
 have neL:∀ b o,X.s₀.heap.get? b=some o→b≠X.env.locals:=fun b o e=>Nat.ne_of_lt (Nat.lt_of_lt_of_le (Heap.lt_size e) I.ok.above)
 have neC:∀ b o,X.s₀.heap.get? b=some o→b ∉ X.ex→b ∉ ch:=fun b o e hx hb=>by
  rcases (hch b hb).1 with z | z
  ·exact hx z
  ·exact absurd (Nat.lt_of_lt_of_le (Heap.lt_size e) z) (Nat.lt_irrefl _)
 have cellK:∀ x c,X.env.cells.lookup x=some c→∀ v,s.heap.IsCell c v→h'.IsCell c v:=fun x c e v q1=>by
  obtain ⟨o,ho,hd⟩:=q1
  have nch:c ∉ ch:=fun z=>(hch c z).2.2.1 x c e rfl
  by_cases hc:c∈X.fs
  ·obtain ⟨sl,q⟩:=slot c o (I.cne x c e) hc nch ho (I.freeC x c e)
   exact ⟨_,q,hd⟩
  ·exact ⟨o,keep c o (I.cne x c e) hc nch ho (I.freeC x c e),hd⟩
 refine ⟨I.ok,I.os,hg,⟨fun b o e n hb hx=>?_,fun b o e n hb hx=>?_,fun b o e n hx=>?_,fun b o e hx=>?_,fun b xs e=>tups b xs (I.base.tups b xs e),fun b o xs e=>frzs b o xs (I.base.frzs b o xs e),fun b ps e=>?_⟩,?_,fun x c e=>?_,?_,fun x c e=>?_,fun p hp=>?_,hok,I.len⟩
 ·exact keep b o (neL b o e) hb (neC b o e hx) (I.base.keep b o e n hb hx) (I.base.free b o e n hx)
 ·obtain ⟨sl,e1⟩:=I.base.slot b o e n hb hx
  obtain ⟨sl',e2⟩:=slot b _ (neL b o e) hb (neC b o e hx) e1 (I.base.free b o e n hx)
  exact ⟨sl',e2⟩
 ·obtain ⟨o',e1⟩:=I.base.there b o e hx
  exact free b o' (neC b o e hx) e1 (I.base.free b o e n hx)
 ·obtain ⟨o',e1⟩:=I.base.there b o e hx
  exact there b o' (neC b o e hx) e1
 ·obtain ⟨m1,e1⟩:=I.base.tbls b ps e
  obtain ⟨m2,e2⟩:=tbls b _ e1
  exact ⟨m1++m2,by rw [e2,Array.append_assoc]⟩
 ·obtain ⟨m,hn,hl⟩:=I.loc
  refine ⟨m,ns m hn,fun i x v e1 e2 e3=>?_⟩
  obtain ⟨u,r,l⟩:=hl i x v e1 e2 e3
  refine ⟨u,r,?_⟩
  rcases l with l | ⟨k,c,e,z⟩
  ·exact .inl l
  ·exact .inr ⟨k,c,e,cellK x c e _ z⟩
 ·obtain ⟨v,z⟩:=I.cell x c e
  exact ⟨v,cellK x c e v z⟩
 ·obtain ⟨m,⟨o,_,_,ho,_⟩,_⟩:=I.loc
  exact free _ o (fun z=>(hch _ z).2.1 rfl) ho I.free
 ·obtain ⟨v,o,ho,hd⟩:=I.cell x c e
  exact free c o (fun z=>(hch c z).2.2.1 x c e rfl) ho (I.freeC x c e)
 ·obtain ⟨e,n,ne,nf,d⟩:=I.pin p hp
  have nch:p.1 ∉ ch:=fun z=>(hch p.1 z).2.2.2 p hp rfl
  exact ⟨keep p.1 p.2 ne nf nch e n,free p.1 p.2 nch e n,ne,nf,d⟩
theorem Inv.un {t':Nat} (I:Inv X pins σ H s) (u:Un X.fs [] H H' s.heap h') (hok:HOk X.prog X.w H' h'):Inv X pins σ H' { s with heap:=h',toks:=t' }:=by
 obtain ⟨m,⟨o,es,ep,ho,r⟩,_⟩:=id I.loc
 obtain ⟨sl,hL⟩:=u.any ho I.free (by simp)
 exact I.step (g':=s.gens) (d':=s.drawn) (ch:=[]) (fun _ z=>nomatch z) (fun b o _ hb _ e n=>u.keep b o e n hb (by simp)) (fun b o _ hb _ e n=>u.slot b o e n hb (by simp)) (fun b o _ e n=>u.free b o e n (by simp)) (fun b o _ e=>u.there b o e (by simp)) u.tups u.frzs u.tbls (fun m' hm=>by
  obtain ⟨o',es',ep',ho',r'⟩:=hm
  rw [ho] at ho'; cases ho'
  exact ⟨_,es',ep',hL,r'⟩) hok I.bare
theorem Inv.call {g':Array GenState} {t':Nat} {d':Drawn} {ch:List Addr} (I:Inv X pins σ H s) (u:Un (frs X.stack) ch H H' s.heap h') (hok:HOk X.prog X.w H' h') (hg:AllBare g')
  (hch:∀ b∈ch,(b∈X.ex ∨ X.s₀.heap.objs.size≤b)∧b≠X.env.locals∧(∀ x c,X.env.cells.lookup x=some c→c≠b)∧∀ p∈X.pn++pins,p.1≠b) :
  Inv X pins σ H' { s with heap:=h',gens:=g',drawn:=d',toks:=t' }:=by
 obtain ⟨m,⟨o,es,ep,ho,r⟩,_⟩:=id I.loc
 obtain ⟨sl,hL⟩:=u.any ho I.free fun z=>(hch _ z).2.1 rfl
 exact I.step (ch:=ch) hch (fun b o hL hb hc e n=>u.keep b o e n (fun z=>(List.mem_cons.mp (I.stkSub b z)).elim hL hb) hc) (fun b o _ _ hc e n=>u.any e n hc) (fun b o hc e n=>u.free b o e n hc) (fun b o hc e=>u.there b o e hc) u.tups u.frzs u.tbls (fun m' hm=>by
  obtain ⟨o',es',ep',ho',r'⟩:=hm
  rw [ho] at ho'; cases ho'
  exact ⟨_,es',ep',hL,r'⟩) hok hg
theorem Inv.turned {t':Nat} {it:Addr} (I:Inv X pins σ H s) (k:∀ b o,b≠it→s.heap.get? b=some o→h'.get? b=some o) (hn:H it=none) (hL:it≠X.env.locals)
  (h1:it∈X.ex ∨ X.s₀.heap.objs.size≤it) (h2:∀ x c,X.env.cells.lookup x=some c→c≠it) (h3:∀ p∈X.pn++pins,p.1≠it):Inv X pins σ H { s with heap:=h',toks:=t' }:=by
 have nit:∀ b u,H b=some u→b≠it:=fun b u e z=>by rw [z,hn] at e; cases e
 refine I.step (g':=s.gens) (d':=s.drawn) (ch:=[it]) (fun b hb=>?_) (fun b o _ _ hc e _=>k b o (fun z=>hc (by simp [z])) e) (fun b o _ _ hc e _=>⟨o.slots,k b o (fun z=>hc (by simp [z])) e⟩) (fun _ _ _ _ n=>n)
  (fun b o hc e=>⟨o,k b o (fun z=>hc (by simp [z])) e⟩) (fun _ _ e=>e) (fun _ _ _ e=>e) (fun b ps e=>⟨#[],by rw [e]; simp⟩) (fun m hm=>?_) (fun b u e=>?_) I.bare
 ·have e:b=it:=by simpa using hb
  subst e
  exact ⟨h1,hL,h2,h3⟩
 ·obtain ⟨o,es,ep,ho,r⟩:=hm
  exact ⟨o,es,ep,k _ o (Ne.symm hL) ho,r⟩
 ·refine (I.hok b u e).stay (fun c v hc q=>k c v ?_ q) (fun _ q=>q) fun _ _ q=>q
  rcases hc with z | z
  ·rw [z]; exact nit b u e
  ·exact nit c _ z
theorem Inv.tok (I:Inv X pins σ H s) (t:Nat):Inv X pins σ H { s with toks:=t }:=I.un (h':=s.heap) (t':=t) Un.refl I.hok
theorem Inv.kept {t':Nat} (I:Inv X pins σ H s) (k:∀ b u,s.heap.get? b=some u→h'.get? b=some u):Inv X pins σ H { s with heap:=h',toks:=t' }:=I.un (Un.kept k) (I.hok.kept k)
theorem Inv.laid {a:Addr} {o:HO} {t':Nat} (I:Inv X pins σ H s) (k:∀ b u,s.heap.get? b=some u→h'.get? b=some u) (hp:s.heap.objs.size≤a) (new:ObjOk X.prog X.w (upd H a o) h' a o) :
  Inv X pins σ (upd H a o) { s with heap:=h',toks:=t' }:=I.un (Un.laid k hp (I.hok.fresh hp)) (I.hok.laid k hp new)
theorem Inv.write {x e:Addr} {o:HO} {t':Nat} (I:Inv X pins σ H s) (mu:Mut (H x)) (he:e=x ∨ H e=some (.own x)) (k:∀ b u,b≠e→s.heap.get? b=some u→h'.get? b=some u) (heo:∃ u,h'.get? e=some u)
  (new:ObjOk X.prog X.w (upd H x o) h' x o):Inv X pins σ (upd H x o) { s with heap:=h',toks:=t' }:=I.un (Un.write mu he k heo) (I.hok.write mu he k heo new)
theorem Inv.weak {σ':List (Option V)} (I:Inv X pins σ H s) (hl:σ'.length=σ.length) (w:∀ (i:Nat) v,σ'[i]?=some (some v)→σ[i]?=some (some v)):Inv X pins σ' H s :=
 ⟨I.ok,I.os,I.bare,I.base,let ⟨m,hn,hl'⟩:=I.loc; ⟨m,hn,fun i x v e1 e2 e3=>hl' i x v e1 (w i v e2) e3⟩,I.cell,I.free,I.freeC,I.pin,I.hok,hl.trans I.len⟩
theorem Inv.pins_of {pins':List (Addr×Obj)} (I:Inv X pins σ H s) (h:∀ p∈pins',s.heap.get? p.1=some p.2∧H p.1=none∧p.1≠X.env.locals∧p.1 ∉ X.fs∧∀ v,p.2.data≠.cell v):Inv X pins' σ H s :=
 ⟨I.ok,I.os,I.bare,I.base,I.loc,I.cell,I.free,I.freeC,fun p hp=>(List.mem_append.mp hp).elim (fun z=>I.pin p (List.mem_append_left _ z)) (h p),I.hok,I.len⟩
theorem nodup_ix {N:List Str} (hN:N.Nodup) {i j:Nat} {x:Str} (a:N[i]?=some x) (b:N[j]?=some x):i=j:=by
 obtain ⟨h1,e1⟩:=List.getElem?_eq_some_iff.mp a
 obtain ⟨h2,e2⟩:=List.getElem?_eq_some_iff.mp b
 exact (List.getElem_inj hN).mp (e1.trans e2.symm)
theorem store_ok2 {M:Model} {A:Around} {E:Value→Shared→Prop} {i:Nat} {x:Str} {v:V} {u:Value} {Q:Unit→Shared→Prop} (I:Inv X pins σ H s) (hN:X.N.Nodup) (hi:X.N[i]?=some x) (hx:Loc X.env.scope x) (r:RelV v u)
  (h:∀ s',Inv X pins (σ.set i (some v)) H s'→(∃ a,Heap.SameBut a s.heap s'.heap∧(a=X.env.locals ∨ X.env.cells.lookup x=some a))→Q () s') (hf:X.fn x=true ∨ X.env.scope.names.lookup x=some .local:=by first | exact .inl rfl | exact .inr rfl | assumption):wpAny M A (storeName X.env x u) Q E s:=by
 obtain ⟨m,hn,hl⟩:=id I.loc
 have hcls:(X.env.scope.kind == .class || (X.env.scope.kind == .module && X.env.locals != X.env.globals))=false:=by rw [I.ok.kind]; rfl
 have hiσ:i < σ.length:=by rw [I.len]; exact (List.getElem?_eq_some_iff.mp hi).1
 have cne:=I.cne
 have tracked:∀ {a:Addr} {h':Heap},(∃ o,s.heap.get? a=some o∧H a=none)→Heap.SameBut a s.heap h'→HOk X.prog X.w H h':=fun {a h'} ha hs b ob e=>by
  obtain ⟨_,_,hfree⟩:=ha
  refine (I.hok b ob e).stay (fun c w' hc q=>(hs.2 c ?_).trans q) (fun _ q=>q) fun _ _ q=>q
  rintro rfl
  rcases hc with rfl | hc
  ·rw [hfree] at e; cases e
  ·rw [hfree] at hc; cases hc
 rcases hx with hk | hk
 ·refine wpAny_storeName_local hk hn (fun h' hn' hs=>?_) hcls
  obtain ⟨oL,_,_,hoL,_⟩:=id hn
  refine h _ ⟨I.ok,I.os,I.bare,⟨fun b o e n hb hx=>?_,fun b o e n hb hx=>?_,I.base.free,fun b o e hx=>?_,I.base.tups,I.base.frzs,I.base.tbls⟩,⟨_,hn',fun j y v' e1 e2 e3=>?_⟩,fun y c e=>?_,I.free,I.freeC,fun p hp=>?_,tracked ⟨oL,hoL,I.free⟩ hs,by simpa using I.len⟩ ⟨_,hs,.inl rfl⟩
  ·exact (hs.2 b (Nat.ne_of_lt (Nat.lt_of_lt_of_le (Heap.lt_size e) I.ok.above))).trans (I.base.keep b o e n hb hx)
  ·obtain ⟨sl,e1⟩:=I.base.slot b o e n hb hx
   exact ⟨sl,(hs.2 b (Nat.ne_of_lt (Nat.lt_of_lt_of_le (Heap.lt_size e) I.ok.above))).trans e1⟩
  ·obtain ⟨o',e1⟩:=I.base.there b o e hx
   exact ⟨o',(hs.2 b (Nat.ne_of_lt (Nat.lt_of_lt_of_le (Heap.lt_size e) I.ok.above))).trans e1⟩
  ·by_cases hj:j=i
   ·subst hj
    rw [hi] at e1; cases e1
    rw [List.getElem?_set_self hiσ] at e2
    cases e2
    exact ⟨u,r,.inl ⟨hk,by simp⟩⟩
   ·rw [List.getElem?_set_ne (Ne.symm hj)] at e2
    obtain ⟨u',r',q⟩:=hl j y v' e1 e2 e3
    refine ⟨u',r',?_⟩
    rcases q with ⟨k,e⟩ | ⟨k,c,e,z⟩
    ·refine .inl ⟨k,?_⟩
     have:y≠x:=fun e=>hj (nodup_ix hN e1 (e ▸ hi))
     simp [this,e]
    ·exact .inr ⟨k,c,e,z.sameBut hs (cne y c e)⟩
  ·obtain ⟨w',z⟩:=I.cell y c e
   exact ⟨w',z.sameBut hs (cne y c e)⟩
  ·obtain ⟨e,n,ne,nf,d⟩:=I.pin p hp
   exact ⟨(hs.2 p.1 ne).trans e,n,ne,nf,d⟩
 ·have hfn:X.fn x=true:=by
   rcases hf with z | z
   ·exact z
   ·rw [z] at hk; cases hk
  obtain ⟨c,hc⟩:=I.ok.has x (.inl hk)
  obtain ⟨w',z⟩:=I.cell x c hc
  refine wpAny_storeName_cell I.ok.kind hk hc z (fun h' hc' hs=>?_)
  obtain ⟨oc,hoc,hocd⟩:=id z
  refine h { s with heap:=h' } ⟨I.ok,I.os,I.bare,⟨fun b o e n hb hx=>?_,fun b o e n hb hx=>?_,I.base.free,fun b o e hx=>?_,I.base.tups,I.base.frzs,I.base.tbls⟩,⟨m,hn.sameBut hs (Ne.symm (cne x c hc)),fun j y v' e1 e2 e3=>?_⟩,fun y c' e=>?_,I.free,I.freeC,fun p hp=>?_,tracked ⟨oc,hoc,I.freeC x c hc⟩ hs,by simpa using I.len⟩ ⟨c,hs,.inr hc⟩
  ·exact (hs.2 b (Nat.ne_of_lt (Nat.lt_of_lt_of_le (Heap.lt_size e) (I.ok.cab x c hfn hc)))).trans (I.base.keep b o e n hb hx)
  ·obtain ⟨sl,e1⟩:=I.base.slot b o e n hb hx
   exact ⟨sl,(hs.2 b (Nat.ne_of_lt (Nat.lt_of_lt_of_le (Heap.lt_size e) (I.ok.cab x c hfn hc)))).trans e1⟩
  ·obtain ⟨o',e1⟩:=I.base.there b o e hx
   exact ⟨o',(hs.2 b (Nat.ne_of_lt (Nat.lt_of_lt_of_le (Heap.lt_size e) (I.ok.cab x c hfn hc)))).trans e1⟩
  ·by_cases hj:j=i
   ·subst hj
    rw [hi] at e1; cases e1
    rw [List.getElem?_set_self hiσ] at e2
    cases e2
    exact ⟨u,r,.inr ⟨.inl hk,c,hc,hc'⟩⟩
   ·rw [List.getElem?_set_ne (Ne.symm hj)] at e2
    obtain ⟨u',r',q⟩:=hl j y v' e1 e2 e3
    refine ⟨u',r',?_⟩
    rcases q with q | ⟨k,c',e,z'⟩
    ·exact .inl q
    ·refine .inr ⟨k,c',e,z'.sameBut hs ?_⟩
     rintro rfl
     exact hj (nodup_ix hN e1 (I.ok.inj _ _ _ e hc ▸ hi))
  ·by_cases hcc:c'=c
   ·subst hcc; exact ⟨_,hc'⟩
   ·obtain ⟨w2,z2⟩:=I.cell y c' e
    exact ⟨w2,z2.sameBut hs hcc⟩
  ·obtain ⟨e,n,ne,nf,d⟩:=I.pin p hp
   refine ⟨(hs.2 p.1 ?_).trans e,n,ne,nf,d⟩
   intro q
   rw [q,hoc] at e
   have q':oc=p.2:=Option.some.inj e
   exact d w' (by rw [← q']; exact hocd)
theorem store_ok {M:Model} {A:Around} {E:Value→Shared→Prop} {i:Nat} {x:Str} {v:V} {u:Value} {Q:Unit→Shared→Prop} (I:Inv X pins σ H s) (hN:X.N.Nodup) (hi:X.N[i]?=some x) (hx:Loc X.env.scope x) (r:RelV v u)
  (h:∀ s',Inv X pins (σ.set i (some v)) H s'→Q () s') (hf:X.fn x=true ∨ X.env.scope.names.lookup x=some .local:=by first | exact .inl rfl | exact .inr rfl | assumption):wpAny M A (storeName X.env x u) Q E s :=
 store_ok2 I hN hi hx r (fun s' I' _=>h s' I') hf
theorem Inv.call' {s':Shared} {ch:List Addr} (I:Inv X pins σ H s) (ho:s'.os=s.os) (u:Un (frs X.stack) ch H H' s.heap s'.heap) (hok:HOk X.prog X.w H' s'.heap) (hg:AllBare s'.gens)
  (hch:∀ b∈ch,(b∈X.ex ∨ X.s₀.heap.objs.size≤b)∧b≠X.env.locals∧(∀ x c,X.env.cells.lookup x=some c→c≠b)∧∀ p∈X.pn++pins,p.1≠b):Inv X pins σ H' s':=by
 obtain ⟨h',g',d',t',o'⟩:=s'
 have e:o'=s.os:=ho
 subst e
 exact I.call (g':=g') (t':=t') (d':=d') u hok hg hch
end
abbrev XK:=Value→Option Addr→Hp→Prop
abbrev St:=List (Option V)
abbrev VK:=V→Hp→Prop
abbrev TE:=St→Hp→VK→Prop
abbrev TT:=St→Hp→(Bool→Hp→Prop)→Prop
abbrev TA:=St→Hp→(List V→Hp→Prop)→Prop
structure Ends where
 nx:St→Hp→Prop
 rt:VK
 bk:St→Hp→Prop:=fun _ _=>False
 ct:St→Hp→Prop:=fun _ _=>False
abbrev TS:=Ends→St→Hp→Prop
inductive EP (X:Cx) (pins:List (Addr×Obj)) (σ:St) (Q:VK) (u:Value) (s':Shared):Prop
 | mk (v:_) (H':_) (_:Inv X pins σ H' s') (_:RelV v u) (_:Q v H'):EP X pins σ Q u s'
inductive TP (X:Cx) (pins:List (Addr×Obj)) (σ:St) (Q:Bool→Hp→Prop) (b:Bool) (s':Shared):Prop
 | mk (H':_) (_:Inv X pins σ H' s') (_:Q b H'):TP X pins σ Q b s'
inductive AP (X:Cx) (pins:List (Addr×Obj)) (σ:St) (Q:List V→Hp→Prop) (us:List Value) (s':Shared):Prop
 | mk (vs:_) (H':_) (_:Inv X pins σ H' s') (_:Vals vs us) (_:Q vs H'):AP X pins σ Q us s'
def SP (X:Cx) (pins:List (Addr×Obj)) (D:Ends) (f:Flow) (s':Shared):Prop :=
 match f with
 | .next=>∃ σ' H',Inv X pins σ' H' s'∧D.nx σ' H'
 | .brk=>∃ σ' H',Inv X pins σ' H' s'∧D.bk σ' H'
 | .cont=>∃ σ' H',Inv X pins σ' H' s'∧D.ct σ' H'
 | .ret u=>∃ v σ' H',Inv X pins σ' H' s'∧RelV v u∧D.rt v H'
def PE (X:Cx) (e:Expr) (t:TE):Prop :=
 ∀ (pins:List (Addr×Obj)) (s:Shared) (σ:St) (H:Hp) (Q:VK),Inv X pins σ H s→t σ H Q→wpAny (model X.prog X.w) X.A (eval e X.env) (EP X pins σ Q) X.xe s
def PT (X:Cx) (e:Expr) (t:TT):Prop :=
 ∀ (pins:List (Addr×Obj)) (s:Shared) (σ:St) (H:Hp) (Q:Bool→Hp→Prop),Inv X pins σ H s→t σ H Q→wpAny (model X.prog X.w) X.A (isTrue e X.env (eval e X.env)) (TP X pins σ Q) X.xe s
def PW (X:Cx) (e:Expr) (t:TT):Prop :=
 ∀ (whole:Sem Value) (pins:List (Addr×Obj)) (s:Shared) (σ:St) (H:Hp) (Q:Bool→Hp→Prop),Inv X pins σ H s→t σ H Q→wpAny (model X.prog X.w) X.A (isTrue e X.env whole) (TP X pins σ Q) X.xe s
theorem PW.pt {X:Cx} {e:Expr} {t:TT} (h:PW X e t):PT X e t:=h _
def PA (X:Cx) (es:List Expr) (t:TA):Prop :=
 ∀ (pos:Pos) (pins:List (Addr×Obj)) (s:Shared) (σ:St) (H:Hp) (Q:List V→Hp→Prop),Inv X pins σ H s→t σ H Q→wpAny (model X.prog X.w) X.A (spliced (backTo pos (starEach es X.env))) (AP X pins σ Q) X.xe s
def PS (X:Cx) (st:Stmt) (t:TS):Prop :=
 ∀ (pins:List (Addr×Obj)) (s:Shared) (σ:St) (H:Hp) (D:Ends),Inv X pins σ H s→t D σ H→wpAny (model X.prog X.w) X.A (exec st X.env) (SP X pins D) X.xe s
def PSs (X:Cx) (st:List Stmt) (t:TS):Prop :=
 ∀ (pins:List (Addr×Obj)) (s:Shared) (σ:St) (H:Hp) (D:Ends),Inv X pins σ H s→t D σ H→wpAny (model X.prog X.w) X.A (execs st X.env) (SP X pins D) X.xe s
theorem thn {α:Type} {t:Sem α} {Q Q':α→Shared→Prop} {M:Model} {A:Around} {E:Value→Shared→Prop} {s:Shared} (h:wpAny M A t Q E s) (hQ:∀ a s,Q a s→Q' a s):wpAny M A t Q' E s:=wpAny_mono h hQ fun _ _ x=>x
end L2
namespace L2
open PySem PySem.Spec PyProof.Rows
section
variable {X:Cx}
inductive tVar (i:Nat) (σ:L2.St) (H:Hp) (Q:VK):Prop
 | mk (v:_) (_:σ[i]?=some (some v)) (_:Q v H):tVar i σ H Q
def tC (v:V):TE:=fun _ H Q=>Q v H
theorem pe_var {i:Nat} {x:Str} {pos:Pos} (hN:X.N[i]?=some x) (hv:Vis X.env.scope x) (hd:(x == ("__debug__":Str))=false:=by decide) (hcd:(x == ("__classdict__":Str))=false:=by decide):PE X (.Name x pos) (tVar i):=by
 intro pins s σ H Q I h
 obtain ⟨v,e,h⟩:=h
 obtain ⟨m,hn,hl⟩:=I.loc
 obtain ⟨u,r,l⟩:=hl i x v hN e hv
 have fin:EP X pins σ Q u s:=⟨v,H,I,r,h⟩
 rcases l with ⟨hk,hm⟩ | ⟨hk,c,hc,hcell⟩
 ·exact wpAny_Name (wpAny_loadName_local I.ok.kind hk hn hm fin) hd
 ·rcases hk with hk | hk
  ·exact wpAny_Name (wpAny_loadName_cell I.ok.kind hk hc hcell fin) hd
  ·exact wpAny_Name (wpAny_loadName_free I.ok.kind hk hc hcell fin hcd) hd
theorem pe_int {i j pos}:PE X (.Constant (.int i) j pos) (tC (.int i)):=fun _ _ _ H _ I h=>wpAny_Constant_int ⟨.int i,H,I.tok _,⟨_,rfl⟩,h⟩
theorem pe_bl {b j pos}:PE X (.Constant (.bool b) j pos) (tC (.bl b)):=fun _ _ _ H _ I h=>Constant_bool ⟨.bl b,H,I,rfl,h⟩
theorem pe_non {j pos}:PE X (.Constant .none j pos) (tC .non):=fun _ _ _ H _ I h=>Constant_none ⟨.non,H,I,rfl,h⟩
theorem pe_str {x j pos}:PE X (.Constant (.str x) j pos) (tC (.str x)):=fun _ _ _ H _ I h=>Calls.Constant_str ⟨.str x,H,I.tok _,⟨_,rfl⟩,h⟩
def Gl (X:Cx) (x:Str):Prop:=X.env.kindOf x=some .globalImplicit
theorem ld_glob {E:Value→Shared→Prop} {pins:List (Addr×Obj)} {s:Shared} {σ:St} {H:Hp} {x:Str} {u:Value} {pos:Pos} {Q:Value→Shared→Prop} (I:Inv X pins σ H s) (hg:Gl X x) (hm:X.mg x=some u) (h:Q u s)
  (hd:(x == ("__debug__":Str))=false:=by decide):wpAny (model X.prog X.w) X.A (eval (.Name x pos) X.env) Q E s :=
 Calls.Name_function_global I.ok.kind hg (Calls.loadGlobal_global (by rw [I.ok.glob]; exact I.mod.glob.keeps I.bk) hm h) hd
theorem ld_blt {E:Value→Shared→Prop} {pins:List (Addr×Obj)} {s:Shared} {σ:St} {H:Hp} {x:Str} {u:Value} {pos:Pos} {Q:Value→Shared→Prop} (I:Inv X pins σ H s) (hg:Gl X x) (hm:X.mg x=none) (hv:bootBuiltins x=some u) (h:Q u s)
  (hn:x≠"__name__":=by decide) (hd:(x == ("__debug__":Str))=false:=by decide):wpAny (model X.prog X.w) X.A (eval (.Name x pos) X.env) Q E s:=by
 obtain ⟨mb,h1,h2⟩:=I.mod.blt
 exact Calls.Name_function_global I.ok.kind hg (Calls.loadGlobal_builtin (by rw [I.ok.glob]; exact I.mod.glob.keeps I.bk) hm (by rw [I.ok.blt]; exact h1.keeps I.bk) ((h2 x hn).trans hv) h) hd
theorem pe_bltn {x:Str} {v:V} {u:Value} {pos:Pos} (hg:Gl X x) (hm:X.mg x=none) (hv:bootBuiltins x=some u) (r:RelV v u) (hn:x≠"__name__":=by decide) (hd:(x == ("__debug__":Str))=false:=by decide):PE X (.Name x pos) (tC v) :=
 fun _ _ _ H _ I h=>ld_blt I hg hm hv ⟨v,H,I,r,h⟩ hn hd
variable {a b:Expr}{ta tb:TE}{pos:Pos}
def PC (X:Cx) (op:CmpOp) (a b:Expr) (t:TE):Prop :=
 ∀ (pins:List (Addr×Obj)) (s:Shared) (σ:St) (H:Hp) (Q:VK),Inv X pins σ H s→t σ H Q →
  wpAny (model X.prog X.w) X.A (eval a X.env) (fun v s₁=>wpAny (model X.prog X.w) X.A (eval b X.env) (fun u s₂=>wpAny (model X.prog X.w) X.A (compareOp op v u) (EP X pins σ Q) X.xe s₂) X.xe s₁) X.xe s
theorem nobehind (b:Expr) {op:CmpOp} (h:op≠.In) (h2:op≠.NotIn):behindInMarks op b=false:=by
 have e1:(op == CmpOp.In)=false:=by cases op <;> first | rfl | exact absurd rfl h
 have e2:(op == CmpOp.NotIn)=false:=by cases op <;> first | rfl | exact absurd rfl h2
 cases b <;> simp [behindInMarks,e1,e2]
def tIsN (ta:TE):TE:=fun σ H Q=>ta σ H fun x H1=>Q (.bl (decide (x=.non))) H1
theorem RelV.none_iff {x:V} {v:Value} (r:RelV x v):(v == Value.none)=decide (x=.non):=by
 cases x with
 | non=>cases r; rfl
 | bl _=>cases r; rfl
 | int _=>obtain ⟨t,rfl⟩:=r; rfl
 | str _=>obtain ⟨t,rfl⟩:=r; rfl
 | byt _=>obtain ⟨t,rfl⟩:=r; rfl
 | flt _=>obtain ⟨t,rfl⟩:=r; rfl
 | ref _=>cases r; rfl
 | ty _=>cases r; rfl
theorem pc_isN {j pos'} (ha:PE X a ta):PC X .Is a (.Constant .none j pos') (tIsN ta):=by
 intro pins s σ H Q I h
 refine thn (ha pins s σ H _ I h) fun v s1 q1=>?_; obtain ⟨x,H1,I1,r1,q1⟩:=q1
 exact Constant_none (is_none_gen ⟨.bl _,H1,I1,by rw [r1.none_iff]; rfl,q1⟩)
def tB (t:TE):TT:=fun σ H Q=>t σ H fun x H1=>∃ c,x=.bl c∧Q c H1
theorem pt_cmp {op:CmpOp} {t:TE} (h:PC X op a b t) (h1:behindInMarks op b=false:=by first | exact nobehind _ (by decide) (by decide) | rfl):PT X (.Compare a [op] [b] pos) (tB t):=by
 intro pins s σ H Q I hw
 refine wpAny_isTrue_Compare1 (thn (h pins s σ H _ I hw) fun v s1 h1=>thn h1 fun u s2 h2=>thn h2 fun c s3 ⟨x,H1,I1,r1,q1⟩=>?_) h1
 obtain ⟨d,rfl,q⟩:=q1
 cases r1
 exact wpAny_truthy_bool ⟨H1,I1,q⟩
variable {tA tB':TT}{rest:List Expr}
def tAnd (t u:TT):TT:=fun σ H Q=>t σ H fun c H1=>if c=true then u σ H1 Q else Q false H1
def tOr (t u:TT):TT:=fun σ H Q=>t σ H fun c H1=>if c=true then Q true H1 else u σ H1 Q
def tNot (t:TT):TT:=fun σ H Q=>t σ H fun c H1=>Q (!c) H1
theorem pw_and1 (ha:PT X a tA):PW X (.BoolOp .And [a] pos) tA:=by
 intro wh pins s σ H Q I h
 refine isTrue_and (thn (ha pins s σ H Q I h) fun c s1 e=>?_)
 cases c with
 | true=>exact isTrue_and_nil e
 | false=>exact e
theorem pw_or1 (ha:PT X a tA):PW X (.BoolOp .Or [a] pos) tA:=by
 intro wh pins s σ H Q I h
 refine isTrue_or (thn (ha pins s σ H Q I h) fun c s1 e=>?_)
 cases c with
 | false=>exact isTrue_or_nil e
 | true=>exact e
theorem pw_and (ha:PT X a tA) (hb:PW X (.BoolOp .And (b :: rest) pos) tB'):PW X (.BoolOp .And (a :: b :: rest) pos) (tAnd tA tB'):=by
 intro wh pins s σ H Q I h
 refine isTrue_and (thn (ha pins s σ H _ I h) fun c s1 ⟨H1,I1,q1⟩=>?_)
 cases c with
 | true=>exact hb wh pins s1 σ H1 Q I1 q1
 | false=>exact ⟨H1,I1,q1⟩
theorem pw_or (ha:PT X a tA) (hb:PW X (.BoolOp .Or (b :: rest) pos) tB'):PW X (.BoolOp .Or (a :: b :: rest) pos) (tOr tA tB'):=by
 intro wh pins s σ H Q I h
 refine isTrue_or (thn (ha pins s σ H _ I h) fun c s1 ⟨H1,I1,q1⟩=>?_)
 cases c with
 | true=>exact ⟨H1,I1,q1⟩
 | false=>exact hb wh pins s1 σ H1 Q I1 q1
theorem pt_not (ha:PT X a tA):PT X (.UnaryOp .Not a pos) (tNot tA):=by
 intro pins s σ H Q I h
 exact isTrue_not (thn (ha pins s σ H (fun c H1=>Q (!c) H1) I h) fun u s' q1=>by obtain ⟨H1,I1,q⟩:=q1; exact ⟨H1,I1,q⟩)
def tNotV (ta:TE):TE:=fun σ H Q=>ta σ H fun x H1=>∃ c,x=.bl c∧Q (.bl (!c)) H1
theorem pe_one {op} {t:TE} (h:PE X a t):PE X (.BoolOp op [a] pos) t:=fun pins s σ H Q I hw=>BoolOp_one (h pins s σ H Q I hw)
theorem pe_not (ha:PE X a ta):PE X (.UnaryOp .Not a pos) (tNotV ta):=by
 intro pins s σ H Q I h
 refine UnaryOp_ (thn (ha pins s σ H _ I h) fun v s1 ⟨x,H1,I1,r1,q1⟩=>?_)
 obtain ⟨c,rfl,q1⟩:=q1
 cases r1
 exact not_of (wpAny_truthy_bool ⟨.bl (!c),H1,I1,rfl,q1⟩)
def tIf (t:TT) (ta tb:TE):TE:=fun σ H Q=>t σ H fun c H1=>if c=true then ta σ H1 Q else tb σ H1 Q
theorem pe_ifExp {c:Expr} (hc:PT X c tA) (ha:PE X a ta) (hb:PE X b tb):PE X (.IfExp c a b pos) (tIf tA ta tb):=by
 intro pins s σ H Q I h
 refine wpAny_IfExp (thn (hc pins s σ H _ I h) fun d s1 ⟨H1,I1,q1⟩=>?_)
 cases d with
 | true=>exact ha pins s1 σ H1 Q I1 q1
 | false=>exact hb pins s1 σ H1 Q I1 q1
end
end L2
namespace L2
open PySem PySem.Spec PyProof.Rows
def SqL (K:PySem.W.Frag) (H:Hp) (a:Addr) (xs:List V):Prop :=
 Rd H a (.lst xs) ∨
  ∃ (o:Obj) (its:Array Value) (n:Nat),K.lookup a=some o∧o.cls=.type "list"∧o.dict=none∧o.data=.seq its n∧its.size≤sizeLine∧Vals xs its.toList
def SqT (K:PySem.W.Frag) (H:Hp) (a:Addr) (xs:List V):Prop :=
 Rd H a (.tup xs) ∨
  ∃ (o:Obj) (its:Array Value) (n:Nat),K.lookup a=some o∧o.cls=.type "tuple"∧o.data=.seq its n∧its.size≤sizeLine∧Vals xs its.toList
def absV:Value→Option V
 | .none=>some .non
 | .bool b=>some (.bl b)
 | .int i _=>some (.int i)
 | .str x _=>some (.str x)
 | .bytes b _=>some (.byt b)
 | .float b _=>some (.flt b)
 | .ref a=>some (.ref a)
 | .type n=>some (.ty n)
 | _=>none
theorem RelV.abs {x:V} {u:Value} (r:RelV x u):absV u=some x:=by
 cases x with
 | non=>cases r; rfl
 | bl _=>cases r; rfl
 | int _=>obtain ⟨t,rfl⟩:=r; rfl
 | str _=>obtain ⟨t,rfl⟩:=r; rfl
 | byt _=>obtain ⟨t,rfl⟩:=r; rfl
 | flt _=>obtain ⟨t,rfl⟩:=r; rfl
 | ref _=>cases r; rfl
 | ty _=>cases r; rfl
theorem RelV.inj {x y:V} {u:Value} (r:RelV x u) (q:RelV y u):x=y:=Option.some.inj (r.abs.symm.trans q.abs)
theorem Vals.inj:∀ {xs ys:List V} {us:List Value},Vals xs us→Vals ys us→xs=ys:=fun {_ ys _} h=>by
 induction h generalizing ys with
 | nil=>intro h; cases h; rfl
 | cons r _ ih=>intro h; cases h with | cons r' t'=>rw [r.inj r',ih t']
section
variable {X:Cx}{pins:List (Addr×Obj)}{σ:St}{H:Hp}{s:Shared}{a:Addr}{xs ys:List V}
theorem SqL.of {K:PySem.W.Frag} (h:H a=some (.lst xs)):SqL K H a xs:=.inl (.inl h)
theorem SqT.of {K:PySem.W.Frag} (h:H a=some (.tup xs)):SqT K H a xs:=.inl (.inl h)
theorem Inv.list (I:Inv X pins σ H s) (h:SqL X.K H a xs):∃ its:List Value,Vals xs its∧PlainL s.heap a its.toArray∧xs.length≤sizeLine:=by
 rcases h with h | ⟨o,its,n,hk,hc,hd,hs,hz,r⟩
 ·obtain ⟨z,its,n,r,e⟩:=h.ok I.hok
  exact ⟨its,r,⟨_,n,e,rfl,rfl,rfl⟩,z⟩
 ·refine ⟨its.toList,r,⟨o,n,I.kIn a o hk,hc,hd,by simpa using hs⟩,?_⟩
  have e:=r.length
  simp -iota only [Array.length_toList] at e
  lia
theorem Inv.tuple (I:Inv X pins σ H s) (h:SqT X.K H a xs):∃ its:List Value,Vals xs its∧IsTup s.heap a its.toArray∧xs.length≤sizeLine:=by
 rcases h with h | ⟨o,its,n,hk,hc,hs,hz,r⟩
 ·obtain ⟨z,its,r,p⟩:=h.ok I.hok
  exact ⟨its,r,p,z⟩
 ·refine ⟨its.toList,r,⟨o,I.kIn a o hk,hc,n,by simpa using hs⟩,?_⟩
  have e:=r.length
  simp -iota only [Array.length_toList] at e
  lia
theorem Inv.list_inj (I:Inv X pins σ H s) (h:SqL X.K H a xs) (h':SqL X.K H a ys):xs=ys:=by
 obtain ⟨its,r,⟨o,n,e,_,_,d⟩,_⟩:=I.list h
 obtain ⟨its',r',⟨o',n',e',_,_,d'⟩,_⟩:=I.list h'
 rw [e] at e'; cases e'
 rw [d] at d'
 injection d' with d1 _
 have:its=its':=by simpa using congrArg Array.toList d1
 subst this
 exact r.inj r'
theorem Inv.tuple_inj (I:Inv X pins σ H s) (h:SqT X.K H a xs) (h':SqT X.K H a ys):xs=ys:=by
 obtain ⟨its,r,⟨o,e,_,n,d⟩,_⟩:=I.tuple h
 obtain ⟨its',r',⟨o',e',_,n',d'⟩,_⟩:=I.tuple h'
 rw [e] at e'; cases e'
 rw [d] at d'
 injection d' with d1 _
 have:its=its':=by simpa using congrArg Array.toList d1
 subst this
 exact r.inj r'
end
abbrev Cx.wish (X:Cx) (E:Value→Shared→Prop):Cx:={ X with xe:=E }
abbrev Cx.nox (X:Cx):Cx:=X.wish fun _ _=>False
theorem Cx.Ok.wish {X:Cx} (ok:X.Ok) (E:Value→Shared→Prop):(X.wish E).Ok :=
 ⟨ok.mod,ok.kind,ok.glob,ok.blt,ok.above,ok.inj,ok.has,ok.cab,ok.hd,ok.frames,ok.stk,ok.exf,ok.bs,ok.bsz,ok.noex,ok.exfs,ok.funs,ok.frf⟩
theorem Cx.Ok.unwish {X:Cx} {E:Value→Shared→Prop} (ok:(X.wish E).Ok):X.Ok :=
 ⟨ok.mod,ok.kind,ok.glob,ok.blt,ok.above,ok.inj,ok.has,ok.cab,ok.hd,ok.frames,ok.stk,ok.exf,ok.bs,ok.bsz,ok.noex,ok.exfs,ok.funs,ok.frf⟩
section
variable {X:Cx}{pins:List (Addr×Obj)}{σ:St}{H:Hp}{s:Shared}{E:Value→Shared→Prop}
theorem Inv.wish (I:Inv X pins σ H s) (E:Value→Shared→Prop):Inv (X.wish E) pins σ H s:=⟨I.ok.wish E,I.os,I.bare,I.base,I.loc,I.cell,I.free,I.freeC,I.pin,I.hok,I.len⟩
theorem Inv.unwish (I:Inv (X.wish E) pins σ H s):Inv X pins σ H s:=⟨I.ok.unwish,I.os,I.bare,I.base,I.loc,I.cell,I.free,I.freeC,I.pin,I.hok,I.len⟩
theorem SP.unwish {D:Ends} {f:Flow} {s':Shared} (h:SP (X.wish E) pins D f s'):SP X pins D f s':=by
 cases f with
 | next=>obtain ⟨σ',H',I,q⟩:=h; exact ⟨σ',H',I.unwish,q⟩
 | brk=>obtain ⟨σ',H',I,q⟩:=h; exact ⟨σ',H',I.unwish,q⟩
 | cont=>obtain ⟨σ',H',I,q⟩:=h; exact ⟨σ',H',I.unwish,q⟩
 | ret u=>obtain ⟨v,σ',H',I,r,q⟩:=h; exact ⟨v,σ',H',I.unwish,r,q⟩
theorem PSs.nox {st:List Stmt} {t:TS} (h:PSs X.nox st t):PSs X st t:=fun pins s σ H D I hw =>
 wpAny_mono (h pins s σ H D (I.wish _) hw) (fun _ _ q=>q.unwish) fun _ _ z=>False.elim z
end
section
variable {X:Cx}{st:Stmt}{rest:List Stmt}{t u:TS}{e:Expr}{te:TE}{pos:Pos}
def tNext:TS:=fun D σ H=>D.nx σ H
def tSeq (t u:TS):TS:=fun D σ H=>t { D with nx:=u D } σ H
theorem pss_nil:PSs X [] tNext:=fun _ _ σ H _ I h=>wpAny_execs_nil ⟨σ,H,I,h⟩
theorem pss_cons (h1:PS X st t) (h2:PSs X rest u):PSs X (st :: rest) (tSeq t u):=by
 intro pins s σ H D I h
 refine wpAny_execs_cons (thn (h1 pins s σ H { D with nx:=u D } I h) fun f s1 q=>?_)
 cases f with
 | next =>
  obtain ⟨σ',H',I',q⟩:=q
  exact h2 pins s1 σ' H' D I' q
 | ret v=>exact q
 | brk=>exact q
 | cont=>exact q
theorem pss_one (h1:PS X st t):PSs X [st] t:=by
 intro pins s σ H D I h
 refine wpAny_execs_cons (thn (h1 pins s σ H D I h) fun f s1 q=>?_)
 cases f with
 | next=>exact wpAny_execs_nil q
 | ret v=>exact q
 | brk=>exact q
 | cont=>exact q
theorem Inv.quiet {pins:List (Addr×Obj)} {σ:St} {H:Hp} {s:Shared} (I:Inv X pins σ H s):interactive X.env=false:=by simp [interactive,I.ok.kind]
def tDrop (te:TE):TS:=fun D σ H=>te σ H fun _ H1=>D.nx σ H1
theorem ps_expr (he:PE X e te) (hs:swapsWith e none pos.line X.env=pure false:=by rfl):PS X (.Expr e pos) (tDrop te):=by
 intro pins s σ H D I h
 exact wpAny_Expr_any (thn (he pins s σ H _ I h) fun v s1 q1=>by obtain ⟨x,H1,I1,r1,q1⟩:=q1; exact ⟨σ,H1,I1,q1⟩) I.quiet hs
def tRet (te:TE):TS:=fun D σ H=>te σ H D.rt
theorem ps_ret (he:PE X e te):PS X (.Return (some e) pos) (tRet te):=by
 intro pins s σ H D I h
 exact wpAny_Return_some (thn (he pins s σ H _ I h) fun v s1 q1=>by obtain ⟨x,H1,I1,r1,q1⟩:=q1; exact ⟨x,σ,H1,I1,r1,q1⟩)
def tIfS (c:TT) (t u:TS):TS:=fun D σ H=>c σ H fun b H1=>if b=true then t D σ H1 else u D σ H1
theorem ps_if {c:Expr} {a b:List Stmt} {tc:TT} (hc:PT X c tc) (ha:PSs X a t) (hb:PSs X b u):PS X (.If c a b pos) (tIfS tc t u):=by
 intro pins s σ H D I h
 refine wpAny_If (thn (hc pins s σ H _ I h) fun d s1 ⟨H1,I1,q1⟩=>?_)
 cases d with
 | true=>exact ha pins s1 σ H1 D I1 q1
 | false=>exact hb pins s1 σ H1 D I1 q1
end
abbrev TG:=V→St→Hp→(St→Hp→Prop)→Prop
abbrev TGs:=List V→St→Hp→(St→Hp→Prop)→Prop
def PG (X:Cx) (target:Expr) (t:TG):Prop :=
 ∀ (pins:List (Addr×Obj)) (s:Shared) (σ:St) (H:Hp) (v:V) (u:Value) (Q:St→Hp→Prop),Inv X pins σ H s→RelV v u→t v σ H Q →
  wpAny (model X.prog X.w) X.A (assign target X.env u) (fun _ s'=>∃ σ' H',Inv X pins σ' H' s'∧Q σ' H') X.xe s
def PGs (X:Cx) (ts:List Expr) (t:TGs):Prop :=
 ∀ (pins:List (Addr×Obj)) (s:Shared) (σ:St) (H:Hp) (vs:List V) (us:List Value) (Q:St→Hp→Prop),Inv X pins σ H s→Vals vs us→t vs σ H Q →
  wpAny (model X.prog X.w) X.A (assignInOrder ((assignEach ts X.env).map (·.2)) us) (fun _ s'=>∃ σ' H',Inv X pins σ' H' s'∧Q σ' H') X.xe s
abbrev TSet:=V→V→V→Hp→(Hp→Prop)→Prop
def PSet (X:Cx) (t:TSet):Prop :=
 ∀ (pins:List (Addr×Obj)) (s:Shared) (σ:St) (H:Hp) (o i v:V) (ov iv u:Value) (Q:Hp→Prop),Inv X pins σ H s→RelV o ov→RelV i iv→RelV v u→t o i v H Q →
  wpAny (model X.prog X.w) X.A (setItem ov iv u) (fun _ s'=>∃ H',Inv X pins σ H' s'∧Q H') X.xe s
abbrev TIp:=V→V→Hp→VK→Prop
def PIp (X:Cx) (op:Operator) (t:TIp):Prop :=
 ∀ (pins:List (Addr×Obj)) (s:Shared) (σ:St) (H:Hp) (x y:V) (v u:Value) (Q:VK),Inv X pins σ H s→RelV x v→RelV y u→t x y H Q →
  wpAny (model X.prog X.w) X.A (inplaceOp op v u) (EP X pins σ Q) X.xe s
section
variable {X:Cx}{pos:Pos}
def gName (i:Nat):TG:=fun v σ H Q=>Q (σ.set i (some v)) H
theorem pg_name {i:Nat} {x:Str} (hN:X.N.Nodup) (hi:X.N[i]?=some x) (hx:Loc X.env.scope x) (hf:X.fn x=true ∨ X.env.scope.names.lookup x=some .local:=by first | exact .inl rfl | exact .inr rfl | assumption):PG X (.Name x pos) (gName i):=by
 intro pins s σ H v u Q I r h
 exact wpAny_assign_Name (store_ok I hN hi hx r (fun s' I'=>⟨_,H,I',h⟩) hf)
def gNil:TGs:=fun vs σ H Q=>vs=[]∧Q σ H
inductive gCons (t:TG) (u:TGs) (vs:List V) (σ:L2.St) (H:Hp) (Q:(L2.St→Hp→Prop)):Prop
 | mk (v:_) (r:_) (_:vs=v :: r) (_:t v σ H fun σ' H'=>u r σ' H' Q):gCons t u vs σ H Q
theorem pgs_nil:PGs X [] gNil:=by
 intro pins s σ H vs us Q I r h
 obtain ⟨e,h⟩:=h
 subst e
 cases r
 exact assignInOrder_nil ⟨σ,H,I,h⟩
theorem pgs_cons {e:Expr} {es:List Expr} {t:TG} {u:TGs} (h1:PG X e t) (h2:PGs X es u)
  (hs:(assignEach (e :: es) X.env).map (·.2)=assign e X.env :: (assignEach es X.env).map (·.2):=by rfl):PGs X (e :: es) (gCons t u):=by
 intro pins s σ H vs us Q I r h
 obtain ⟨v,vr,e1,h⟩:=h
 subst e1
 cases r with
 | cons r rr =>
  rw [hs]
  refine assignInOrder_cons (thn (h1 pins s σ H _ _ _ I r h) fun _ s1 ⟨σ1,H1,I1,q1⟩=>?_)
  exact h2 pins s1 σ1 H1 _ _ Q I1 rr q1
inductive gTup (K:PySem.W.Frag) (n:Nat) (t:TGs) (v:V) (σ:L2.St) (H:Hp) (Q:(L2.St→Hp→Prop)):Prop
 | mk (a:_) (xs:_) (_:v=.ref a) (_:SqT K H a xs) (_:xs.length=n) (_:t xs σ H Q):gTup K n t v σ H Q
theorem pg_tup {es:List Expr} {k:Nat} {t:TGs} {n:Nat} (hc:X.calm=true) (h:PGs X es t)
  (hn:(assignEach es X.env).length=n:=by rfl) (hst:(assignEach es X.env).findIdx? (·.1)=none:=by rfl):PG X (.Tuple es k pos) (gTup X.K n t):=by
 intro pins s σ H v u Q I r hw
 obtain ⟨a,xs,e1,hq,hl,hw⟩:=hw
 subst e1
 cases r
 obtain ⟨its,rv,ht,hz⟩:=I.tuple hq
 refine assign_Tuple_tuple (I.ok.hd hc) ht (by simp [hn,← hl,rv.length]) hst fun h' hx=>?_
 have I1:Inv X pins σ H { s with heap:=h' }:=I.kept (t':=s.toks) fun b o e=>hx b o (Nat.ne_of_lt (Heap.lt_size e)) e
 exact h pins _ σ H xs _ Q I1 (by simpa using rv) hw
def gSub (to ti:TE) (t:TSet):TG:=fun v σ H Q=>to σ H fun o H1=>ti σ H1 fun i H2=>t o i v H2 fun H3=>Q σ H3
theorem pg_sub {o i:Expr} {to ti:TE} {t:TSet} (ho:PE X o to) (hi:PE X i ti) (hs:PSet X t)
  (ha:∀ v,assign (.Subscript o i pos) X.env v=(do
   let ov ← holding [v] (eval o X.env)
   let iv ← holding [v,ov] (eval i X.env)
   standAt pos
   holding [v,ov,iv] (setItem ov iv v)
   release [v,ov,iv] []):=by intro _; rfl):PG X (.Subscript o i pos) (gSub to ti t):=by
 intro pins s σ H v u Q I r h
 rw [ha]
 refine wpAny_bind (wpAny_holding (thn (ho pins s σ H _ I h) fun ov s1 ⟨x,H1,I1,r1,q1⟩=>?_))
 refine wpAny_bind (wpAny_holding (thn (hi pins s1 σ H1 _ I1 q1) fun iv s2 ⟨y,H2,I2,r2,q2⟩=>?_))
 refine wpAny_bind (wpAny_standAt (wpAny_bind (wpAny_holding (thn (hs pins s2 σ H2 x y v ov iv u _ I2 r1 r2 r q2) fun _ s3 ⟨H3,I3,q3⟩=>?_))))
 exact wpAny_release ⟨σ,H3,I3,q3⟩
def tAsg (te:TE) (g:TG):TS:=fun D σ H=>te σ H fun x H1=>g x σ H1 D.nx
theorem ps_asg {tg e:Expr} {te:TE} {g:TG} (he:PE X e te) (hg:PG X tg g) (hs:swapsWithSole [tg] e pos.line X.env=pure false:=by rfl) (hw:swappedStores [tg] e X.env=pure none:=by rfl)
  (h1:(assignEach [tg] X.env).map (·.2)=[assign tg X.env]:=by rfl):PS X (.Assign [tg] e pos) (tAsg te g):=by
 intro pins s σ H D I h
 refine wpAny_Assign_stores (thn (he pins s σ H _ I h) fun v s1 ⟨x,H1,I1,r1,q1⟩=>?_) hs hw
 rw [h1]
 exact thn (hg pins s1 σ H1 x v _ I1 r1 q1) fun _ s2 q=>q
theorem ps_set {i:Nat} {x:Str} {e:Expr} {te:TE} {pos':Pos} (hN:X.N.Nodup) (hi:X.N[i]?=some x) (hx:Loc X.env.scope x) (he:PE X e te) (hs:swapsWith e (some (.Name x pos')) pos.line X.env=pure false:=by rfl) (hf:X.fn x=true ∨ X.env.scope.names.lookup x=some .local:=by first | exact .inl rfl | exact .inr rfl | assumption) :
  PS X (.Assign [.Name x pos'] e pos) (tAsg te (gName i)):=by
 intro pins s σ H D I h
 refine wpAny_Assign_Name (thn (he pins s σ H _ I h) fun v s1 ⟨y,H1,I1,r1,q1⟩=>?_) hs
 exact store_ok I1 hN hi hx r1 (fun s2 I2=>⟨_,H1,I2,q1⟩) hf
def tPar (i j:Nat) (ta:TA):TS:=fun D σ H=>ta σ H fun vs H1=>∃ v w,vs=[v,w]∧D.nx ((σ.set i (some v)).set j (some w)) H1
theorem ps_par {i j:Nat} {x y:Str} {a b:Expr} {ta:TA} {px py pt:Pos} {kt k2 pt2} (hc:X.calm=true) (hN:X.N.Nodup) (hi:X.N[i]?=some x) (hj:X.N[j]?=some y) (hij:i≠j)
  (hx:X.env.scope.names.lookup x=some .local) (hy:X.env.scope.names.lookup y=some .local) (ha:PA X [a,b] ta)
  (hw:swappedStores [.Tuple [.Name x px,.Name y py] kt pt] (.Tuple [a,b] k2 pt2) X.env=pure (some [x,y]))
  (hs:swapsWithSole [.Tuple [.Name x px,.Name y py] kt pt] (.Tuple [a,b] k2 pt2) pos.line X.env=pure false:=by rfl) :
  PS X (.Assign [.Tuple [.Name x px,.Name y py] kt pt] (.Tuple [a,b] k2 pt2) pos) (tPar i j ta):=by
 intro pins s σ H D I h
 rw [exec_Assign_arm]
 refine wpAny_bind (wpAny_standAt ?_)
 rw [hs]
 refine wpAny_bind (wpAny_pure ?_)
 rw [if_neg (by decide)]
 refine wpAny_bind (Tuple_ (thn (ha _ pins s σ H _ I h) fun us s1 ⟨vs,H1,I1,r1,q1⟩=>?_))
 obtain ⟨v,w,e1,q1⟩:=q1
 subst e1
 obtain ⟨u1,u2,rfl,rv,rw'⟩:∃ u1 u2,us=[u1,u2]∧RelV v u1∧RelV w u2:=by
  cases r1 with
  | cons p q =>
   cases q with
   | cons p' q' =>
    cases q'
    exact ⟨_,_,rfl,p,p'⟩
 refine wpAny_newObj_type ?_ (by show 2≤sizeLine; decide)
 have I2:Inv X pins σ H1 { s1 with heap:=s1.heap.push { cls:=.type "tuple",data:=.seq [u1,u2].toArray } }:=I1.kept (t':=s1.toks) fun b o e=>Heap.get?_push_of_some _ e
 rw [hw]
 refine wpAny_bind (wpAny_pure ?_)
 show wpAny (model X.prog X.w) X.A (do rule "assign.swapped-stores"; let items ← unpackItems (.ref s1.heap.objs.size) 2 none; assignInOrder [fun v=>bindName X.env y v,fun v=>bindName X.env x v] items.reverse; pure Flow.next) _ _ _
 refine wpAny_bind (wpAny_rule (wpAny_bind (unpackItems_tuple (items:=#[u1,u2]) (I.ok.hd hc) (IsTup.new s1.heap _) fun h' hx'=>?_)))
 have I3:=I2.kept (h':=h') (t':=s1.toks) fun b o e=>hx' b o (Nat.ne_of_lt (Heap.lt_size e)) e
 show wpAny _ _ (assignInOrder [fun v=>bindName X.env y v,fun v=>bindName X.env x v] [u2,u1] >>= fun _=>pure Flow.next) _ _ _
 refine wpAny_bind (assignInOrder_cons (wpAny_bindName (store_ok I3 hN hj (.inl hy) rw' (fun s2 I4=>?_) (.inr hy))))
 refine assignInOrder_cons (wpAny_bindName (store_ok I4 hN hi (.inl hx) rv (fun s3 I5=>assignInOrder_nil (wpAny_pure ?_)) (.inr hx)))
 rw [List.set_comm _ _ (Ne.symm hij)] at I5
 exact ⟨_,H1,I5,q1⟩
inductive ipI (f:Int→Int→Int) (x:V) (y:V) (H:Hp) (Q:VK):Prop
 | mk (i:_) (j:_) (_:x=.int i) (_:y=.int j) (_:Q (.int (f i j)) H):ipI f x y H Q
theorem ip_add:PIp X .Add (ipI fun i j=>i + j):=by
 intro pins s σ H x y v u Q I r1 r2 h
 obtain ⟨i,j,e1,e2,q⟩:=h
 subst e1; subst e2
 obtain ⟨t,rfl⟩:=r1
 obtain ⟨t',rfl⟩:=r2
 exact iadd_int ⟨.int _,H,I.tok _,⟨_,rfl⟩,q⟩
end
structure It where
 go:Nat→Hp→Prop
 yld:Nat→Hp→V→Hp→Prop
 stop:Nat→Hp→Prop
def FpOk (X:Cx) (pins:List (Addr×Obj)) (H:Hp) (b:Addr):Prop :=
 H b=none∧b≠X.env.locals∧b ∉ X.fs∧(b∈X.ex ∨ X.s₀.heap.objs.size≤b)∧(∀ x c,X.env.cells.lookup x=some c→c≠b)∧∀ p∈X.pn++pins,p.1≠b
theorem Inv.fpOk {X:Cx} {pins:List (Addr×Obj)} {σ:St} {H H':Hp} {s:Shared} {b:Addr} (I:Inv X pins σ H s) (hb:s.heap.objs.size≤b) (hn:H' b=none):FpOk X pins H' b:=by
 refine ⟨hn,Nat.ne_of_gt (Nat.lt_of_lt_of_le I.lt hb),I.nofs hb,.inr (Nat.le_trans I.sz hb),fun x c e z=>?_,fun p hp z=>?_⟩
 ·obtain ⟨v,q⟩:=I.cell x c e
  exact absurd (Nat.lt_of_lt_of_le q.lt (by rw [z]; exact hb)) (Nat.lt_irrefl _)
 ·exact absurd (Nat.lt_of_lt_of_le (Heap.lt_size (I.pin p hp).1) (by rw [z]; exact hb)) (Nat.lt_irrefl _)
structure Turn (P:Program) (w:World) (K:PySem.W.Frag) (tg:Expr) (J:It) (fp:List Addr) (it:Addr) (tn:Nat→Heap→Prop):Prop where
 mem:it∈fp
 obj:∀ i h,tn i h→∀ b∈fp,∃ o,h.get? b=some o∧∀ v,o.data≠.cell v
 keep:∀ i h h',tn i h→(∀ b∈fp,∀ o,h.get? b=some o→h'.get? b=some o)→tn i h'
 item:∀ (X:Cx),X.prog=P→X.w=w→X.K=K→X.calm=true→∀ (i:Nat) (pins:List (Addr×Obj)) (s:Shared) (σ:St) (H:Hp) (E:Value→Shared→Prop),Inv X pins σ H s→(∀ b∈fp,FpOk X pins H b)→tn i s.heap→J.go i H →
  wpAny (model P w) X.A (pyNext (.ref it)) (fun r s1=>∃ u,r=some u ∧
   wpAny (model P w) X.A (letOwnedTupleGo tg (.ref it) u) (fun _ s2=>∃ x H',Inv X pins σ H' s2∧RelV x u∧J.yld i H x H'∧tn (i + 1) s2.heap∧∀ b∈fp,H' b=none) E s1) E s
 done:∀ (X:Cx),X.prog=P→X.w=w→X.K=K→X.calm=true→∀ (i:Nat) (pins:List (Addr×Obj)) (s:Shared) (σ:St) (H:Hp) (E:Value→Shared→Prop),Inv X pins σ H s→(∀ b∈fp,FpOk X pins H b)→tn i s.heap→J.stop i H →
  wpAny (model P w) X.A (pyNext (.ref it)) (fun r s1=>r=none∧Inv X pins σ H s1) E s
 self:∀ (A:Around) (i:Nat) (s:Shared) (Q:Value→Shared→Prop) (E:Value→Shared→Prop),tn i s.heap→Q (.ref it) s→wpAny (model P w) A (pyIter (.ref it)) Q E s
abbrev TI:=St→Hp→(It→Hp→Prop)→Prop
inductive PIE (X:Cx) (pins:List (Addr×Obj)) (σ:St) (tg:Expr) (R:It→Hp→Prop) (itv:Value) (s2:Shared):Prop
 | mk (it:Addr) (fp:List Addr) (tn:Nat→Heap→Prop) (J:It) (H':Hp) (_:itv=.ref it) (_:Inv X pins σ H' s2) (_:Turn X.prog X.w X.K tg J fp it tn) (_:tn 0 s2.heap) (_:(∀ b∈fp,FpOk X pins H' b)) (_:R J H'):PIE X pins σ tg R itv s2
def PI (X:Cx) (tg iter:Expr) (wi:TI):Prop :=
 ∀ (pins:List (Addr×Obj)) (s:Shared) (σ:St) (H:Hp) (R:It→Hp→Prop),Inv X pins σ H s→wi σ H R →
  wpAny (model X.prog X.w) X.A (eval iter X.env) (fun v s1=>wpAny (model X.prog X.w) X.A (pyIter v) (PIE X pins σ tg R) X.xe s1) X.xe s
theorem go_of {M : Model} {A : Around} {E : Value → Shared → Prop} {s : Shared} {tg : Expr} {it : Addr} {u : Value} {o : Obj} {n : String} {vs : Array Value} {Q : Unit → Shared → Prop} (ho : s.heap.get? it = some o) (hc : o.cls = .type n) (hd : o.data = .fields vs)
    (hn : ["enumerate", "zip", "dict_itemiterator", "dict_reverseitemiterator", "odict_iterator", "itertools.zip_longest", "itertools.pairwise"].contains n = false) (hQ : Q () s) : wpAny M A (letOwnedTupleGo tg (.ref it) u) Q E s := by
  unfold letOwnedTupleGo
  cases tg <;> first
    | exact wpAny_pure hQ
    | (cases u <;> first
        | exact wpAny_pure hQ
        | (refine wpAny_bind (wpAny_load ho ?_)
           rw [hc, hd]
           show wpAny M A (if (["enumerate", "zip", "dict_itemiterator", "dict_reverseitemiterator", "odict_iterator", "itertools.zip_longest", "itertools.pairwise"].contains n && vs[0]? == some (rawInt _)) = true then _ else _) Q E s
           rw [if_neg (by intro h; rw [hn, Bool.false_and] at h; cases h)]
           exact wpAny_pure hQ))
def Itl (K:PySem.W.Frag) (a:Addr):It :=
 ⟨fun i H=>∃ xs x,SqL K H a xs∧xs[i]?=some x,fun i H x H'=>H'=H∧∀ xs,SqL K H a xs→xs[i]?=some x,fun i H=>∃ xs,SqL K H a xs∧xs.length≤i⟩
def Itt (K:PySem.W.Frag) (a:Addr):It :=
 ⟨fun i H=>∃ xs x,SqT K H a xs∧xs[i]?=some x,fun i H x H'=>H'=H∧∀ xs,SqT K H a xs→xs[i]?=some x,fun i H=>∃ xs,SqT K H a xs∧xs.length≤i⟩
def Itr (lo:Int) (n:Nat):It:=⟨fun i _=>i < n,fun i H x H'=>H'=H∧x=.int (lo + i),fun i _=>n≤i⟩
theorem turn_list {P:Program} {w:World} {K:PySem.W.Frag} {tg:Expr} (a it:Addr):Turn P w K tg (Itl K a) [it] it (fun i h=>h.IsListIter it a i) where
 mem:=by simp
 obj:=fun i h st b hb=>by
  have e:b=it:=by simpa using hb
  subst e
  obtain ⟨o,e,c,d⟩:=st
  exact ⟨o,e,fun v z=>by rw [d] at z; cases z⟩
 keep:=fun i h h' st k=>st.at fun o e=>k it (by simp) o e
 item:=by
  intro X hP hw hK hc i pins s σ H E I hf st hg
  subst hP hw hK
  obtain ⟨xs,x,hq,hx⟩:=hg
  obtain ⟨its,rv,p,hz⟩:=I.list hq
  obtain ⟨u,hu,ru⟩:=rv.get hx
  obtain ⟨f0,f1,f2,f3,f4,f5⟩:=hf it (by simp)
  refine wpAny_pyNext_list_item st p.isList (x:=u) (by simpa using hu) fun h' st' sb=>?_
  have I1:Inv X pins σ H { s with heap:=h' }:=I.turned (t':=s.toks) (fun b o hb e=>(sb.2 b hb).trans e) f0 f1 f3 f4 f5
  obtain ⟨o,e,c,d⟩:=id st'
  exact ⟨u,rfl,go_of (s:={ s with heap:=h' }) e c d (by decide) ⟨x,H,I1,ru,⟨rfl,fun ys hy=>by rw [I.list_inj hy hq]; exact hx⟩,st',fun b hb=>(hf b hb).1⟩⟩
 done:=by
  intro X hP hw hK hc i pins s σ H E I hf st hg
  subst hP hw hK
  obtain ⟨xs,hq,hx⟩:=hg
  obtain ⟨its,rv,p,hz⟩:=I.list hq
  obtain ⟨f0,f1,f2,f3,f4,f5⟩:=hf it (by simp)
  have hl:=rv.length
  exact wpAny_pyNext_list_end (I.ok.hd hc) st p.isList (by simp; lia) fun h' eb=>⟨rfl,I.turned (t':=s.toks) (fun b o hb e=>eb b o hb e) f0 f1 f3 f4 f5⟩
 self:=fun _ _ _ _ _ st h=>wpAny_pyIter_listiter st h
theorem turn_tuple {P:Program} {w:World} {K:PySem.W.Frag} {tg:Expr} (a it:Addr):Turn P w K tg (Itt K a) [it] it (fun i h=>h.IsTupleIter it a i) where
 mem:=by simp
 obj:=fun i h st b hb=>by
  have e:b=it:=by simpa using hb
  subst e
  obtain ⟨o,e,c,d⟩:=st
  exact ⟨o,e,fun v z=>by rw [d] at z; cases z⟩
 keep:=fun i h h' st k=>st.at fun o e=>k it (by simp) o e
 item:=by
  intro X hP hw hK hc i pins s σ H E I hf st hg
  subst hP hw hK
  obtain ⟨xs,x,hq,hx⟩:=hg
  obtain ⟨its,rv,p,hz⟩:=I.tuple hq
  obtain ⟨u,hu,ru⟩:=rv.get hx
  obtain ⟨f0,f1,f2,f3,f4,f5⟩:=hf it (by simp)
  refine wpAny_pyNext_tuple_item st (show s.heap.IsTuple a its.toArray from p) (x:=u) (by simpa using hu) fun h' st' sb=>?_
  have I1:Inv X pins σ H { s with heap:=h' }:=I.turned (t':=s.toks) (fun b o hb e=>(sb.2 b hb).trans e) f0 f1 f3 f4 f5
  obtain ⟨o,e,c,d⟩:=id st'
  exact ⟨u,rfl,go_of (s:={ s with heap:=h' }) e c d (by decide) ⟨x,H,I1,ru,⟨rfl,fun ys hy=>by rw [I.tuple_inj hy hq]; exact hx⟩,st',fun b hb=>(hf b hb).1⟩⟩
 done:=by
  intro X hP hw hK hc i pins s σ H E I hf st hg
  subst hP hw hK
  obtain ⟨xs,hq,hx⟩:=hg
  obtain ⟨its,rv,p,hz⟩:=I.tuple hq
  obtain ⟨f0,f1,f2,f3,f4,f5⟩:=hf it (by simp)
  have hl:=rv.length
  exact wpAny_pyNext_tuple_end (I.ok.hd hc) st (show s.heap.IsTuple a its.toArray from p) (by simp; lia) fun h' eb=>⟨rfl,I.turned (t':=s.toks) (fun b o hb e=>eb b o hb e) f0 f1 f3 f4 f5⟩
 self:=fun _ _ _ _ _ st h=>wpAny_pyIter_tupleiter st h
theorem turn_range {P:Program} {w:World} {K:PySem.W.Frag} {tg:Expr} (it:Addr) (lo:Int) (n:Nat):Turn P w K tg (Itr lo n) [it] it (fun i h=>IsRangeIter h it (lo + (i:Nat) * 1) ((n:Int) - (i:Nat)) 1) where
 mem:=by simp
 obj:=fun i h st b hb=>by
  have e:b=it:=by simpa using hb
  subst e
  exact ⟨_,st,fun v z=>by
   have z':Data.fields _=Data.cell v:=z
   cases z'⟩
 keep:=fun i h h' st k=>k it (by simp) _ st
 item:=by
  intro X hP hw hK hc i pins s σ H E I hf st hg
  subst hP hw hK
  obtain ⟨f0,f1,f2,f3,f4,f5⟩:=hf it (by simp)
  have W:=Walks.range (prog:=X.prog) (w:=X.w) (I.ok.hd hc) it lo 1 n
  refine W.item i s _ _ hg st fun v h' tk hv st' kk=>?_
  obtain ⟨t,rfl⟩:=hv
  have I1:Inv X pins σ H { s with heap:=h',toks:=tk }:=I.turned (fun b o hb e=>kk b o (by simpa using hb) e) f0 f1 f3 f4 f5
  refine ⟨_,rfl,go_of (s:={ s with heap:=h',toks:=tk }) (n:="range_iterator") st' rfl rfl (by decide) ⟨.int (lo + i),H,I1,⟨t,?_⟩,⟨rfl,rfl⟩,st',fun b hb=>(hf b hb).1⟩⟩
  rw [Int.mul_one]
 done:=by
  intro X hP hw hK hc i pins s σ H E I hf st hg
  subst hP hw hK
  obtain ⟨f0,f1,f2,f3,f4,f5⟩:=hf it (by simp)
  exact wpAny_pyNext_range_end (I.ok.hd hc) st (by have:n≤i:=hg; lia) fun h' eb=>⟨rfl,I.turned (t':=s.toks) (fun b o hb e=>eb b o hb e) f0 f1 f3 f4 f5⟩
 self:=fun _ _ _ _ _ st h=>wpAny_pyIter_rangeiter st h
end L2
namespace L2
open PySem PySem.Spec PyProof.Rows
section
variable {X:Cx}{tg:Expr}
theorem range_it {pins:List (Addr×Obj)} {σ:St} {H:Hp} {s:Shared} {R:It→Hp→Prop} {E:Value→Shared→Prop} {lo hi:Int} {t u v:Tok} {tk:Nat} (I:Inv X pins σ H s) (h1:-(2 ^ 62)≤lo) (h2:lo < 2 ^ 62) (h3:-(2 ^ 62)≤hi) (h4:hi < 2 ^ 62)
  (q:R (Itr lo (hi - lo).toNat) H):wpAny (model X.prog X.w) X.A (pyIter (.ref s.heap.objs.size)) (PIE X pins σ tg R) E { s with heap:=s.heap.push { cls:=.type "range",data:=.fields #[.int lo t,.int hi u,.int 1 v] },toks:=tk }:=by
 refine wpAny_pyIter_range (IsRange.new ..) (small_one h1 h2 h3 h4) ?_
 have I1:Inv X pins σ H { s with heap:=s.heap.push { cls:=.type "range",data:=.fields #[.int lo t,.int hi u,.int 1 v] },toks:=tk }:=I.kept fun b o e=>Heap.get?_push_of_some _ e
 refine ⟨(s.heap.push { cls:=.type "range",data:=.fields #[.int lo t,.int hi u,.int 1 v] }).objs.size,[(s.heap.push { cls:=.type "range",data:=.fields #[.int lo t,.int hi u,.int 1 v] }).objs.size],_,_,H,rfl,
  I1.kept (t':=tk) fun b o e=>Heap.get?_push_of_some _ e,turn_range _ lo (hi - lo).toNat,?_,fun b hb=>?_,q⟩
 ·have e1:lo + ((0:Nat):Int) * 1=lo:=by simp
  have e2:(((hi - lo).toNat:Nat):Int) - ((0:Nat):Int)=Builtin.Range.rangeSize lo hi 1:=by rw [rangeSize_one]; split <;> lia
  show IsRangeIter _ _ (lo + ((0:Nat):Int) * 1) ((((hi - lo).toNat:Nat):Int) - ((0:Nat):Int)) 1
  rw [e1,e2]
  exact Heap.get?_push_size _ rfl
 ·have e:b=(s.heap.push { cls:=.type "range",data:=.fields #[.int lo t,.int hi u,.int 1 v] }).objs.size:=by simpa using hb
  subst e
  exact I1.fpOk (Nat.le_refl _) (I1.hok.fresh (Nat.le_refl _))
def iRng1 (ta:TA):TI:=fun σ H R=>ta σ H fun vs H1=>∃ j:Int,vs=[.int j]∧-(2 ^ 62)≤j∧j < 2 ^ 62∧R (Itr 0 j.toNat) H1
def iRng2 (ta:TA):TI:=fun σ H R=>ta σ H fun vs H1=>∃ i j:Int,vs=[.int i,.int j]∧(-(2 ^ 62)≤i∧i < 2 ^ 62∧-(2 ^ 62)≤j∧j < 2 ^ 62)∧R (Itr i (j - i).toNat) H1
theorem pi_range1 {a:Expr} {ta:TA} {p pos:Pos} (hg:Gl X "range") (hm:X.mg "range" = none) (ha:PA X [a] ta) (hs:starEach [a] X.env=[(false,eval a X.env)]:=by rfl):PI X tg (.Call (.Name "range" p) [a] [] pos) (iRng1 ta):=by
 intro pins s σ H R I h
 refine Call_ (ld_blt I hg hm boot_range (PyProof.Rows.callWith_type1 (thn (ha pos pins s σ H _ I h) fun us s1 ⟨vs,H1,I1,r1,q1⟩=>?_) hs rfl))
 obtain ⟨j,e,q1,q2,q⟩:=q1
 subst e
 cases r1 with
 | cons r rr =>
  cases rr
  obtain ⟨t,rfl⟩:=r
  exact call_range_1 (range_it I1 (by lia) (by lia) q1 q2 (by simpa using q))
theorem pi_range2 {a b:Expr} {ta:TA} {p pos:Pos} (hg:Gl X "range") (hm:X.mg "range" = none) (ha:PA X [a,b] ta) (hs:starEach [a,b] X.env=[(false,eval a X.env),(false,eval b X.env)]:=by rfl) (hs2:starEach [b] X.env=[(false,eval b X.env)]:=by rfl) :
  PI X tg (.Call (.Name "range" p) [a,b] [] pos) (iRng2 ta):=by
 intro pins s σ H R I h
 refine Call_ (ld_blt I hg hm boot_range (PyProof.Rows.callWith_type1 (thn (ha pos pins s σ H _ I h) fun us s1 ⟨vs,H1,I1,r1,q1⟩=>?_) (by rw [hs,hs2]) (by rw [hs2]; rfl)))
 obtain ⟨i,j,e,⟨q1,q2,q3,q4⟩,q⟩:=q1
 subst e
 cases r1 with
 | cons r rr =>
  cases rr with
  | cons r' rr =>
   cases rr
   obtain ⟨t,rfl⟩:=r
   obtain ⟨t',rfl⟩:=r'
   exact call_range_2 (range_it I1 q1 q2 q3 q4 q)
def tFor (wi:TI) (g:TG) (tb:TS):TS:=fun D σ H=>wi σ H fun J H1=>∃ W:Nat→Nat→St→Hp→Prop,(∃ m,W 0 m σ H1)∧∀ i m σ H,W i m σ H →
 (J.stop i H∧D.nx σ H) ∨ (J.go i H∧∃ N:St→Hp→Prop,(∀ σ' H',N σ' H'→∃ m',m' < m∧W (i + 1) m' σ' H')∧∀ x H',J.yld i H x H'→g x σ H' fun σ2 H2=>tb { D with nx:=N,ct:=N,bk:=D.nx } σ2 H2)
def pinsAt (fp:List Addr) (h:Heap):List (Addr×Obj):=fp.filterMap fun b=>(h.get? b).map fun o=>(b,o)
theorem mem_pinsAt {fp:List Addr} {h:Heap} {b:Addr} {o:Obj} (hb:b∈fp) (e:h.get? b=some o):(b,o)∈pinsAt fp h:=List.mem_filterMap.mpr ⟨b,hb,by rw [e]; rfl⟩
theorem of_pinsAt {fp:List Addr} {h:Heap} {p:Addr×Obj} (hp:p∈pinsAt fp h):p.1∈fp∧h.get? p.1=some p.2:=by
 obtain ⟨b,hb,e⟩:=List.mem_filterMap.mp hp
 cases q:h.get? b with
 | none=>rw [q] at e; cases e
 | some o =>
  rw [q] at e
  have e':(b,o)=p:=Option.some.inj e
  subst e'
  exact ⟨hb,q⟩
theorem Inv.pinned {pins:List (Addr×Obj)} {σ:St} {H:Hp} {s:Shared} {fp:List Addr} (I:Inv X pins σ H s) (hf:∀ b∈fp,FpOk X pins H b) (ho:∀ b∈fp,∃ o,s.heap.get? b=some o∧∀ v,o.data≠.cell v):Inv X (pins++pinsAt fp s.heap) σ H s :=
 I.pins_of fun p hp=>(List.mem_append.mp hp).elim (fun z=>I.pin p (List.mem_append_right _ z)) fun z=>by
  obtain ⟨hb,e⟩:=of_pinsAt z
  obtain ⟨f0,f1,f2,_⟩:=hf p.1 hb
  obtain ⟨o,e',d⟩:=ho p.1 hb
  rw [e] at e'; cases e'
  exact ⟨e,f0,f1,f2,d⟩
theorem Inv.unpinned {pins pl:List (Addr×Obj)} {σ:St} {H:Hp} {s:Shared} (I:Inv X (pins++pl) σ H s):Inv X pins σ H s:=I.pins_of fun p hp=>I.pin p (List.mem_append_right _ (List.mem_append_left _ hp))
theorem ps_for {iter:Expr} {body:List Stmt} {wi:TI} {g:TG} {tb:TS} {pos:Pos} (hp:PassesOwn (model X.prog X.w) X.A X.env X.xe) (hc:X.calm=true) (hi:PI X tg iter wi) (hg:PG X tg g) (hb:PSs X body tb)
  (hs:∀ x,foldedSetIterable iter X.env x=pure x:=by intro _; rfl):PS X (.For tg iter body [] pos) (tFor wi g tb):=by
 intro pins s σ H D I h
 refine wpAny_For (thn (hi pins s σ H _ I h) fun v s1 h1=>thn h1 fun itv s2 h2=>?_) hs
 obtain ⟨it,fp,tn,J,H2,e,I2,T,st2,f2,W,⟨m0,w0⟩,turn⟩:=h2
 subst e
 -- what stays true of the iterator's objects through the loop
 have stat:∀ {H':Hp},(∀ b∈fp,H' b=none)→∀ b∈fp,FpOk X pins H' b:=fun hn b hb=>⟨hn b hb,(f2 b hb).2⟩
 refine codeAny_forLoop_any (fun n s'=>∃ i σ' H',Inv X pins σ' H' s'∧tn i s'.heap∧(∀ b∈fp,H' b=none)∧W i n σ' H') ?_ m0 ⟨0,σ,H2,I2,st2,fun b hb=>(f2 b hb).1,w0⟩
 rintro n s3 ⟨i,σ3,H3,I3,st3,fr3,w3⟩
 rcases turn i n σ3 H3 w3 with ⟨stop,qn⟩ | ⟨go,N,hN,step⟩
 ·refine wpAny_passesOwn hp (thn (T.done X rfl rfl rfl hc i pins s3 σ3 H3 X.xe I3 (stat fr3) st3 stop) fun r s4 ⟨hr,I4⟩=>?_)
  subst hr
  exact wpAny_execs_nil ⟨σ3,H3,I4,qn⟩
 ·refine wpAny_passesOwn hp (thn (T.item X rfl rfl rfl hc i pins s3 σ3 H3 X.xe I3 (stat fr3) st3 go) fun r s4 ⟨u,hr,h4⟩=>?_)
  subst hr
  refine wpAny_passesOwn hp (thn h4 fun _ s5 ⟨x,H5,I5,r5,y5,st5,fr5⟩=>?_)
  have I5':=I5.pinned (stat fr5) (T.obj _ _ st5)
  refine wpAny_passesOwn hp (thn (hg _ s5 σ3 H5 x u _ I5' r5 (step x H5 y5)) fun _ s6 ⟨σ6,H6,I6,q6⟩=>?_)
  refine wpAny_passesOwn hp (thn (hb _ s6 σ6 H6 _ I6 q6) fun f s7 q7=>?_)
  have again:∀ {σ7:St} {H7:Hp},Inv X (pins++pinsAt fp s5.heap) σ7 H7 s7→N σ7 H7→∃ m,m < n∧∃ i σ' H',Inv X pins σ' H' s7∧tn i s7.heap∧(∀ b∈fp,H' b=none)∧W i m σ' H':=fun {σ7 H7} I7 n7=>by
   obtain ⟨m',hm,w7⟩:=hN σ7 H7 n7
   refine ⟨m',hm,i + 1,σ7,H7,I7.unpinned,T.keep _ _ _ st5 fun b hb o e=>(I7.pin (b,o) (List.mem_append_right _ (List.mem_append_right _ (mem_pinsAt hb e)))).1,fun b hb=>?_,w7⟩
   obtain ⟨o,e,d⟩:=T.obj _ _ st5 b hb
   exact (I7.pin (b,o) (List.mem_append_right _ (List.mem_append_right _ (mem_pinsAt hb e)))).2.1
  cases f with
  | next=>obtain ⟨σ7,H7,I7,n7⟩:=q7; exact again I7 n7
  | cont=>obtain ⟨σ7,H7,I7,n7⟩:=q7; exact again I7 n7
  | brk=>obtain ⟨σ7,H7,I7,q7⟩:=q7; exact ⟨σ7,H7,I7.unpinned,q7⟩
  | ret v=>obtain ⟨x7,σ7,H7,I7,r7,q7⟩:=q7; exact ⟨x7,σ7,H7,I7.unpinned,r7,q7⟩
end
end L2
namespace L2
open PySem PySem.Spec PyProof.Rows
abbrev R2:=V→V→Hp→VK→Prop
def OpR (X:Cx) (f:Value→Value→Sem Value) (r:R2):Prop :=
 ∀ (pins:List (Addr×Obj)) (s:Shared) (σ:St) (H:Hp) (x y:V) (v u:Value) (Q:VK),Inv X pins σ H s→RelV x v→RelV y u→r x y H Q →
  wpAny (model X.prog X.w) X.A (f v u) (EP X pins σ Q) X.xe s
def UnR (X:Cx) (f:Value→Sem Value) (r:V→Hp→VK→Prop):Prop :=
 ∀ (pins:List (Addr×Obj)) (s:Shared) (σ:St) (H:Hp) (x:V) (v:Value) (Q:VK),Inv X pins σ H s→RelV x v→r x H Q →
  wpAny (model X.prog X.w) X.A (f v) (EP X pins σ Q) X.xe s
def CallR (X:Cx) (f:Value) (r:List V→Hp→VK→Prop):Prop :=
 ∀ (pins:List (Addr×Obj)) (s:Shared) (σ:St) (H:Hp) (xs:List V) (us:List Value) (Q:VK),Inv X pins σ H s→Vals xs us→r xs H Q →
  wpAny (model X.prog X.w) X.A (call f us) (EP X pins σ Q) X.xe s
def TruR (X:Cx) (r:V→Hp→(Bool→Hp→Prop)→Prop):Prop :=
 ∀ (pins:List (Addr×Obj)) (s:Shared) (σ:St) (H:Hp) (x:V) (v:Value) (Q:Bool→Hp→Prop),Inv X pins σ H s→RelV x v→r x H Q →
  wpAny (model X.prog X.w) X.A (truthy v) (TP X pins σ Q) X.xe s
def tOp (r:R2) (ta tb:TE):TE:=fun σ H Q=>ta σ H fun x H1=>tb σ H1 fun y H2=>r x y H2 Q
def tUn (r:V→Hp→VK→Prop) (ta:TE):TE:=fun σ H Q=>ta σ H fun x H1=>r x H1 Q
inductive rI (C:Int→Int→Prop) (g:Int→Int→V) (x:V) (y:V) (H:Hp) (Q:VK):Prop
 | mk (i:_) (j:_) (_:x=.int i) (_:y=.int j) (_:C i j) (_:Q (g i j) H):rI C g x y H Q
inductive rI0 (g:Int→Int→V) (x:V) (y:V) (H:Hp) (Q:VK):Prop
 | mk (i:_) (j:_) (_:x=.int i) (_:y=.int j) (_:Q (g i j) H):rI0 g x y H Q
inductive rU (g:Int→V) (x:V) (H:Hp) (Q:VK):Prop
 | mk (i:_) (_:x=.int i) (_:Q (g i) H):rU g x H Q
section
variable {X:Cx}{a b:Expr}{ta tb:TE}{pos:Pos}
theorem binT (ha:PE X a ta) (hb:PE X b tb) {pins:List (Addr×Obj)} {s:Shared} {σ:St} {H:Hp} {R:V→V→Hp→Prop} (I:Inv X pins σ H s)
  (h:ta σ H fun x H1=>tb σ H1 fun y H2=>R x y H2) {Q:Value→Shared→Prop} {f:Value→Value→Sem Value}
  (hf:∀ v u s2 x y H2,Inv X pins σ H2 s2→RelV x v→RelV y u→R x y H2→wpAny (model X.prog X.w) X.A (f v u) Q X.xe s2) :
  wpAny (model X.prog X.w) X.A (eval a X.env) (fun v s₁=>wpAny (model X.prog X.w) X.A (eval b X.env) (fun u s₂=>wpAny (model X.prog X.w) X.A (f v u) Q X.xe s₂) X.xe s₁) X.xe s:=by
 refine thn (ha pins s σ H _ I h) fun v s1 q1=>?_; obtain ⟨x,H1,I1,r1,q1⟩:=q1
 refine thn (hb pins s1 σ H1 _ I1 q1) fun u s2 q2=>?_; obtain ⟨y,H2,I2,r2,q2⟩:=q2
 exact hf v u s2 x y H2 I2 r1 r2 q2
theorem pe_op {op:Operator} {r:R2} (ho:OpR X (binaryOp op) r) (ha:PE X a ta) (hb:PE X b tb):PE X (.BinOp a op b pos) (tOp r ta tb):=by
 intro pins s σ H Q I h
 exact wpAny_BinOp (binT ha hb I h fun v u s2 x y H2 I2 rx ry q=>ho pins s2 σ H2 x y v u Q I2 rx ry q)
theorem pe_un {op:UnaryOp} {r:V→Hp→VK→Prop} (ho:UnR X (unaryOp op) r) (ha:PE X a ta):PE X (.UnaryOp op a pos) (tUn r ta):=by
 intro pins s σ H Q I h
 exact UnaryOp_ (thn (ha pins s σ H _ I h) fun v s1 q1=>by obtain ⟨x,H1,I1,r1,q1⟩:=q1; exact ho pins s1 σ H1 x v Q I1 r1 q1)
theorem opI {f:Value→Value→Sem Value} {C:Int→Int→Prop} {g:Int→Int→Int}
  (rule:∀ (i j:Int) (t u:Tok) (s:Shared) (Q:Value→Shared→Prop) (E:Value→Shared→Prop),C i j→Q (.int (g i j) s.toks) { s with toks:=s.toks + 1 }→wpAny (model X.prog X.w) X.A (f (.int i t) (.int j u)) Q E s) :
  OpR X f (rI C fun i j=>.int (g i j)):=by
 intro pins s σ H x y v u Q I rx ry h
 obtain ⟨i,j,rfl,rfl,hc,q⟩:=h
 obtain ⟨t,rfl⟩:=rx
 obtain ⟨t',rfl⟩:=ry
 exact rule i j t t' s _ _ hc ⟨.int (g i j),H,I.tok _,⟨_,rfl⟩,q⟩
theorem opI0 {f:Value→Value→Sem Value} {g:Int→Int→Int}
  (rule:∀ (i j:Int) (t u:Tok) (s:Shared) (Q:Value→Shared→Prop) (E:Value→Shared→Prop),Q (.int (g i j) s.toks) { s with toks:=s.toks + 1 }→wpAny (model X.prog X.w) X.A (f (.int i t) (.int j u)) Q E s) :
  OpR X f (rI0 fun i j=>.int (g i j)):=by
 intro pins s σ H x y v u Q I rx ry h
 obtain ⟨i,j,rfl,rfl,q⟩:=h
 obtain ⟨t,rfl⟩:=rx
 obtain ⟨t',rfl⟩:=ry
 exact rule i j t t' s _ _ ⟨.int (g i j),H,I.tok _,⟨_,rfl⟩,q⟩
theorem opB0 {f:Value→Value→Sem Value} {g:Int→Int→Bool}
  (rule:∀ (i j:Int) (t u:Tok) (s:Shared) (Q:Value→Shared→Prop) (E:Value→Shared→Prop),Q (.bool (g i j)) s→wpAny (model X.prog X.w) X.A (f (.int i t) (.int j u)) Q E s) :
  OpR X f (rI0 fun i j=>.bl (g i j)):=by
 intro pins s σ H x y v u Q I rx ry h
 obtain ⟨i,j,rfl,rfl,q⟩:=h
 obtain ⟨t,rfl⟩:=rx
 obtain ⟨t',rfl⟩:=ry
 exact rule i j t t' s _ _ ⟨.bl (g i j),H,I,rfl,q⟩
def CDiv (i j:Int):Prop:=0 < j∧j < 1073741824
def CPow (i j:Int):Prop:=0≤j∧j≤1000000∧i.natAbs < 2 ^ 64
def CMul (i j:Int):Prop:=(-(2 ^ 64) < i∧i < 2 ^ 64) ∨ (-(2 ^ 64) < j∧j < 2 ^ 64)
theorem CMul.ok {i j:Int} (h:CMul i j):IntMulOk i j:=by
 rcases h with ⟨h1,h2⟩ | ⟨h1,h2⟩
 ·exact .of_left (intBits_le_64 h1 h2)
 ·exact .of_right (intBits_le_64 h1 h2)
theorem op_add:OpR X (binaryOp .Add) (rI0 fun i j=>.int (i + j)):=opI0 fun _ _ _ _ _ _ _ q=>add_int q
theorem op_sub:OpR X (binaryOp .Sub) (rI0 fun i j=>.int (i - j)):=opI0 fun _ _ _ _ _ _ _ q=>sub_int q
theorem op_mul:OpR X (binaryOp .Mult) (rI CMul fun i j=>.int (i * j)):=opI fun _ _ _ _ _ _ _ hc q=>mul_int q hc.ok
theorem op_fdiv:OpR X (binaryOp .FloorDiv) (rI CDiv fun i j=>.int (i / j)):=opI fun i j _ _ _ _ _ hc q=>by
 have h1:(0:Int) < j:=hc.1
 have h2:j < 1073741824:=hc.2
 exact floordiv_int (by lia) (by rw [Int.fdiv_eq_ediv_of_nonneg i (by lia)]; exact q) (.inl (PyProof.noPylong_small (by lia)))
theorem op_mod:OpR X (binaryOp .Mod) (rI (fun _ j=>0 < j) fun i j=>.int (i % j)):=opI fun i j _ _ _ _ _ hc q=>by
 have h1:(0:Int) < j:=hc
 exact mod_int' (by lia) (by rw [Int.fmod_eq_emod_of_nonneg i (by lia)]; exact q)
theorem op_pow:OpR X (binaryOp .Pow) (rI CPow fun i j=>.int (i ^ j.toNat)):=opI fun _ _ _ _ _ _ _ hc q=>pow_int_small hc.1 hc.2.1 hc.2.2 q
theorem unI {f:Value→Sem Value} {g:Int→Int}
  (rule:∀ (i:Int) (t:Tok) (s:Shared) (Q:Value→Shared→Prop) (E:Value→Shared→Prop),Q (.int (g i) s.toks) { s with toks:=s.toks + 1 }→wpAny (model X.prog X.w) X.A (f (.int i t)) Q E s) :
  UnR X f (rU fun i=>.int (g i)):=by
 intro pins s σ H x v Q I rx h
 obtain ⟨i,rfl,q⟩:=h
 obtain ⟨t,rfl⟩:=rx
 exact rule i t s _ _ ⟨.int (g i),H,I.tok _,⟨_,rfl⟩,q⟩
theorem un_neg:UnR X (unaryOp .USub) (rU fun i=>.int (-i)):=unI fun _ _ _ _ _ q=>neg_int q
end
def scal:V→V→Bool
 | .non,.non=>true | .non,.int _=>true | .int _,.non=>true | .non,.bl _=>true | .bl _,.non=>true | .non,.str _=>true | .str _,.non=>true
 | .int _,.int _=>true | .bl _,.bl _=>true | .str _,.str _=>true | .byt _,.byt _=>true
 | .int _,.str _=>true | .str _,.int _=>true | .bl _,.str _=>true | .str _,.bl _=>true
 | _,_=>false
def rEq:R2:=fun x y H Q=>scal x y=true∧Q (.bl (decide (x=y))) H
def rNe:R2:=fun x y H Q=>scal x y=true∧Q (.bl (!decide (x=y))) H
theorem dec_int {i j:Int}:decide (V.int i=V.int j)=(i == j):=by
 rw [Bool.eq_iff_iff]
 simp
theorem dec_bl {i j:Bool}:decide (V.bl i=V.bl j)=(i == j):=by
 rw [Bool.eq_iff_iff]
 simp
theorem dec_str {i j:Str}:decide (V.str i=V.str j)=(i == j):=by
 rw [Bool.eq_iff_iff]
 simp
theorem dec_byt {i j:Array UInt8}:decide (V.byt i=V.byt j)=(i.toList == j.toList):=by
 rw [Bool.eq_iff_iff]
 cases i
 cases j
 simp
section
variable {X:Cx}{a b:Expr}{ta tb:TE}{pos:Pos}
theorem fin_bl {pins:List (Addr×Obj)} {σ:St} {H:Hp} {s:Shared} {Q:VK} {k k':Bool} (I:Inv X pins σ H s) (q:Q (.bl k) H) (e:k=k'):EP X pins σ Q (.bool k') s:=by
 subst e
 exact ⟨.bl k,H,I,rfl,q⟩
theorem op_eq:OpR X (compareOp .Eq) rEq:=by
 intro pins s σ H x y v u Q I rx ry h
 obtain ⟨hs,q⟩:=h
 cases x with
 | non =>
  cases rx
  cases y with
  | non=>cases ry; exact PySem.EqNone.eq_none_none (fin_bl I q (by simp))
  | bl j=>cases ry; exact PySem.EqNone.eq_none_bool (fin_bl I q (by simp))
  | int j=>obtain ⟨t',rfl⟩:=ry; exact PySem.EqNone.eq_none_int (fin_bl I q (by simp))
  | str j=>obtain ⟨t',rfl⟩:=ry; exact PySem.EqNone.eq_none_str (fin_bl I q (by simp))
  | _=>exact absurd (show false=true from hs) Bool.false_ne_true
 | bl i =>
  cases rx
  cases y with
  | non=>cases ry; exact PySem.EqNone.eq_bool_none (fin_bl I q (by simp))
  | bl j=>cases ry; exact eq_bool (fin_bl I q dec_bl)
  | str j=>obtain ⟨t',rfl⟩:=ry; exact PySem.EqMixed.eq_bool_str (fin_bl I q (by simp))
  | _=>exact absurd (show false=true from hs) Bool.false_ne_true
 | int i =>
  obtain ⟨t,rfl⟩:=rx
  cases y with
  | non=>cases ry; exact PySem.EqNone.eq_int_none (fin_bl I q (by simp))
  | int j=>obtain ⟨t',rfl⟩:=ry; exact eq_int (fin_bl I q dec_int)
  | str j=>obtain ⟨t',rfl⟩:=ry; exact PySem.EqMixed.eq_int_str (fin_bl I q (by simp))
  | _=>exact absurd (show false=true from hs) Bool.false_ne_true
 | str i =>
  obtain ⟨t,rfl⟩:=rx
  cases y with
  | non=>cases ry; exact PySem.EqNone.eq_str_none (fin_bl I q (by simp))
  | bl j=>cases ry; exact PySem.EqMixed.eq_str_bool (fin_bl I q (by simp))
  | int j=>obtain ⟨t',rfl⟩:=ry; exact PySem.EqMixed.eq_str_int (fin_bl I q (by simp))
  | str j=>obtain ⟨t',rfl⟩:=ry; exact eq_str (fin_bl I q dec_str)
  | _=>exact absurd (show false=true from hs) Bool.false_ne_true
 | byt i =>
  obtain ⟨t,rfl⟩:=rx
  cases y with
  | byt j=>obtain ⟨t',rfl⟩:=ry; exact PySem.W.eq_bytes (fin_bl I q dec_byt)
  | _=>exact absurd (show false=true from hs) Bool.false_ne_true
 | _=>cases y <;> exact absurd (show false=true from hs) Bool.false_ne_true
theorem op_ne:OpR X (compareOp .NotEq) rNe:=by
 intro pins s σ H x y v u Q I rx ry h
 obtain ⟨hs,q⟩:=h
 cases x with
 | non =>
  cases rx
  cases y with
  | non=>cases ry; exact PySem.EqNone.ne_none_none (fin_bl I q (by simp))
  | bl j=>cases ry; exact PySem.EqNone.ne_none_bool (fin_bl I q (by simp))
  | int j=>obtain ⟨t',rfl⟩:=ry; exact PySem.EqNone.ne_none_int (fin_bl I q (by simp))
  | str j=>obtain ⟨t',rfl⟩:=ry; exact PySem.EqNone.ne_none_str (fin_bl I q (by simp))
  | _=>exact absurd (show false=true from hs) Bool.false_ne_true
 | bl i =>
  cases rx
  cases y with
  | non=>cases ry; exact PySem.EqNone.ne_bool_none (fin_bl I q (by simp))
  | bl j=>cases ry; exact ne_bool (fin_bl I q (congrArg not dec_bl))
  | str j=>obtain ⟨t',rfl⟩:=ry; exact PySem.EqMixed.ne_bool_str (fin_bl I q (by simp))
  | _=>exact absurd (show false=true from hs) Bool.false_ne_true
 | int i =>
  obtain ⟨t,rfl⟩:=rx
  cases y with
  | non=>cases ry; exact PySem.EqNone.ne_int_none (fin_bl I q (by simp))
  | int j=>obtain ⟨t',rfl⟩:=ry; exact ne_int (fin_bl I q (congrArg not dec_int))
  | str j=>obtain ⟨t',rfl⟩:=ry; exact PySem.EqMixed.ne_int_str (fin_bl I q (by simp))
  | _=>exact absurd (show false=true from hs) Bool.false_ne_true
 | str i =>
  obtain ⟨t,rfl⟩:=rx
  cases y with
  | non=>cases ry; exact PySem.EqNone.ne_str_none (fin_bl I q (by simp))
  | bl j=>cases ry; exact PySem.EqMixed.ne_str_bool (fin_bl I q (by simp))
  | int j=>obtain ⟨t',rfl⟩:=ry; exact PySem.EqMixed.ne_str_int (fin_bl I q (by simp))
  | str j=>obtain ⟨t',rfl⟩:=ry; exact ne_str (fin_bl I q (congrArg not dec_str))
  | _=>exact absurd (show false=true from hs) Bool.false_ne_true
 | byt i =>
  obtain ⟨t,rfl⟩:=rx
  cases y with
  | byt j=>obtain ⟨t',rfl⟩:=ry; exact PySem.W.ne_bytes (fin_bl I q (congrArg not dec_byt))
  | _=>exact absurd (show false=true from hs) Bool.false_ne_true
 | _=>cases y <;> exact absurd (show false=true from hs) Bool.false_ne_true
theorem op_lt:OpR X (compareOp .Lt) (rI0 fun i j=>.bl (decide (i < j))):=opB0 fun _ _ _ _ _ _ _ q=>lt_int q
theorem op_le:OpR X (compareOp .LtE) (rI0 fun i j=>.bl (decide (i≤j))):=opB0 fun _ _ _ _ _ _ _ q=>le_int q
theorem op_gt:OpR X (compareOp .Gt) (rI0 fun i j=>.bl (decide (j < i))):=opB0 fun _ _ _ _ _ _ _ q=>gt_int q
theorem op_ge:OpR X (compareOp .GtE) (rI0 fun i j=>.bl (decide (j≤i))):=opB0 fun _ _ _ _ _ _ _ q=>ge_int q
theorem pe_cmpR {op:CmpOp} {r:R2} (ho:OpR X (compareOp op) r) (ha:PE X a ta) (hb:PE X b tb) (hm:behindInMarks op b=false):PE X (.Compare a [op] [b] pos) (tOp r ta tb):=by
 intro pins s σ H Q I h
 exact wpAny_Compare1 (binT ha hb I h fun v u s2 x y H2 I2 rx ry q=>ho pins s2 σ H2 x y v u Q I2 rx ry q) hm
def tTest (t:TE):TT:=fun σ H Q=>t σ H fun x H'=>∃ k,x=.bl k∧Q k H'
theorem pt_cmpR {op:CmpOp} {r:R2} (ho:OpR X (compareOp op) r) (ha:PE X a ta) (hb:PE X b tb) (hm:behindInMarks op b=false):PT X (.Compare a [op] [b] pos) (tTest (tOp r ta tb)):=by
 intro pins s σ H Q I h
 refine wpAny_isTrue_Compare1 (thn (ha pins s σ H _ I h) fun v s1 ⟨x,H1,I1,r1,q1⟩=>thn (hb pins s1 σ H1 _ I1 q1) fun u s2 ⟨y,H2,I2,r2,q2⟩ =>
  thn (ho pins s2 σ H2 x y v u _ I2 r1 r2 q2) fun c s3 ⟨z,H3,I3,r3,k,e,q3⟩=>?_) hm
 subst e
 cases r3
 exact wpAny_truthy_bool ⟨H3,I3,q3⟩
def TruV (K:PySem.W.Frag) (x:V) (H:Hp) (k:Bool):Prop :=
 match x with
 | .non=>k=false
 | .bl b=>k=b
 | .int i=>k=(i != 0)
 | .str y=>y.length≤sizeLine∧k=((y.length:Int) != 0)
 | .byt y=>y.size≤sizeLine∧k=((y.size:Int) != 0)
 | .ref p=>(∃ xs,SqL K H p xs∧k = !xs.isEmpty) ∨ (∃ xs,SqT K H p xs∧k = !xs.isEmpty) ∨ ∃ kvs,H p=some (.dK kvs)∧k = !kvs.isEmpty
 | _=>False
theorem isEmpty_kv {κ:Type} {kvs:List (κ×V)} {vs:List (κ×Value)} (r:KV kvs vs):(!vs.isEmpty) = !kvs.isEmpty:=by
 cases r <;> rfl
theorem isEmpty_of {xs:List V} {its:List Value} (r:Vals xs its):(!its.toArray.isEmpty) = !xs.isEmpty:=by
 cases r <;> simp
theorem line63:(sizeLine:Nat) < 2 ^ 63:=by rw [sizeLine_eq]; decide
theorem tru_ok:TruR X (fun x H Q=>∃ k,TruV X.K x H k∧Q k H):=by
 intro pins s σ H x v Q I rx h
 obtain ⟨k,e,q⟩:=h
 have hl:=line63
 have hs:sizeLine=16777216:=sizeLine_eq
 cases x with
 | non =>
  cases rx
  have e':k=false:=e
  subst e'
  exact truthy_none ⟨H,I,q⟩
 | bl b =>
  cases rx
  have e':k=b:=e
  subst e'
  exact wpAny_truthy_bool ⟨H,I,q⟩
 | int i =>
  obtain ⟨t,rfl⟩:=rx
  have e':k=(i != 0):=e
  subst e'
  exact PySem.P.truthy_int ⟨H,I,q⟩
 | str y =>
  obtain ⟨t,rfl⟩:=rx
  obtain ⟨hy,e'⟩:y.length≤sizeLine∧k=((y.length:Int) != 0):=e
  subst e'
  exact PySem.P.truthy_str (by lia) ⟨H,I.tok _,q⟩
 | byt y =>
  obtain ⟨t,rfl⟩:=rx
  obtain ⟨hy,e'⟩:y.size≤sizeLine∧k=((y.size:Int) != 0):=e
  subst e'
  exact PySem.W.truthy_bytes (by lia) ⟨H,I.tok _,q⟩
 | ref p =>
  cases rx
  have e':(∃ xs,SqL X.K H p xs∧k = !xs.isEmpty) ∨ (∃ xs,SqT X.K H p xs∧k = !xs.isEmpty) ∨ ∃ kvs,H p=some (.dK kvs)∧k = !kvs.isEmpty:=e
  rcases e' with ⟨xs,hx,e'⟩ | ⟨xs,hx,e'⟩ | ⟨kvs,hx,e'⟩
  ·subst e'
   obtain ⟨its,r,pl,hz⟩:=I.list hx
   have hlen:=r.length
   exact wpAny_truthy_list pl.isList (by simp -iota only [List.size_toArray]; lia) ⟨H,I.tok _,by rw [isEmpty_of r]; exact q⟩
  ·subst e'
   obtain ⟨its,r,pl,hz⟩:=I.tuple hx
   have hlen:=r.length
   exact truthy_tuple pl (by simp -iota only [List.size_toArray]; lia) ⟨H,I.tok _,by rw [isEmpty_of r]; exact q⟩
  ·subst e'
   obtain ⟨hz,hS,vs,r,m⟩:kvs.length≤sizeLine∧(p == sysModules)=false∧∃ vs,KV kvs vs∧s.heap.DictOf (mixKind X.prog X.w) p vs:=I.hok p _ hx
   have hlen:kvs.length=vs.length:=Paired.length r
   exact wpAny_truthy_dict hS m (by lia) ⟨H,I.tok _,by rw [isEmpty_kv r]; exact q⟩
 | _=>exact (show False from e).elim
theorem pt_truth (ha:PE X a ta) (he:∀ whole,isTrue a X.env whole=(do let v ← whole; standAt a.pos; holding [v] (truthy v))) :
  PT X a (fun σ H Q=>ta σ H fun x H'=>∃ k,TruV X.K x H' k∧Q k H'):=by
 intro pins s σ H Q I h
 exact isTrue_plain (thn (ha pins s σ H _ I h) fun v s1 q1=>by obtain ⟨x,H1,I1,r1,q1⟩:=q1; exact tru_ok pins s1 σ H1 x v Q I1 r1 q1) (he _)
theorem vals1 {x:V} {us:List Value} (r:Vals [x] us):∃ u,us=[u]∧RelV x u:=by
 cases r with
 | cons r1 r2=>cases r2; exact ⟨_,rfl,r1⟩
theorem vals2 {x y:V} {us:List Value} (r:Vals [x,y] us):∃ u w',us=[u,w']∧RelV x u∧RelV y w':=by
 cases r with
 | cons r1 r2 =>
  cases r2 with
  | cons r3 r4=>cases r4; exact ⟨_,_,rfl,r1,r3⟩
theorem call_abs:CallR X (.builtin "abs") (fun xs H Q=>∃ i,xs=[.int i]∧Q (.int (if i < 0 then -i else i)) H):=by
 intro pins s σ H xs us Q I r h
 obtain ⟨i,rfl,q⟩:=h
 obtain ⟨u,rfl,t,rfl⟩:=vals1 r
 exact call_abs_int fun u tk=>⟨.int (if i < 0 then -i else i),H,I.tok _,⟨_,rfl⟩,q⟩
theorem call_max2 (hc:X.calm=true):CallR X (.builtin "max") (fun xs H Q=>∃ i j,xs=[.int i,.int j]∧Q (.int (if j > i then j else i)) H):=by
 intro pins s σ H xs us Q I r h
 obtain ⟨i,j,rfl,q⟩:=h
 obtain ⟨u,w',rfl,⟨t,rfl⟩,⟨t',rfl⟩⟩:=vals2 r
 refine max_two_ints (I.ok.hd hc) fun h' tk k=>⟨_,H,I.kept k,?_,q⟩
 by_cases hj:j > i
 ·rw [if_pos hj,if_pos hj]; exact ⟨_,rfl⟩
 ·rw [if_neg hj,if_neg hj]; exact ⟨_,rfl⟩
theorem call_min2 (hc:X.calm=true):CallR X (.builtin "min") (fun xs H Q=>∃ i j,xs=[.int i,.int j]∧Q (.int (if j < i then j else i)) H):=by
 intro pins s σ H xs us Q I r h
 obtain ⟨i,j,rfl,q⟩:=h
 obtain ⟨u,w',rfl,⟨t,rfl⟩,⟨t',rfl⟩⟩:=vals2 r
 refine min_two_ints (I.ok.hd hc) fun h' tk k=>⟨_,H,I.kept k,?_,q⟩
 by_cases hj:j < i
 ·rw [if_pos hj,if_pos hj]; exact ⟨_,rfl⟩
 ·rw [if_neg hj,if_neg hj]; exact ⟨_,rfl⟩
theorem call_int1:CallR X (.type "int") (fun xs H Q=>(∃ i,xs=[.int i]∧Q (.int i) H) ∨ ∃ k,xs=[.bl k]∧Q (.int (if k then 1 else 0)) H):=by
 intro pins s σ H xs us Q I r h
 rcases h with ⟨i,rfl,q⟩ | ⟨k,rfl,q⟩
 ·obtain ⟨u,rfl,t,rfl⟩:=vals1 r
  exact call_int_int ⟨.int i,H,I,⟨_,rfl⟩,q⟩
 ·obtain ⟨u,rfl,r1⟩:=vals1 r
  cases r1
  exact call_int_bool ⟨.int (if k then 1 else 0),H,I.tok _,⟨_,rfl⟩,q⟩
end
end L2
namespace L2
open PySem PySem.Spec PyProof.Rows
structure ObjM (h:Heap) (x dx C:Addr) (mA:Str→Option Value):Prop where
 obj:h.get? x=some (PySem.W.instObj C dx)
 ns:h.Ns1 dx mA
 ne:dx≠x
theorem lookIn_ns {h:Heap} {dx:Addr} {mA:Str→Option Value} (n:h.Ns1 dx mA):∃ od,h.get? dx=some od∧∀ name,PySem.W.lookIn name od=some (mA name):=by
 obtain ⟨o,es,ep,ho,hd,hk,_,hm⟩:=n
 refine ⟨o,ho,fun name=>?_⟩
 have e:=hm name
 unfold nsFind findBy at e
 rw [← Array.find?_toList] at e
 unfold PySem.W.lookIn
 rw [hd]
 dsimp only
 split
 ·rename_i y q
  rw [q] at e
  exact congrArg some e
 ·rename_i q
  rw [q] at e
  have a:es.toList.any (·.refKey)=false:=by
   rw [List.any_eq_false]
   intro y hy
   obtain ⟨z,t,hkey⟩:=hk y (Array.mem_toList_iff.mp hy)
   simp [DictEntry.refKey,hkey]
  have a':¬ es.toList.any (·.refKey)=true:=by rw [a]; exact Bool.false_ne_true
  rw [if_neg a']
  exact congrArg some e
theorem ObjM.look {h:Heap} {x dx C:Addr} {mA:Str→Option Value} (I:ObjM h x dx C mA):∃ od,PySem.W.InstAt h x (PySem.W.instObj C dx) C (some od)∧∀ name,PySem.W.lookIn name od=some (mA name) :=
 let ⟨od,ho,hl⟩:=lookIn_ns I.ns
 ⟨od,⟨I.obj,rfl,rfl,ho⟩,hl⟩
section
variable {prog:Program}{w:World}{A:Around}{E:Value→Shared→Prop}{s:Shared}{K:PySem.W.Frag}{x dx C f:Addr}{mA:Str→Option Value}{name:Str}{v:Value}
theorem get_map {expr:Bool} {Q:Value→Shared→Prop} (X:K.In s.heap) (I:ObjM s.heap x dx C mA) (hg:PySem.W.plainGet K C name=true) (hh:PySem.W.hasDictIn K C=true)
  (ha:PySem.W.findIn K (.ref C) name=some none) (hv:mA name=some v) (hv':PySem.W.handedIn v=true) (h:Q v { s with toks:=s.toks + 1 }) :
  wpAny (model prog w) A (getAttr (.ref x) name expr) Q E s:=by
 obtain ⟨od,J,hl⟩:=I.look
 exact PySem.W.get_value X J (PySem.W.plainGet_of hg).1 (PySem.W.findObj_own hh ha rfl (by rw [hl,hv])) hv' h
theorem get_meth {pl:Sem Bool} {Q:Value×List Value→Shared→Prop} (X:K.In s.heap) (I:ObjM s.heap x dx C mA) (hg:PySem.W.plainGet K C name=true)
  (hf:PySem.W.findIn K (.ref C) name=some (some (.ref f))) (ht:PySem.W.isFn K (.ref f)=true) (hv:mA name=none) (h:Q (.ref f,[.ref x]) s) :
  wpAny (model prog w) A (getMethod (.ref x) name pl) Q E s:=by
 obtain ⟨od,J,hl⟩:=I.look
 exact PySem.W.method_fn X J (PySem.W.plainGet_of hg).1 (PySem.W.plainGet_of hg).2 hf (beq_iff_eq.mp ht) (by show (PySem.W.lookIn name od).map (·.isSome)=some false; rw [hl,hv]; rfl) h
theorem set_map {ns:List Str} {Q:Unit→Shared→Prop} (X:K.In s.heap) (I:ObjM s.heap x dx C mA)
  (hs:PySem.W.findIn K (.ref C) "__setattr__" = some (some (.builtin "object.__setattr__"))) (hp:PySem.W.plainOver K C=true) (ht:PySem.W.takerIn K C name=some none) (hh:PySem.W.hasDictIn K C=true)
  (hw:PySem.Within mA ns) (hsz:ns.length≤sizeLine)
  (h:∀ h',ObjM h' x dx C (fun y=>if y=name then some v else mA y)→Heap.SameBut dx s.heap h'→Q () { s with heap:=h',toks:=s.toks + 2 }) :
  wpAny (model prog w) A (setAttr (.ref x) name v) Q E s:=by
 obtain ⟨od,J,hl⟩:=I.look
 refine PySem.W.set_plain X J hs (PySem.W.osa_open (s:={ s with toks:=s.toks + 1 }) (r:=none) X J hp ht fun b=>?_)
 obtain ⟨cd,hc,hd'⟩:=PySem.W.any_some hh
 have hx:s.heap.get? x=some ⟨.ref C,some dx,.plain,#[]⟩:=I.obj
 refine wpAny_bind (wpAny_pure (wpAny_bind (wpAny_bind (wpAny_loadPart hx (wpAny_bind (PySem.W.Looks.here (s:={ s with toks:=s.toks + 1 }) (PySem.W.looks_clsIn X hc) ?_))))))
 rw [hd']
 refine wpAny_pure (a:=some dx) (wpAny_bind (wpAny_pure (wpAny_bind ?_)))
 refine wpAny_nsSet1 (s:={ s with toks:=s.toks + 1 }) I.ns fun h' hn2 hs2=>?_
 obtain ⟨oD,esD,epD,hoD,hdD,hcD⟩:=hn2.count (PySem.Within.cons name v hw)
 refine wpAny_bind (wpAny_lookBehind hoD (by rw [hdD]; exact pastItsLine_dict (Nat.le_trans hcD (by rw [List.length_cons]; lia))) ?_)
 exact wpAny_pure (h _ ⟨(hs2.2 _ (Ne.symm I.ne)).trans I.obj,hn2,I.ne⟩ hs2)
theorem make_map {R:Result→Shared→Prop} {vs:List Value} {kw:List (Str×Value)} (X:K.In s.heap) (hm:PySem.W.makesIn K C=true)
  (hi:PySem.W.findIn K (.ref C) "__init__" = some (some (.ref f))) (hf:PySem.W.typeIn K (.ref f)=some (.type "function"))
  (h:codeAny (model prog w) (A.under (.builtin "type.__call__" ⟨.ref C :: vs,kw⟩)) (.call (.ref f) ⟨.ref (s.heap.objs.size + 1) :: vs,kw⟩) (PySem.W.InitBack (s.heap.objs.size + 1) R)
   { s with heap:=(s.heap.push PySem.W.emptyDict).push (PySem.W.instObj C s.heap.objs.size) }) :
  codeAny (model prog w) A (.call (.ref C) ⟨vs,kw⟩) R s:=by
 obtain ⟨hh,g,d,t,os⟩:=s
 exact PySem.W.make_core (PySem.W.makes_of X hm) (PySem.W.looks_findIn X hi) (fun self=>PySem.W.bind_fn X self hf) (.inl rfl) h
end
def putF (f:Str) (v:V):List (Str×V)→List (Str×V)
 | []=>[(f,v)]
 | (g,x) :: r=>if g=f then (g,v) :: r else (g,x) :: putF f v r
theorem lookup_putF (f g:Str) (v:V):∀ fs:List (Str×V),(putF f v fs).lookup g=if g=f then some v else fs.lookup g
 | []=>by
  show List.lookup g [(f,v)]=_
  by_cases h:g=f
  ·have hb:(g == f)=true:=beq_iff_eq.mpr h
   simp only [List.lookup,hb,if_pos h]
  ·have hb:(g == f)=false:=beq_eq_false_iff_ne.mpr h
   simp only [List.lookup,hb,if_neg h]
 | (k,x) :: r=>by
  have ih:=lookup_putF f g v r
  rw [show putF f v ((k,x) :: r)=(if k=f then (k,v) :: r else (k,x) :: putF f v r) from rfl]
  by_cases hk:k=f
  ·rw [if_pos hk]
   by_cases h:g=k
   ·have hb:(g == k)=true:=beq_iff_eq.mpr h
    simp only [List.lookup,hb,if_pos (h.trans hk)]
   ·have hb:(g == k)=false:=beq_eq_false_iff_ne.mpr h
    simp only [List.lookup,hb,if_neg (fun e:g=f=>h (e.trans hk.symm))]
  ·rw [if_neg hk]
   by_cases h:g=k
   ·have hb:(g == k)=true:=beq_iff_eq.mpr h
    simp only [List.lookup,hb,if_neg (fun e:g=f=>hk (h.symm.trans e))]
   ·have hb:(g == k)=false:=beq_eq_false_iff_ne.mpr h
    simp only [List.lookup,hb]
    exact ih
theorem keys_putF (f:Str) (v:V):∀ fs:List (Str×V),f∈(putF f v fs).map (·.1)∧∀ g,g∈fs.map (·.1)→g∈(putF f v fs).map (·.1)
 | []=>⟨by simp [putF],fun g h=>by simp at h⟩
 | (k,x) :: r=>by
  obtain ⟨i1,i2⟩:=keys_putF f v r
  rw [show putF f v ((k,x) :: r)=(if k=f then (k,v) :: r else (k,x) :: putF f v r) from rfl]
  by_cases hk:k=f
  ·rw [if_pos hk]
   subst hk
   exact ⟨by simp,fun g h=>by simpa using h⟩
  ·rw [if_neg hk]
   refine ⟨?_,fun g h=>?_⟩
   ·rw [List.map_cons]
    exact List.mem_cons_of_mem _ i1
   ·rw [List.map_cons] at h ⊢
    rcases List.mem_cons.mp h with e | e
    ·exact List.mem_cons.mpr (.inl e)
    ·exact List.mem_cons_of_mem _ (i2 g e)
theorem length_putF (f:Str) (v:V):∀ fs:List (Str×V),(putF f v fs).length≤fs.length + 1
 | []=>by simp [putF]
 | (k,x) :: r=>by
  have ih:=length_putF f v r
  rw [show putF f v ((k,x) :: r)=(if k=f then (k,v) :: r else (k,x) :: putF f v r) from rfl]
  by_cases hk:k=f
  ·rw [if_pos hk,List.length_cons,List.length_cons]; lia
  ·rw [if_neg hk,List.length_cons,List.length_cons]; lia
theorem RelO.some_of {v:V} {o:Option Value} (r:RelO (some v) o):∃ u,o=some u∧RelV v u:=by
 cases o with
 | none=>exact (show False from r).elim
 | some u=>exact ⟨u,rfl,r⟩
theorem RelO.none_of {o:Option Value} (r:RelO none o):o=none:=by
 cases o with
 | none=>rfl
 | some u=>exact (show False from r).elim
theorem handed_of {v:V} {u:Value} (r:RelV v u):PySem.W.handedIn u=true:=by
 cases v with
 | non=>cases (show u=Value.none from r); rfl
 | bl b=>cases (show u=Value.bool b from r); rfl
 | int i=>obtain ⟨t,e⟩:=(show ∃ t,u=Value.int i t from r); cases e; rfl
 | str x=>obtain ⟨t,e⟩:=(show ∃ t,u=Value.str x t from r); cases e; rfl
 | byt b=>obtain ⟨t,e⟩:=(show ∃ t,u=Value.bytes b t from r); cases e; rfl
 | flt b=>obtain ⟨t,e⟩:=(show ∃ t,u=Value.float b t from r); cases e; rfl
 | ref a=>cases (show u=Value.ref a from r); rfl
 | ty n=>cases (show u=Value.type n from r); rfl
section
variable {P:Program}{w:World}{H:Hp}{h:Heap}{a C dx:Addr}{fs:List (Str×V)}
theorem ins_get (hok:HOk P w H h) (e:H a=some (.ins C dx fs)):∃ mA,ObjM h a dx C mA∧(∀ f,RelO (fs.lookup f) (mA f))∧PySem.Within mA (fs.map (·.1))∧fs.length≤1000∧H dx=some (.own a):=by
 obtain ⟨d,z,ne,ob,mA,n,r,q⟩:=(show ObjOk P w H h a (.ins C dx fs) from hok a _ e)
 exact ⟨mA,⟨ob,n,ne⟩,r,q,z,d⟩
end
structure Cls (K:PySem.W.Frag) (C:Addr):Prop where
 pg:PySem.W.plainGet K C Str.empty=true
 hd:PySem.W.hasDictIn K C=true
 po:PySem.W.plainOver K C=true
 sa:PySem.W.findIn K (.ref C) "__setattr__" = some (some (.builtin "object.__setattr__"))
theorem Cls.get {K:PySem.W.Frag} {C:Addr} (c:Cls K C) (f:Str):PySem.W.plainGet K C f=true:=c.pg
def NoAttr (K:PySem.W.Frag) (C:Addr) (f:Str):Prop:=PySem.W.findIn K (.ref C) f=some none
theorem NoAttr.taker {K:PySem.W.Frag} {C:Addr} {f:Str} (n:NoAttr K C f):PySem.W.takerIn K C f=some none:=by
 unfold PySem.W.takerIn
 rw [show PySem.W.findIn K (.ref C) f=some none from n]
 rfl
structure Meth (K:PySem.W.Frag) (C:Addr) (m:Str) (f:Addr):Prop where
 at_:PySem.W.findIn K (.ref C) m=some (some (.ref f))
 fn:PySem.W.isFn K (.ref f)=true
 kp:PySem.W.keepIn K (.ref f)=true
section
variable {X:Cx}{pins:List (Addr×Obj)}{σ:St}{H:Hp}{s:Shared}{a C dx:Addr}{fs:List (Str×V)}{f:Str}{v:V}{A:Around}{E:Value→Shared→Prop}
theorem getattr_ok {b:Bool} {Q:Value→Shared→Prop} (I:Inv X pins σ H s) (e:H a=some (.ins C dx fs)) (c:Cls X.K C) (n:NoAttr X.K C f) (l:fs.lookup f=some v)
  (h:∀ u s',Inv X pins σ H s'→RelV v u→Q u s'):wpAny (model X.prog X.w) A (getAttr (.ref a) f b) Q E s:=by
 obtain ⟨mA,O,r,_,_,_⟩:=ins_get I.hok e
 obtain ⟨u,hu,ru⟩:=RelO.some_of (v:=v) (o:=mA f) (by rw [← l]; exact r f)
 exact get_map I.kIn O (c.get f) c.hd n hu (handed_of ru) (h u _ (I.tok _) ru)
theorem getmeth_ok {m:Str} {g:Addr} {pl:Sem Bool} {Q:Value×List Value→Shared→Prop} (I:Inv X pins σ H s) (e:H a=some (.ins C dx fs)) (c:Cls X.K C) (k:Meth X.K C m g) (l:fs.lookup m=none)
  (h:Q (.ref g,[.ref a]) s):wpAny (model X.prog X.w) A (getMethod (.ref a) m pl) Q E s:=by
 obtain ⟨mA,O,r,_,_,_⟩:=ins_get I.hok e
 have hn:mA m=none:=RelO.none_of (by rw [← l]; exact r m)
 exact get_meth I.kIn O (c.get m) k.at_ k.fn hn h
theorem setattr_ok {y:V} {u:Value} {Q:Unit→Shared→Prop} (I:Inv X pins σ H s) (e:H a=some (.ins C dx fs)) (c:Cls X.K C) (n:NoAttr X.K C f) (hl:fs.length < 1000) (ry:RelV y u)
  (h:∀ s',Inv X pins σ (upd H a (.ins C dx (putF f y fs))) s'→Q () s'):wpAny (model X.prog X.w) A (setAttr (.ref a) f u) Q E s:=by
 obtain ⟨mA,O,r,wi,_,ho⟩:=ins_get I.hok e
 have hz:(fs.map (·.1)).length≤sizeLine:=by rw [List.length_map,sizeLine_eq]; lia
 refine set_map I.kIn O c.sa c.po n.taker c.hd wi hz fun h' O' sb=>h _ ?_
 have hd:∃ o,h'.get? dx=some o:=let ⟨o,_,_,e',_⟩:=O'.ns; ⟨o,e'⟩
 refine I.write (x:=a) (e:=dx) (by rw [e]; exact True.intro) (.inr ho) (fun b q hb z=>(sb.2 b hb).trans z) hd ?_
 refine ⟨by rw [upd_ne O.ne]; exact ho,?_,O.ne,O'.obj,_,O'.ns,fun g=>?_,fun g hg=>?_⟩
 ·have:=length_putF f y fs; lia
 ·show RelO ((putF f y fs).lookup g) (if g=f then some u else mA g)
  rw [lookup_putF]
  by_cases q:g=f
  ·rw [if_pos q,if_pos q]; exact ry
  ·rw [if_neg q,if_neg q]; exact r g
 ·by_cases q:g=f
  ·rw [q]; exact (keys_putF f y fs).1
  ·refine (keys_putF f y fs).2 g (wi g fun z=>hg ?_)
   show (if g=f then some u else mA g)=none
   rw [if_neg q]; exact z
theorem Inv.made (I:Inv X pins σ H s):Inv X pins σ (upd (upd H s.heap.objs.size (.own (s.heap.objs.size + 1))) (s.heap.objs.size + 1) (.ins C s.heap.objs.size []))
  { s with heap:=(s.heap.push PySem.W.emptyDict).push (PySem.W.instObj C s.heap.objs.size) }:=by
 have e1:(s.heap.push PySem.W.emptyDict).get? s.heap.objs.size=some PySem.W.emptyDict:=Heap.get?_push_size s.heap rfl
 have e2:((s.heap.push PySem.W.emptyDict).push (PySem.W.instObj C s.heap.objs.size)).get? (s.heap.objs.size + 1)=some (PySem.W.instObj C s.heap.objs.size):=by
  have:=Heap.get?_push_size (s.heap.push PySem.W.emptyDict) (o:=PySem.W.instObj C s.heap.objs.size) rfl
  rwa [Heap.size_push] at this
 have e3:(s.heap.push PySem.W.emptyDict).Ns s.heap.objs.size (fun _=>none):=⟨PySem.W.emptyDict,#[],_,e1,rfl,(fun e he=>absurd he (by simp)),fun _=>rfl⟩
 have I1:=I.laid (a:=s.heap.objs.size) (o:=.own (s.heap.objs.size + 1)) (h':=s.heap.push PySem.W.emptyDict) (t':=s.toks) (fun b u q=>Heap.get?_push_of_some _ q) (Nat.le_refl _) ⟨_,e1⟩
 refine I1.laid (a:=s.heap.objs.size + 1) (o:=.ins C s.heap.objs.size []) (t':=s.toks) (fun b u q=>Heap.get?_push_of_some _ q) (Nat.le_of_eq (Heap.size_push _ _)) ?_
 have ne:s.heap.objs.size≠s.heap.objs.size + 1:=Nat.ne_of_lt (Nat.lt_succ_self _)
 refine ⟨by rw [upd_ne ne,upd_same],Nat.zero_le _,ne,e2,fun _=>none,(Heap.Ns1.of_empty e3).at fun o q=>Heap.get?_push_of_some _ q,fun _=>True.intro,fun y hy=>absurd rfl hy⟩
theorem attr_of {prog:Program} {w:World} {env:Env} {e:Expr} {f:Str} {pos:Pos} {s:Shared} {Q:Value→Shared→Prop} (hb:attributeBase e f env (eval e env)=eval e env)
  (h:wpAny (model prog w) A (eval e env) (fun o s₁=>wpAny (model prog w) A (getAttr o f true) Q E s₁) E s):wpAny (model prog w) A (eval (.Attribute e f pos) env) Q E s :=
 Attribute_any_ h (by rw [arm_eval_Attribute,hb])
end
def InOp (X:Cx) (op:Operator) (rd:V→V→Hp→VK→Prop):Prop :=
 ∀ (pins:List (Addr×Obj)) (s:Shared) (σ:St) (H:Hp) (x y:V) (u v:Value) (Q:VK),Inv X pins σ H s→RelV x u→RelV y v→rd x y H Q→wpAny (model X.prog X.w) X.A (inplaceOp op u v) (EP X pins σ Q) X.xe s
section
variable {X:Cx}{pins:List (Addr×Obj)}{σ:St}{H:Hp}{s:Shared}{A:Around}{E:Value→Shared→Prop}{Q:Value→Shared→Prop}{c:Value}{b:Bool}
inductive TyOf (K:PySem.W.Frag) (H:Hp):V→Value→Prop where
 | non:TyOf K H .non (.type "NoneType")
 | bl (x:Bool):TyOf K H (.bl x) (.type "bool")
 | int (i:Int):TyOf K H (.int i) (.type "int")
 | str (x:Str):TyOf K H (.str x) (.type "str")
 | flt (x:UInt64):TyOf K H (.flt x) (.type "float")
 | lst {a:Addr} {xs:List V} (e:H a=some (.lst xs)):TyOf K H (.ref a) (.type "list")
 | frz {a:Addr} {o:Obj} {xs:List V} (e:H a=some (.frz o (.lst xs))):TyOf K H (.ref a) (.type "list")
 | tup {a:Addr} {xs:List V} (e:H a=some (.tup xs)):TyOf K H (.ref a) (.type "tuple")
 | dK {a:Addr} {kvs:List (Key×V)} (e:H a=some (.dK kvs)):TyOf K H (.ref a) (.type "dict")
 | dT {a:Addr} {kvs:List (List Key×V)} (e:H a=some (.dT kvs)):TyOf K H (.ref a) (.type "dict")
 | ins {a C dx:Addr} {fs:List (Str×V)} (e:H a=some (.ins C dx fs)) (cl:Cls K C) (ha:PySem.W.findIn K (.ref C) "__class__" = some (some (.builtin "object.__class__")))
   (hn:PySem.W.specialIn K (.builtin "object.__class__") "__get__" = some (some (.builtin "getset_descriptor.__get__"))) (htk:PySem.W.takesIn K (.builtin "object.__class__")=some true)
   (hm:PySem.W.mroIn K C (.type "object")=some true):TyOf K H (.ref a) (.ref C)
theorem isinst_ok {x:V} {u t:Value} (I:Inv X pins σ H s) (rx:RelV x u) (ty:TyOf X.K H x t) (e:PySem.W.kitOne X.K t c=some b) (h:∀ tk,Q (.bool b) { s with toks:=tk }) :
  wpAny (model X.prog X.w) A (call (.builtin "isinstance") [u,c]) Q E s:=by
 cases ty with
 | non=>cases (show u=Value.none from rx); exact PySem.W.kia_one PySem.W.kitx_none I.kIn True.intro e (fun z=>nomatch z) h
 | bl y=>cases (show u=Value.bool y from rx); exact PySem.W.kia_one PySem.W.kitx_bool I.kIn True.intro e (fun z=>nomatch z) h
 | int i=>obtain ⟨t,q⟩:=(show ∃ t,u=Value.int i t from rx); cases q; exact PySem.W.kia_one PySem.W.kitx_int I.kIn True.intro e (fun z=>nomatch z) h
 | str y=>obtain ⟨t,q⟩:=(show ∃ t,u=Value.str y t from rx); cases q; exact PySem.W.kia_one PySem.W.kitx_str I.kIn True.intro e (fun z=>nomatch z) h
 | flt y=>obtain ⟨t,q⟩:=(show ∃ t,u=Value.float y t from rx); cases q; exact PySem.W.kia_one PySem.W.kitx_float I.kIn True.intro e (fun z=>nomatch z) h
 | @lst a xs ea =>
  cases (show u=Value.ref a from rx)
  obtain ⟨_,_,n,_,h1⟩:=(show ObjOk X.prog X.w H s.heap a (.lst xs) from I.hok a _ ea)
  exact PySem.W.kia_one PySem.W.kitx_list I.kIn ⟨_,h1,rfl⟩ e (fun z=>nomatch z) h
 | @frz a ob xs ea =>
  cases (show u=Value.ref a from rx)
  obtain ⟨_,_,_,n,_,h1⟩:=(show ObjOk X.prog X.w H s.heap a (.frz ob (.lst xs)) from I.hok a _ ea)
  exact PySem.W.kia_one PySem.W.kitx_list I.kIn ⟨_,h1,rfl⟩ e (fun z=>nomatch z) h
 | @tup a xs ea =>
  cases (show u=Value.ref a from rx)
  obtain ⟨_,_,_,p⟩:=(show ObjOk X.prog X.w H s.heap a (.tup xs) from I.hok a _ ea)
  obtain ⟨o,h1,h2,_⟩:=p
  exact PySem.W.kia_one PySem.W.kitx_tuple I.kIn ⟨o,h1,h2⟩ e (fun z=>nomatch z) h
 | @dK a kvs ea =>
  cases (show u=Value.ref a from rx)
  obtain ⟨_,_,vs,_,p⟩:=(show ObjOk X.prog X.w H s.heap a (.dK kvs) from I.hok a _ ea)
  obtain ⟨o,es,ep,h1,h2,_⟩:=p
  exact PySem.W.kia_one PySem.W.kitx_dict I.kIn ⟨o,h1,h2.1⟩ e (fun z=>nomatch z) h
 | @dT a kvs ea =>
  cases (show u=Value.ref a from rx)
  obtain ⟨_,_,xs,_,o,es,ep,h1,h2,_⟩:=(show ObjOk X.prog X.w H s.heap a (.dT kvs) from I.hok a _ ea)
  exact PySem.W.kia_one PySem.W.kitx_dict I.kIn ⟨o,h1,h2.1⟩ e (fun z=>nomatch z) h
 | @ins a C dx fs ea cl ha hn htk hm =>
  cases (show u=Value.ref a from rx)
  obtain ⟨mA,O,_⟩:=ins_get I.hok ea
  obtain ⟨od,J,_⟩:=O.look
  exact PySem.W.kia_one (PySem.W.kitx_own (cl.get _) cl.hd ha hn htk hm) I.kIn J e (fun z=>nomatch z) h
end
end L2
namespace L2
open PySem PySem.Spec PyProof.Rows
structure Room (k:Nat) (A:Around):Prop where
 hd:A.handled=none
 dp:A.depth + 3 * k + 5 < recursionLimit
 un:A.units + 16 * k + 200 < cLine
 gd:A.guards=some []
theorem Room.deeper {k:Nat} {A:Around} (r:Room (k + 1) A) (env:Env):Room k (A.deeper env) :=
 ⟨r.hd,by have:=r.dp; show A.depth + 1 + 3 * k + 5 < _; lia,by have:=r.un; show A.units + 3 + 16 * k + 200 < _; lia,r.gd⟩
structure RoomS (k:Nat) (A:Around):Prop extends Room k A where
 dp2:A.depth + 3 * k + 7 < recursionLimit
 un2:A.units + 16 * k + 210 < cLine
theorem Room.deeperS {k:Nat} {A:Around} (r:Room (k + 1) A) (env:Env):RoomS k (A.deeper env) :=
 ⟨r.deeper env,by have:=r.dp; show A.depth + 1 + 3 * k + 7 < _; lia,by have:=r.un; show A.units + 3 + 16 * k + 210 < _; lia⟩
theorem make_depth {A:Around} {C:Addr} {us:List Value} {kw:List (Str×Value)}:(A.under (.builtin "type.__call__" ⟨.ref C :: us,kw⟩)).depth=A.depth + 1:=by
 first | rfl | simp [Around.under,Code.weight,Code.isCreation,Code.isGuard,Code.isCaller,Code.frames,Code.isFrame,guardIds]
theorem make_units {A:Around} {C:Addr} {us:List Value} {kw:List (Str×Value)}:(A.under (.builtin "type.__call__" ⟨.ref C :: us,kw⟩)).units=A.units + 1:=by
 first | rfl | simp [Around.under,Code.cUnits,Code.frames,Code.isFrame]
theorem make_guards {A:Around} {C:Addr} {us:List Value} {kw:List (Str×Value)}:(A.under (.builtin "type.__call__" ⟨.ref C :: us,kw⟩)).guards=A.guards:=by
 cases h:A.guards <;> simp [Around.under,Code.guards,Code.isGuard,guardIds,pushGuards,h]
theorem RoomS.make {k:Nat} {A:Around} (r:RoomS k A) (C:Addr) (us:List Value) (kw:List (Str×Value)):Room k (A.under (.builtin "type.__call__" ⟨.ref C :: us,kw⟩)) :=
 ⟨r.hd,by have:=r.dp2; rw [make_depth]; lia,by have:=r.un2; rw [make_units]; lia,by rw [make_guards]; exact r.gd⟩
theorem Room.depth {k:Nat} {A:Around} (r:Room k A):A.depth < recursionLimit:=by have:=r.dp; lia
theorem Room.units {k:Nat} {A:Around} (r:Room k A):A.units + 64 < cLine:=by have:=r.un; lia
def tNil:TA:=fun _ H Q=>Q [] H
def tCons (ta:TE) (tr:TA):TA:=fun σ H Q=>ta σ H fun x H1=>tr σ H1 fun xs H2=>Q (x :: xs) H2
section
variable {X:Cx}{e:Expr}{es:List Expr}{te:TE}{t:TA}{pos:Pos}
theorem pa_nil:PA X [] tNil:=fun _ _ _ _ H Q I h=>Calls.spliced_nil ⟨[],H,I,.nil,h⟩
theorem pa_cons (ha:PE X e te) (hr:PA X es t) (hs:starEach (e :: es) X.env=(false,eval e X.env) :: starEach es X.env:=by rfl):PA X (e :: es) (tCons te t):=by
 intro pos pins s σ H Q I h
 rw [hs]
 show wpAny _ _ (spliced ((false,eval e X.env) :: backTo pos (starEach es X.env))) _ _ s
 refine Calls.spliced_cons (thn (ha pins s σ H _ I h) fun u s1 ⟨x,H1,I1,r1,q1⟩=>?_)
 refine thn (hr pos pins s1 σ H1 _ I1 q1) fun us s2 q2=>?_; obtain ⟨xs,H2,I2,r2,q2⟩:=q2; exact ⟨x :: xs,H2,I2,.cons r1 r2,q2⟩
def tTup (t:TA):TE:=fun σ H Q=>t σ H fun xs H1=>xs.length≤sizeLine∧∀ p,H1 p=none→Q (.ref p) (upd H1 p (.tup xs))
def tLst (t:TA):TE:=fun σ H Q=>t σ H fun xs H1=>xs.length≤sizeLine∧∀ p,H1 p=none→Q (.ref p) (upd H1 p (.lst xs))
theorem pe_tup {x1} (h:PA X es t):PE X (.Tuple es x1 pos) (tTup t):=by
 intro pins s σ H Q I hq
 refine wpAny_Tuple_spliced (thn (h pos pins s σ H _ I hq) fun us s1 ⟨xs,H1,I1,r,z,q⟩=>⟨by rw [← r.length]; exact z,?_⟩)
 have hf:H1 s1.heap.objs.size=none:=I1.hok.fresh (Nat.le_refl _)
 refine ⟨.ref s1.heap.objs.size,upd H1 s1.heap.objs.size (.tup xs),I1.laid (t':=s1.toks) (fun b u e=>Heap.get?_push_of_some _ e) (Nat.le_refl _) ?_,rfl,q _ hf⟩
 exact ⟨z,us,r,⟨_,Heap.get?_push_size _ rfl,rfl,_,rfl⟩⟩
theorem pe_lst (h:PA X es t):PE X (.List es pos) (tLst t):=by
 intro pins s σ H Q I hq
 refine wpAny_List_spliced (thn (h pos pins s σ H _ I hq) fun us s1 ⟨xs,H1,I1,r,z,q⟩=>⟨by rw [← r.length]; exact z,?_⟩)
 have hf:H1 s1.heap.objs.size=none:=I1.hok.fresh (Nat.le_refl _)
 refine ⟨.ref s1.heap.objs.size,upd H1 s1.heap.objs.size (.lst xs),I1.laid (t':=s1.toks) (fun b u e=>Heap.get?_push_of_some _ e) (Nat.le_refl _) ?_,rfl,q _ hf⟩
 exact ⟨z,us,0,r,Heap.get?_push_size _ rfl⟩
end
abbrev Sp:=List V→Hp→VK→XK→Prop
abbrev CXT:=List Env→Hp→Shared→XK→Value→Shared→Prop
structure Env0 (P:Program) (w:World) (K:PySem.W.Frag) (mg:Str→Option Value) (base:Heap) (A:Around) (outer:List Env) (s:Shared) (H:Hp):Prop where
 frames:A.frames=some outer
 mod:Mod K mg base
 bs:∀ b o,base.get? b=some o→s.heap.get? b=some o∧H b=none
 bsz:base.objs.size≤s.heap.objs.size
 funs:s.heap.FunFrames base outer
 frf:∀ b∈frs outer,H b=none
 hok:HOk P w H s.heap
 bare:AllBare s.gens
inductive CE (outer:List Env) (P:Program) (w:World) (H:Hp) (s:Shared) (Q:VK) (u:Value) (s':Shared):Prop
 | mk (v:_) (H':_) (_:s'.os=s.os) (_:AllBare s'.gens) (_:Un (frs outer) [] H H' s.heap s'.heap) (_:HOk P w H' s'.heap) (_:RelV v u) (_:Q v H'):CE outer P w H s Q u s'
def CR (CX:CXT) (outer:List Env) (P:Program) (w:World) (H:Hp) (s:Shared) (Q:VK) (E:XK) (r:Result) (s':Shared):Prop :=
 match r with
 | .ok (.ret u)=>CE outer P w H s Q u s'
 | .ok _=>False
 | .error e=>CX outer H s E e s'
structure FnOk (P:Program) (w:World) (K:PySem.W.Frag) (mg:Str→Option Value) (base:Heap) (CX:CXT) (k:Nat) (f:Addr) (fd:FuncData) (ps:List Str) (sp:Sp):Prop where
 len:∀ vs H Q E,sp vs H Q E→vs.length=ps.length
 run:∀ (A:Around) (outer:List Env) (s:Shared) (H:Hp) (args:Args) (us:List Value) (vs:List V) (Q:VK) (E:XK),Room k A→Env0 P w K mg base A outer s H→BindsTo s fd args (ps.zip us)→Vals vs us→sp vs H Q E →
  codeAny (model P w) A (.call (.ref f) args) (CR CX outer P w H s Q E) s
theorem Env0.make {P:Program} {w:World} {K:PySem.W.Frag} {mg:Str→Option Value} {base:Heap} {A:Around} {outer:List Env} {s:Shared} {H:Hp} (e:Env0 P w K mg base A outer s H) (C:Addr) (us:List Value) (kw:List (Str×Value)) :
  Env0 P w K mg base (A.under (.builtin "type.__call__" ⟨.ref C :: us,kw⟩)) outer s H:=⟨by first | exact e.frames | (simpa [Around.under,Code.envs,Code.isFrame,pushEnvs] using e.frames),e.mod,e.bs,e.bsz,e.funs,e.frf,e.hok,e.bare⟩
section
variable {X:Cx}{pins:List (Addr×Obj)}{σ:St}{H:Hp}{s s':Shared}
theorem Inv.env0 (I:Inv X pins σ H s):Env0 X.prog X.w X.K X.mg X.base X.A X.stack s H :=
 ⟨I.ok.frames,I.ok.mod,I.bs,Nat.le_trans I.ok.bsz I.sz,I.stack,I.stkFree,I.hok,I.bare⟩
theorem Inv.after {Q:VK} {u:Value} (I:Inv X pins σ H s) (h:CE X.stack X.prog X.w H s Q u s'):EP X pins σ Q u s':=by
 obtain ⟨v,H',os,bare,un,hok,r,q⟩:=h
 obtain ⟨hh,g,d,t,os'⟩:=s'
 obtain rfl:os'=s.os:=os
 exact ⟨v,H',I.call (h':=hh) (g':=g) (d':=d) (t':=t) (ch:=[]) un hok bare (fun b z=>absurd z (by simp)),r,q⟩
end
def tCall (sp:Sp) (dvs:List V) (E:XK) (t:TA):TE:=fun σ H Q=>t σ H fun vs H1=>sp (vs++dvs) H1 Q E
def Binds (K:PySem.W.Frag) (fd:FuncData) (ps:List Str) (ds:List Value):Prop :=
 ∀ (s:Shared) (us:List Value),K.In s.heap→(us++ds).length=ps.length→BindsTo s fd ⟨us,[]⟩ (ps.zip (us++ds))
theorem Binds.all {K:PySem.W.Frag} {fd:FuncData} {ps:List Str} (h:∀ us:List Value,us.length=ps.length→bindArgs fd ⟨us,[]⟩=pure (ps.zip us)):Binds K fd ps []:=fun s us _ hl=>by
 rw [List.append_nil] at hl ⊢
 exact .of_eq (h us hl)
def Passes (CX:CXT) (X:Cx) (E:XK):Prop:=∀ (pins:List (Addr×Obj)) (σ:St) (H:Hp) (s:Shared) (e:Value) (s':Shared),Inv X pins σ H s→CX X.stack H s E e s'→X.xe e s'
section
variable {X:Cx}{CX:CXT}{k:Nat}{f C:Addr}{fd:FuncData}{ps:List Str}{sp:Sp}{dvs:List V}{ds:List Value}{E:XK}{x:Str}{p pos:Pos}{e:Expr}{es:List Expr}{t:TA}
theorem run_fn {pins:List (Addr×Obj)} {σ:St} {H:Hp} {s:Shared} {Q:VK} {us:List Value} {vs:List V} (F:FnOk X.prog X.w X.K X.mg X.base CX k f fd ps sp) (hr:Room k X.A) (hb:Binds X.K fd ps ds) (hd:Vals dvs ds) (hx:Passes CX X E)
  (I:Inv X pins σ H s) (r:Vals vs us) (h:sp (vs++dvs) H Q E):wpAny (model X.prog X.w) X.A (call (.ref f) us) (EP X pins σ Q) X.xe s:=by
 have r2:Vals (vs++dvs) (us++ds):=r.append hd
 have hl:(us++ds).length=ps.length:=by rw [← r2.length]; exact F.len _ _ _ _ h
 refine wpAny_call (codeAny_mono (F.run X.A X.stack s H ⟨us,[]⟩ (us++ds) (vs++dvs) Q E hr I.env0 (hb s us I.kIn hl) r2 h) fun r s' hq=>?_)
 cases r with
 | error e=>exact hx pins σ H s e s' I hq
 | ok fl =>
  cases fl with
  | ret u=>exact I.after hq
  | next=>exact False.elim hq
  | brk=>exact False.elim hq
  | cont=>exact False.elim hq
theorem pe_call (F:FnOk X.prog X.w X.K X.mg X.base CX k f fd ps sp) (hr:Room k X.A) (hg:Gl X x) (hm:X.mg x=some (.ref f)) (hk:PySem.W.keepIn X.K (.ref f)=true) (hb:Binds X.K fd ps ds) (hd:Vals dvs ds) (hx:Passes CX X E)
  (ha:PA X (e :: es) t) (hdb:(x == ("__debug__":Str))=false:=by decide) (he:starEach (e :: es) X.env=(false,eval e X.env) :: starEach es X.env:=by rfl) (hpl:(backTo pos (starEach es X.env)).any (·.1)=false:=by rfl) :
  PE X (.Call (.Name x p) (e :: es) [] pos) (tCall sp dvs E t):=by
 intro pins s σ H Q I h
 refine wpAny_Call_Name_kw (ld_glob I hg hm ?_ hdb)
 refine PySem.W.callWith_K (h₀:=X.base) I.ok.mod.kin hk (thn (ha pos pins s σ H _ I h) fun us s1 ⟨vs,H1,I1,r,q⟩=>⟨I1.kIn,?_⟩) he hpl
 exact run_fn F hr hb hd hx I1 r q
structure Mk (K:PySem.W.Frag) (C f:Addr):Prop where
 makes:PySem.W.makesIn K C=true
 init:PySem.W.findIn K (.ref C) "__init__" = some (some (.ref f))
 fn:PySem.W.isFn K (.ref f)=true
 kp:PySem.W.keepIn K (.ref C)=true
end
structure FnScope (N P:List Str) (sc:Scope):Prop where
 kind:sc.kind=.function
 co:sc.isCoroutine=false
 gen:sc.isGenerator=false
 nd:N.Nodup
 pre:N.take P.length=P
 par:∀ x∈P,sc.names.lookup x=some .local ∨ sc.names.lookup x=some .cell
 nofree:∀ y∈sc.names,y.2≠.free
theorem bindL_out {kindOf:Str→Option NameKind} {x:Str}:∀ {binds:List (Str×Value)} {m:Str→Option Value},(∀ v,(x,v) ∉ binds)→bindL kindOf binds m x=m x
 | [],_,_=>rfl
 | (n,v) :: r,m,h=>by
  unfold bindL
  rw [bindL_out fun w hw=>h w (List.mem_cons_of_mem _ hw)]
  split
  ·have:x≠n:=by rintro rfl; exact h v List.mem_cons_self
   simp [this]
  ·rfl
theorem bindC_out {kindOf:Str→Option NameKind} {x:Str}:∀ {binds:List (Str×Value)} {m:Str→Option Value},(∀ v,(x,v) ∉ binds)→bindC kindOf binds m x=m x
 | [],_,_=>rfl
 | (n,v) :: r,m,h=>by
  unfold bindC
  rw [bindC_out fun w hw=>h w (List.mem_cons_of_mem _ hw)]
  split
  ·rfl
  ·have:x≠n:=by rintro rfl; exact h v List.mem_cons_self
   simp [this]
theorem bindL_get {kindOf:Str→Option NameKind} {x:Str} {v:Value}:∀ {P:List Str} {vs:List Value} {i:Nat} {m:Str→Option Value},P.Nodup→P[i]?=some x→vs[i]?=some v→kindOf x=some .local →
  bindL kindOf (P.zip vs) m x=some v
 | [],_,_,_,_,h,_,_=>by simp at h
 | _ :: _,[],_,_,_,_,h,_=>by simp at h
 | p :: P,w :: vs,0,m,nd,h1,h2,hk=>by
  simp at h1 h2; subst h1; subst h2
  show bindL kindOf ((p,w) :: P.zip vs) m p=_
  unfold bindL
  rw [bindL_out fun v hv=>(List.nodup_cons.mp nd).1 (List.of_mem_zip hv).1,if_pos hk]
  simp
 | p :: P,w :: vs,i + 1,m,nd,h1,h2,hk=>by
  show bindL kindOf ((p,w) :: P.zip vs) m x=_
  unfold bindL
  exact bindL_get (i:=i) (List.nodup_cons.mp nd).2 (by simpa using h1) (by simpa using h2) hk
theorem bindC_get {kindOf:Str→Option NameKind} {x:Str} {v:Value}:∀ {P:List Str} {vs:List Value} {i:Nat} {m:Str→Option Value},P.Nodup→P[i]?=some x→vs[i]?=some v→kindOf x≠some .local →
  bindC kindOf (P.zip vs) m x=some v
 | [],_,_,_,_,h,_,_=>by simp at h
 | _ :: _,[],_,_,_,_,h,_=>by simp at h
 | p :: P,w :: vs,0,m,nd,h1,h2,hk=>by
  simp at h1 h2; subst h1; subst h2
  show bindC kindOf ((p,w) :: P.zip vs) m p=_
  unfold bindC
  rw [bindC_out fun v hv=>(List.nodup_cons.mp nd).1 (List.of_mem_zip hv).1,if_neg hk]
  simp
 | p :: P,w :: vs,i + 1,m,nd,h1,h2,hk=>by
  show bindC kindOf ((p,w) :: P.zip vs) m x=_
  unfold bindC
  exact bindC_get (i:=i) (List.nodup_cons.mp nd).2 (by simpa using h1) (by simpa using h2) hk
def start (N:List Str) (vs:List V):St:=vs.map some++List.replicate (N.length - vs.length) none
def cxOf (CX:CXT) (P:Program) (w:World) (K:PySem.W.Frag) (mg:Str→Option Value) (base:Heap) (N:List Str) (qual:Str) (scope:Scope) (f:Addr) (cd:Value) (A:Around) (outer:List Env) (s:Shared) (H:Hp) (E:XK):Cx where
 prog:=P
 w:=w
 K:=K
 mg:=mg
 base:=base
 A:=A.deeper (envOfC qual scope s.heap.objs.size f cd)
 N:=N
 s₀:=s
 H₀:=H
 env:=envOfC qual scope s.heap.objs.size f cd
 outer:=outer
 stack:=envOfC qual scope s.heap.objs.size f cd :: outer
 ex:=[]
 calm:=true
 fn:=fun _=>true
 pn:=[]
 xe:=fun e s'=>wpAny (model P w) (A.deeper (envOfC qual scope s.heap.objs.size f cd)) (leaving (envOfC qual scope s.heap.objs.size f cd) e) (fun _ s''=>CX outer H s E e s'') (fun e' s''=>CX outer H s E e' s'') s'
theorem cell_has {sc:Scope} {n:Nat} {x:Str} (h:sc.names.lookup x=some .cell):∃ c,(cellsFrom n sc.names []).lookup x=some c:=by
 have q:=PySem.W.cellsFrom_some sc.names n [] (.inl h)
 exact Option.isSome_iff_exists.mp q
theorem inv_start {CX:CXT} {P:Program} {w:World} {K:PySem.W.Frag} {mg:Str→Option Value} {base:Heap} {N ps:List Str} {qual:Str} {scope:Scope} {f:Addr} {cd:Value} {A:Around} {outer:List Env} {s s1:Shared} {H:Hp} {E:XK} {us:List Value} {vs:List V}
  (S:FnScope N ps scope) (hd:A.handled=none) (e0:Env0 P w K mg base A outer s H) (hl:vs.length=ps.length) (r:Vals vs us)
  (x:InCallC s s.heap.objs.size (bindL (envOfC qual scope s.heap.objs.size f cd).kindOf (ps.zip us) fun _=>none) (cellsFrom (s.heap.objs.size + 1) scope.names []) (bindC (envOfC qual scope s.heap.objs.size f cd).kindOf (ps.zip us) fun _=>none) s1) :
  Inv (cxOf CX P w K mg base N qual scope f cd A outer s H E) [] (start N vs) H s1:=by
 have hpl:ps.length≤N.length:=by have:=congrArg List.length S.pre; rw [List.length_take] at this; lia
 obtain ⟨h1,tk,rfl,hk⟩:=x.done
 have noA:∀ b:Addr,b ∉ (cxOf CX P w K mg base N qual scope f cd A outer s H E).ex:=fun b z=>absurd (show b∈([]:List Addr) from z) (by simp)
 refine ⟨⟨e0.mod,S.kind,rfl,rfl,Nat.le_refl _,fun y z c h1 h2=>?_,fun y hy=>?_,fun y c _ h=>?_,fun _=>hd,Around.frames_deeper e0.frames,.inr ⟨rfl,rfl⟩,fun b z=>absurd z (noA b),e0.bs,e0.bsz,fun b _ _=>noA b,fun b z=>absurd z (noA b),e0.funs,e0.frf⟩,
  rfl,e0.bare,Un.kept hk,⟨_,x.toInCall.ns,fun i y v h1 h2 h3=>?_⟩,fun y c h=>⟨_,x.cell y c h⟩,e0.hok.fresh (Nat.le_refl _),fun y c h=>?_,fun p hp=>absurd (show p∈([]:List (Addr×Obj)) from hp) (by simp),e0.hok.kept hk,?_⟩
 ·exact name_of_addr x.apart (PySem.mem_of_lookup h1) (PySem.mem_of_lookup h2)
 ·have hy:scope.names.lookup y=some .cell ∨ scope.names.lookup y=some .free:=hy
  rcases hy with hy | hy
  ·exact cell_has hy
  ·exact absurd rfl (S.nofree _ (PySem.mem_of_lookup hy))
 ·exact Nat.le_of_lt (x.above y c (PySem.mem_of_lookup h))
 ·have hi:i < vs.length:=by
   unfold start at h2
   by_cases hi:i < vs.length
   ·exact hi
   ·rw [List.getElem?_append_right (by simpa using hi)] at h2
    rw [List.getElem?_replicate] at h2
    split at h2 <;> cases h2
  have ha:vs[i]?=some v:=by
   unfold start at h2
   rw [List.getElem?_append_left (by simpa using hi),List.getElem?_map] at h2
   cases e:vs[i]? with
   | none=>rw [e] at h2; cases h2
   | some a=>rw [e] at h2; cases h2; rfl
  obtain ⟨u,hu,rv⟩:=r.get ha
  have hp:ps[i]?=some y:=by
   rw [← S.pre,List.getElem?_take_of_lt (by lia)]; exact h1
  have ndP:ps.Nodup:=by rw [← S.pre]; exact S.nd.sublist (List.take_sublist _ _)
  refine ⟨u,rv,?_⟩
  rcases S.par y (List.mem_of_getElem? hp) with k | k
  ·exact .inl ⟨k,bindL_get ndP hp hu k⟩
  ·obtain ⟨c,e⟩:=cell_has (n:=s.heap.objs.size + 1) k
   refine .inr ⟨.inl k,c,e,?_⟩
   have q:=x.cell y c e
   rw [bindC_get ndP hp hu (by show scope.names.lookup y≠_; rw [k]; decide)] at q
   exact q
 ·exact e0.hok.fresh (Nat.le_of_lt (x.above y c (PySem.mem_of_lookup h)))
 ·unfold start
  show _=N.length
  rw [List.length_append,List.length_map,List.length_replicate]
  lia
theorem fn_of {CX:CXT} {P:Program} {w:World} {K:PySem.W.Frag} {mg:Str→Option Value} {base:Heap} {k:Nat} {f:Addr} {name qual:Str} {params:Arguments} {body:List Stmt} {scope:Scope} {dV kV doc pm cdv ct oc:Value} {an od:Option Addr}
  {osl:Array (Option Value)} {N ps:List Str} {sp:Sp} (lk:K.lookup f=some ⟨oc,od,.func (PySem.W.fnOf name qual params body scope dV kV doc pm an cdv ct),osl⟩) (hcd:PySem.W.codeIn K cdv qual=true) (S:FnScope N ps scope)
  (len:∀ vs H Q E,sp vs H Q E→vs.length=ps.length)
  (hbody:∀ (A:Around) (outer:List Env) (s:Shared) (H:Hp) (vs:List V) (Q:VK) (E:XK),RoomS k (A.deeper (envOfC qual scope s.heap.objs.size f cdv))→sp vs H Q E →
   ∃ t,PSs (cxOf CX P w K mg base N qual scope f cdv A outer s H E) body t∧t { nx:=fun _ H'=>Q .non H',rt:=Q } (start N vs) H) :
  FnOk P w K mg base CX (k + 1) f (PySem.W.fnOf name qual params body scope dV kV doc pm an cdv ct) ps sp:=by
 refine ⟨len,fun A outer s H args us vs Q E hr e0 hb r hsp=>?_⟩
 have hl:=len _ _ _ _ hsp
 have KX:K.In s.heap:=e0.mod.kin.keeps fun b o e=>(e0.bs b o e).1
 have lim:s.heap.NoLimit:=e0.mod.nolimit.keeps fun b o e=>(e0.bs b o e).1
 have hkind:∀ y∈ps.zip us,scope.names.lookup y.1=some .local ∨ (scope.names.lookup y.1=some .cell∧((cellsFrom (s.heap.objs.size + 1) scope.names []).lookup y.1).isSome=true):=fun q1 hy=>by
  obtain ⟨n,v⟩:=q1
  rcases S.par n (List.of_mem_zip hy).1 with q | q
  ·exact .inl q
  ·exact .inr ⟨q,PySem.W.cellsFrom_some _ _ _ (.inl q)⟩
 refine codeAny_call_function hr.depth (KX _ _ lk) rfl S.co S.gen rfl (PySem.W.codeRec_of KX hcd) (hb _ _ _ _ ?_)
 refine wpAny_newFunctionEnv_cells S.kind hkind fun env he s1 x=>?_
 subst he
 refine ⟨lim.keeps x.toInCall.keep,codeAny_func ?_⟩
 obtain ⟨t,ht,hq⟩:=hbody A outer s H vs Q E (hr.deeperS _) hsp
 have I:Inv (cxOf CX P w K mg base N qual scope f cdv A outer s H E) [] (start N vs) H s1:=inv_start S hr.hd e0 hl r x
 refine wpAny_mono (ht [] s1 (start N vs) H _ I hq) (fun fl s' hs=>?_) fun e s' hs=>hs
 have fin:∀ {σ':St} {H':Hp} {v:V} {u:Value},Inv (cxOf CX P w K mg base N qual scope f cdv A outer s H E) [] σ' H' s'→RelV v u→Q v H'→CE outer P w H s Q u s' :=
  fun {σ' H' v u} J rv q=>⟨v,H',J.os,J.bare,J.base,J.hok,rv,q⟩
 cases fl with
 | ret u =>
  obtain ⟨v,σ',H',J,rv,q⟩:=hs
  exact fin J rv q
 | next =>
  obtain ⟨σ',H',J,q⟩:=hs
  exact fin (v:=V.non) (u:=Value.none) J rfl q
 | brk =>
  obtain ⟨_,_,_,q⟩:=hs
  exact False.elim q
 | cont =>
  obtain ⟨_,_,_,q⟩:=hs
  exact False.elim q
end L2
namespace L2
open PySem PySem.Spec PyProof.Rows
section
variable {X:Cx}{x:Str}{p pos:Pos}{e:Expr}{es:List Expr}{t:TA}{id T:String}{r:List V→Hp→VK→Prop}
def tCB (r:List V→Hp→VK→Prop) (t:TA):TE:=fun σ H Q=>t σ H fun vs H1=>r vs H1 Q
theorem pe_callB (hc:CallR X (.builtin id) r) (hg:Gl X x) (hm:X.mg x=none) (hv:bootBuiltins x=some (.builtin id)) (ha:PA X (e :: es) t) (hn:x≠"__name__":=by decide) (hdb:(x == ("__debug__":Str))=false:=by decide)
  (he:starEach (e :: es) X.env=(false,eval e X.env) :: starEach es X.env:=by rfl) (hpl:(backTo pos (starEach es X.env)).any (·.1)=false:=by rfl):PE X (.Call (.Name x p) (e :: es) [] pos) (tCB r t):=by
 intro pins s σ H Q I h
 refine wpAny_Call_Name_kw (ld_blt I hg hm hv ?_ hn hdb)
 exact PyProof.Rows.callWith_builtin1 (thn (ha pos pins s σ H _ I h) fun us s1 q1=>by obtain ⟨vs,H1,I1,r1,q1⟩:=q1; exact hc pins s1 σ H1 vs us Q I1 r1 q1) he hpl
theorem pe_callTy (hc:CallR X (.type T) r) (hg:Gl X x) (hm:X.mg x=none) (hv:bootBuiltins x=some (.type T)) (ha:PA X (e :: es) t) (hn:x≠"__name__":=by decide) (hdb:(x == ("__debug__":Str))=false:=by decide)
  (he:starEach (e :: es) X.env=(false,eval e X.env) :: starEach es X.env:=by rfl) (hpl:(backTo pos (starEach es X.env)).any (·.1)=false:=by rfl):PE X (.Call (.Name x p) (e :: es) [] pos) (tCB r t):=by
 intro pins s σ H Q I h
 refine wpAny_Call_Name_kw (ld_blt I hg hm hv ?_ hn hdb)
 exact PyProof.Rows.callWith_type1 (thn (ha pos pins s σ H _ I h) fun us s1 q1=>by obtain ⟨vs,H1,I1,r1,q1⟩:=q1; exact hc pins s1 σ H1 vs us Q I1 r1 q1) he hpl
end
end L2
namespace HT
open PySem PyProof.Rows
def lexLt:List Int→List Int→Bool
 | [],[]=>false
 | [],_ :: _=>true
 | _ :: _,[]=>false
 | x :: xs,y :: ys=>if x=y then lexLt xs ys else decide (x < y)
theorem lexLt_cons (x y:Int) (xs ys:List Int):lexLt (x :: xs) (y :: ys)=if x=y then lexLt xs ys else decide (x < y):=rfl
theorem lexLt_nil_nil:lexLt [] []=false:=rfl
theorem lexLt_nil_cons (y:Int) (ys:List Int):lexLt [] (y :: ys)=true:=rfl
theorem lexLt_cons_nil (x:Int) (xs:List Int):lexLt (x :: xs) []=false:=rfl
theorem eqAt_int (A:Around) (s:Shared) (a:Int) (t:Tok) (c:Int) (u:Tok):∃ e,SeqAt.EqAt A s (.int a t) (.int c u) e∧(e=true↔a=c) :=
 ⟨(a == c),SeqAt.EqAt.int_int a t c u,by simp⟩
theorem rcLt_int (A:Around) (s:Shared) (a:Int) (t:Tok) (c:Int) (u:Tok) (prog:Program) (w:World) (E:Value→Shared→Prop) (Q:Value→Shared→Prop) (h:Q (.bool (decide (a < c))) s) :
  wpAny (model prog w) A (richCompare .Lt (.int a t) (.int c u)) Q E s :=
 (PyProof.Rows.lt_int h:wpAny (model prog w) A (compareOp .Lt (.int a t) (.int c u)) Q E s)
section
open PySem.SeqAt
open PySem.AutoSeq1 (wpAny_loadPart')
open PySem.MeetsSeq PySem.MeetsSeq2 PySem.MeetsSeq3
theorem tuple_lt_ints (l b:Addr) (items items2:Array Value) (n n2:Nat) (dd dd2:Option Addr) (sl sl2:Array (Option Value)) (ns ms:List Int) (hi:IntsAre items.toList ns) (hj:IntsAre items2.toList ms) :
  Meets (Builtin.«tuple.__lt__» ⟨[.ref l,.ref b],[]⟩)
   (fun _ R s=>s.heap.get? l=some { cls:=.type "tuple",dict:=dd,data:=.seq items n,slots:=sl }∧s.heap.get? b=some { cls:=.type "tuple",dict:=dd2,data:=.seq items2 n2,slots:=sl2 } ∧
    R (.ok (.ret (.bool (lexLt ns ms)))) s) :=
 .of_wp fun prog w A R s h=>by
  obtain ⟨hp,g,d,tk,os⟩:=s; obtain ⟨hl,hb,h⟩:=h
  have f2:=AutoSeq1.sub_tuple_tuple
  have z1:items.size=ns.length:=by rw [← hi.length]; simp
  have z2:items2.size=ms.length:=by rw [← hj.length]; simp
  wp_walk using wpAny_loadPart' hl,wpAny_loadPart' hb,wpAny_forIn_list _ (fun rest b s'=>b.1=none∧s'=⟨hp,g,d,tk,os⟩∧∃ (vs ws:List Value) (ns' ms':List Int),rest=vs.zip ws ∧
   IntsAre vs ns'∧IntsAre ws ms'∧ns'.length + items2.size=ms'.length + items.size∧R (.ok (.ret (.bool (lexLt ns' ms')))) ⟨hp,g,d,tk,os⟩) _
  case turn =>
   rintro ⟨y,x⟩ rest b s' ⟨hb',rfl,vs,ws,ns',ms',hz,hvi,hwi,hlen,hR⟩
   cases hvi with
   | nil=>rw [List.zip_nil_left] at hz; cases hz
   | cons a t hvi' =>
    cases hwi with
    | nil=>rw [List.zip_nil_right] at hz; cases hz
    | cons c u hwi' =>
     rw [List.zip_cons_cons] at hz
     injection hz with hyx hrest
     injection hyx with hy hx
     subst hy hx
     rw [lexLt_cons] at hR
     simp -iota only [List.length_cons] at hlen
     obtain ⟨e,he,hiff⟩:=eqAt_int A.in1 ⟨hp,g,d,tk,os⟩ a t c u
     refine wpAny_bind (he prog w _ _ ?_)
     cases e with
     | true =>
      rw [if_pos (hiff.mp rfl)] at hR
      wp_walk
      exact ⟨rfl,rfl,_,_,_,_,hrest,hvi',hwi',by lia,hR⟩
     | false =>
      rw [if_neg (fun q=>absurd (hiff.mpr q) Bool.false_ne_true)] at hR
      have hri:=rcLt_int A.in1 ⟨hp,g,d,tk,os⟩ a t c u prog w
      wp_walk using hri
      exact ⟨_,rfl,by simpa using hR⟩
  case fin =>
   rintro ⟨b1,b2⟩ s' ⟨hb',rfl,vs,ws,ns',ms',hz,hvi,hwi,hlen,hR⟩
   simp only at hb'
   subst hb'
   have hv:lexLt ns' ms'=decide (items.size < items2.size):=by
    cases hvi with
    | nil =>
     cases hwi with
     | nil =>
      simp -iota only [List.length_nil] at hlen
      rw [lexLt_nil_nil]
      exact (decide_eq_false (by lia)).symm
     | cons c u hw =>
      simp -iota only [List.length_nil,List.length_cons] at hlen
      rw [lexLt_nil_cons]
      exact (decide_eq_true (by lia)).symm
    | cons a t hv =>
     cases hwi with
     | nil =>
      simp -iota only [List.length_nil,List.length_cons] at hlen
      rw [lexLt_cons_nil]
      exact (decide_eq_false (by lia)).symm
     | cons c u hw =>
      rw [List.zip_cons_cons] at hz
      cases hz
   rw [hv] at hR
   wp_walk
   exact ⟨_,rfl,by simpa [Builtin.Tuple.tupleCompareSizes] using hR⟩
  case h =>
   exact ⟨rfl,rfl,items.toList,items2.toList,ns,ms,rfl,hi,hj,by lia,h⟩
end
section
variable {prog:Program}{w:World}{A:Around}{E:Value→Shared→Prop}{s:Shared}
theorem lt_tupInts {l b:Addr} {items items2:Array Value} {ns ms:List Int} {Q:Value→Shared→Prop} (hl:IsTup s.heap l items) (hb:IsTup s.heap b items2) (hi:IntsAre items.toList ns) (hj:IntsAre items2.toList ms)
  (hu:A.units < cLine) (h:Q (.bool (lexLt ns ms)) s):wpAny (model prog w) A (compareOp .Lt (.ref l) (.ref b)) Q E s:=by
 obtain ⟨⟨cls,dd,data,sl⟩,ho,hc,n,hd⟩:=id hl
 obtain ⟨⟨cls2,dd2,data2,sl2⟩,ho2,hc2,n2,hd2⟩:=id hb
 simp only at hc hd hc2 hd2
 subst hc hd hc2 hd2
 exact richCompare_meets_room (op:=.Lt) ⟨_,ho,rfl⟩ ⟨_,ho2,rfl⟩ PySem.F.slot_tuple_lt PySem.F.entry_tuple_lt (PySem.F.args_tuple_lt_2 _ _) (tuple_lt_ints l b items items2 n n2 dd dd2 sl sl2 ns ms hi hj)
  ⟨ho,ho2,show Value.bool (lexLt ns ms)≠Value.notImplemented∧Q (.bool (lexLt ns ms)) s from ⟨(fun x=>nomatch x),h⟩⟩ hu
theorem cat_tup {t b:Addr} {vs ws:List Value} {Q:Value→Shared→Prop} (ht:IsTup s.heap t vs.toArray) (hb:IsTup s.heap b ws.toArray) (hv:vs≠[])
  (h1:ws=[]→Q (.ref t) s) (h2:ws≠[]→Q (.ref s.heap.objs.size) { s with heap:=s.heap.push { cls:=.type "tuple",data:=.seq (vs++ws).toArray } })
  (hsz:vs.length + ws.length≤sizeLine):wpAny (model prog w) A (binaryOp .Add (.ref t) (.ref b)) Q E s:=by
 obtain ⟨⟨cls,dd,data,sl⟩,ho,hc,n,hd⟩:=id ht
 obtain ⟨⟨cls2,dd2,data2,sl2⟩,ho2,hc2,n2,hd2⟩:=id hb
 simp only at hc hd hc2 hd2
 subst hc hd hc2 hd2
 have e:vs.toArray++ws.toArray=(vs++ws).toArray:=by simp
 by_cases hw:ws=[]
 ·exact concat_meets ⟨_,ho,rfl⟩ ⟨_,ho2,rfl⟩ noFill_tuple_add seq_tuple_add PySem.F.slot_tuple_add PySem.F.entry_tuple_add (PySem.F.args_tuple_add_2 _ _)
   (tuple_addW1 t b vs.toArray ws.toArray n n2 dd dd2 sl sl2 (by simpa using hv) (by simp [hw])) ⟨ho,ho2,h1 hw⟩
 ·refine concat_meets ⟨_,ho,rfl⟩ ⟨_,ho2,rfl⟩ noFill_tuple_add seq_tuple_add PySem.F.slot_tuple_add PySem.F.entry_tuple_add (PySem.F.args_tuple_add_2 _ _)
   (tuple_addW2 t b vs.toArray ws.toArray n n2 dd dd2 sl sl2 (by simpa using hv) (by simpa using hw) (by rw [List.size_toArray,List.size_toArray]; exact hsz)) ⟨ho,ho2,?_⟩
  rw [e]
  exact h2 hw
def sIx (n d:Nat):Option Int→Nat
 | none=>d
 | some v=>if v < 0 then (v + (n:Int)).toNat else min v.toNat n
theorem sIx_le (n d:Nat) (hd:d≤n) (o:Option Int):sIx n d o≤n:=by
 cases o with
 | none=>exact hd
 | some v =>
  show (if v < 0 then (v + (n:Int)).toNat else min v.toNat n)≤n
  by_cases hv:v < 0
  ·rw [if_pos hv]; lia
  ·rw [if_neg hv]; exact Nat.min_le_right _ _
theorem clip_eq (v:Int) (n d:Nat):(if v < 0 then max (v + (n:Int)) 0 else min v (n:Int))=((sIx n d (some v):Nat):Int):=by
 show (if v < 0 then max (v + (n:Int)) 0 else min v (n:Int))=(((if v < 0 then (v + (n:Int)).toNat else min v.toNat n):Nat):Int)
 by_cases hv:v < 0
 ·simp -iota only [if_pos hv]; lia
 ·simp -iota only [if_neg hv]; lia
theorem adjust_gen (lo hi:Option Int) (n:Nat):Builtin.Slice.sliceAdjust lo hi 1 (n:Int)=(((sIx n 0 lo:Nat):Int),((sIx n n hi:Nat):Int)):=by
 have h1:¬ ((1:Int) < 0):=by lia
 unfold Builtin.Slice.sliceAdjust
 simp -iota only [h1,if_false]
 refine Prod.ext ?_ ?_
 ·cases lo with
  | none=>rfl
  | some v=>exact clip_eq v n 0
 ·cases hi with
  | none=>rfl
  | some v=>exact clip_eq v n n
theorem places_gen (i j:Nat):Builtin.Slice.slicePlaces (i:Int) (j:Int) 1=j - i:=by
 unfold Builtin.Slice.slicePlaces
 have h1:(1:Int) > 0:=by lia
 simp -iota only [h1,if_true,Int.ediv_one]
 split <;> lia
theorem slicePart_ {v:Value} {o:Option Int} {Q:Option Int→Shared→Prop} (p:IsPart v o) (h:Q o s):wpAny (model prog w) A (Builtin.Slice.slicePartIndex v) Q E s:=by
 cases p with
 | none=>exact slicePart_none h
 | int i t=>exact slicePart_int h
theorem sliceApplied_gen {sl:Addr} {vl vu:Value} {lo hi:Option Int} {n:Nat} {Q:Int×Int×Nat→Shared→Prop} (hs:s.heap.IsSliceOf sl vl vu .none) (pl:IsPart vl lo) (pu:IsPart vu hi)
  (h:Q (((sIx n 0 lo:Nat):Int),1,sIx n n hi - sIx n 0 lo) s):wpAny (model prog w) A (Builtin.Slice.sliceApplied (.ref sl) (pure (n:Int))) Q E s:=by
 obtain ⟨os,hos,hcs,hds⟩:=id hs
 unfold Builtin.Slice.sliceApplied Builtin.Slice.sliceFields
 refine wpAny_bind (wpAny_bind (wpAny_field hos hds (x:=vl) rfl (wpAny_bind (wpAny_field hos hds (x:=vu) rfl (wpAny_bind (wpAny_field hos hds (x:=.none) rfl (wpAny_pure ?_)))))))
 refine wpAny_bind (slicePart_none ?_)
 show wpAny _ _ (if ((1:Int) == 0)=true then _ else _) _ _ s
 rw [if_neg (by decide)]
 refine wpAny_bind (slicePart_ pl (wpAny_bind (slicePart_ pu (wpAny_bind (wpAny_pure ?_)))))
 show wpAny _ _ (match Builtin.Slice.sliceAdjust lo hi 1 (n:Int) with | (lo,hi)=>pure (lo,(1:Int),Builtin.Slice.slicePlaces lo hi 1)) _ _ s
 rw [adjust_gen lo hi n]
 show wpAny _ _ (pure (((sIx n 0 lo:Nat):Int),(1:Int),Builtin.Slice.slicePlaces ((sIx n 0 lo:Nat):Int) ((sIx n n hi:Nat):Int) 1)) _ _ s
 rw [places_gen]
 exact wpAny_pure h
theorem pick_gen (xs:Array Value) (i k:Nat):((List.range k).filterMap fun (m:Nat)=>xs[((i:Int) + (m:Int) * 1).toNat]?).toArray=((xs.toList.drop i).take k).toArray:=by
 have e:(fun (m:Nat)=>xs[((i:Int) + (m:Int) * 1).toNat]?)=fun m=>xs[i + m]?:=by
  funext m
  have:((i:Int) + (m:Int) * 1).toNat=i + m:=by lia
  rw [this]
 rw [e]
 have:=pick_run xs i k
 rw [List.filterMap_map] at this
 have e2:((fun x=>xs[x]?) ∘ fun x=>i + x)=fun m=>xs[i + m]?:=rfl
 rw [e2] at this
 rw [this]
theorem getItem_tuple_cut {t sl:Addr} {items:Array Value} {vl vu:Value} {lo hi:Option Int} {Q:Value→Shared→Prop} (ht:IsTup s.heap t items) (hs:s.heap.IsSliceOf sl vl vu .none) (pl:IsPart vl lo) (pu:IsPart vu hi)
  (hw:¬ (sIx items.size 0 lo=0∧sIx items.size items.size hi=items.size))
  (h:Q (.ref s.heap.objs.size) { s with heap:=s.heap.push { cls:=.type "tuple",data:=.seq ((items.toList.drop (sIx items.size 0 lo)).take (sIx items.size items.size hi - sIx items.size 0 lo)).toArray } })
  (hsz:items.size≤sizeLine):wpAny (model prog w) A (getItem (.ref t) (.ref sl)) Q E s:=by
 have htake:sizeOk (.seq ((items.toList.drop (sIx items.size 0 lo)).take (sIx items.size items.size hi - sIx items.size 0 lo)).toArray):=by
  show ((items.toList.drop (sIx items.size 0 lo)).take (sIx items.size items.size hi - sIx items.size 0 lo)).toArray.size≤sizeLine
  rw [List.size_toArray,List.length_take,List.length_drop,Array.length_toList]
  lia
 have hj:sIx items.size items.size hi≤items.size:=sIx_le _ _ (Nat.le_refl _) hi
 obtain ⟨os,hos,hcs,hds⟩:=id hs
 have hTs:s.TypeIs (.ref sl) "slice":=⟨os,hos,hcs⟩
 unfold getItem
 try with_reducible refine wpAny_holding ?_
 first | refine wpAny_bind (wpAny_pure ?_) | skip
 refine wpAny_bind (wpAny_sequenceKey ht.typeIs (by decide) ?_)
 refine wpAny_bind (wpAny_callSpecial?_slot (name:=Str.ofString "__getitem__") ht.typeIs PyProof.Rows.slot_tuple_getitem
  (wpAny_call_entry PyProof.Rows.slot_tuple_getitem ht.typeIs entry_tuple_getitem ?_ (args_tuple_getitem _ _)))
 show wpAny _ _ (Builtin.Tuple.tupleItemsOf (.ref t) >>= _) _ _ s
 refine wpAny_bind (tupleItemsOf_ ht ?_)
 refine wpAny_bind (wpAny_typeOf hTs ?_)
 rw [if_pos (by decide)]
 refine wpAny_bind (sliceApplied_gen hs pl pu ?_)
 have hno:¬ ((((sIx items.size 0 lo:Nat):Int) == 0 && (1:Int) == 1 && (sIx items.size items.size hi - sIx items.size 0 lo) == items.size)=true):=by
  intro q
  rw [Bool.and_eq_true,Bool.and_eq_true] at q
  have q1:((sIx items.size 0 lo:Nat):Int)=0:=eq_of_beq q.1.1
  have q2:sIx items.size items.size hi - sIx items.size 0 lo=items.size:=eq_of_beq q.2
  exact hw ⟨by lia,by lia⟩
 show wpAny _ _ (if (((sIx items.size 0 lo:Nat):Int) == 0 && (1:Int) == 1 && (sIx items.size items.size hi - sIx items.size 0 lo) == items.size)=true then _ else _) _ _ s
 rw [if_neg hno,pick_gen]
 first
  | exact wpAny_bind (m:=Builtin.Tuple.tupleExact _) (wpAny_newObj_type (wpAny_pure ⟨_,rfl,wpAny_pure h⟩) htake)
  | exact wpAny_bind (m:=Builtin.Tuple.tupleExact _) (wpAny_newObj_type (wpAny_bind (wpAny_pure (wpAny_pure ⟨_,rfl,wpAny_pure h⟩))) htake)
  | exact wpAny_bind (wpAny_bind (m:=Builtin.Tuple.tupleExact _) (wpAny_newObj_type (wpAny_pure (wpAny_pure ⟨_,rfl,wpAny_pure h⟩)) htake))
  | exact wpAny_bind (wpAny_bind (m:=Builtin.Tuple.tupleExact _) (wpAny_newObj_type (wpAny_pure ⟨_,rfl,wpAny_pure h⟩) htake))
end
end HT
namespace L2
open PySem PySem.Spec PyProof.Rows
abbrev TO:=St→Hp→(Option Int→Hp→Prop)→Prop
def PO (X:Cx) (e:Option Expr) (t:TO):Prop :=
 ∀ (pins:List (Addr×Obj)) (s:Shared) (σ:St) (H:Hp) (Q:Option Int→Hp→Prop),Inv X pins σ H s→t σ H Q →
  wpAny (model X.prog X.w) X.A (evalPart e X.env) (fun u s'=>∃ o H',Inv X pins σ H' s'∧IsPart u o∧Q o H') X.xe s
def tNoPart:TO:=fun _ H Q=>Q none H
def tPart (t:TE):TO:=fun σ H Q=>t σ H fun x H1=>∃ i,x=.int i∧Q (some i) H1
theorem intsAre_of {ns:List Int}:∀ {us:List Value},Vals (ns.map V.int) us→IntsAre us ns:=by
 induction ns with
 | nil=>intro us r; rw [List.map_nil] at r; cases r; exact .nil
 | cons n ns ih =>
  intro us r
  rw [List.map_cons] at r
  cases r with
  | cons r1 r2 =>
   obtain ⟨t,e⟩:=r1
   subst e
   exact .cons n t (ih r2)
section
variable {X:Cx}{e:Expr}{te:TE}{lo hi:Option Expr}{tl th:TO}{pos p2:Pos}
theorem po_none:PO X none tNoPart:=by
 intro pins s σ H Q I h
 rw [evalPart_none]
 exact wpAny_pure ⟨none,H,I,.none,h⟩
theorem po_some (h:PE X e te):PO X (some e) (tPart te):=by
 intro pins s σ H Q I hw
 rw [evalPart_some]
 refine thn (h pins s σ H _ I hw) fun u s1 q1=>?_; obtain ⟨x,H1,I1,r1,q1⟩:=q1
 obtain ⟨i,rfl,q⟩:=q1
 obtain ⟨t,rfl⟩:=r1
 exact ⟨some i,H1,I1,.int i t,q⟩
def SlR (X:Cx) (r:V→Option Int→Option Int→Hp→VK→Prop):Prop :=
 ∀ (pins:List (Addr×Obj)) (s:Shared) (σ:St) (H:Hp) (x:V) (v vl vu:Value) (lo hi:Option Int) (sl:Addr) (Q:VK),Inv X pins σ H s→RelV x v→s.heap.IsSliceOf sl vl vu .none→IsPart vl lo→IsPart vu hi→r x lo hi H Q →
  ∃ T id,typeLookup (.type T) "__getitem__" = pure (some (.builtin id))∧s.TypeIs v T∧wpAny (model X.prog X.w) X.A (getItem v (.ref sl)) (EP X pins σ Q) X.xe s
def tSl (r:V→Option Int→Option Int→Hp→VK→Prop) (te:TE) (tl th:TO):TE:=fun σ H Q=>te σ H fun x H1=>tl σ H1 fun l H2=>th σ H2 fun u H3=>r x l u H3 Q
theorem pe_slice {r:V→Option Int→Option Int→Hp→VK→Prop} (hr:SlR X r) (he:PE X e te) (hl:PO X lo tl) (hu:PO X hi th):PE X (.Subscript e (.Slice lo hi none p2) pos) (tSl r te tl th):=by
 intro pins s σ H Q I h
 refine Subscript_ (thn (he pins s σ H _ I h) fun v s1 ⟨x,H1,I1,r1,q1⟩=>?_)
 refine wpAny_Slice (thn (hl pins s1 σ H1 _ I1 q1) fun vl s2 ⟨l,H2,I2,pl,q2⟩=>thn (hu pins s2 σ H2 _ I2 q2) fun vu s3 ⟨u,H3,I3,pu,q3⟩=>?_)
 rw [evalPart_none]
 refine wpAny_pure ?_
 have I4:Inv X pins σ H3 { s3 with heap:=s3.heap.push { cls:=.type "slice",data:=.fields #[vl,vu,.none] } }:=I3.kept (t':=s3.toks) fun b ob q=>Heap.get?_push_of_some _ q
 obtain ⟨T,id,hT,ht,hg⟩:=hr pins { s3 with heap:=s3.heap.push { cls:=.type "slice",data:=.fields #[vl,vu,.none] } } σ H3 x v vl vu l u s3.heap.objs.size Q I4 r1 (Heap.IsSliceOf.new ..) pl pu q3
 show wpAny (model X.prog X.w) X.A (subscriptTail e (.Slice lo hi none p2) v (.ref s3.heap.objs.size)) (EP X pins σ Q) X.xe { s3 with heap:=s3.heap.push { cls:=.type "slice",data:=.fields #[vl,vu,.none] } }
 exact tail_any (ops:=[.ref s3.heap.objs.size,v]) ht hT hg (by with_unfolding_all rfl)
def cutV (xs:List V) (lo hi:Option Int):List V:=(xs.drop (HT.sIx xs.length 0 lo)).take (HT.sIx xs.length xs.length hi - HT.sIx xs.length 0 lo)
theorem cutV_length (xs:List V) (lo hi:Option Int):(cutV xs lo hi).length≤xs.length:=by
 unfold cutV
 rw [List.length_take,List.length_drop]
 lia
inductive rSlT (K:PySem.W.Frag) (x:V) (lo:Option Int) (hi:Option Int) (H:Hp) (Q:VK):Prop
 | mk (a:_) (xs:_) (_:x=.ref a) (_:SqT K H a xs) (_:¬ (HT.sIx xs.length 0 lo=0∧HT.sIx xs.length xs.length hi=xs.length)) (_:∀ p,H p=none→Q (.ref p) (upd H p (.tup (cutV xs lo hi)))):rSlT K x lo hi H Q
theorem sl_tup:SlR X (rSlT X.K):=by
 intro pins s σ H x v vl vu lo hi sl Q I rx hs pl pu h
 obtain ⟨a,xs,rfl,hx,hw,q⟩:=h
 cases rx
 obtain ⟨its,r,ht,hz⟩:=I.tuple hx
 have hlen:its.toArray.size=xs.length:=by rw [List.size_toArray]; exact r.length.symm
 refine ⟨"tuple",_,PyProof.Rows.slot_tuple_getitem.lookup,ht.typeIs,?_⟩
 refine HT.getItem_tuple_cut ht hs pl pu (by rw [hlen]; exact hw) ?_ (by rw [hlen]; exact hz)
 rw [hlen]
 refine ⟨.ref s.heap.objs.size,_,I.laid (t':=s.toks) (o:=.tup (cutV xs lo hi)) (fun b ob q=>Heap.get?_push_of_some _ q) (Nat.le_refl _) ?_,rfl,q _ (I.hok.fresh (Nat.le_refl _))⟩
 exact ⟨Nat.le_trans (cutV_length xs lo hi) hz,_,(r.drop (HT.sIx xs.length 0 lo)).take (HT.sIx xs.length xs.length hi - HT.sIx xs.length 0 lo),IsTup.new _ _⟩
inductive rLtT (K:PySem.W.Frag) (x:V) (y:V) (H:Hp) (Q:VK):Prop
 | mk (a:_) (b:_) (ns:_) (ms:_) (_:x=.ref a) (_:y=.ref b) (_:SqT K H a (ns.map V.int)) (_:SqT K H b (ms.map V.int)) (_:Q (.bl (HT.lexLt ns ms)) H):rLtT K x y H Q
theorem op_ltT (hu:X.A.units < cLine):OpR X (compareOp .Lt) (rLtT X.K):=by
 intro pins s σ H x y v u Q I rx ry h
 obtain ⟨a,b,ns,ms,rfl,rfl,ha,hb,q⟩:=h
 cases rx
 cases ry
 obtain ⟨its,r1,p1,_⟩:=I.tuple ha
 obtain ⟨its2,r2,p2,_⟩:=I.tuple hb
 have i1:IntsAre its.toArray.toList ns:=intsAre_of r1
 have i2:IntsAre its2.toArray.toList ms:=intsAre_of r2
 exact HT.lt_tupInts p1 p2 i1 i2 hu ⟨.bl (HT.lexLt ns ms),H,I,rfl,q⟩
inductive rCatT (K:PySem.W.Frag) (x:V) (y:V) (H:Hp) (Q:VK):Prop
 | mk (a:_) (b:_) (xs:_) (ys:_) (_:x=.ref a) (_:y=.ref b) (_:SqT K H a xs) (_:SqT K H b ys) (_:xs≠[]) (_:xs.length + ys.length≤sizeLine) (_:(ys=[]→Q (.ref a) H)) (_:(ys≠[]→∀ p,H p=none→Q (.ref p) (upd H p (.tup (xs++ys))))):rCatT K x y H Q
theorem Vals.nil_iff {xs:List V} {us:List Value} (r:Vals xs us):us=[]↔xs=[]:=by
 cases r with
 | nil=>simp
 | cons _ _=>simp
theorem op_catT:OpR X (binaryOp .Add) (rCatT X.K):=by
 intro pins s σ H x y v u Q I rx ry h
 obtain ⟨a,b,xs,ys,rfl,rfl,ha,hb,hx,hz,q1,q2⟩:=h
 cases rx
 cases ry
 obtain ⟨its,r1,p1,_⟩:=I.tuple ha
 obtain ⟨its2,r2,p2,_⟩:=I.tuple hb
 refine HT.cat_tup p1 p2 (fun z=>hx (r1.nil_iff.mp z)) (fun z=>⟨.ref a,H,I,rfl,q1 (r2.nil_iff.mp z)⟩) (fun z=>?_) (by rw [← r1.length,← r2.length]; exact hz)
 refine ⟨.ref s.heap.objs.size,_,I.laid (t':=s.toks) (o:=.tup (xs++ys)) (fun b ob q=>Heap.get?_push_of_some _ q) (Nat.le_refl _) ?_,rfl,q2 (fun w=>z (r2.nil_iff.mpr w)) _ (I.hok.fresh (Nat.le_refl _))⟩
 exact ⟨by rw [List.length_append]; exact hz,_,r1.append r2,IsTup.new _ _⟩
end
end L2
namespace L2
open PySem PySem.Spec PyProof.Rows
def ixN (n:Nat) (i:Int):Option Nat:=if 0≤i then (if i < n then some i.toNat else none) else if -(n:Int)≤i then some (i + n).toNat else none
def atI {α:Type} (xs:List α) (i:Int):Option α:=(ixN xs.length i).bind fun j=>xs[j]?
theorem ixN_seq {n:Nat} {i:Int} {j:Nat} (h:ixN n i=some j):seqIndex? i n=some j∧j < n∧-(n:Int)≤i∧i < n:=by
 unfold ixN at h
 by_cases h0:0≤i
 ·rw [if_pos h0] at h
  by_cases h1:i < n
  ·rw [if_pos h1] at h
   have e:i.toNat=j:=Option.some.inj h
   exact ⟨by rw [seqIndex_of h0 h1,e],by lia,by lia,h1⟩
  ·rw [if_neg h1] at h; cases h
 ·rw [if_neg h0] at h
  by_cases h1:-(n:Int)≤i
  ·rw [if_pos h1] at h
   have e:(i + n).toNat=j:=Option.some.inj h
   exact ⟨by rw [seqIndex_neg (by lia) h1,e],by lia,h1,by lia⟩
  ·rw [if_neg h1] at h; cases h
theorem atI_get {α:Type} {xs:List α} {i:Int} {v:α} (h:atI xs i=some v):∃ j,seqIndex? i xs.length=some j∧xs[j]?=some v∧j < xs.length∧-(xs.length:Int)≤i∧i < xs.length:=by
 unfold atI at h
 cases e:ixN xs.length i with
 | none=>rw [e] at h; cases h
 | some j =>
  rw [e] at h
  obtain ⟨h1,h2,h3,h4⟩:=ixN_seq e
  exact ⟨j,h1,h,h2,h3,h4⟩
def PlainIx (b:Expr):Prop:=∀ o i,subscripted b false o i=operate [o,i] (getItem o i)
def IxR (X:Cx) (r:R2):Prop :=
 ∀ (value slice:Expr) (pins:List (Addr×Obj)) (s:Shared) (σ:St) (H:Hp) (x y:V) (v u:Value) (Q:VK),Inv X pins σ H s→RelV x v→RelV y u→r x y H Q →
  subscripted slice false v u=operate [v,u] (getItem v u)→wpAny (model X.prog X.w) X.A (subscriptTail value slice v u) (EP X pins σ Q) X.xe s
def MtR (X:Cx) (id:String) (r:V→List V→Hp→VK→Prop):Prop :=
 ∀ (pins:List (Addr×Obj)) (s:Shared) (σ:St) (H:Hp) (x:V) (xs:List V) (v:Value) (us:List Value) (Q:VK),Inv X pins σ H s→RelV x v→Vals xs us→r x xs H Q →
  wpAny (model X.prog X.w) X.A (call (.builtin id) (v :: us)) (EP X pins σ Q) X.xe s
section
variable {X:Cx}{a b:Expr}{ta tb:TE}{pos:Pos}
theorem pe_ix {r:R2} (hr:IxR X r) (ha:PE X a ta) (hb:PE X b tb) (hs:PlainIx b):PE X (.Subscript a b pos) (tOp r ta tb):=by
 intro pins s σ H Q I h
 exact Subscript_ (binT ha hb I h fun v u s2 x y H2 I2 rx ry q=>hr a b pins s2 σ H2 x y v u Q I2 rx ry q (hs _ _))
inductive rIxL (K:PySem.W.Frag) (x:V) (y:V) (H:Hp) (Q:VK):Prop
 | mk (p:_) (xs:_) (i:_) (v:_) (_:x=.ref p) (_:y=.int i) (_:SqL K H p xs) (_:atI xs i=some v) (_:Q v H):rIxL K x y H Q
inductive rIxT (K:PySem.W.Frag) (x:V) (y:V) (H:Hp) (Q:VK):Prop
 | mk (p:_) (xs:_) (i:_) (v:_) (_:x=.ref p) (_:y=.int i) (_:SqT K H p xs) (_:atI xs i=some v) (_:Q v H):rIxT K x y H Q
theorem ix_list:IxR X (rIxL X.K):=by
 intro value slice pins s σ H x y v u Q I rx ry h hs
 obtain ⟨p,xs,i,z,rfl,rfl,hq,he,q⟩:=h
 cases rx
 obtain ⟨t,rfl⟩:=ry
 obtain ⟨its,r,pl,hz⟩:=I.list hq
 obtain ⟨j,h1,h2,h3,h4,h5⟩:=atI_get he
 obtain ⟨w,ew,rw'⟩:=r.get h2
 have hl:=r.length
 have hn:=line63
 have fin:EP X pins σ Q w s:=⟨z,H,I,rw',q⟩
 by_cases h0:0≤i
 ·have hj:i.toNat=j:=by
   rw [seqIndex_of h0 h5] at h1
   exact Option.some.inj h1
  exact item_listR pl.isList h0 (by lia) (by rw [hj]; simpa using ew) fin hs
 ·have hj:(i + (its.toArray.size:Int)).toNat=j:=by
   rw [seqIndex_neg (by lia) h4] at h1
   rw [List.size_toArray,← hl]
   exact Option.some.inj h1
  exact subscriptTail_builtinR (x:=w) pl.isList.typeIs slot_list_getitem.lookup
   (wpAny_getItem_list_neg (Q:=fun r s'=>r=w∧EP X pins σ Q r s') pl.isList (by lia) (by rw [List.size_toArray] <;> lia) (by lia) (by rw [hj]; simpa using ew) ⟨rfl,fin⟩) hs
theorem ix_tup:IxR X (rIxT X.K):=by
 intro value slice pins s σ H x y v u Q I rx ry h hs
 obtain ⟨p,xs,i,z,rfl,rfl,hq,he,q⟩:=h
 cases rx
 obtain ⟨t,rfl⟩:=ry
 obtain ⟨its,r,pl,hz⟩:=I.tuple hq
 obtain ⟨j,h1,h2,h3,h4,h5⟩:=atI_get he
 obtain ⟨w,ew,rw'⟩:=r.get h2
 have hl:=r.length
 have hn:=line63
 have fin:EP X pins σ Q w s:=⟨z,H,I,rw',q⟩
 exact subscriptTail_builtinR (x:=w) pl.typeIs slot_tuple_getitem.lookup
  (getItem_tuple (j:=j) (Q:=fun r s'=>r=w∧EP X pins σ Q r s') pl (by lia) (by lia) (by rw [List.size_toArray,← hl]; exact h1) (by simpa using ew) ⟨rfl,fin⟩) hs
theorem mapSeq_set (its:List Value) (n j:Nat) (u:Value):Obj.mapSeq (·.setIfInBounds j u) { cls:=.type "list",data:=.seq its.toArray n } = { cls:=.type "list",data:=.seq (its.set j u).toArray n }:=by
 simp [Obj.mapSeq]
theorem Inv.lst {pins:List (Addr×Obj)} {σ:St} {H:Hp} {s:Shared} {p:Addr} {xs:List V} (I:Inv X pins σ H s) (h:H p=some (.lst xs)) :
  ∃ (its:List Value) (n:Nat),Vals xs its∧s.heap.get? p=some { cls:=.type "list",data:=.seq its.toArray n }∧xs.length≤sizeLine:=by
 obtain ⟨z,its,n,r,e⟩:=I.hok p _ h
 exact ⟨its,n,r,e,z⟩
theorem Inv.lstUpd {pins:List (Addr×Obj)} {σ:St} {H:Hp} {s:Shared} {p:Addr} {xs ys:List V} {its its':List Value} {n n':Nat} {f:Obj→Obj} (I:Inv X pins σ H s) (h:H p=some (.lst xs))
  (ho:s.heap.get? p=some { cls:=.type "list",data:=.seq its.toArray n }) (hf:f { cls:=.type "list",data:=.seq its.toArray n } = { cls:=.type "list",data:=.seq its'.toArray n' }) (r:Vals ys its') (hz:ys.length≤sizeLine) (t:Nat) :
  Inv X pins σ (upd H p (.lst ys)) { s with heap:=s.heap.update p f,toks:=t }:=by
 have e:(s.heap.update p f).get? p=some { cls:=.type "list",data:=.seq its'.toArray n' }:=by
  rw [Heap.get?_update_self f ho (by rw [hf] <;> rfl),hf]
 refine I.write (x:=p) (e:=p) (by rw [h]; trivial) (.inl rfl) (fun b u hb q=>(Heap.get?_update_other _ _ (Ne.symm hb)).trans q) ⟨_,e⟩ ?_
 exact ⟨hz,its',n',r,e⟩
inductive rSetL (o:V) (i:V) (v:V) (H:Hp) (Q:(Hp→Prop)):Prop
 | mk (p:_) (xs:_) (k:_) (j:_) (_:o=.ref p) (_:i=.int k) (_:H p=some (.lst xs)) (_:ixN xs.length k=some j) (_:Q (upd H p (.lst (xs.set j v)))):rSetL o i v H Q
theorem set_list:PSet X rSetL:=by
 intro pins s σ H o i v ov iv u Q I ro ri rv h
 obtain ⟨p,xs,k,j,rfl,rfl,hp,hj,q⟩:=h
 cases ro
 obtain ⟨t,rfl⟩:=ri
 obtain ⟨its,n,r,ho,hz⟩:=I.lst hp
 obtain ⟨h1,h2,h3,h4⟩:=ixN_seq hj
 have hl:=r.length
 have hn:=line63
 have I':Inv X pins σ (upd H p (.lst (xs.set j v))) { s with heap:=s.heap.update p (Obj.mapSeq (·.setIfInBounds j u)) } :=
  I.lstUpd hp ho (mapSeq_set its n j u) (r.set rv j) (by rw [List.length_set]; exact hz) s.toks
 by_cases h0:0≤k
 ·have hk:k.toNat=j:=by
   rw [seqIndex_of h0 h4] at h1
   exact Option.some.inj h1
  exact PySem.W.ki_setAt ho h0 (by lia) (by rw [List.size_toArray,← hl]; exact h4) (by rw [hk]; exact ⟨_,I',q⟩)
 ·have hk:(k + (its.toArray.size:Int)).toNat=j:=by
   rw [seqIndex_neg (by lia) h3] at h1
   rw [List.size_toArray,← hl]
   exact Option.some.inj h1
  exact PySem.W.ki_setBack ho (by lia) (by rw [List.size_toArray,← hl]; exact h3) (by lia) (by rw [hk]; exact ⟨_,I',q⟩)
theorem slice_bounds (lo hi:Option Int) (n:Nat):(sliceBounds lo hi none n).1=((HT.sIx n 0 lo:Nat):Int)∧(sliceBounds lo hi none n).2.1=((HT.sIx n n hi:Nat):Int)∧(sliceBounds lo hi none n).2.2=1:=by
 refine ⟨?_,?_,rfl⟩
 ·cases lo with
  | none=>simp [sliceBounds,HT.sIx]
  | some i =>
   simp only [sliceBounds,HT.sIx,Option.getD_none,show (1:Int) > 0 by decide,if_true]
   by_cases h:i < 0
   ·simp only [h,if_true] <;> lia
   ·simp only [h,if_false] <;> lia
 ·cases hi with
  | none=>simp [sliceBounds,HT.sIx]
  | some i =>
   simp only [sliceBounds,HT.sIx,Option.getD_none,show (1:Int) > 0 by decide,if_true]
   by_cases h:i < 0
   ·simp only [h,if_true] <;> lia
   ·simp only [h,if_false] <;> lia
theorem slicePick_cut (its:List Value) (lo hi:Option Int):slicePick its.toArray lo hi none=((its.drop (HT.sIx its.length 0 lo)).take (HT.sIx its.length its.length hi - HT.sIx its.length 0 lo)).toArray:=by
 obtain ⟨h1,h2,h3⟩:=slice_bounds lo hi its.toArray.size
 unfold slicePick
 rw [h1,h2,h3]
 simp -iota only [sliceRange_one,pick_run,List.size_toArray] <;> rfl
inductive rSlL (K:PySem.W.Frag) (x:V) (lo:Option Int) (hi:Option Int) (H:Hp) (Q:VK):Prop
 | mk (a:_) (xs:_) (_:x=.ref a) (_:SqL K H a xs) (_:∀ p,H p=none→Q (.ref p) (upd H p (.lst (cutV xs lo hi)))):rSlL K x lo hi H Q
theorem sl_list:SlR X (rSlL X.K):=by
 intro pins s σ H x v vl vu lo hi sl Q I rx hs pl pu h
 obtain ⟨a,xs,rfl,hx,q⟩:=h
 cases rx
 obtain ⟨its,r,ht,hz⟩:=I.list hx
 have hlen:=r.length
 refine ⟨"list",_,slot_list_getitem.lookup,ht.isList.typeIs,?_⟩
 refine wpAny_getItem_list_slice ht.isList hs pl pu .none (by simp) ?_ (by rw [List.size_toArray] <;> lia)
 rw [slicePick_cut,← hlen]
 refine ⟨.ref s.heap.objs.size,_,I.laid (t':=s.toks) (o:=.lst (cutV xs lo hi)) (fun b ob q=>Heap.get?_push_of_some _ q) (Nat.le_refl _) ?_,rfl,q _ (I.hok.fresh (Nat.le_refl _))⟩
 exact ⟨Nat.le_trans (cutV_length xs lo hi) hz,_,0,(r.drop (HT.sIx xs.length 0 lo)).take (HT.sIx xs.length xs.length hi - HT.sIx xs.length 0 lo),Heap.get?_push_size _ rfl⟩
theorem call_len_seq:CallR X (.builtin "len") (fun xs H Q=>∃ p ys,xs=[.ref p]∧(SqL X.K H p ys ∨ SqT X.K H p ys)∧Q (.int ys.length) H):=by
 intro pins s σ H xs us Q I r h
 obtain ⟨p,ys,rfl,hq,q⟩:=h
 obtain ⟨u,rfl,rx⟩:=vals1 r
 cases rx
 have hn:=line63
 rcases hq with hq | hq
 ·obtain ⟨its,r',pl,hz⟩:=I.list hq
  have hlen:=r'.length
  exact Calls.call_len_list pl.isList (by simp -iota only [List.size_toArray] <;> lia) ⟨.int ys.length,H,I.tok _,⟨s.toks + 1,by rw [List.size_toArray,hlen]⟩,q⟩
 ·obtain ⟨its,r',pl,hz⟩:=I.tuple hq
  have hlen:=r'.length
  exact len_tuple pl (by simp -iota only [List.size_toArray] <;> lia) ⟨.int ys.length,H,I.tok _,⟨s.toks + 1,by rw [List.size_toArray,hlen]⟩,q⟩
theorem call_tuple_of:CallR X (.type "tuple") (fun xs H Q=>∃ p ys,xs=[.ref p]∧((SqL X.K H p ys∧∀ l,H l=none→Q (.ref l) (upd H l (.tup ys))) ∨ (SqT X.K H p ys∧Q (.ref p) H))):=by
 intro pins s σ H xs us Q I r h
 obtain ⟨p,ys,rfl,h⟩:=h
 obtain ⟨u,rfl,rx⟩:=vals1 r
 cases rx
 rcases h with ⟨hq,q⟩ | ⟨hq,q⟩
 ·obtain ⟨its,r',pl,hz⟩:=I.list hq
  have hlen:=r'.length
  refine call_tuple_list pl.isList (fun h' kp=>?_) (by simp -iota only [List.size_toArray] <;> lia)
  have I1:Inv X pins σ H { s with heap:=h' }:=I.kept (t':=s.toks) kp
  have I2:Inv X pins σ (upd H h'.objs.size (.tup ys)) { s with heap:=h'.push { cls:=.type "tuple",data:=.seq its.toArray } } :=
   I1.laid (t':=s.toks) (fun b o e=>Heap.get?_push_of_some _ e) (Nat.le_refl _) (show ObjOk X.prog X.w _ _ _ (.tup ys) from ⟨hz,its,r',IsTup.new _ _⟩)
  exact ⟨.ref h'.objs.size,_,I2,rfl,q _ (I1.hok.fresh (Nat.le_refl _))⟩
 ·obtain ⟨its,r',pl,hz⟩:=I.tuple hq
  exact call_tuple_same pl ⟨.ref p,H,I,rfl,q⟩
def tyV (K:PySem.W.Frag) (T:String) (x:V) (H:Hp):Prop:=match x with
 | .str _=>T = "str"
 | .int _=>T = "int"
 | .ref p=>(T = "list"∧∃ xs,SqL K H p xs) ∨ (T = "tuple"∧∃ o,K.lookup p=some o∧o.cls=.type "tuple"∧o.dict=none) ∨
   (T = "dict"∧((∃ kvs,H p=some (.dK kvs)) ∨ ∃ kvs,H p=some (.dT kvs))) ∨ (T = "set"∧∃ S n,H p=some (.set S n))
 | _=>False
theorem tyV_is {pins:List (Addr×Obj)} {σ:St} {H:Hp} {s:Shared} {T:String} {x:V} {v:Value} (I:Inv X pins σ H s) (r:RelV x v) (ty:tyV X.K T x H) :
  s.TypeIs v T∧∀ a,v=.ref a→∃ ob,s.heap.get? a=some ob∧ob.dict=none:=by
 cases x with
 | str z =>
  obtain ⟨t,rfl⟩:=r
  cases (show T = "str" from ty)
  exact ⟨typeIs_str s z t,fun _ e=>nomatch e⟩
 | int i =>
  obtain ⟨t,rfl⟩:=r
  cases (show T = "int" from ty)
  exact ⟨typeIs_int s i t,fun _ e=>nomatch e⟩
 | ref p =>
  cases r
  rcases ty with ⟨rfl,xs,hq⟩ | ⟨rfl,o,hk,hc,hd⟩ | ⟨rfl,hk⟩ | ⟨rfl,S,n,hk⟩
  ·obtain ⟨its,_,pl,_⟩:=I.list hq
   refine ⟨pl.isList.typeIs,fun a e=>?_⟩
   cases e
   obtain ⟨o,n,e,c,hd,_⟩:=pl
   exact ⟨o,e,hd⟩
  ·refine ⟨⟨o,I.kIn p o hk,hc⟩,fun a e=>?_⟩
   cases e
   exact ⟨o,I.kIn _ o hk,hd⟩
  ·have z:∃ o,s.heap.get? p=some o∧o.ExactDict:=by
    rcases hk with ⟨kvs,hk⟩ | ⟨kvs,hk⟩
    ·obtain ⟨_,_,_,_,o,_,_,e,ex,_⟩:=I.hok p _ hk
     exact ⟨o,e,ex⟩
    ·obtain ⟨_,_,_,_,o,_,_,e,ex,_⟩:=I.hok p _ hk
     exact ⟨o,e,ex⟩
   obtain ⟨o,e,ex⟩:=z
   refine ⟨⟨o,e,ex.1⟩,fun a e2=>?_⟩
   cases e2
   exact ⟨o,e,ex.2.1⟩
  ·obtain ⟨o,_,_,_,e,ex,_⟩:=I.hok p _ hk
   refine ⟨⟨o,e,ex.1⟩,fun a e2=>?_⟩
   cases e2
   exact ⟨o,e,ex.2.1⟩
 | _=>exact False.elim ty
def tBM (K:PySem.W.Frag) (T:String) (r:V→List V→Hp→VK→Prop) (to:TE) (t:TA):TE:=fun σ H Q=>to σ H fun x H1=>tyV K T x H1∧t σ H1 fun xs H2=>r x xs H2 Q
variable {o e:Expr}{es:List Expr}{to:TE}{t:TA}{name:Str}{apos cpos:Pos}{T id:String}{r:V→List V→Hp→VK→Prop}
theorem pe_bm (pa:PlainAttrs T) (slot:Slot T name id) (hty:typeOf (.builtin id)=pure (.type "method_descriptor")) (hm:MtR X id r) (ho:PE X o to) (ha:PA X (e :: es) t)
  (hbase:attributeBase o name X.env (eval o X.env)=eval o X.env:=by rfl)
  (hfew:((backTo cpos (starEach (e :: es) X.env)).all (fun x=>!x.1) && (backToKw cpos (keywordEach [] X.env)).all (fun x=>x.1.isSome)
   && decide ((e :: es).length + ([]:List Keyword).length + (if ([]:List Keyword).isEmpty then 0 else 1) < 30))=true:=by rfl)
  (hline:(apos.endLine == cpos.line)=true:=by rfl) (hs:starEach (e :: es) X.env=(false,eval e X.env) :: starEach es X.env:=by rfl) (hplain:(backTo cpos (starEach es X.env)).any (·.1)=false:=by rfl) :
  PE X (.Call (.Attribute o name apos) (e :: es) [] cpos) (tBM X.K T r to t):=by
 intro pins s σ H Q I h
 refine wpAny_Call_method_late hbase hfew hline rfl (thn (ho pins s σ H _ I h) fun v s1 ⟨x,H1,I1,r1,ty,q1⟩=>?_)
 obtain ⟨h1,h2⟩:=tyV_is I1 r1 ty
 refine ⟨T,id,pa,slot,hty,h1,h2,?_⟩
 have hA:=ha cpos pins s1 σ H1 _ I1 q1
 rw [hs] at hA ⊢
 refine Calls.callWith_builtin (by show (false || (backTo cpos (starEach es X.env)).any (·.1))=false; rw [hplain] <;> rfl) (Calls.evalArgs_plain ?_)
 refine thn hA fun us s2 q2=>?_; obtain ⟨vs,H2,I2,r2,q2⟩:=q2; exact hm pins s2 σ H2 x vs v us Q I2 r1 r2 q2
end
end L2
namespace L2
open PySem PySem.Spec PyProof.Rows
def MtM (X:Cx) (id:String) (r:V→List V→Hp→VK→Prop):Prop :=
 ∀ (pins:List (Addr×Obj)) (s:Shared) (σ:St) (H:Hp) (x:V) (xs:List V) (v:Value) (us:List Value) (Q:VK),Inv X pins σ H s→RelV x v→Vals xs us→r x xs H Q →
  wpAny (model X.prog X.w) X.A (call (.builtin id) (v :: us)) (EP X pins σ Q) X.xe s
theorem Vals.one:∀ {x:V} {us:List Value},Vals [x] us→∃ u,us=[u]∧RelV x u:=fun h=>by
 obtain ⟨u,r,rfl,h1,h2⟩:=h.unc
 exact ⟨u,by rw [h2.unn],h1⟩
theorem Vals.rep {xs:List V} {us:List Value} (h:Vals xs us):∀ k:Nat,Vals (List.replicate k xs).flatten (List.replicate k us).flatten
 | 0=>.nil
 | k + 1=>by
  rw [List.replicate_succ,List.replicate_succ,List.flatten_cons,List.flatten_cons]
  exact Vals.append h (Vals.rep h k)
theorem foldl_rep (its:List Value):∀ (k:Nat) (acc:List Value),
  List.foldl (fun x1 x2=>x1++x2) acc.toArray (List.replicate k its.toArray)=(acc++(List.replicate k its).flatten).toArray
 | 0,acc=>by simp
 | k + 1,acc=>by
  have e:acc.toArray++its.toArray=(acc++its).toArray:=by simp
  have e2:(acc++its)++(List.replicate k its).flatten=acc++(List.replicate (k + 1) its).flatten:=by
   rw [List.replicate_succ,List.flatten_cons,List.append_assoc]
  rw [← e2,← foldl_rep its k (acc++its),← e,List.replicate_succ,List.foldl_cons]
section
variable {X:Cx}{pins:List (Addr×Obj)}{σ:St}{H:Hp}{s:Shared}{l:Addr}{xs ys:List V}
theorem Inv.lset {its its':List Value} {n:Nat} {f:Array Value→Array Value} {t':Nat} (I:Inv X pins σ H s) (hH:H l=some (.lst xs))
  (e:s.heap.get? l=some { cls:=.type "list",data:=.seq its.toArray n }) (hf:f its.toArray=its'.toArray) (hv:Vals ys its') (hz:ys.length≤sizeLine) :
  Inv X pins σ (upd H l (.lst ys)) { s with heap:=s.heap.update l (Obj.mapSeq f),toks:=t' }:=by
 have q:=PySem.IsL.update e f
 rw [hf] at q
 refine I.write (x:=l) (e:=l) (by rw [hH]; exact trivial) (.inl rfl) (fun b' u hb hu=>(Heap.get?_update_other s.heap (Obj.mapSeq f) (Ne.symm hb)).trans hu) ⟨_,q⟩ ?_
 exact ⟨hz,its',_,hv,q⟩
theorem Inv.lnew {its:List Value} {t':Nat} (I:Inv X pins σ H s) (hv:Vals ys its) (hz:ys.length≤sizeLine) :
  Inv X pins σ (upd H s.heap.objs.size (.lst ys)) { s with heap:=s.heap.push { cls:=.type "list",data:=.seq its.toArray },toks:=t' } :=
 I.laid (fun _ _ q=>Heap.get?_push_of_some _ q) (Nat.le_refl _) ⟨hz,its,0,hv,Heap.get?_push_size _ rfl⟩
theorem Inv.fresh (I:Inv X pins σ H s):H s.heap.objs.size=none:=I.hok.fresh (Nat.le_refl _)
theorem Inv.lstM (I:Inv X pins σ H s) (hH:H l=some (.lst xs)):xs.length≤sizeLine∧∃ (its:List Value) (n:Nat),Vals xs its∧xs.length=its.length∧s.heap.get? l=some { cls:=.type "list",data:=.seq its.toArray n }:=by
 obtain ⟨z,its,n,r,e⟩:=I.hok l _ hH
 exact ⟨z,its,n,r,r.length,e⟩
theorem notLongL {n:Nat} (h:n≤sizeLine):Builtin.List.listTooLong n=false:=by
 unfold Builtin.List.listTooLong
 exact decide_eq_false (by lia)
end
section
variable {X:Cx}
inductive rAppend (x:V) (vs:List V) (H:Hp) (Q:VK):Prop
 | mk (l:_) (xs:_) (y:_) (_:x=.ref l) (_:vs=[y]) (_:H l=some (.lst xs)) (_:xs.length < sizeLine) (_:Q .non (upd H l (.lst (xs++[y])))):rAppend x vs H Q
theorem mt_append:MtM X "list.append" rAppend:=by
 intro pins s σ H x vs v us Q I rx rv h
 obtain ⟨l,xs,y,rfl,rfl,hH,hz,q⟩:=h
 cases rx
 obtain ⟨u,rfl,ru⟩:=rv.one
 obtain ⟨z,its,n,r,hl,e⟩:=I.lstM hH
 refine call_meets F.slot_list_append ⟨_,e,rfl⟩ F.entry_list_append (F.args_list_append_2 _ _) (PySem.list_append l its.toArray n u (by rw [List.size_toArray]; lia)) ⟨e,?_⟩
 refine ⟨.non,_,I.lset (its':=its++[u]) hH e (by simp) (r.append (.cons ru .nil)) ?_,rfl,q⟩
 rw [List.length_append,List.length_singleton]
 lia
inductive rCat (x:V) (y:V) (H:Hp) (Q:VK):Prop
 | mk (l:_) (b:_) (xs:_) (zs:_) (_:x=.ref l) (_:y=.ref b) (_:H l=some (.lst xs)) (_:H b=some (.lst zs)) (_:xs.length + zs.length≤sizeLine) (_:∀ p,H p=none→Q (.ref p) (upd H p (.lst (xs++zs)))):rCat x y H Q
theorem op_cat:OpR X (binaryOp .Add) rCat:=by
 intro pins s σ H x y v u Q I rx ry h
 obtain ⟨l,b,xs,zs,rfl,rfl,hH,hB,hz,q⟩:=h
 cases rx
 cases ry
 obtain ⟨z,its,n,r,hl,e⟩:=I.lstM hH
 obtain ⟨z2,its2,n2,r2,hl2,e2⟩:=I.lstM hB
 refine PySem.P.add_list e e2 ?_ (by rw [List.size_toArray,List.size_toArray]; lia)
 have ea:its.toArray++its2.toArray=(its++its2).toArray:=by simp
 rw [ea]
 exact ⟨.ref _,_,I.lnew (t':=s.toks) (r.append r2) (by rw [List.length_append]; lia),rfl,q _ I.fresh⟩
inductive rRep (x:V) (y:V) (H:Hp) (Q:VK):Prop
 | mk (l:_) (k:_) (xs:_) (_:x=.ref l) (_:y=.int k) (_:H l=some (.lst xs)) (_:-(2 ^ 63)≤k) (_:k < 2 ^ 63) (_:xs.length * k.toNat≤sizeLine) (_:∀ p,H p=none→Q (.ref p) (upd H p (.lst (List.replicate k.toNat xs).flatten))):rRep x y H Q
theorem len_rep {α:Type} (xs:List α) (k:Nat):(List.replicate k xs).flatten.length=k * xs.length:=by
 induction k with
 | zero=>simp
 | succ k ih=>rw [List.replicate_succ,List.flatten_cons,List.length_append,ih,Nat.succ_mul,Nat.add_comm]
theorem op_rep:OpR X (binaryOp .Mult) rRep:=by
 intro pins s σ H x y v u Q I rx ry h
 obtain ⟨l,k,xs,rfl,rfl,hH,h1,h2,hz,q⟩:=h
 cases rx
 obtain ⟨t,rfl⟩:=ry
 obtain ⟨z,its,n,r,hl,e⟩:=I.lstM hH
 have hlen:its.toArray.size * k.toNat≤sizeLine:=by rw [List.size_toArray,← hl]; exact hz
 have hcap:¬ its.toArray.size * k.toNat > (2 ^ 63 - 1) / 8:=by
  have:(sizeLine:Nat)≤(2 ^ 63 - 1) / 8:=by decide
  lia
 have hfit:¬ (!Builtin.List.listFitsIndex k)=true:=by
  rw [fitsIndex_both h1 h2]
  exact Bool.false_ne_true
 have hlong:¬ Builtin.List.listTooLong (its.toArray.size * k.toNat)=true:=by
  rw [notLongL hlen]
  exact Bool.false_ne_true
 have hnew:List.foldl (fun x1 x2=>x1++x2) #[] (List.replicate (if its.toArray.isEmpty=true then 0 else k.toNat) its.toArray)=(List.replicate k.toNat its).flatten.toArray:=by
  have f0:∀ m:Nat,List.foldl (fun x1 x2=>x1++x2) #[] (List.replicate m its.toArray)=(List.replicate m its).flatten.toArray:=fun m=>by
   have:=foldl_rep its m []
   rw [List.nil_append] at this
   exact this
  rw [f0]
  cases its with
  | nil=>simp
  | cons a r'=>rw [if_neg (by simp)]
 refine wpAny_binaryOp_repeat_ref (T:="list") (U:="int") (by decide) ⟨_,e,rfl⟩ (fun s'=>typeIs_int s' k t) noFill_list_mul F.fills_int_mul F.slot_int_rmul repeat_list F.slot_int_index.lookup
  (call_meets F.slot_int_rmul (typeIs_int s k t) F.entry_int_rmul (F.args_int_rmul_2 _ _) (int___rmul___int_list k t l its.toArray n)
   ⟨e,rfl,⟨_,e,rfl⟩,call_meets F.slot_list_mul ⟨_,e,rfl⟩ F.entry_list_mul (F.args_list_mul_2 _ _) (AutoListH.list___mul___list_int_3 l its.toArray n k t hfit hcap hlong) ⟨e,?_⟩⟩)
 rw [hnew]
 exact ⟨.ref _,_,I.lnew (t':=s.toks) (r.rep k.toNat) (by rw [len_rep,Nat.mul_comm]; exact hz),rfl,q _ I.fresh⟩
end
end L2
namespace Att
open PySem PySem.W PySem.Calls PyProof.Rows
theorem ints_of_wellAll {P:Params} {h:Heap}:∀ (ns:List Int) (vs:List Value),WellAll P h vs (ns.map WData.int)→IntsAre vs ns:=by
 intro ns
 induction ns with
 | nil =>
  intro vs w
  rw [List.map_nil] at w
  cases w
  exact .nil
 | cons n ns ih =>
  intro vs w
  rw [List.map_cons] at w
  cases w with
  | cons a b =>
   cases a
   exact .cons _ _ (ih _ b)
theorem script_of {l:OpenLaw} {n:Nat} (hn:l.most=some n) {P:Params} {h:Heap} {args:List WData} {vals:List Value}
  (hpre:l.row.toRowW.claim.pre args=true) (hwl:WellAll P h vals args) :
  ∃ a vs ns,vals=[Value.ref a]∧args=[WData.list (ns.map WData.int)]∧h.get? a=some { cls:=.type "list",data:=.seq vs.toArray }∧IntsAre vs ns∧ns.length≤n:=by
 have hsh:WShape.hasAll [] args [.list .int]=true:=(pre_splitW hpre).1
 have hc:l.pre.holds [] { args:=args } = true:=(pre_splitW hpre).2
 obtain ⟨d,r,rfl,h1,h2⟩:=hasAllW_cons hsh
 obtain rfl:=hasAllW_nil h2
 obtain ⟨xs,rfl,h3⟩:=hasW_list h1
 obtain ⟨ns,rfl⟩:=items_int h3
 have hlen:ns.length≤n:=by
  unfold OpenLaw.pre at hc
  have h4:(WTm.not (.lt (.lit (.int (n:Int))) (.len (.arg 0)))).holds [] { args:=[.list (ns.map .int)] } = true:=by
   have h4:=(holds_andW hc).1
   rw [hn] at h4
   exact h4
  have h5:=condW_of h4 (w_not (w_lt w_lit (w_len_list (w_arg rfl))))
  rw [List.length_map] at h5
  refine Nat.le_of_not_lt fun q=>?_
  have q':(n:Int) < ((ns.length:Nat):Int):=by lia
  first
   | (rw [decide_eq_true q'] at h5; exact absurd h5 (by decide))
   | (simp at h5; lia)
 cases hwl with
 | cons w1 w2 =>
  cases w2
  cases w1 with
  | list ho hall=>exact ⟨_,_,ns,rfl,rfl,ho,ints_of_wellAll ns _ hall,hlen⟩
theorem post_true (l:OpenLaw) (args:List WData):l.row.toRowW.claim.post args (.bool true) args=true :=
 postW_of (r:=l.row.toRowW) (X:=(true == true))
  (show WShape.has [] (.bool true) .bool=true by first | rfl | decide | simp [WShape.has,WShape.arms,WShape.armsAll])
  (show (WTm.eq .res (.lit (.bool true))).value [] { args:=args,res:=some (.bool true),after:=args } = some (.bool (true == true)) from w_eq_bool (w_res rfl) w_lit) rfl
theorem attach_call {l:OpenLaw} {n:Nat} {q:Program} {loose:List Str} {XP:(Str→Option Value)→Heap→Prop} {YP:World→Heap→Prop} {d:DefRec}
  (hn:l.most=some n) (hdf:d.params.defaults=[])
  (call:∀ (w:World) (s₀ s₁:Shared) (mg mb:Str→Option Value) (fa:Addr) (o:Obj) (pm cd doc:Value) (a:Addr) (vs:List Value) (ns:List Int),
   Ground q loose [] XP w s₀ mg mb s₁.heap→YP w s₁.heap →
   s₁.heap.get? fa=some o→o.data=.func (docDef d.name d.params d.body d.scope pm cd doc)→s₁.heap.CodeRec cd d.name→mg d.name=some (.ref fa) →
   s₁.heap.get? a=some { cls:=.type "list",data:=.seq vs.toArray }→IntsAre vs ns→ns.length≤n→s₁.gens = #[] →
   codeAny (model l.prog w) callerA (.call (.ref fa) ⟨[.ref a],[]⟩) (fun r s'=>r=.ok (.ret (.bool true))∧OldK s₁.heap s'.heap∧s'.os=s₁.os∧AllBare s'.gens) s₁) :
  WalkO q loose XP YP l.row.toRowW d [] (fun f vs=>PySem.call f vs):=by
 intro w s₀ s₁ mg mb G Y fa o pm cd doc dV kV ho hd hcd hD hmg hg args vals as hpre hlay hrd hwl hlo
 obtain rfl:dV=.none:=Dflts.none hD hdf
 obtain rfl:kV=.none:=Dflts.noKw hD
 obtain ⟨a,vs,ns,rfl,rfl,hobj,hints,hlen⟩:=script_of hn hpre hwl
 refine enter_call (codeAny_mono (call w s₀ s₁ mg mb fa o pm cd doc a vs ns G Y ho (fd_plain hd) hcd hmg hobj hints hlen hg) fun r s' hq=>?_)
 obtain ⟨rfl,h2,h3,h4⟩:=hq
 exact ⟨.inl ⟨.bool true,.bool true,[],rfl,fun _=>rfl,.bool true,post_true l _,fun _=>⟨List.Pairwise.nil,fun _ hm=>(nomatch hm)⟩⟩,h2,h3,h4⟩
end Att
namespace L2
open PySem PySem.Spec PyProof.Rows
theorem vals_ints:∀ {vs:List Value} {ns:List Int},IntsAre vs ns→Vals (ns.map V.int) vs:=fun h=>by
 induction h with
 | nil=>exact .nil
 | cons n t _ ih=>exact .cons ⟨t,rfl⟩ ih
def Only (H:Hp):Prop:=∀ b,H b=none ∨ ∃ o xs,H b=some (.frz o (.lst xs))
theorem law_call {P:Program} {w:World} {K:PySem.W.Frag} {mg mb:Str→Option Value} {CX:CXT} {k:Nat} {fa a:Addr} {fd:FuncData} {x:Str} {sp:Sp} {s₁:Shared} {vs:List Value} {ns:List Int}
  (KX:K.In s₁.heap) (hns:s₁.heap.Ns mainGlobals mg) (hb:s₁.heap.Ns builtinsNs mb) (hbb:∀ x:Str,x≠"__name__"→mb x=bootBuiltins x) (hlim:s₁.heap.NoLimit) (hg:s₁.gens = #[])
  (ha:s₁.heap.get? a=some { cls:=.type "list",data:=.seq vs.toArray }) (hi:IntsAre vs ns) (hl:ns.length≤sizeLine) (hr:Room k callerA)
  (F:∀ base:Heap,K.In base→base.Ns mainGlobals mg→FnOk P w K mg base CX k fa fd [x] sp) (hbind:∀ (s:Shared) (u:Value),BindsTo s fd ⟨[u],[]⟩ [(x,u)])
  (hsp:∀ H:Hp,Only H→SqL K H a (ns.map V.int)→sp [.ref a] H (fun v _=>v=.bl true) fun _ _ _=>False)
  (hCX:∀ H e s',CX [] H s₁ (fun _ _ _=>False) e s'→False) :
  codeAny (model P w) callerA (.call (.ref fa) ⟨[.ref a],[]⟩) (fun r s'=>r=.ok (.ret (.bool true))∧OldK s₁.heap s'.heap∧s'.os=s₁.os∧AllBare s'.gens) s₁:=by
 have rv:=vals_ints hi
 have lenV:=hi.length
 -- from an abstract heap in which nothing but the script may be tracked
 have core:∀ H:Hp,Only H→SqL K H a (ns.map V.int)→HOk P w H s₁.heap→(∀ b,H b≠none→b=a)→(H a≠none→K.lookup a=none) →
   codeAny (model P w) callerA (.call (.ref fa) ⟨[.ref a],[]⟩) (fun r s'=>r=.ok (.ret (.bool true))∧OldK s₁.heap s'.heap∧s'.os=s₁.os∧AllBare s'.gens) s₁:=by
  intro H hO hS hok hA hK
  have base_of:∀ {b:Addr} {o:Obj},s₁.heap.get? b=some o→H b=none→(hidT s₁.heap H).get? b=some o:=fun e n=>hidT_get e n
  have noA:∀ {b:Addr} {o:Obj} {es:Array DictEntry} {ep:Nat},s₁.heap.get? b=some o→o.data=.dict es ep→H b=none:=fun {b o es ep} e d=>by
   cases q:H b with
   | none=>rfl
   | some u =>
    have e':b=a:=hA b (by rw [q]; simp)
    subst e'
    rw [ha] at e; cases e
    have d':Data.seq vs.toArray _=Data.dict es ep:=d
    cases d'
  have nsK:∀ {b:Addr} {m:Str→Option Value},s₁.heap.Ns b m→(hidT s₁.heap H).Ns b m:=fun {b m} q1=>by obtain ⟨o,es,ep,e,d,r⟩:=q1; exact ⟨o,es,ep,base_of e (noA e d),d,r⟩
  have hKb:K.In (hidT s₁.heap H):=fun b o e=>base_of (KX b o e) (by
   cases q:H b with
   | none=>rfl
   | some u =>
    have e':b=a:=hA b (by rw [q]; simp)
    subst e'
    rw [hK (by rw [q]; simp)] at e; cases e)
  have hM:Mod K mg (hidT s₁.heap H):=⟨hKb,nsK hns,⟨mb,nsK hb,hbb⟩,let ⟨mc,h1,h2⟩:=hlim; ⟨mc,nsK h1,h2⟩⟩
  have e0:Env0 P w K mg (hidT s₁.heap H) callerA [] s₁ H:=⟨rfl,hM,fun b o e=>of_hidT e,Nat.le_of_eq (hidT_size _ _),trivial,fun b hb=>absurd (show b∈([]:List Addr) from hb) (by simp),hok,.of_eq hg⟩
  refine codeAny_mono ((F _ hKb (nsK hns)).run callerA [] s₁ H ⟨[.ref a],[]⟩ [.ref a] [.ref a] _ _ hr e0 (hbind s₁ (.ref a)) (.cons rfl .nil) (hsp H hO hS)) fun r s' h=>?_
  cases r with
  | error e=>exact (hCX H e s' h).elim
  | ok fl =>
   cases fl with
   | next=>exact False.elim h
   | brk=>exact False.elim h
   | cont=>exact False.elim h
   | ret u =>
    obtain ⟨v,H',os,bare,un,hok',r',q⟩:=h
    have q':v=.bl true:=q
    subst q'
    obtain rfl:u=Value.bool true:=r'
    refine ⟨rfl,OldK.of_keep fun b o e=>?_,os,bare⟩
    cases q:H b with
    | none=>exact un.keep b o e q (by intro z; exact absurd (show b∈([]:List Addr) from z) (by simp)) (by simp)
    | some u =>
     rcases hO b with z | ⟨ob,xs,z⟩
     ·rw [q] at z; cases z
     ·have z2:=un.frzs b ob _ z
      obtain ⟨e1,_⟩:=hok b _ z
      obtain ⟨e2,_⟩:=hok' b _ z2
      rw [e] at e1; cases e1
      exact e2
 cases hk:K.lookup a with
 | some o =>
  -- the script is one of the module's own objects
  have e:=KX a o hk
  rw [ha] at e
  cases e
  refine core (fun _=>none) (fun _=>.inl rfl) (.inr ⟨_,vs.toArray,_,hk,rfl,rfl,rfl,by rw [List.size_toArray,lenV]; exact hl,by simpa using rv⟩) (fun b u z=>by have z':(none:Option HO)=some u:=z; cases z') (fun b z=>absurd rfl z) fun z=>absurd rfl z
 | none =>
  refine core (fun b=>if b=a then some (.frz { cls:=.type "list",data:=.seq vs.toArray } (.lst (ns.map V.int))) else none) (fun b=>?_) (.inl (.inr ⟨{ cls:=.type "list",data:=.seq vs.toArray },if_pos rfl⟩)) (fun b u z=>?_) (fun b z=>?_) fun _=>hk
  ·by_cases hb:b=a
   ·exact .inr ⟨_,_,if_pos hb⟩
   ·exact .inl (if_neg hb)
  ·by_cases hb:b=a
   ·have z':=(if_pos hb).symm.trans z
    cases z'
    subst hb
    exact ⟨ha,by rw [List.length_map]; exact hl,vs,_,rv,ha⟩
   ·have z':=(if_neg hb).symm.trans z
    cases z'
  ·by_cases hb:b=a
   ·exact hb
   ·exact absurd (if_neg hb) z
end L2
namespace L2
open PySem PySem.Spec PyProof.Rows
abbrev CX0:CXT:=fun _ _ _ _ _ _=>False
abbrev E0:XK:=fun _ _ _=>False
theorem pass0 {X:Cx}:Passes CX0 X E0:=fun _ _ _ _ _ _ _ h=>h.elim
structure Fun (K:PySem.W.Frag) (x qual:Str) (st:Stmt) (f:Addr) (fd:FuncData):Prop where
 ex:∃ (oc:Value) (od:Option Addr) (kV doc pm:Value) (an:Option Addr) (cdv ct:Value) (osl:Array (Option Value)),
  fd=PySem.W.fnOf x qual (defArgs st) (defBody st) (defScope st) .none kV doc pm an cdv ct∧K.lookup f=some ⟨oc,od,.func fd,osl⟩∧PySem.W.codeIn K cdv qual=true
 kp:PySem.W.keepIn K (.ref f)=true
section
variable {P:Program}{w:World}{K:PySem.W.Frag}{mg:Str→Option Value}{base:Heap}
theorem Fun.ok {x qual:Str} {st:Stmt} {f:Addr} {fd:FuncData} {N ps:List Str} {k:Nat} {sp:Sp} (F:Fun K x qual st f fd) (S:FnScope N ps (defScope st)) (len:∀ vs H Q E,sp vs H Q E→vs.length=ps.length)
  (hbody:∀ (cdv:Value) (A:Around) (outer:List Env) (s:Shared) (H:Hp) (vs:List V) (Q:VK) (E:XK),RoomS k (A.deeper (envOfC qual (defScope st) s.heap.objs.size f cdv))→sp vs H Q E →
   ∃ t,PSs (cxOf CX0 P w K mg base N qual (defScope st) f cdv A outer s H E).nox (defBody st) t∧t { nx:=fun _ H'=>Q .non H',rt:=Q } (start N vs) H):FnOk P w K mg base CX0 (k + 1) f fd ps sp:=by
 obtain ⟨oc,od,kV,doc,pm,an,cdv,ct,osl,rfl,lk,hcd⟩:=F.ex
 refine fn_of lk hcd S len fun A outer s H vs Q E hr hsp=>?_
 obtain ⟨t,h,q⟩:=hbody cdv A outer s H vs Q E hr hsp
 exact ⟨t,h.nox,q⟩
theorem Fun.binds {x qual:Str} {st:Stmt} {f:Addr} {fd:FuncData} {ps:List Str} (F:Fun K x qual st f fd)
  (h:∀ (kV doc pm:Value) (an:Option Addr) (cdv ct:Value) (us:List Value),us.length=ps.length→bindArgs (PySem.W.fnOf x qual (defArgs st) (defBody st) (defScope st) .none kV doc pm an cdv ct) ⟨us,[]⟩=pure (ps.zip us)):Binds K fd ps []:=by
 obtain ⟨oc,od,kV,doc,pm,an,cdv,ct,osl,rfl,lk,hcd⟩:=F.ex
 exact .all (h kV doc pm an cdv ct)
theorem fun_mk {x qual:Str} {st:Stmt} {f:Addr} {oc:Value} {od an:Option Addr} {osl:Array (Option Value)} {kV doc pm cdv ct:Value} (l:K.lookup f=some ⟨oc,od,.func (PySem.W.fnOf x qual (defArgs st) (defBody st) (defScope st) .none kV doc pm an cdv ct),osl⟩)
  (c:PySem.W.codeIn K cdv qual=true) (k:PySem.W.keepIn K (.ref f)=true):Fun K x qual st f (PySem.W.fnOf x qual (defArgs st) (defBody st) (defScope st) .none kV doc pm an cdv ct):=⟨⟨oc,od,kV,doc,pm,an,cdv,ct,osl,rfl,l,c⟩,k⟩
end
def Same (H H':Hp):Prop:=∀ b o,H b=some o→H' b=some o
theorem Same.refl (H:Hp):Same H H:=fun _ _ h=>h
theorem Same.trans {H H1 H2:Hp} (a:Same H H1) (b:Same H1 H2):Same H H2:=fun c o h=>b c o (a c o h)
end L2
end
section
namespace HT
open PySem PyProof.Rows
def lexLe:List Int→List Int→Bool
 | [],[]=>true
 | [],_ :: _=>true
 | _ :: _,[]=>false
 | x :: xs,y :: ys=>if x=y then lexLe xs ys else decide (x≤y)
theorem lexLe_cons (x y:Int) (xs ys:List Int):lexLe (x :: xs) (y :: ys)=if x=y then lexLe xs ys else decide (x≤y):=rfl
theorem lexLe_nil_nil:lexLe [] []=true:=rfl
theorem lexLe_nil_cons (y:Int) (ys:List Int):lexLe [] (y :: ys)=true:=rfl
theorem lexLe_cons_nil (x:Int) (xs:List Int):lexLe (x :: xs) []=false:=rfl
theorem eqAt_int2 (A:Around) (s:Shared) (a:Int) (t:Tok) (c:Int) (u:Tok):∃ e,SeqAt.EqAt A s (.int a t) (.int c u) e∧(e=true↔a=c) :=
 ⟨(a == c),SeqAt.EqAt.int_int a t c u,by simp⟩
theorem rcLe_int (A:Around) (s:Shared) (a:Int) (t:Tok) (c:Int) (u:Tok) (prog:Program) (w:World) (E:Value→Shared→Prop) (Q:Value→Shared→Prop) (h:Q (.bool (decide (a≤c))) s) :
  wpAny (model prog w) A (richCompare .LtE (.int a t) (.int c u)) Q E s :=
 (PyProof.Rows.le_int h:wpAny (model prog w) A (compareOp .LtE (.int a t) (.int c u)) Q E s)
section
open PySem.SeqAt
open PySem.AutoSeq1 (wpAny_loadPart')
open PySem.MeetsSeq PySem.MeetsSeq2 PySem.MeetsSeq3
theorem tuple_le_ints (l b:Addr) (items items2:Array Value) (n n2:Nat) (dd dd2:Option Addr) (sl sl2:Array (Option Value)) (ns ms:List Int) (hi:IntsAre items.toList ns) (hj:IntsAre items2.toList ms) :
  Meets (Builtin.«tuple.__le__» ⟨[.ref l,.ref b],[]⟩)
   (fun _ R s=>s.heap.get? l=some { cls:=.type "tuple",dict:=dd,data:=.seq items n,slots:=sl }∧s.heap.get? b=some { cls:=.type "tuple",dict:=dd2,data:=.seq items2 n2,slots:=sl2 } ∧
    R (.ok (.ret (.bool (lexLe ns ms)))) s) :=
 .of_wp fun prog w A R s h=>by
  obtain ⟨hp,g,d,tk,os⟩:=s; obtain ⟨hl,hb,h⟩:=h
  have f2:=AutoSeq1.sub_tuple_tuple
  have z1:items.size=ns.length:=by rw [← hi.length]; simp
  have z2:items2.size=ms.length:=by rw [← hj.length]; simp
  wp_walk using wpAny_loadPart' hl,wpAny_loadPart' hb,wpAny_forIn_list _ (fun rest b s'=>b.1=none∧s'=⟨hp,g,d,tk,os⟩∧∃ (vs ws:List Value) (ns' ms':List Int),rest=vs.zip ws ∧
   IntsAre vs ns'∧IntsAre ws ms'∧ns'.length + items2.size=ms'.length + items.size∧R (.ok (.ret (.bool (lexLe ns' ms')))) ⟨hp,g,d,tk,os⟩) _
  case turn =>
   rintro ⟨y,x⟩ rest b s' ⟨hb',rfl,vs,ws,ns',ms',hz,hvi,hwi,hlen,hR⟩
   cases hvi with
   | nil=>rw [List.zip_nil_left] at hz; cases hz
   | cons a t hvi' =>
    cases hwi with
    | nil=>rw [List.zip_nil_right] at hz; cases hz
    | cons c u hwi' =>
     rw [List.zip_cons_cons] at hz
     injection hz with hyx hrest
     injection hyx with hy hx
     subst hy hx
     rw [lexLe_cons] at hR
     simp only [List.length_cons] at hlen
     obtain ⟨e,he,hiff⟩:=eqAt_int2 A.in1 ⟨hp,g,d,tk,os⟩ a t c u
     refine wpAny_bind (he prog w _ _ ?_)
     cases e with
     | true =>
      rw [if_pos (hiff.mp rfl)] at hR
      wp_walk
      exact ⟨rfl,rfl,_,_,_,_,hrest,hvi',hwi',by lia,hR⟩
     | false =>
      rw [if_neg (fun q=>absurd (hiff.mpr q) Bool.false_ne_true)] at hR
      have hri:=rcLe_int A.in1 ⟨hp,g,d,tk,os⟩ a t c u prog w
      wp_walk using hri
      exact ⟨_,rfl,by simpa using hR⟩
  case fin =>
   rintro ⟨b1,b2⟩ s' ⟨hb',rfl,vs,ws,ns',ms',hz,hvi,hwi,hlen,hR⟩
   simp only at hb'
   subst hb'
   have hv:lexLe ns' ms'=decide (items.size≤items2.size):=by
    cases hvi with
    | nil =>
     cases hwi with
     | nil =>
      simp only [List.length_nil] at hlen
      rw [lexLe_nil_nil]
      exact (decide_eq_true (by lia)).symm
     | cons c u hw =>
      simp only [List.length_nil,List.length_cons] at hlen
      rw [lexLe_nil_cons]
      exact (decide_eq_true (by lia)).symm
    | cons a t hv =>
     cases hwi with
     | nil =>
      simp only [List.length_nil,List.length_cons] at hlen
      rw [lexLe_cons_nil]
      exact (decide_eq_false (by lia)).symm
     | cons c u hw =>
      rw [List.zip_cons_cons] at hz
      cases hz
   rw [hv] at hR
   wp_walk
   exact ⟨_,rfl,by simpa [Builtin.Tuple.tupleCompareSizes] using hR⟩
  case h =>
   exact ⟨rfl,rfl,items.toList,items2.toList,ns,ms,rfl,hi,hj,by lia,h⟩
end
section
variable {prog:Program}{w:World}{A:Around}{E:Value→Shared→Prop}{s:Shared}
theorem le_tupInts {l b:Addr} {items items2:Array Value} {ns ms:List Int} {Q:Value→Shared→Prop} (hl:IsTup s.heap l items) (hb:IsTup s.heap b items2) (hi:IntsAre items.toList ns) (hj:IntsAre items2.toList ms)
  (hu:A.units < cLine) (h:Q (.bool (lexLe ns ms)) s):wpAny (model prog w) A (compareOp .LtE (.ref l) (.ref b)) Q E s:=by
 obtain ⟨⟨cls,dd,data,sl⟩,ho,hc,n,hd⟩:=id hl
 obtain ⟨⟨cls2,dd2,data2,sl2⟩,ho2,hc2,n2,hd2⟩:=id hb
 simp only at hc hd hc2 hd2
 subst hc hd hc2 hd2
 exact richCompare_meets_room (op:=.LtE) ⟨_,ho,rfl⟩ ⟨_,ho2,rfl⟩ PySem.F.slot_tuple_le PySem.F.entry_tuple_le (PySem.F.args_tuple_le_2 _ _) (tuple_le_ints l b items items2 n n2 dd dd2 sl sl2 ns ms hi hj)
  ⟨ho,ho2,show Value.bool (lexLe ns ms)≠Value.notImplemented∧Q (.bool (lexLe ns ms)) s from ⟨(fun x=>nomatch x),h⟩⟩ hu
end
end HT
namespace L2
open PySem PySem.Spec PyProof.Rows
section
variable {X:Cx}
inductive rLeT (K:PySem.W.Frag) (x:V) (y:V) (H:Hp) (Q:VK):Prop
 | mk (a:_) (b:_) (ns:_) (ms:_) (_:x=.ref a) (_:y=.ref b) (_:SqT K H a (ns.map V.int)) (_:SqT K H b (ms.map V.int)) (_:Q (.bl (HT.lexLe ns ms)) H):rLeT K x y H Q
theorem op_leT (hu:X.A.units < cLine):OpR X (compareOp .LtE) (rLeT X.K):=by
 intro pins s σ H x y v u Q I rx ry h
 obtain ⟨a,b,ns,ms,rfl,rfl,ha,hb,q⟩:=h
 cases rx
 cases ry
 obtain ⟨its,r1,p1,_⟩:=I.tuple ha
 obtain ⟨its2,r2,p2,_⟩:=I.tuple hb
 have i1:IntsAre its.toArray.toList ns:=intsAre_of r1
 have i2:IntsAre its2.toArray.toList ms:=intsAre_of r2
 exact HT.le_tupInts p1 p2 i1 i2 hu ⟨.bl (HT.lexLe ns ms),H,I,rfl,q⟩
end
end L2
end
set_option maxHeartbeats 4000000
section
namespace L2
open PySem PySem.Spec PyProof.Rows
open AutoSeq1 (wpAny_loadPart')
section
variable {X:Cx}
theorem op_catT0:OpR X (binaryOp .Add) (fun x y H Q=>∃ a b ys,x=.ref a∧y=.ref b∧SqT X.K H a []∧SqT X.K H b ys∧Q (.ref b) H):=by
 intro pins s σ H x y v u Q I rx ry h
 obtain ⟨a,b,ys,rfl,rfl,ha,hb,q⟩:=h
 cases rx; cases ry
 obtain ⟨its,r1,⟨⟨oc,od,odt,os⟩,e1,ec,n,ed⟩,_⟩:=I.tuple ha
 obtain ⟨its2,r2,⟨⟨oc2,od2,odt2,os2⟩,e2,ec2,n2,ed2⟩,_⟩:=I.tuple hb
 simp only at ec ed ec2 ed2
 subst ec ed ec2 ed2
 cases r1
 exact concat_meets ⟨_,e1,rfl⟩ ⟨_,e2,rfl⟩ noFill_tuple_add seq_tuple_add F.slot_tuple_add F.entry_tuple_add (F.args_tuple_add_2 _ _) (tuple_addW0 a b #[] its2.toArray n n2 od od2 os os2 rfl) ⟨e1,e2,.ref b,H,I,rfl,q⟩
theorem sl_whole:SlR X (fun x lo hi H Q=>∃ a xs,x=.ref a∧SqT X.K H a xs∧HT.sIx xs.length 0 lo=0∧HT.sIx xs.length xs.length hi=xs.length∧Q (.ref a) H):=by
 intro pins s σ H x v vl vu lo hi sl Q I rx hs pl pu h
 obtain ⟨t,xs,rfl,hx,h1,h2,q⟩:=h
 cases rx
 obtain ⟨its,r,ht,hz⟩:=I.tuple hx
 have hlen:its.toArray.size=xs.length:=by rw [List.size_toArray]; exact r.length.symm
 refine ⟨"tuple",_,PyProof.Rows.slot_tuple_getitem.lookup,ht.typeIs,?_⟩
 obtain ⟨os,eo,co,do'⟩:=id hs
 have ty:s.TypeIs (.ref sl) "slice":=⟨os,eo,co⟩
 rw [← hlen] at h1 h2
 unfold getItem
 try with_reducible refine wpAny_holding ?_
 first | refine wpAny_bind (wpAny_pure ?_) | skip
 refine wpAny_bind (wpAny_sequenceKey ht.typeIs (by decide) (wpAny_bind (wpAny_callSpecial?_slot (name:=Str.ofString "__getitem__") ht.typeIs PyProof.Rows.slot_tuple_getitem (wpAny_call_entry PyProof.Rows.slot_tuple_getitem ht.typeIs entry_tuple_getitem ?_ (args_tuple_getitem _ _)))))
 show wpAny _ _ (Builtin.Tuple.tupleItemsOf (.ref t) >>= _) _ _ s; refine wpAny_bind (tupleItemsOf_ ht (wpAny_bind (wpAny_typeOf ty ?_)))
 rw [if_pos (by decide)]; refine wpAny_bind (HT.sliceApplied_gen hs pl pu ?_)
 show wpAny _ _ (if (((HT.sIx its.toArray.size 0 lo:Nat):Int) == 0 && (1:Int) == 1 && (HT.sIx its.toArray.size its.toArray.size hi - HT.sIx its.toArray.size 0 lo) == its.toArray.size)=true then _ else _) _ _ s
 rw [if_pos (by rw [h1,h2]; simp)]
 refine wpAny_bind (m:=Builtin.Tuple.tupleIsExact (.ref t)) ?_
 unfold Builtin.Tuple.tupleIsExact
 refine wpAny_bind (wpAny_typeOf ht.typeIs (wpAny_pure ?_))
 rw [if_pos (by decide)]
 exact wpAny_bind (wpAny_rule (wpAny_pure ⟨_,rfl,wpAny_pure ⟨.ref t,H,I,rfl,q⟩⟩))
end
end L2
end
section
namespace L2
open PySem PySem.Spec PyProof.Rows
def clGo (cells:List (Str×Addr)):List (Str×NameKind)→List (Str×Addr)→List (Str×Addr)
 | [],acc=>acc
 | (n,k) :: r,acc=>if (k == NameKind.free)=true then clGo cells r ((n,(cells.lookup n).getD 0) :: acc) else clGo cells r acc
theorem clGo_run {env:Env}:∀ (names:List (Str×NameKind)) (acc:List (Str×Addr)),(∀ p∈names,p.2=.free→∃ c,env.cells.lookup p.1=some c) →
  (forIn names acc fun (x:Str×NameKind) (cs:List (Str×Addr))=>if (x.2 == NameKind.free)=true then cellOf env x.1 >>= fun c=>pure (ForInStep.yield ((x.1,c) :: cs)) else pure (ForInStep.yield cs):Sem (List (Str×Addr)))=pure (clGo env.cells names acc)
 | [],acc,_=>rfl
 | (n,k) :: r,acc,h=>by
  have ih:=clGo_run (env:=env) r
  rw [List.forIn_cons]
  unfold clGo
  by_cases hk:(k == NameKind.free)=true
  ·obtain ⟨c,hc⟩:=h (n,k) List.mem_cons_self (by simpa using hk)
   have hcell:cellOf env n=pure c:=by
    have hc':env.cells.lookup n=some c:=hc
    unfold cellOf; rw [hc']
   have hc':env.cells.lookup n=some c:=hc
   simp only [hk,if_true,hcell,hc',Option.getD_some,pure_bind]
   exact ih _ fun p hp=>h p (List.mem_cons_of_mem _ hp)
  ·simp only [hk,if_false,pure_bind,Bool.false_eq_true]
   exact ih _ fun p hp=>h p (List.mem_cons_of_mem _ hp)
theorem closure_is {scope:Scope} {env:Env} (h:∀ p∈scope.names,p.2=.free→∃ c,env.cells.lookup p.1=some c):closureFor scope env=pure (clGo env.cells scope.names []):=by
 have q:=clGo_run (env:=env) scope.names [] h
 unfold closureFor
 first
  | exact (by rw [q]; rfl)
  | (simp only [bind_pure]; exact q)
theorem clGo_lookup {cells:List (Str×Addr)} {x:Str} {c:Addr}:∀ (names:List (Str×NameKind)) (acc:List (Str×Addr)),(∀ p∈names,p.2=.free→∃ c,cells.lookup p.1=some c)→(∀ y d,acc.lookup y=some d→cells.lookup y=some d) →
  (clGo cells names acc).lookup x=some c→cells.lookup x=some c
 | [],acc,_,ha,h=>ha x c h
 | (n,k) :: r,acc,hn,ha,h=>by
  unfold clGo at h
  split at h
  ·rename_i hk
   refine clGo_lookup r _ (fun p hp=>hn p (List.mem_cons_of_mem _ hp)) (fun y d hy=>?_) h
   rw [List.lookup_cons] at hy
   obtain ⟨c',hc'⟩:=hn (n,k) List.mem_cons_self (by simpa using hk)
   have hc'':cells.lookup n=some c':=hc'
   split at hy
   ·rename_i hyn
    have e:y=n:=by simpa using hyn
    subst e
    rw [hc''] at hy ⊢
    exact hy
   ·exact ha y d hy
  ·exact clGo_lookup r _ (fun p hp=>hn p (List.mem_cons_of_mem _ hp)) ha h
theorem clGo_has {cells:List (Str×Addr)} {x:Str}:∀ (names:List (Str×NameKind)) (acc:List (Str×Addr)),((x,NameKind.free)∈names ∨ ∃ c,acc.lookup x=some c)→∃ c,(clGo cells names acc).lookup x=some c
 | [],acc,h=>by
  rcases h with h | h
  ·simp at h
  ·exact h
 | (n,k) :: r,acc,h=>by
  unfold clGo
  split
  ·refine clGo_has r _ ?_
   by_cases hx:x=n
   ·subst hx
    exact .inr ⟨(cells.lookup x).getD 0,by rw [List.lookup_cons]; simp⟩
   ·rcases h with h | ⟨c,h⟩
    ·rcases List.mem_cons.mp h with h | h
     ·cases h; exact absurd rfl hx
     ·exact .inl h
    ·refine .inr ⟨c,?_⟩
     rw [List.lookup_cons]
     have:(x == n)=false:=by simpa using hx
     rw [this]
     exact h
  ·rename_i hk
   refine clGo_has r _ ?_
   rcases h with h | h
   ·rcases List.mem_cons.mp h with h | h
    ·cases h; simp at hk
    ·exact .inl h
   ·exact .inr h
theorem relabel_back {env : Env} {x : Str} : ∀ {names : List (Str × NameKind)},
    ((names.map fun (n, k) => if (k == NameKind.free && env.scope.kind == .function && env.kindOf n == some .cell) then (n, NameKind.cell) else (n, k)).lookup x = some .cell ∨
     (names.map fun (n, k) => if (k == NameKind.free && env.scope.kind == .function && env.kindOf n == some .cell) then (n, NameKind.cell) else (n, k)).lookup x = some .free) → names.lookup x = some .cell ∨ names.lookup x = some .free
  | [], h => by rcases h with h | h <;> simp at h
  | (n, k) :: r, h => by
    have ih := @relabel_back env x r
    rw [List.map_cons] at h
    rw [List.lookup_cons]
    by_cases hk : (k == NameKind.free && env.scope.kind == .function && env.kindOf n == some .cell) = true
    · simp only [hk, if_true] at h
      cases hx : x == n with
      | true =>
        have : k = .free := by simp only [Bool.and_eq_true] at hk; simpa using hk.1.1
        exact .inr (by rw [this])
      | false =>
        simp only [List.lookup_cons, hx] at h
        exact ih h
    · simp only [hk, if_false, Bool.false_eq_true] at h
      cases hx : x == n with
      | true => simpa only [List.lookup_cons, hx] using h
      | false =>
        simp only [List.lookup_cons, hx] at h
        exact ih h
theorem cellsFrom_app:∀ (names:List (Str×NameKind)) (b:Nat) (acc:List (Str×Addr)),cellsFrom b names acc=cellsFrom b names []++acc
 | [],_,_=>rfl
 | (n,k) :: r,b,acc=>by
  unfold cellsFrom
  split
  ·rw [cellsFrom_app r _ ((n,b) :: acc),cellsFrom_app r _ [(n,b)],List.append_assoc]; rfl
  ·exact cellsFrom_app r b acc
theorem cellsFrom_in:∀ (names:List (Str×NameKind)) (b:Nat) {x:Str} {c:Addr},(x,c)∈cellsFrom b names []→(x,NameKind.cell)∈names
 | [],_,_,_,h=>by simp [cellsFrom] at h
 | (n,k) :: r,b,x,c,h=>by
  unfold cellsFrom at h
  split at h
  ·rename_i hk
   rw [cellsFrom_app] at h
   rcases List.mem_append.mp h with h | h
   ·exact List.mem_cons_of_mem _ (cellsFrom_in r _ h)
   ·simp at h
    have:k=.cell:=by simpa using hk
    rw [h.1,this]; exact List.mem_cons_self
  ·exact List.mem_cons_of_mem _ (cellsFrom_in r _ h)
theorem look_app {x:Str} {c:Addr}:∀ {l l':List (Str×Addr)},(l++l').lookup x=some c→l.lookup x=some c ∨ (l.lookup x=none∧l'.lookup x=some c)
 | [],_,h=>.inr ⟨rfl,h⟩
 | (n,d) :: r,l',h=>by
  rw [List.cons_append,List.lookup_cons] at h
  rw [List.lookup_cons]
  cases hx:x == n with
  | true=>rw [hx] at h; exact .inl h
  | false=>rw [hx] at h; exact look_app h
theorem look_or {x:Str}:∀ {l l':List (Str×Addr)},((∃ c,l.lookup x=some c) ∨ ∃ c,l'.lookup x=some c)→∃ c,(l++l').lookup x=some c
 | [],_,h=>by
  rcases h with ⟨c,h⟩ | h
  ·cases h
  ·exact h
 | (n,d) :: r,l',h=>by
  rw [List.cons_append,List.lookup_cons]
  cases hx:x == n with
  | true=>exact ⟨d,rfl⟩
  | false =>
   refine look_or ?_
   rcases h with ⟨c,h⟩ | h
   ·rw [List.lookup_cons,hx] at h; exact .inl ⟨c,h⟩
   ·exact .inr h
theorem newEnv_cells {M:Model} {A:Around} {E:Value→Shared→Prop} {s:Shared} {scope:Scope} {globals:Addr} {cl:List (Str×Addr)} {qual:Str} {env:Env} {Q:Env→Shared→Prop}
  (hQ:∀ h4:Heap,h4.Ns s.heap.objs.size (fun _=>none)→(∀ b o,s.heap.get? b=some o→h4.get? b=some o)→CellsOk h4 (s.heap.objs.size + 1) (cellsFrom (s.heap.objs.size + 1) scope.names []) →
   Q (newEnv scope s.heap.objs.size globals (cellsFrom (s.heap.objs.size + 1) scope.names cl) qual none .none (some env) builtinsNs) { s with heap:=h4,toks:=s.toks + ([]:List (Str×Value)).length }) :
  wpAny M A (newFunctionEnv scope globals cl [] qual none .none (some env)) Q E s:=by
 simp only [newFunctionEnv,Option.isSome_some,if_true]
 refine wpAny_bind (wpAny_alloc ?_)
 refine wpAny_bind (wpAny_layCells _ (fun name kind cells=>by cases hkc:kind == NameKind.cell <;> simp [hkc]) _ _ _ _ ?_)
 have ok:=cellsFrom_ok scope.names (s.heap.push { cls:=.type "dict",data:=.dict #[] }) (s.heap.objs.size + 1) [] ⟨fun _ _ hm=>(nomatch hm),List.Pairwise.nil⟩ (by rw [Heap.size_push]; exact Nat.le_refl _)
 rw [Heap.size_push] at ok
 rw [show ({ s with heap:=s.heap.push { cls:=.type "dict",data:=.dict #[] } }:Shared).heap.objs.size=s.heap.objs.size + 1 from Heap.size_push ..]
 simp only [List.forIn_nil]
 exact wpAny_bind (wpAny_pure (wpAny_pure (hQ _ ((Heap.Ns.new s.heap (.type "dict")).keeps (pushCells_keeps _ _)) (fun b o e=>pushCells_keeps _ _ b o (Heap.get?_push_of_some _ e)) ok)))
def hidN (x:Str):Str:=Str.ofString "#"++x
def maskN (own:List Str) (x:Str):Str:=if own.contains x then hidN x else x
def cxC (X:Cx) (scope:Scope) (own:List Str) (fp:List Addr) (C:Addr) (s:Shared) (H:Hp):Cx :=
 { X with N:=X.N.map (maskN own)++own,s₀:=s,H₀:=H,env:=compEnvC scope (cellsFrom (C + 1) scope.names (clGo X.env.cells scope.names [])) C X.env,outer:=X.stack,stack:=X.stack,ex:=fp,fn:=fun x=>scope.names.lookup x == some .cell,pn:=[],xe:=fun _ _=>False }
structure CScope (X:Cx) (scope:Scope) (own:List Str):Prop where
 kind:scope.kind=.function
 nocell:∀ p∈scope.names,p.2=.cell→scope.names.lookup p.1=some .cell
 names:∀ p∈scope.names,p.2=.local→scope.names.lookup p.1=some .local
 free:∀ p∈scope.names,p.2=.free→X.env.kindOf p.1=some .cell ∨ X.env.kindOf p.1=some .free
 apart:∀ x∈X.N,own.contains x=false→scope.names.lookup x≠some .local∧scope.names.lookup x≠some .cell
 hid:∀ x∈X.N,own.contains x=true→scope.names.lookup (hidN x)=none
section
variable {X:Cx}
theorem lookup_mem {names:List (Str×NameKind)} {x:Str} {k:NameKind} (h:names.lookup x=some k):(x,k)∈names:=PySem.mem_of_lookup h
theorem relabel_local {env:Env} {x:Str}:∀ {names:List (Str×NameKind)},
  (names.map fun (n,k)=>if (k == NameKind.free && env.scope.kind == .function && env.kindOf n == some .cell) then (n,NameKind.cell) else (n,k)).lookup x=some .local→names.lookup x=some .local
 | [],h=>by simp at h
 | (n,k) :: r,h=>by
  have ih:=@relabel_local env x r
  rw [List.map_cons] at h
  rw [List.lookup_cons]
  by_cases hk:(k == NameKind.free && env.scope.kind == .function && env.kindOf n == some .cell)=true
  ·simp only [hk,if_true] at h
   cases hx:x == n with
   | true=>simp [List.lookup_cons,hx] at h
   | false =>
    simp only [List.lookup_cons,hx] at h
    exact ih h
  ·simp only [hk,if_false,Bool.false_eq_true] at h
   cases hx:x == n with
   | true=>simpa [List.lookup_cons,hx] using h
   | false =>
    simp only [List.lookup_cons,hx] at h
    exact ih h
theorem relabel_none {env:Env} {scope:Scope} {x:Str} (h:scope.names.lookup x=none):(relabel scope env).names.lookup x=none:=by
 unfold relabel
 simp only
 generalize scope.names=l at h
 induction l with
 | nil=>rfl
 | cons p r ih =>
  obtain ⟨n,k⟩:=p
  rw [List.lookup_cons] at h
  cases e:(x == n) with
  | true=>rw [e] at h; cases h
  | false =>
   rw [e] at h
   rw [List.map_cons]
   split
   ·rw [List.lookup_cons,e]; exact ih h
   ·rw [List.lookup_cons,e]; exact ih h
theorem inv_comp {scope:Scope} {own:List Str} {fp:List Addr} {pins:List (Addr×Obj)} {σ:St} {H:Hp} {s:Shared} {h4:Heap} {t4:Nat} (I:Inv X pins σ H s) (SC:CScope X scope own) (hc:X.calm=true)
  (hf:∀ b∈fp,FpOk X pins H b) (hfo:∀ b∈fp,∃ o,s.heap.get? b=some o)
  (hns:h4.Ns s.heap.objs.size (fun _=>none)) (hk:∀ b o,s.heap.get? b=some o→h4.get? b=some o) (ok:CellsOk h4 (s.heap.objs.size + 1) (cellsFrom (s.heap.objs.size + 1) scope.names [])) :
  Inv (cxC X scope own fp s.heap.objs.size s H) [] (σ++List.replicate own.length none) H { s with heap:=h4,toks:=t4 }:=by
 have fr:∀ p∈scope.names,p.2=.free→∃ c,X.env.cells.lookup p.1=some c:=fun p hp hq=>I.ok.has p.1 (SC.free p hp hq)
 have cl0:∀ {x:Str} {c:Addr},(clGo X.env.cells scope.names []).lookup x=some c→X.env.cells.lookup x=some c:=fun h=>clGo_lookup scope.names [] fr (fun y d hy=>by simp at hy) h
 have cl:∀ {x:Str} {c:Addr},(cellsFrom (s.heap.objs.size + 1) scope.names (clGo X.env.cells scope.names [])).lookup x=some c→((x,c)∈cellsFrom (s.heap.objs.size + 1) scope.names []∧s.heap.objs.size + 1≤c) ∨ X.env.cells.lookup x=some c:=fun h=>by
  rw [cellsFrom_app] at h
  rcases look_app h with z | z
  ·exact .inl ⟨PySem.mem_of_lookup z,(ok.empty _ _ (PySem.mem_of_lookup z)).2⟩
  ·exact .inr (cl0 z.2)
 have hasC:∀ {x:Str},(scope.names.lookup x=some .cell ∨ scope.names.lookup x=some .free)→∃ c,(cellsFrom (s.heap.objs.size + 1) scope.names (clGo X.env.cells scope.names [])).lookup x=some c:=fun {x} h=>by
  rw [cellsFrom_app]
  refine look_or ?_
  rcases h with h | h
  ·exact .inl (Option.isSome_iff_exists.mp (PySem.W.cellsFrom_some _ _ _ (.inl h)))
  ·exact .inr (clGo_has scope.names [] (.inl (lookup_mem h)))
 have clt:∀ {x:Str} {c:Addr},X.env.cells.lookup x=some c→c < s.heap.objs.size:=fun h=>by obtain ⟨v,q⟩:=I.cell _ _ h; exact q.lt
 refine ⟨⟨I.ok.mod,SC.kind,I.ok.glob,I.ok.blt,Nat.le_refl _,fun x y c h1 h2=>?_,fun x hx=>?_,fun x c hf' h=>?_,fun _=>I.ok.hd hc,I.ok.frames,.inl rfl,fun b hb=>?_,
   fun b o e=>I.bs b o e,Nat.le_trans I.ok.bsz I.sz,fun b o e hb=>?_,fun b hb hz=>?_,I.stack,I.stkFree⟩,
  rfl,I.bare,Un.kept hk,⟨_,hns,fun i x v e1 e2 e3=>?_⟩,fun x c h=>?_,I.fresh,fun x c h=>(cl h).elim (fun z=>I.hok.fresh (by lia)) (I.freeC x c),fun p hp=>absurd (show p∈([]:List (Addr×Obj)) from hp) (by simp),I.hok.kept hk,?_⟩
 ·rcases cl h1 with z1 | z1 <;> rcases cl h2 with z2 | z2
  ·exact name_of_addr ok.apart z1.1 z2.1
  ·exact absurd (clt z2) (Nat.not_lt.mpr (Nat.le_of_succ_le z1.2))
  ·exact absurd (clt z1) (Nat.not_lt.mpr (Nat.le_of_succ_le z2.2))
  ·exact I.ok.inj x y c z1 z2
 ·have hx:(relabel scope X.env).names.lookup x=some .cell ∨ (relabel scope X.env).names.lookup x=some .free:=hx
  exact hasC (relabel_back hx)
 ·have hf':(scope.names.lookup x == some .cell)=true:=hf'
  have h:(cellsFrom (s.heap.objs.size + 1) scope.names (clGo X.env.cells scope.names [])).lookup x=some c:=h
  obtain ⟨c',hc'⟩:=Option.isSome_iff_exists.mp (PySem.W.cellsFrom_some scope.names (s.heap.objs.size + 1) [] (.inl (by simpa using hf')))
  rw [cellsFrom_app] at h
  rcases look_app h with z | z
  ·have:=(ok.empty _ _ (PySem.mem_of_lookup z)).2
   show s.heap.objs.size≤c
   lia
  ·rw [hc'] at z; cases z.1
 ·have hb:b∈fp:=hb
  obtain ⟨o,ho⟩:=hfo b hb
  exact ⟨Nat.ne_of_lt (Heap.lt_size ho),fun x c h=>(cl h).elim (fun z e=>absurd (e ▸ Heap.lt_size ho:c < s.heap.objs.size) (Nat.not_lt.mpr (Nat.le_of_succ_le z.2))) ((hf b hb).2.2.2.2.1 x c)⟩
 ·have hb:b∈fp:=hb
  have e:X.base.get? b=some o:=e
  rcases (hf b hb).2.2.2.1 with z | z
  ·exact I.ok.noex b o e z
  ·exact absurd (Nat.lt_of_lt_of_le (Heap.lt_size e) (Nat.le_trans I.ok.bsz z)) (Nat.lt_irrefl _)
 ·have hb:b∈fp:=hb
  have hz:b∈frs X.stack:=hz
  rcases List.mem_cons.mp (I.stkSub b hz) with z | z
  ·exact (hf b hb).2.1 z
  ·exact (hf b hb).2.2.1 z
 ·have e1:(X.N.map (maskN own)++own)[i]?=some x:=e1
  have e3:Vis (relabel scope X.env) x:=e3
  have hi:i < σ.length:=by
   by_cases hi:i < σ.length
   ·exact hi
   ·rw [List.getElem?_append_right (by lia),List.getElem?_replicate] at e2
    split at e2 <;> cases e2
  rw [List.getElem?_append_left hi] at e2
  rw [List.getElem?_append_left (by rw [List.length_map,← I.len]; exact hi),List.getElem?_map] at e1
  obtain ⟨y,e1,ey⟩:=Option.map_eq_some_iff.mp e1
  have hny:own.contains y=false:=by
   cases hy:own.contains y with
   | false=>rfl
   | true =>
    exfalso
    have hh:=SC.hid y (List.mem_of_getElem? e1) hy
    have ex:x=hidN y:=by rw [← ey]; unfold maskN; rw [if_pos hy]
    rw [← ex] at hh
    have e4:(relabel scope X.env).names.lookup x=none:=relabel_none hh
    rcases e3 with z | z | z <;> (rw [e4] at z; cases z)
  have ex:x=y:=by rw [← ey]; unfold maskN; rw [if_neg (by rw [hny]; exact Bool.false_ne_true)]
  rw [← ex] at e1 hny
  have hnl:(relabel scope X.env).names.lookup x≠some .local:=fun z=>(SC.apart x (List.mem_of_getElem? e1) hny).1 (relabel_local z)
  have hv:(relabel scope X.env).names.lookup x=some .cell ∨ (relabel scope X.env).names.lookup x=some .free:=by
   rcases e3 with z | z | z
   ·exact absurd z hnl
   ·exact .inl z
   ·exact .inr z
  have hfr:scope.names.lookup x=some .free:=(relabel_back hv).resolve_left (SC.apart x (List.mem_of_getElem? e1) hny).2
  have hm:=lookup_mem hfr
  have hkx:=SC.free (x,.free) hm rfl
  obtain ⟨m,hn,hl⟩:=I.loc
  have hkx':X.env.scope.names.lookup x=some .cell ∨ X.env.scope.names.lookup x=some .free:=hkx
  obtain ⟨u,r,l⟩:=hl i x v e1 e2 (hkx'.elim (fun z=>.inr (.inl z)) fun z=>.inr (.inr z))
  refine ⟨u,r,.inr ⟨hv,?_⟩⟩
  obtain ⟨c,hcl⟩:=hasC (.inr hfr)
  refine ⟨c,hcl,?_⟩
  rcases l with ⟨z,_⟩ | ⟨z,c',hc',q⟩
  ·rcases hkx with y | y <;> (rw [z] at y; cases y)
  ·rcases cl hcl with y | y
   ·have:=SC.nocell _ (cellsFrom_in _ _ y.1) rfl
    rw [hfr] at this; cases this
   ·rw [hc'] at y; cases y
    obtain ⟨o,ho,hd⟩:=q
    exact ⟨o,hk _ _ ho,hd⟩
 ·rcases cl h with z | z
  ·exact ⟨_,(ok.empty _ _ z.1).1⟩
  obtain ⟨v,o,ho,hd⟩:=I.cell x c z
  exact ⟨v,o,hk _ _ ho,hd⟩
 ·show (σ++List.replicate own.length none).length=(X.N.map (maskN own)++own).length
  rw [List.length_append,List.length_append,List.length_map,List.length_replicate,I.len]
end
def testsOf (ifs:List Expr) (env:Env):Sem Bool :=
 forIn ifs true fun c r=>if r=true then do let ok ← isTrue c env (eval c env); pure (ForInStep.yield ok) else pure (ForInStep.yield r)
def PTs (X:Cx) (ifs:List Expr) (t:TT):Prop :=
 ∀ (pins:List (Addr×Obj)) (s:Shared) (σ:St) (H:Hp) (Q:Bool→Hp→Prop),Inv X pins σ H s→t σ H Q→wpAny (model X.prog X.w) X.A (testsOf ifs X.env) (TP X pins σ Q) X.xe s
section
variable {X:Cx}
def tTrue:TT:=fun _ H Q=>Q true H
theorem pts_nil:PTs X [] tTrue:=fun _ _ _ H _ I h=>wpAny_pure ⟨H,I,h⟩
end
section
variable {prog:Program}{w:World}{A:Around}{R:Result→Shared→Prop}{s:Shared}
def turnOf (target iter:Expr) (ifs:List Expr) (it:Value) (env:Env) (fin:Sem Fin) (c:Code):Sem Fin:=do
 standAt iter.pos
 match ← pyNext it with
 | none=>pure (.done .next)
 | some v =>
  letOwnedTupleGo target it v
  assign target env v
  let mut ok:=true
  for c in ifs do
   if ok then ok ← isTrue c env (eval c env)
  if ok then fin else again c
def emitIn (elt:Expr) (acc:Value) (env:Env) (c:Code):Sem Fin:=do
 (do let _ ← call (.builtin "list.append") [acc,← eval elt env])
 again c
theorem gen_turns {ce:Expr} {dp:Nat} {target iter:Expr} {ifs:List Expr} {it acc:Value} {env:Env} {fin:Sem Fin} (ht:compTurn ce dp it acc env=turnOf target iter ifs it env fin (.compLoop ce dp it acc env)) (I:Nat→Shared→Prop)
  (turn:∀ n s,I n s→wpAny (model prog w) A (pyNext it) (fun r s1=>match r with
   | none=>R (.ok .next) s1
   | some v=>wpAny (model prog w) A (letOwnedTupleGo target it v) (fun _ s2=>wpAny (model prog w) A (assign target env v) (fun _ s3=>wpAny (model prog w) A (testsOf ifs env) (fun ok s4 =>
     if ok=true then wpAny (model prog w) A fin (fun f s6=>f=.again (.compLoop ce dp it acc env)∧∃ m,m < n∧I m s6) (fun _ _=>False) s4
     else ∃ m,m < n∧I m s4) (fun _ _=>False) s3) (fun _ _=>False) s2) (fun _ _=>False) s1) (fun _ _=>False) s)
  (n:Nat) (h:I n s) (hA:A.under (.compLoop ce dp it acc env)=A:=by rfl) (hd:(model prog w).den (.compLoop ce dp it acc env)=(compTurn ce dp it acc env).onRaise (fun x=>do noteFrame x env; theTreesLotGoes x):=by rfl):codeAny (model prog w) A (.compLoop ce dp it acc env) R s:=by
 refine codeAny_loop rfl I (fun n s hI=>?_) n h
 rw [hA,hd]
 refine wpAny_noted ?_
 rw [ht]
 unfold turnOf
 have no:∀ (e:Value) (s':Shared),(fun (_:Value) (_:Shared)=>False) e s'→notedBy (model prog w) A env (fun e s'=>R (.error e) s') e s':=fun _ _ z=>z.elim
 refine wpAny_bind (wpAny_standAt (wpAny_bind (wpAny_mono (turn n s hI) (fun r s1 h1=>?_) no)))
 cases r with
 | none=>exact wpAny_pure h1
 | some v =>
  refine wpAny_bind (wpAny_mono h1 (fun _ s2 h2=>wpAny_bind (wpAny_mono h2 (fun _ s3 h3=>wpAny_bind (wpAny_mono h3 (fun ok s4 h4=>?_) no)) no)) no)
  cases ok with
  | true =>
   rw [if_pos rfl] at h4
   simp only [if_true]
   exact wpAny_mono h4 (fun f s6 q1=>by obtain ⟨e6,h6⟩:=q1; rw [e6]; exact ⟨rfl,h6⟩) no
  | false =>
   rw [if_neg Bool.false_ne_true] at h4
   simp only [Bool.false_eq_true,if_false]
   first
    | exact wpAny_pure ⟨rfl,h4⟩
    | exact wpAny_bind (wpAny_pure (wpAny_pure ⟨rfl,h4⟩))
end
def Wk (σ σ2:St):Prop:=σ2.length=σ.length∧∀ (j:Nat) (v:V),σ[j]?=some (some v)→σ2[j]?=some (some v)
structure CKind (X:Cx) (ce tg iter:Expr) (ifs:List Expr) (scope:Scope) (mk:Sem Value) (ob:Obj) (o0:Addr→HO) (fin:Value→Env→Code→Sem Fin):Prop where
 tn:∀ it acc env,compTurn ce 0 it (.ref acc) env=turnOf tg iter ifs it env (fin (.ref acc) env (.compLoop ce 0 it (.ref acc) env)) (.compLoop ce 0 it (.ref acc) env)
 un:∀ (A:Around) it acc env,A.under (.compLoop ce 0 it (.ref acc) env)=A
 dn:∀ it acc env,(model X.prog X.w).den (.compLoop ce 0 it (.ref acc) env)=(compTurn ce 0 it (.ref acc) env).onRaise (fun x=>do noteFrame x env; theTreesLotGoes x)
 us:∀ env use,evalThenUse ce env use=(do let _ ← comprehension ce scope env iter.pos mk false (eval iter env) (some use))
 st:∀ {A R s it acc env},codeAny (model X.prog X.w) A (.compLoop ce 0 it acc env) R s→wpAny (model X.prog X.w) A (pyIter it) (fun it' s'=>codeAny (model X.prog X.w) A (.compLoop ce 0 it' acc env) R s') (notedBy (model X.prog X.w) A env fun x s'=>R (.error x) s') s→codeAny (model X.prog X.w) A (.compStart ce 0 it acc env) R s
 nw:∀ {A s} {Q E:Value→Shared→Prop},Q (.ref s.heap.objs.size) { s with heap:=s.heap.push ob }→wpAny (model X.prog X.w) A mk Q E s
 ok:∀ {pins σ H s},Inv X pins σ H s→Inv X pins σ (upd H s.heap.objs.size (o0 s.heap.objs.size)) { s with heap:=s.heap.push ob,toks:=s.toks }
 ev:∀ env,eval ce env=comprehension ce scope env iter.pos mk false (eval iter env)
 cl:clausesOf ce=[⟨tg,iter,ifs,0⟩]
def PEm (Y:Cx) (fin:Value→Env→Code→Sem Fin) (em:Addr→St→Hp→(Hp→Prop)→Prop):Prop:=∀ pins s σ H acc c K,Inv Y pins σ H s→em acc σ H K→wpAny (model Y.prog Y.w) Y.A (fin (.ref acc) Y.env c) (fun f s'=>f=.again c∧∃ H',Inv Y pins σ H' s'∧K H') Y.xe s
def tCompG (wi:TI) (g:TG) (tt:TT) (em:Addr→St→Hp→(Hp→Prop)→Prop) (o0:Addr→HO) (own:Nat):TE:=fun σ H Q=>wi σ H fun J H1=>∀ acc,H1 acc=none→∃ W:Nat→Nat→Hp→Prop,(∃ m,W 0 m (upd H1 acc (o0 acc)))∧∀ i m H,W i m H →
 (J.stop i H∧Q (.ref acc) H) ∨ (J.go i H∧∀ x H',J.yld i H x H'→g x (σ++List.replicate own none) H' fun σ2 H2=>Wk (σ++List.replicate own none) σ2∧tt σ2 H2 fun b H3 =>
  if b=true then em acc σ2 H3 fun H4=>∃ m',m' < m∧W (i + 1) m' H4 else ∃ m',m' < m∧W (i + 1) m' H3)
section
variable {X:Cx}{ce elt tg iter:Expr}{ifs:List Expr}{scope:Scope}{own:List Str}{pos:Pos}{wi:TI}{g:TG}{tt:TT}{te:TE}{mk:Sem Value}{ob:Obj}{o0:Addr→HO}{fin:Value→Env→Code→Sem Fin}{em:Addr→St→Hp→(Hp→Prop)→Prop}
theorem comp_runG {pins:List (Addr×Obj)} {σ:St} {H2:Hp} {s2:Shared} {Q:VK} {it:Addr} {fp:List Addr} {tn:Nat→Heap→Prop} {J:It} {RR:Value→Addr→Result→Shared→Prop}
  (hc:X.calm=true) (SC:CScope X scope own) (CK:CKind X ce tg iter ifs scope mk ob o0 fin)
  (hblock:∀ C s H,PG (cxC X scope own fp C s H) tg g∧PTs (cxC X scope own fp C s H) ifs tt∧PEm (cxC X scope own fp C s H) fin em)
  (I2:Inv X pins σ H2 s2) (T:Turn X.prog X.w X.K tg J fp it tn) (st2:tn 0 s2.heap) (f2:∀ b∈fp,FpOk X pins H2 b)
  (h:∀ acc,H2 acc=none→∃ W:Nat→Nat→Hp→Prop,(∃ m,W 0 m (upd H2 acc (o0 acc)))∧∀ i m H,W i m H →
   (J.stop i H∧Q (.ref acc) H) ∨ (J.go i H∧∀ x H',J.yld i H x H'→g x (σ++List.replicate own.length none) H' fun σ2 H2=>Wk (σ++List.replicate own.length none) σ2∧tt σ2 H2 fun b H3 =>
    if b=true then em acc σ2 H3 fun H4=>∃ m',m' < m∧W (i + 1) m' H4 else ∃ m',m' < m∧W (i + 1) m' H3))
  (hRR:∀ acc C H' m s',Inv X pins σ H' s'→s'.heap.Ns C m→C≠X.env.locals→(∀ x c,X.env.cells.lookup x=some c→c≠C)→s2.heap.objs.size≤C→H' C=none→Q (.ref acc) H'→RR (.ref acc) C (.ok .next) s') {E:Value→Shared→Prop} :
  wpAny (model X.prog X.w) X.A mk (fun acc s3=>wpAny (model X.prog X.w) X.A (newFunctionEnv scope X.env.globals (clGo X.env.cells scope.names []) [] X.env.qual none .none (some X.env)) (fun cenv s4 =>
   codeAny (model X.prog X.w) X.A (.compStart ce 0 (.ref it) acc { cenv with scope:=relabel scope X.env }) (RR acc cenv.locals) s4) E s3) E s2:=by
 have hacc:=I2.fresh
 have I3:Inv X pins σ (upd H2 s2.heap.objs.size (o0 s2.heap.objs.size)) { s2 with heap:=s2.heap.push ob,toks:=s2.toks }:=CK.ok I2
 refine CK.nw ?_
 obtain ⟨W,⟨m0,w0⟩,turn⟩:=h _ hacc
 generalize hs3:({ s2 with heap:=s2.heap.push ob,toks:=s2.toks }:Shared)=s3 at I3
 have keep23:∀ b o,s2.heap.get? b=some o→s3.heap.get? b=some o:=fun b o e=>by rw [← hs3]; exact Heap.get?_push_of_some _ e
 have hf3:∀ b∈fp,FpOk X pins (upd H2 s2.heap.objs.size (o0 s2.heap.objs.size)) b:=fun b hb=>by
  obtain ⟨o,ho,_⟩:=T.obj _ _ st2 b hb
  exact ⟨by rw [upd_ne (Nat.ne_of_lt (Heap.lt_size ho))]; exact (f2 b hb).1,(f2 b hb).2⟩
 have st3:tn 0 s3.heap:=T.keep _ _ _ st2 fun b hb o e=>keep23 b o e
 refine newEnv_cells fun h4 hns' keep34 ok34=>?_
 have I4:=inv_comp (t4:=s3.toks + ([]:List (Str×Value)).length) I3 SC hc hf3 (fun b hb=>by obtain ⟨o,ho,_⟩:=T.obj _ _ st3 b hb; exact ⟨o,ho⟩) hns' keep34 ok34
 have st4:tn 0 h4:=T.keep _ _ _ st3 fun b hb o e=>keep34 b o e
 obtain ⟨hg,ht,he⟩:=hblock s3.heap.objs.size s3 (upd H2 s2.heap.objs.size (o0 s2.heap.objs.size))
 have e5:(cxC X scope own fp s3.heap.objs.size s3 (upd H2 s2.heap.objs.size (o0 s2.heap.objs.size))).env=compEnvC scope (cellsFrom (s3.heap.objs.size + 1) scope.names (clGo X.env.cells scope.names [])) s3.heap.objs.size X.env:=rfl
 generalize hY:cxC X scope own fp s3.heap.objs.size s3 (upd H2 s2.heap.objs.size (o0 s2.heap.objs.size))=Y at hg ht he I4 e5
 have fpY:∀ {H':Hp},(∀ b∈fp,H' b=none)→∀ b∈fp,FpOk Y [] H' b:=fun hn b hb=>by
  obtain ⟨o,ho,_⟩:=T.obj _ _ st3 b hb
  refine ⟨hn b hb,?_,?_,?_,?_,?_⟩
  ·rw [← hY]; exact Nat.ne_of_lt (Heap.lt_size ho)
  ·have:=I4.ok.exfs b (by rw [← hY]; exact hb)
   exact this
  ·exact .inl (by rw [← hY]; exact hb)
  ·exact fun x c h=>(I4.ok.exf b (by rw [← hY]; exact hb)).2 x c h
  ·intro p hp; rw [← hY] at hp; exact absurd (show p∈([]:List (Addr×Obj)) from hp) (by simp)
 have hYp:Y.prog=X.prog∧Y.w=X.w∧Y.K=X.K∧Y.calm=true∧Y.A=X.A∧Y.xe=(fun _ _=>False)∧Y.s₀=s3∧Y.H₀=upd H2 s2.heap.objs.size (o0 s2.heap.objs.size)∧Y.outer=X.stack∧Y.ex=fp:=by rw [← hY]; exact ⟨rfl,rfl,rfl,hc,rfl,rfl,rfl,rfl,rfl,rfl⟩
 obtain ⟨y1,y2,y3,y4,y5,y6,y7,y8,y9,y10⟩:=hYp
 have loop:∀ s5:Shared,s5 = { s3 with heap:=h4,toks:=s3.toks + ([]:List (Str×Value)).length } →
   codeAny (model X.prog X.w) X.A (.compLoop ce 0 (.ref it) (.ref s2.heap.objs.size) Y.env) (RR (.ref s2.heap.objs.size) s3.heap.objs.size) s5:=by
  rintro s5 rfl
  refine gen_turns (hA:=CK.un ..) (hd:=CK.dn ..) (CK.tn _ _ _) (fun n s'=>∃ i H',Inv Y [] (σ++List.replicate own.length none) H' s'∧tn i s'.heap∧(∀ b∈fp,H' b=none)∧W i n H') ?_ m0 ⟨0,_,I4,st4,fun b hb=>(hf3 b hb).1,w0⟩
  rintro n s6 ⟨i,H6,I6,st6,fr6,w6⟩
  rcases turn i n H6 w6 with ⟨stop,q⟩ | ⟨go,step⟩
  ·have d:=T.done Y y1 y2 y3 y4 i [] s6 _ H6 (fun _ _=>False) I6 (fpY fr6) st6 stop
   rw [y5] at d
   refine thn d fun r s7 q1=>?_; obtain ⟨hr,I7⟩:=q1
   subst hr
   obtain ⟨m,hn,_⟩:=I7.loc
   have hL:Y.env.locals=s3.heap.objs.size:=by rw [e5]; rfl
   rw [hL] at hn
   have b7:=I7.base
   rw [y7,y8,y10] at b7
   have b7':Un (frs X.stack) fp (upd H2 s2.heap.objs.size (o0 s2.heap.objs.size)) H6 s3.heap s7.heap:=by
    have z:Y.fs=frs X.stack:=by show frs Y.outer=_; rw [y9]
    rw [z] at b7
    exact b7
   have hok7:=I7.hok
   rw [y1,y2] at hok7
   have os7:=I7.os
   rw [y7] at os7
   have I8:Inv X pins σ H6 s7:=I3.call' os7 b7' hok7 I7.bare fun b hb=>⟨(hf3 b hb).2.2.2.1,(hf3 b hb).2.1,(hf3 b hb).2.2.2.2.1,(hf3 b hb).2.2.2.2.2⟩
   have hfree:=I7.free
   rw [hL] at hfree
   refine hRR _ _ H6 m s7 I8 hn (Nat.ne_of_gt I3.lt) (fun x c h z=>?_) ?_ hfree q
   ·obtain ⟨v,y⟩:=I3.cell x c h
    exact absurd y.lt (by rw [z]; exact Nat.lt_irrefl _)
   ·rw [← hs3,Heap.size_push]; exact Nat.le_succ _
  ·have d:=T.item Y y1 y2 y3 y4 i [] s6 _ H6 (fun _ _=>False) I6 (fpY fr6) st6 go
   rw [y5] at d
   refine thn d fun r s7 q2=>?_; obtain ⟨u,hr,h7⟩:=q2
   subst hr
   refine thn h7 fun _ s8 q3=>?_; obtain ⟨x,H8,I8,r8,y8',st8,fr8⟩:=q3
   have I8':=I8.pinned (fpY fr8) (T.obj _ _ st8)
   have pinK:∀ {σ':St} {H':Hp} {s':Shared},Inv Y ([]++pinsAt fp s8.heap) σ' H' s'→tn (i + 1) s'.heap∧∀ b∈fp,H' b=none:=fun {σ' H' s'} I' =>
    ⟨T.keep _ _ _ st8 fun b hb o e=>(I'.pin (b,o) (List.mem_append_right _ (List.mem_append_right _ (mem_pinsAt hb e)))).1,fun b hb=>by
     obtain ⟨o,e,_⟩:=T.obj _ _ st8 b hb
     exact (I'.pin (b,o) (List.mem_append_right _ (List.mem_append_right _ (mem_pinsAt hb e)))).2.1⟩
   have dg:=hg _ s8 _ H8 x u _ I8' r8 (step x H8 y8')
   rw [y1,y2,y5,y6] at dg
   refine thn dg fun _ s9 q4=>?_; obtain ⟨σ9,H9,I9,wk,q9⟩:=q4
   have dt:=ht _ s9 σ9 H9 _ I9 q9
   rw [y1,y2,y5,y6] at dt
   refine thn dt fun ok s10 q5=>?_; obtain ⟨H10,I10,q10⟩:=q5
   cases ok with
   | true =>
    rw [if_pos rfl] at q10 ⊢
    have de:=he _ s10 σ9 H10 s2.heap.objs.size (.compLoop ce 0 (.ref it) (.ref s2.heap.objs.size) Y.env) _ I10 q10
    rw [y1,y2,y5,y6] at de
    refine thn de fun f s12 ⟨e12,H12,I12,m',hm,w12⟩=>⟨e12,?_⟩
    obtain ⟨t12,f12⟩:=pinK I12
    exact ⟨m',hm,i + 1,_,(I12.unpinned).weak wk.1.symm wk.2,t12,f12,w12⟩
   | false =>
    rw [if_neg Bool.false_ne_true] at q10 ⊢
    obtain ⟨m',hm,w10⟩:=q10
    obtain ⟨t10,f10⟩:=pinK I10
    exact ⟨m',hm,i + 1,_,(I10.unpinned).weak wk.1.symm wk.2,t10,f10,w10⟩
 rw [e5] at loop
 exact CK.st (loop _ rfl) (T.self _ 0 _ _ _ st4 (loop _ rfl))
theorem pe_compG (hc:X.calm=true) (SC:CScope X scope own) (CK:CKind X.nox ce tg iter ifs scope mk ob o0 fin) (hi:PI X.nox tg iter wi)
  (hblock:∀ fp C s H,PG (cxC X scope own fp C s H) tg g∧PTs (cxC X scope own fp C s H) ifs tt∧PEm (cxC X scope own fp C s H) fin em)
  (hs:∀ x,foldedSetIterable iter X.env x=pure x:=by intro _; rfl) :
  PE X.nox ce (tCompG wi g tt em o0 own.length):=by
 intro pins s σ H Q I h
 have fr:∀ p∈scope.names,p.2=.free→∃ c,X.env.cells.lookup p.1=some c:=fun p hp hq=>I.ok.has p.1 (SC.free p hp hq)
 rw [CK.ev]
 refine wpAny_comprehension_free (use:=none) CK.cl hs (closure_is fr) SC.kind SC.names (thn (hi pins s σ H _ I h) fun v s1 h1=>thn h1 fun itv s2 h2=>?_)
 obtain ⟨it,fp,tn,J,H2,e,I2,T,st2,f2,h2⟩:=h2
 subst e
 refine comp_runG (X:=X.nox) (own:=own) (RR:=fun acc C=>compPost (model X.prog X.w) X.A (fun _ _=>False) none (EP X.nox pins σ Q) acc C) hc ⟨SC.kind,SC.nocell,SC.names,SC.free,SC.apart,SC.hid⟩ CK (fun C s H=>hblock fp C s H) I2 T st2 f2 h2 ?_
 intro acc C H' m s' I' hn hL hcl hC hH q
 obtain ⟨f0,f1,f2',f3,f4,f5⟩:=I2.fpOk hC hH
 refine ⟨m,hn,fun h' hsb=>⟨.ref acc,H',?_,rfl,q⟩⟩
 exact I'.turned (t':=s'.toks) (fun b o hb e=>(hsb.2 b hb).trans e) f0 f1 f3 f4 f5
theorem ps_setcompG {i:Nat} {x:Str} {px:Pos} {spos:Pos} (hc:X.calm=true) (SC:CScope X scope own) (CK:CKind X.nox ce tg iter ifs scope mk ob o0 fin) (hN:X.N.Nodup) (hx:X.N[i]?=some x) (hl:X.env.scope.names.lookup x=some .local) (hi:PI X.nox tg iter wi)
  (hblock:∀ fp C s H,PG (cxC X scope own fp C s H) tg g∧PTs (cxC X scope own fp C s H) ifs tt∧PEm (cxC X scope own fp C s H) fin em)
  (hsw:swapsWith ce (some (.Name x px)) spos.line X.env=pure true)
  (hs:∀ x,foldedSetIterable iter X.env x=pure x:=by intro _; rfl) :
  PS X.nox (.Assign [.Name x px] ce spos) (tAsg (tCompG wi g tt em o0 own.length) (gName i)):=by
 intro pins s σ H D I h
 have fr:∀ p∈scope.names,p.2=.free→∃ c,X.env.cells.lookup p.1=some c:=fun p hp hq=>I.ok.has p.1 (SC.free p hp hq)
 show wpAny (model X.prog X.w) X.A (exec _ X.env) _ _ s
 rw [exec_Assign_Name_used _ _ _ _ hsw]
 refine wpAny_bind (wpAny_standAt (wpAny_bind ?_))
 rw [CK.us]
 refine wpAny_bind (wpAny_mono (wpAny_comprehension_free (use:=some (assign (.Name x px) X.env)) (Q:=fun _ s'=>SP X.nox pins D .next s') CK.cl hs (closure_is fr) SC.kind SC.names
  (thn (hi pins s σ H _ I h) fun v s1 h1=>thn h1 fun itv s2 h2=>?_)) (fun _ s' hq=>wpAny_pure (wpAny_pure hq)) fun _ _ e=>e)
 obtain ⟨it,fp,tn,J,H2,e,I2,T,st2,f2,h2⟩:=h2
 subst e
 refine comp_runG (X:=X.nox) (own:=own) (Q:=fun v H1=>gName i v σ H1 D.nx) (RR:=fun acc C=>compPost (model X.prog X.w) X.A (fun _ _=>False) (some (assign (.Name x px) X.env)) (fun _ s'=>SP X.nox pins D .next s') acc C) hc ⟨SC.kind,SC.nocell,SC.names,SC.free,SC.apart,SC.hid⟩ CK (fun C s H=>hblock fp C s H) I2 T st2 f2 h2 ?_
 intro acc C H' m s' I' hn hL hcl hC hH q
 obtain ⟨f0,f1,f2',f3,f4,f5⟩:=I2.fpOk hC hH
 show wpAny (model X.prog X.w) X.A (assign (.Name x px) X.env (.ref acc)) _ _ s'
 refine wpAny_assign_Name (store_ok2 (X:=X.nox) I' hN hx (.inl hl) (v:=.ref acc) rfl (fun s'' I'' hch=>?_) (.inr hl))
 obtain ⟨a,hsa,ha⟩:=hch
 have hCa:C≠a:=by
  rcases ha with z | z
  ·rw [z]; exact hL
  ·exact fun y=>hcl x a z y.symm
 refine ⟨m,hn.sameBut hsa hCa,fun h' hsb=>?_⟩
 exact ⟨_,H',I''.turned (t':=s''.toks) (fun b o hb e=>(hsb.2 b hb).trans e) f0 f1 f3 f4 f5,q⟩
def emL (te:TE):Addr→St→Hp→(Hp→Prop)→Prop:=fun acc σ H K=>te σ H fun v H4=>∃ ys,H4 acc=some (.lst ys)∧ys.length < sizeLine∧K (upd H4 acc (.lst (ys++[v])))
def tComp (wi:TI) (g:TG) (tt:TT) (te:TE) (own:Nat):TE:=tCompG wi g tt (emL te) (fun _=>.lst []) own
theorem ck_list:CKind X (.ListComp elt [⟨tg,iter,ifs,0⟩] scope pos) tg iter ifs scope (newList []) { cls:=.type "list",data:=.seq ([]:List Value).toArray } (fun _=>.lst []) (emitIn elt) :=
 ⟨fun _ _ _=>rfl,fun _ _ _ _=>rfl,fun _ _ _=>rfl,fun _ _=>rfl,codeAny_compStart_list,fun q=>wpAny_newObj_type q,fun I=>I.lnew .nil (Nat.zero_le _),fun _=>by rw [eval_ListComp]; rfl,rfl⟩
theorem pem_list {Y:Cx} (he:PE Y elt te):PEm Y (emitIn elt) (emL te):=by
 intro pins s σ H acc c K I q
 unfold emitIn
 refine wpAny_bind (wpAny_bind (thn (he _ s σ H _ I q) fun y s11 ⟨v11,H11,I11,r11,ys,hys,hz,k⟩=>wpAny_bind ?_))
 refine thn (mt_append (X:=Y) _ s11 σ H11 (.ref acc) [v11] (.ref acc) [y] (fun _ H'=>H'=upd H11 acc (.lst (ys++[v11]))) I11 rfl (.cons r11 .nil) ⟨_,ys,v11,rfl,rfl,hys,hz,rfl⟩) fun _ s12 q2=>?_; obtain ⟨v12,H12,I12,r12,e12⟩:=q2
 subst e12
 exact wpAny_pure (wpAny_pure ⟨rfl,_,I12,k⟩)
theorem pe_comp (hc:X.calm=true) (SC:CScope X scope own) (hi:PI X.nox tg iter wi)
  (hblock:∀ fp C s H,PG (cxC X scope own fp C s H) tg g∧PTs (cxC X scope own fp C s H) ifs tt∧PE (cxC X scope own fp C s H) elt te)
  (hs:∀ x,foldedSetIterable iter X.env x=pure x:=by intro _; rfl) :
  PE X.nox (.ListComp elt [⟨tg,iter,ifs,0⟩] scope pos) (tComp wi g tt te own.length) :=
 pe_compG hc SC ck_list hi (fun fp C s H=>let ⟨a,b,c⟩:=hblock fp C s H; ⟨a,b,pem_list c⟩) hs
theorem ps_setcomp {i:Nat} {x:Str} {px:Pos} {spos:Pos} (hc:X.calm=true) (SC:CScope X scope own) (hN:X.N.Nodup) (hx:X.N[i]?=some x) (hl:X.env.scope.names.lookup x=some .local) (hi:PI X.nox tg iter wi)
  (hblock:∀ fp C s H,PG (cxC X scope own fp C s H) tg g∧PTs (cxC X scope own fp C s H) ifs tt∧PE (cxC X scope own fp C s H) elt te)
  (hsw:swapsWith (.ListComp elt [⟨tg,iter,ifs,0⟩] scope pos) (some (.Name x px)) spos.line X.env=pure true)
  (hs:∀ x,foldedSetIterable iter X.env x=pure x:=by intro _; rfl) :
  PS X.nox (.Assign [.Name x px] (.ListComp elt [⟨tg,iter,ifs,0⟩] scope pos) spos) (tAsg (tComp wi g tt te own.length) (gName i)) :=
 ps_setcompG hc SC ck_list hN hx hl hi (fun fp C s H=>let ⟨a,b,c⟩:=hblock fp C s H; ⟨a,b,pem_list c⟩) hsw hs
end
end L2
end
section
namespace L2
open PySem PySem.Spec PyProof.Rows
section
variable {X:Cx}{pins:List (Addr×Obj)}{σ:St}{H:Hp}{s:Shared}{h':Heap}
theorem Inv.turnedNew {t':Nat} {ch:List Addr} {p:Addr} {o:HO} (I:Inv X pins σ H s) (hp:s.heap.objs.size≤p) (k:∀ b ob,b ∉ ch→s.heap.get? b=some ob→h'.get? b=some ob) (hf:∀ b∈ch,FpOk X pins H b)
  (new:ObjOk X.prog X.w (upd H p o) h' p o):Inv X pins σ (upd H p o) { s with heap:=h',toks:=t' }:=by
 have hn:H p=none:=I.hok.fresh hp
 have nit:∀ b u,H b=some u→b ∉ ch:=fun b u e z=>by rw [(hf b z).1] at e; cases e
 have nep:∀ {b ob},s.heap.get? b=some ob→b≠p:=fun e=>Nat.ne_of_lt (Nat.lt_of_lt_of_le (Heap.lt_size e) hp)
 refine I.step (g':=s.gens) (d':=s.drawn) (ch:=ch) (fun b hb=>⟨(hf b hb).2.2.2.1,(hf b hb).2.1,(hf b hb).2.2.2.2.1,(hf b hb).2.2.2.2.2⟩) (fun b ob _ _ hc e _=>k b ob hc e) (fun b ob _ _ hc e _=>⟨ob.slots,k b ob hc e⟩)
  (fun b ob hc e n=>by rw [upd_ne (nep e)]; exact n) (fun b ob hc e=>⟨ob,k b ob hc e⟩) (fun b xs e=>by rw [upd_ne (ne_of_none e hn)]; exact e) (fun b u xs e=>by rw [upd_ne (ne_of_none e hn)]; exact e)
  (fun b ps e=>⟨#[],by rw [upd_ne (ne_of_none e hn),e]; simp⟩) (fun m hm=>?_) (fun b u e=>?_) I.bare
 ·obtain ⟨ob,es,ep,ho,r⟩:=hm
  exact ⟨ob,es,ep,k _ ob (fun z=>(hf _ z).2.1 rfl) ho,r⟩
 ·by_cases hb:b=p
  ·subst hb; rw [upd_same] at e; cases e; exact new
  ·rw [upd_ne hb] at e
   refine (I.hok b u e).stay (fun c v hc q=>k c v ?_ q) (fun c q=>by rw [upd_ne (ne_of_none q hn)]; exact q) fun c xs q=>by rw [upd_ne (ne_of_none q hn)]; exact q
   rcases hc with z | z
   ·rw [z]; exact nit b u e
   ·exact nit c _ z
theorem Inv.turnedL {t':Nat} {ch:List Addr} (I:Inv X pins σ H s) (k:∀ b ob,b ∉ ch→s.heap.get? b=some ob→h'.get? b=some ob) (hf:∀ b∈ch,FpOk X pins H b):Inv X pins σ H { s with heap:=h',toks:=t' }:=by
 have nit:∀ b u,H b=some u→b ∉ ch:=fun b u e z=>by rw [(hf b z).1] at e; cases e
 refine I.step (g':=s.gens) (d':=s.drawn) (ch:=ch) (fun b hb=>⟨(hf b hb).2.2.2.1,(hf b hb).2.1,(hf b hb).2.2.2.2.1,(hf b hb).2.2.2.2.2⟩) (fun b ob _ _ hc e _=>k b ob hc e) (fun b ob _ _ hc e _=>⟨ob.slots,k b ob hc e⟩)
  (fun _ _ _ _ n=>n) (fun b ob hc e=>⟨ob,k b ob hc e⟩) (fun _ _ e=>e) (fun _ _ _ e=>e) (fun b ps e=>⟨#[],by rw [e]; simp⟩) (fun m hm=>?_) (fun b u e=>?_) I.bare
 ·obtain ⟨ob,es,ep,ho,r⟩:=hm
  exact ⟨ob,es,ep,k _ ob (fun z=>(hf _ z).2.1 rfl) ho,r⟩
 ·refine (I.hok b u e).stay (fun c v hc q=>k c v ?_ q) (fun _ q=>q) fun _ _ q=>q
  rcases hc with z | z
  ·rw [z]; exact nit b u e
  ·exact nit c _ z
end
end L2
end
section
namespace L2
open PySem PySem.Spec PyProof.Rows
def SeqB (b:Bool) (h:Heap) (l:Addr) (xs:Array Value):Prop:=match b with | true=>h.IsList l xs | false=>h.IsTuple l xs
def IterB (b:Bool) (h:Heap) (it l:Addr) (i:Nat):Prop:=match b with | true=>h.IsListIter it l i | false=>h.IsTupleIter it l i
def iterCls (b:Bool):String:=match b with | true=>"list_iterator" | false=>"tuple_iterator"
section
variable {b:Bool}{h h':Heap}{it l c:Addr}{i:Nat}{xs:Array Value}
theorem SeqB.move (x:SeqB b h l xs) (e:Heap.ExtBut c h h') (n:l≠c):SeqB b h' l xs:=by
 cases b
 ·exact Heap.IsTuple.extBut x e n
 ·exact Heap.IsList.extBut x e n
theorem SeqB.push {o:Obj} (x:SeqB b h l xs):SeqB b (h.push o) l xs:=by
 cases b
 ·exact Heap.IsTuple.push x o
 ·exact Heap.IsList.push x o
theorem SeqB.lt (x:SeqB b h l xs):l < h.objs.size:=by
 cases b <;> (obtain ⟨_,e,_⟩:=x; exact Heap.lt_size e)
theorem IterB.move (x:IterB b h it l i) (e:Heap.ExtBut c h h') (n:it≠c):IterB b h' it l i:=by
 cases b
 ·exact Heap.IsTupleIter.extBut x e n
 ·exact Heap.IsListIter.extBut x e n
theorem IterB.to (x:IterB b h it l i) (k:∀ o,h.get? it=some o→h'.get? it=some o):IterB b h' it l i:=by
 cases b <;> (obtain ⟨o,e,r⟩:=x; exact ⟨o,k o e,r⟩)
theorem IterB.obj (x:IterB b h it l i):∃ o,h.get? it=some o∧∀ v,o.data≠.cell v:=by
 cases b <;> (obtain ⟨o,e,_,d⟩:=x; exact ⟨o,e,fun v z=>by rw [d] at z; cases z⟩)
theorem IterB.lt (x:IterB b h it l i):it < h.objs.size:=let ⟨_,e,_⟩:=x.obj; Heap.lt_size e
end
section
variable {P:Program}{w:World}{A:Around}{E:Value→Shared→Prop}{s:Shared}{b:Bool}{it l:Addr}{i:Nat}{xs:Array Value}{Q:Value→Shared→Prop}
theorem iterB (x:SeqB b s.heap l xs) (q:Q (.ref s.heap.objs.size) { s with heap:=s.heap.push { cls:=.type (iterCls b),data:=.fields #[.ref l,.int 0 0] } }):wpAny (model P w) A (pyIter (.ref l)) Q E s:=by
 cases b
 ·exact wpAny_pyIter_tuple x q
 ·exact wpAny_pyIter_list x q
theorem nextT {x:Value} (hi:s.heap.IsTupleIter it l i) (hl:s.heap.IsTuple l xs) (hx:xs[i]?=some x) (q:∀ h',h'.IsTupleIter it l (i + 1)→Heap.SameBut it s.heap h'→Q x { s with heap:=h' }):wpAny (model P w) A (Builtin.SmallTypes.nextOf (.ref it)) Q E s:=by
 obtain ⟨oi,ei,ci,di⟩:=id hi
 obtain ⟨os,es,_,ns,ds⟩:=hl
 unfold Builtin.SmallTypes.nextOf
 refine wpAny_bind (wpAny_callSpecial?_slot (name:=Str.ofString "__next__") hi.typeIs F.slot_tuple_iterator_next (wpAny_call_entry F.slot_tuple_iterator_next hi.typeIs F.entry_tuple_iterator_next ?_ (F.args_tuple_iterator_next_1 _)))
 show wpAny _ _ (field (.ref it) 0 >>= _) _ _ s; refine wpAny_bind (wpAny_field ei di (x:=.ref l) rfl ?_)
 show wpAny _ _ (if (Value.ref l == Value.none)=true then _ else _) _ _ s; rw [if_neg (show ¬ ((Value.ref l == Value.none)=true) from Bool.false_ne_true)]
 show wpAny _ _ (field (.ref it) 1 >>= _) _ _ s; refine wpAny_bind (wpAny_field ei di (x:=.int i 0) rfl ?_)
 show wpAny _ _ (seqItems? (.ref l) >>= _) _ _ s; refine wpAny_bind (wpAny_seqItems es ds ?_)
 simp only [Int.toNat_natCast,hx]
 refine wpAny_bind (wpAny_setField ei di (by simp) (wpAny_pure ⟨x,rfl,wpAny_pure (q _ ⟨_,Heap.get?_update_self _ ei (Obj.isFreed_of_fields (Obj.data_mapFields di _)),(Obj.cls_mapFields ..).trans ci,?_⟩ (Heap.SameBut.update ..))⟩))
 rw [Obj.data_mapFields di]; simp [rawInt]
theorem stopT (hh:A.handled=none) (hi:s.heap.IsTupleIter it l i) (hl:s.heap.IsTuple l xs) (hx:xs[i]?=none)
  (q:∀ h' e,Heap.ExtBut it s.heap h'→(∃ o,h'.get? e=some o∧o.cls=.type "StopIteration")→E (.ref e) { s with heap:=h' }):wpAny (model P w) A (Builtin.SmallTypes.nextOf (.ref it)) Q E s:=by
 obtain ⟨oi,ei,ci,di⟩:=id hi
 obtain ⟨os,es,_,ns,ds⟩:=hl
 unfold Builtin.SmallTypes.nextOf
 refine wpAny_bind (wpAny_callSpecial?_slot (name:=Str.ofString "__next__") hi.typeIs F.slot_tuple_iterator_next (wpAny_call_entry F.slot_tuple_iterator_next hi.typeIs F.entry_tuple_iterator_next ?_ (F.args_tuple_iterator_next_1 _)))
 show wpAny _ _ (field (.ref it) 0 >>= _) _ _ s; refine wpAny_bind (wpAny_field ei di (x:=.ref l) rfl ?_)
 show wpAny _ _ (if (Value.ref l == Value.none)=true then _ else _) _ _ s; rw [if_neg (show ¬ ((Value.ref l == Value.none)=true) from Bool.false_ne_true)]
 show wpAny _ _ (field (.ref it) 1 >>= _) _ _ s; refine wpAny_bind (wpAny_field ei di (x:=.int i 0) rfl ?_)
 show wpAny _ _ (seqItems? (.ref l) >>= _) _ _ s; refine wpAny_bind (wpAny_seqItems es ds ?_)
 simp only [Int.toNat_natCast,hx]
 refine wpAny_bind (wpAny_rule (wpAny_bind (wpAny_setField ei di (by simp) ?_))); show wpAny _ _ (newExc (.type "StopIteration") [] >>= _) _ _ _
 refine wpAny_bind ?_; simp only [newExc,newTuple]
 refine wpAny_bind (wpAny_newObj_type ?_ (by size_fits)); refine wpAny_bind (m:=firstArgMember _ _) (wpAny_of_eq (a:=Value.none) (by first | rfl | (simp only [firstArgMember]; rfl)) ?_)
 refine wpAny_newObj_type ?_ (by size_fits); simp -iota only [raiseNew]; refine wpAny_bind (wpAny_handled ?_)
 first | rw [show A.in1.handled=none from hh] | rw [hh]
 exact wpAny_bind (wpAny_pure (wpAny_throw (q _ _ (((Heap.SameBut.update ..).extBut.push _).push _) ⟨_,Heap.get?_push_size _ rfl,rfl⟩)))
theorem nextB {x:Value} (hi:IterB b s.heap it l i) (hl:SeqB b s.heap l xs) (hx:xs[i]?=some x) (q:∀ h',IterB b h' it l (i + 1)→Heap.SameBut it s.heap h'→Q x { s with heap:=h' }):wpAny (model P w) A (Builtin.SmallTypes.nextOf (.ref it)) Q E s:=by
 cases b
 ·exact nextT hi hl hx q
 ·exact wpAny_nextOf_list_item hi hl hx q
theorem stopB (hh:A.handled=none) (hi:IterB b s.heap it l i) (hl:SeqB b s.heap l xs) (hx:xs[i]?=none)
  (q:∀ h' e,Heap.ExtBut it s.heap h'→(∃ o,h'.get? e=some o∧o.cls=.type "StopIteration")→E (.ref e) { s with heap:=h' }):wpAny (model P w) A (Builtin.SmallTypes.nextOf (.ref it)) Q E s:=by
 cases b
 ·exact stopT hh hi hl hx q
 ·exact wpAny_nextOf_list_end hh hi hl hx q
end
section
variable {P:Program}{w:World}{A:Around}{E:Value→Shared→Prop}{s:Shared}{p q:Bool}{z TI TO i1 i2 l1 l2:Addr}{k1 k2:Nat}{xs ys:Array Value}{x y a b:Value}
theorem zipB_item {Q:Value→Shared→Prop} (D:ZipApart z TI TO i1 i2 l1 l2) (zz:IsZip s.heap z TI TO .none) (zi:IsPair s.heap TI (.ref i1) (.ref i2)) (zo:IsPair s.heap TO a b)
  (t1:IterB p s.heap i1 l1 k1) (t2:IterB q s.heap i2 l2 k2) (m1:SeqB p s.heap l1 xs) (m2:SeqB q s.heap l2 ys) (ex:xs[k1]?=some x) (ey:ys[k2]?=some y)
  (K:∀ h',IsZip h' z TI TO (rawInt s.heap.objs.size)→IsPair h' TO x y→IterB p h' i1 l1 (k1 + 1)→IterB q h' i2 l2 (k2 + 1)→IsPair h' s.heap.objs.size x y →
   (∀ c o,c≠z→c≠TO→c≠i1→c≠i2→s.heap.get? c=some o→h'.get? c=some o)→Q (.ref s.heap.objs.size) { s with heap:=h' }) :
  wpAny (model P w) A (Builtin.«zip.__next__» ⟨[.ref z],[]⟩) (fun fin s'=>∃ v,fin=.done (.ret v)∧Q v s') E s:=by
 show wpAny _ _ (field (.ref z) 2 >>= _) _ _ _; refine wpAny_bind (wpAny_field zz rfl (x:=.bool false) rfl ?_)
 show wpAny _ _ (field (.ref z) 3 >>= _) _ _ _; refine wpAny_bind (wpAny_field zz rfl (x:=.ref TI) rfl (wpAny_bind (wpAny_seqItems zi rfl ?_)))
 show wpAny _ _ (Builtin.SmallTypes.ownedTupleIsFree (.ref z) >>= _) _ _ _; refine wpAny_bind ?_; unfold Builtin.SmallTypes.ownedTupleIsFree
 refine wpAny_bind (wpAny_field zz rfl (x:=.none) rfl (wpAny_pure ?_)); simp -iota only [if_true]
 refine wpAny_bind (wpAny_rule (wpAny_bind (wpAny_field zz rfl (x:=.ref TO) rfl (wpAny_bind (wpAny_setField_rec zz (by simp) fun g1 z1 b1=>?_)))))
 replace z1:IsZip g1 z TI TO .ellipsis:=z1
 refine wpAny_bind ?_; simp -iota only [List.zipIdx_cons,List.zipIdx_nil,List.forIn_cons,List.forIn_nil]
 refine wpAny_bind (wpAny_bind (wpAny_onRaise ?_)); show wpAny _ _ (Builtin.SmallTypes.nextOf (.ref i1) >>= _) _ _ _
 refine wpAny_bind (nextB (t1.move b1.extBut D.i1z) (m1.move b1.extBut D.l1z) ex fun g2 t12 b2=>wpAny_pure ?_)
 have o2:IsPair g2 TO a b:=b2.extBut _ _ D.TOi1 (b1.extBut _ _ D.TOz zo)
 refine wpAny_bind (wpAny_seqItems o2 rfl (wpAny_bind (wpAny_updateSeq_pair o2 fun g3 o3 b3=>?_)))
 replace o3:IsPair g3 TO x b:=o3
 refine wpAny_bind (wpAny_letGo (wpAny_pure (wpAny_bind (wpAny_bind (wpAny_onRaise ?_))))); show wpAny _ _ (Builtin.SmallTypes.nextOf (.ref i2) >>= _) _ _ _
 refine wpAny_bind (nextB (((t2.move b1.extBut D.i2z).move b2.extBut D.i12.symm).move b3.extBut D.TOi2.symm) (((m2.move b1.extBut D.l2z).move b2.extBut D.l2i1).move b3.extBut D.l2TO) ey fun g4 t24 b4=>wpAny_pure ?_)
 have o4:IsPair g4 TO x b:=b4.extBut _ _ D.TOi2 o3
 refine wpAny_bind (wpAny_seqItems o4 rfl (wpAny_bind (wpAny_updateSeq_pair o4 fun g5 o5 b5=>?_)))
 replace o5:IsPair g5 TO x y:=o5
 refine wpAny_bind (wpAny_letGo (wpAny_pure (wpAny_pure (wpAny_bind (wpAny_seqItems o5 rfl (wpAny_bind (wpAny_newTuple ?_)))))))
 have sz:g5.objs.size=s.heap.objs.size:=by rw [b5.1,b4.1,b3.1,b2.1,b1.1]
 have z5:IsZip g5 z TI TO .ellipsis:=b5.extBut _ _ D.TOz.symm (b4.extBut _ _ D.i2z.symm (b3.extBut _ _ D.TOz.symm (b2.extBut _ _ D.i1z.symm z1)))
 have kk:∀ c o,c≠z→c≠TO→c≠i1→c≠i2→s.heap.get? c=some o→g5.get? c=some o:=fun c o c1 c2 c3 c4 e=>b5.extBut _ _ c2 (b4.extBut _ _ c4 (b3.extBut _ _ c2 (b2.extBut _ _ c3 (b1.extBut _ _ c1 e))))
 have t15:IterB p g5 i1 l1 (k1 + 1):=((t12.move b3.extBut D.TOi1.symm).move b4.extBut D.i12).move b5.extBut D.TOi1.symm
 have t25:IterB q g5 i2 l2 (k2 + 1):=t24.move b5.extBut D.TOi2.symm
 have zlt:z < g5.objs.size:=Heap.lt_size z5
 show wpAny _ _ (Builtin.SmallTypes.ownedTupleHandOut (.ref z) (.ref g5.objs.size) >>= _) _ _ _; refine wpAny_bind ?_; unfold Builtin.SmallTypes.ownedTupleHandOut
 have z6:IsZip (g5.push { cls:=.type "tuple",data:=.seq #[x,y] }) z TI TO .ellipsis:=Heap.get?_push_of_some _ z5
 refine wpAny_bind (wpAny_setField_rec z6 (by simp) fun g7 z7 b7=>?_); replace z7:IsZip g7 z TI TO (rawInt g5.objs.size):=z7
 refine wpAny_setField_rec z7 (by simp) fun g8 z8 b8=>?_; replace z8:IsZip g8 z TI TO (rawInt g5.objs.size):=z8
 have up:∀ c o,c≠z→g5.get? c=some o→g8.get? c=some o:=fun c o c1 e=>b8.extBut _ _ c1 (b7.extBut _ _ c1 (Heap.get?_push_of_some _ e))
 have tt:IsPair g8 g5.objs.size x y:=b8.extBut _ _ (Nat.ne_of_gt zlt) (b7.extBut _ _ (Nat.ne_of_gt zlt) (Heap.get?_push_size _ rfl))
 rw [sz] at z8 tt
 refine wpAny_pure ⟨_,rfl,?_⟩; show Q (.ref g5.objs.size) _; rw [sz]
 exact K g8 z8 (up _ _ D.TOz o5) (t15.to fun o e=>up _ o D.i1z e) (t25.to fun o e=>up _ o D.i2z e) tt fun c o c1 c2 c3 c4 e=>up c o c1 (kk c o c1 c2 c3 c4 e)
theorem zipB_end {Q:Fin→Shared→Prop} (hh:A.handled=none) (D:ZipApart z TI TO i1 i2 l1 l2) (zz:IsZip s.heap z TI TO .none) (zi:IsPair s.heap TI (.ref i1) (.ref i2)) (zo:IsPair s.heap TO a b)
  (t1:IterB p s.heap i1 l1 k1) (t2:IterB q s.heap i2 l2 k2) (m1:SeqB p s.heap l1 xs) (m2:SeqB q s.heap l2 ys) (en:xs[k1]?=none ∨ ys[k2]?=none)
  (K:∀ h' e,(∀ c o,c≠z→c≠TO→c≠i1→c≠i2→s.heap.get? c=some o→h'.get? c=some o)→(∃ o,h'.get? e=some o∧o.cls=.type "StopIteration")→E (.ref e) { s with heap:=h' }) :
  wpAny (model P w) A (Builtin.«zip.__next__» ⟨[.ref z],[]⟩) Q E s:=by
 show wpAny _ _ (field (.ref z) 2 >>= _) _ _ _; refine wpAny_bind (wpAny_field zz rfl (x:=.bool false) rfl ?_)
 show wpAny _ _ (field (.ref z) 3 >>= _) _ _ _; refine wpAny_bind (wpAny_field zz rfl (x:=.ref TI) rfl (wpAny_bind (wpAny_seqItems zi rfl ?_)))
 show wpAny _ _ (Builtin.SmallTypes.ownedTupleIsFree (.ref z) >>= _) _ _ _; refine wpAny_bind ?_; unfold Builtin.SmallTypes.ownedTupleIsFree
 refine wpAny_bind (wpAny_field zz rfl (x:=.none) rfl (wpAny_pure ?_)); simp -iota only [if_true]
 refine wpAny_bind (wpAny_rule (wpAny_bind (wpAny_field zz rfl (x:=.ref TO) rfl (wpAny_bind (wpAny_setField_rec zz (by simp) fun g1 z1 b1=>?_)))))
 replace z1:IsZip g1 z TI TO .ellipsis:=z1
 refine wpAny_bind ?_; simp -iota only [List.zipIdx_cons,List.zipIdx_nil,List.forIn_cons,List.forIn_nil]
 refine wpAny_bind (wpAny_bind (wpAny_onRaise ?_)); show wpAny _ _ (Builtin.SmallTypes.nextOf (.ref i1) >>= _) _ _ _
 have fin:∀ {g:Heap} {e:Addr} {o:Obj},IsZip g z TI TO .ellipsis→g.get? e=some o→o.cls=.type "StopIteration"→e≠z:=fun h1 h2 h3 x=>by subst x; rw [h1] at h2; cases h2; simp at h3
 cases hx:xs[k1]? with
 | none =>
  refine wpAny_bind (stopB hh (t1.move b1.extBut D.i1z) (m1.move b1.extBut D.l1z) hx fun g2 e b2 he=>?_)
  obtain ⟨oe,e1,e2⟩:=he
  have z2:IsZip g2 z TI TO .ellipsis:=b2 _ _ D.i1z.symm z1
  exact wpAny_setField_rec z2 (by simp) fun g3 _ b3=>K g3 e (fun c o c1 _ c3 _ x=>b3.extBut _ _ c1 (b2 _ _ c3 (b1.extBut _ _ c1 x))) ⟨oe,b3.extBut _ _ (fin z2 e1 e2) e1,e2⟩
 | some x =>
  have hy:ys[k2]?=none:=by rcases en with h | h; rw [hx] at h; cases h; exact h
  refine wpAny_bind (nextB (t1.move b1.extBut D.i1z) (m1.move b1.extBut D.l1z) hx fun g2 t12 b2=>wpAny_pure ?_)
  have o2:IsPair g2 TO a b:=b2.extBut _ _ D.TOi1 (b1.extBut _ _ D.TOz zo)
  refine wpAny_bind (wpAny_seqItems o2 rfl (wpAny_bind (wpAny_updateSeq_pair o2 fun g3 o3 b3=>wpAny_bind (wpAny_letGo (wpAny_pure (wpAny_bind (wpAny_bind (wpAny_onRaise ?_))))))))
  show wpAny _ _ (Builtin.SmallTypes.nextOf (.ref i2) >>= _) _ _ _
  refine wpAny_bind (stopB hh (((t2.move b1.extBut D.i2z).move b2.extBut D.i12.symm).move b3.extBut D.TOi2.symm) (((m2.move b1.extBut D.l2z).move b2.extBut D.l2i1).move b3.extBut D.l2TO) hy fun g4 e b4 he=>?_)
  obtain ⟨oe,e1,e2⟩:=he
  have z4:IsZip g4 z TI TO .ellipsis:=b4 _ _ D.i2z.symm (b3.extBut _ _ D.TOz.symm (b2.extBut _ _ D.i1z.symm z1))
  exact wpAny_setField_rec z4 (by simp) fun g5 _ b5=>K g5 e (fun c o c1 c2 c3 c4 x=>b5.extBut _ _ c1 (b4 _ _ c4 (b3.extBut _ _ c2 (b2.extBut _ _ c3 (b1.extBut _ _ c1 x))))) ⟨oe,b5.extBut _ _ (fin z4 e1 e2) e1,e2⟩
theorem zipB_next {Q:Option Value→Shared→Prop} (D:ZipApart z TI TO i1 i2 l1 l2) (zz:IsZip s.heap z TI TO .none) (zi:IsPair s.heap TI (.ref i1) (.ref i2)) (zo:IsPair s.heap TO a b)
  (t1:IterB p s.heap i1 l1 k1) (t2:IterB q s.heap i2 l2 k2) (m1:SeqB p s.heap l1 xs) (m2:SeqB q s.heap l2 ys) (ex:xs[k1]?=some x) (ey:ys[k2]?=some y)
  (K:∀ h',IsZip h' z TI TO (rawInt s.heap.objs.size)→IsPair h' TO x y→IterB p h' i1 l1 (k1 + 1)→IterB q h' i2 l2 (k2 + 1)→IsPair h' s.heap.objs.size x y →
   (∀ c o,c≠z→c≠TO→c≠i1→c≠i2→s.heap.get? c=some o→h'.get? c=some o)→Q (some (.ref s.heap.objs.size)) { s with heap:=h' }):wpAny (model P w) A (pyNext (.ref z)) Q E s:=by
 have ty:s.TypeIs (.ref z) "zip":=⟨_,zz,rfl⟩
 unfold pyNext
 exact wpAny_bind (wpAny_attempt (wpAny_callSpecial?_slot (name:=Str.ofString "__next__") ty F.slot_zip_next (wpAny_call_entry F.slot_zip_next ty F.entry_zip_next (zipB_item D zz zi zo t1 t2 m1 m2 ex ey fun h' a1 a2 a3 a4 a5 a6=>wpAny_pure (K h' a1 a2 a3 a4 a5 a6)) (F.args_zip_next_1 _))))
theorem zipB_stop {Q:Option Value→Shared→Prop} (hh:A.handled=none) (D:ZipApart z TI TO i1 i2 l1 l2) (zz:IsZip s.heap z TI TO .none) (zi:IsPair s.heap TI (.ref i1) (.ref i2)) (zo:IsPair s.heap TO a b)
  (t1:IterB p s.heap i1 l1 k1) (t2:IterB q s.heap i2 l2 k2) (m1:SeqB p s.heap l1 xs) (m2:SeqB q s.heap l2 ys) (en:xs[k1]?=none ∨ ys[k2]?=none)
  (K:∀ h',(∀ c o,c≠z→c≠TO→c≠i1→c≠i2→s.heap.get? c=some o→h'.get? c=some o)→Q none { s with heap:=h' }):wpAny (model P w) A (pyNext (.ref z)) Q E s:=by
 have ty:s.TypeIs (.ref z) "zip":=⟨_,zz,rfl⟩
 unfold pyNext
 refine wpAny_bind (wpAny_attempt (wpAny_callSpecial?_slot (name:=Str.ofString "__next__") ty F.slot_zip_next (wpAny_call_entry F.slot_zip_next ty F.entry_zip_next (zipB_end hh D zz zi zo t1 t2 m1 m2 en fun h' e hk he=>?_) (F.args_zip_next_1 _))))
 obtain ⟨o,e1,e2⟩:=he
 exact wpAny_bind (wpAny_isInstance (T:="StopIteration") (b:=true) ⟨o,e1,e2⟩ isSubtype_stop (wpAny_pure (K _ hk)))
end
abbrev zb1 (p:Bool) (h:Heap) (l1:Addr):Heap:=h.push { cls:=.type (iterCls p),data:=.fields #[.ref l1,.int 0 0] }
abbrev zb2 (p q:Bool) (h:Heap) (l1 l2:Addr):Heap:=(zb1 p h l1).push { cls:=.type (iterCls q),data:=.fields #[.ref l2,.int 0 0] }
abbrev zb3 (p q:Bool) (h:Heap) (l1 l2:Addr):Heap:=(zb2 p q h l1 l2).push { cls:=.type "tuple",data:=.seq #[.ref h.objs.size,.ref (zb1 p h l1).objs.size] }
abbrev zb4 (p q:Bool) (h:Heap) (l1 l2:Addr):Heap:=(zb3 p q h l1 l2).push { cls:=.type "tuple",data:=.seq #[.none,.none] }
abbrev zb5 (p q:Bool) (h:Heap) (l1 l2:Addr):Heap:=(zb4 p q h l1 l2).push { cls:=.type "zip",data:=.fields #[.none,.bool false,.bool false,.ref (zb2 p q h l1 l2).objs.size,.ref (zb3 p q h l1 l2).objs.size] }
theorem meets_zipB (p q:Bool) (l1 l2:Addr) (xs ys:Array Value) :
  Meets (Builtin.«zip.__new__» ⟨[.type "zip",.ref l1,.ref l2],[]⟩) (fun _ R s=>SeqB p s.heap l1 xs∧SeqB q s.heap l2 ys∧R (.ok (.ret (.ref (zb4 p q s.heap l1 l2).objs.size))) { s with heap:=zb5 p q s.heap l1 l2 }) :=
 .of_wp fun prog w A R s h=>by
  obtain ⟨hp,g,d,tk,os⟩:=s; obtain ⟨m1,m2,h⟩:=h
  have hsub:=sub_zip
  have M1:SeqB p (Shared.heap ⟨hp,g,d,tk,os⟩) l1 xs:=m1
  have M2:SeqB q (Shared.heap ⟨hp.push { cls:=.type (iterCls p),data:=.fields #[.ref l1,.int 0 0] },g,d,tk,os⟩) l2 ys:=SeqB.push m2
  wp_walk using iterB M1,iterB M2
  exact ⟨_,rfl,h⟩
section
variable {P:Program}{w:World}{A:Around}{E:Value→Shared→Prop}{s:Shared}
theorem call_zipB {p q:Bool} {l1 l2:Addr} {xs ys:Array Value} {Q:Value→Shared→Prop} (m1:SeqB p s.heap l1 xs) (m2:SeqB q s.heap l2 ys)
  (K:∀ h',IsZip h' (s.heap.objs.size + 4) (s.heap.objs.size + 2) (s.heap.objs.size + 3) .none→IsPair h' (s.heap.objs.size + 2) (.ref s.heap.objs.size) (.ref (s.heap.objs.size + 1)) →
   IsPair h' (s.heap.objs.size + 3) .none .none→IterB p h' s.heap.objs.size l1 0→IterB q h' (s.heap.objs.size + 1) l2 0→(∀ c o,s.heap.get? c=some o→h'.get? c=some o)→Q (.ref (s.heap.objs.size + 4)) { s with heap:=h' }) :
  wpAny (model P w) A (call (.type "zip") [.ref l1,.ref l2]) Q E s:=by
 refine callType_new F.called_zip (by decide) (F.typeCall_zip_2 _ _) (F.newCall_zip_2 _ _) (fun obj=>F.args_object_init_3 obj _ _) F.entry_zip_new (meets_zipB p q l1 l2 xs ys) ⟨m1,m2,?_⟩
 have z1:(zb1 p s.heap l1).objs.size=s.heap.objs.size + 1:=Heap.size_push ..
 have z2:(zb2 p q s.heap l1 l2).objs.size=s.heap.objs.size + 2:=by rw [Heap.size_push,z1]
 have z3:(zb3 p q s.heap l1 l2).objs.size=s.heap.objs.size + 3:=by rw [Heap.size_push,z2]
 have z4:(zb4 p q s.heap l1 l2).objs.size=s.heap.objs.size + 4:=by rw [Heap.size_push,z3]
 have f5:(zb5 p q s.heap l1 l2).get? (zb4 p q s.heap l1 l2).objs.size=some _:=Heap.get?_push_size _ rfl
 have f4:(zb5 p q s.heap l1 l2).get? (zb3 p q s.heap l1 l2).objs.size=some _:=Heap.get?_push_of_some _ (Heap.get?_push_size _ rfl)
 have f3:(zb5 p q s.heap l1 l2).get? (zb2 p q s.heap l1 l2).objs.size=some _:=Heap.get?_push_of_some _ (Heap.get?_push_of_some _ (Heap.get?_push_size _ rfl))
 have f2:(zb5 p q s.heap l1 l2).get? (zb1 p s.heap l1).objs.size=some _:=Heap.get?_push_of_some _ (Heap.get?_push_of_some _ (Heap.get?_push_of_some _ (Heap.get?_push_size _ rfl)))
 have f1:(zb5 p q s.heap l1 l2).get? s.heap.objs.size=some _:=Heap.get?_push_of_some _ (Heap.get?_push_of_some _ (Heap.get?_push_of_some _ (Heap.get?_push_of_some _ (Heap.get?_push_size _ rfl))))
 show _∧_
 rw [z2,z3,z4] at f5; rw [z1,z2] at f3; rw [z3] at f4; rw [z1] at f2; rw [z4]
 refine ⟨⟨_,f5,rfl⟩,K _ f5 f3 f4 ?_ ?_ fun c o x=>Heap.get?_push_of_some _ (Heap.get?_push_of_some _ (Heap.get?_push_of_some _ (Heap.get?_push_of_some _ (Heap.get?_push_of_some _ x))))⟩
 ·cases p <;> exact ⟨_,f1,rfl,rfl⟩
 ·cases q <;> exact ⟨_,f2,rfl,rfl⟩
end
end L2
end
section
namespace L2
open PySem PySem.Spec PyProof.Rows
open AutoSeq1 (wpAny_loadPart')
section
variable {P:Program}{w:World}{A:Around}{E:Value→Shared→Prop}{s:Shared}{p:Bool}{e it l:Addr}{i:Nat}{xs:Array Value}{x old:Value}
theorem enumB_item {Q:Value→Shared→Prop} (ee:IsEnum s.heap e it i old) (t1:IterB p s.heap it l i) (m1:SeqB p s.heap l xs) (ex:xs[i]?=some x) (ne:e≠it)
  (K:∀ h',IsEnumOut h' e it ((i:Int) + 1) x s.heap.objs.size→IterB p h' it l (i + 1)→h'.get? s.heap.objs.size=some { cls:=.type "tuple",data:=.seq #[.int i s.toks,x] } →
   (∀ b o,b≠e→b≠it→s.heap.get? b=some o→h'.get? b=some o)→Q (.ref s.heap.objs.size) { s with heap:=h',toks:=s.toks + 1 }) :
  wpAny (model P w) A (Builtin.«enumerate.__next__» ⟨[.ref e],[]⟩) (fun fin s'=>∃ v,fin=.done (.ret v)∧Q v s') E s:=by
 obtain ⟨hp,g,d,tk,os⟩:=s
 show wpAny _ _ (field (.ref e) 2 >>= _) _ _ _; refine wpAny_bind (wpAny_field ee rfl (x:=.ref it) rfl (wpAny_bind (nextB t1 m1 ex fun g1 t11 b1=>?_)))
 replace b1:Heap.SameBut it hp g1:=b1
 have e1:IsEnum g1 e it i old:=(b1.2 e ne).trans ee
 show wpAny _ _ (field (.ref e) 3 >>= _) _ _ ⟨g1,g,d,tk,os⟩; refine wpAny_bind (wpAny_field e1 rfl (x:=rawInt i) rfl ?_)
 show wpAny _ _ (field (.ref e) 4 >>= _) _ _ ⟨g1,g,d,tk,os⟩; refine wpAny_bind (wpAny_field e1 rfl (x:=.none) rfl ?_)
 show wpAny _ _ (mkInt i >>= _) _ _ ⟨g1,g,d,tk,os⟩; refine wpAny_bind (wpAny_mkInt ?_)
 show wpAny _ _ (setField (.ref e) 3 (rawInt ((i:Int) + 1)) >>= _) _ _ ⟨g1,g,d,tk + 1,os⟩; refine wpAny_bind (wpAny_setField_rec e1 (by simp) fun g2 e2 b2=>?_)
 replace b2:Heap.SameBut e g1 g2:=b2
 replace e2:IsEnum g2 e it ((i:Int) + 1) old:=e2
 show wpAny _ _ (setField (.ref e) 4 .none >>= _) _ _ ⟨g2,g,d,tk + 1,os⟩; refine wpAny_bind (wpAny_setField_rec e2 (by simp) fun g3 e3 b3=>?_)
 replace b3:Heap.SameBut e g2 g3:=b3
 replace e3:IsEnum g3 e it ((i:Int) + 1) old:=e3
 show wpAny _ _ (newTuple [.int i tk,x] >>= _) _ _ ⟨g3,g,d,tk + 1,os⟩; refine wpAny_bind (wpAny_newTuple ?_)
 have e4:IsEnum (g3.push { cls:=.type "tuple",data:=.seq #[.int i tk,x] }) e it ((i:Int) + 1) old:=Heap.get?_push_of_some _ e3
 generalize hg4:g3.push { cls:=.type "tuple",data:=.seq #[.int i tk,x] } = g4 at e4
 have sz:g3.objs.size=hp.objs.size:=by rw [b3.1,b2.1,b1.1]
 have el:e < hp.objs.size:=Heap.lt_size ee
 have t4:g4.get? hp.objs.size=some { cls:=.type "tuple",data:=.seq #[.int i tk,x] }:=by rw [← hg4,← sz]; exact Heap.get?_push_size _ rfl
 have k4:∀ b o,b≠e→b≠it→hp.get? b=some o→g4.get? b=some o:=fun b o c1 c2 h=>by rw [← hg4]; exact Heap.get?_push_of_some _ (b3.extBut b o c1 (b2.extBut b o c1 (b1.extBut b o c2 h)))
 have i4:IterB p g4 it l (i + 1):=by
  rw [← hg4]; exact ((t11.move b2.extBut (Ne.symm ne)).move b3.extBut (Ne.symm ne)).to fun o h=>Heap.get?_push_of_some _ h
 show wpAny _ _ (Builtin.SmallTypes.ownedTupleIsFree (.ref e) >>= _) _ _ ⟨g4,g,d,tk + 1,os⟩
 rw [sz]
 clear hg4 e3 b3 e2 b2 e1 b1 t11 sz g3 g2 g1
 refine wpAny_bind ?_; unfold Builtin.SmallTypes.ownedTupleIsFree
 refine wpAny_bind (wpAny_field e4 rfl (x:=.none) rfl (wpAny_pure ?_)); simp only [if_true]
 refine wpAny_bind (wpAny_rule (wpAny_bind (wpAny_field e4 rfl (x:=old) rfl (wpAny_bind (wpAny_setField_rec e4 (by simp) fun g5 e5 b5=>?_)))))
 replace b5:Heap.SameBut e g4 g5:=b5
 replace e5:IsEnum g5 e it ((i:Int) + 1) x:=e5
 show wpAny _ _ (Builtin.SmallTypes.ownedTupleHandOut (.ref e) (.ref hp.objs.size) >>= _) _ _ ⟨g5,g,d,tk + 1,os⟩; refine wpAny_bind ?_; unfold Builtin.SmallTypes.ownedTupleHandOut
 refine wpAny_bind (wpAny_setField_rec e5 (by simp) fun g6 e6 b6=>?_)
 replace b6:Heap.SameBut e g5 g6:=b6
 replace e6:IsEnumOut g6 e it ((i:Int) + 1) x hp.objs.size:=e6
 refine wpAny_setField_rec e6 (by simp) fun g7 e7 b7=>?_
 replace b7:Heap.SameBut e g6 g7:=b7
 replace e7:IsEnumOut g7 e it ((i:Int) + 1) x hp.objs.size:=e7
 refine wpAny_bind (wpAny_letGo (wpAny_pure ⟨_,rfl,K g7 e7 (((i4.move b5.extBut (Ne.symm ne)).move b6.extBut (Ne.symm ne)).move b7.extBut (Ne.symm ne)) ?_ fun b o c1 c2 h=>b7.extBut b o c1 (b6.extBut b o c1 (b5.extBut b o c1 (k4 b o c1 c2 h)))⟩))
 exact b7.extBut _ _ (Nat.ne_of_gt el) (b6.extBut _ _ (Nat.ne_of_gt el) (b5.extBut _ _ (Nat.ne_of_gt el) t4))
theorem enumB_next {Q:Option Value→Shared→Prop} (ee:IsEnum s.heap e it i old) (t1:IterB p s.heap it l i) (m1:SeqB p s.heap l xs) (ex:xs[i]?=some x) (ne:e≠it)
  (K:∀ h',IsEnumOut h' e it ((i:Int) + 1) x s.heap.objs.size→IterB p h' it l (i + 1)→h'.get? s.heap.objs.size=some { cls:=.type "tuple",data:=.seq #[.int i s.toks,x] } →
   (∀ b o,b≠e→b≠it→s.heap.get? b=some o→h'.get? b=some o)→Q (some (.ref s.heap.objs.size)) { s with heap:=h',toks:=s.toks + 1 }):wpAny (model P w) A (pyNext (.ref e)) Q E s:=by
 have ty:s.TypeIs (.ref e) "enumerate":=⟨_,ee,rfl⟩
 unfold pyNext
 exact wpAny_bind (wpAny_attempt (wpAny_callSpecial?_slot (name:=Str.ofString "__next__") ty F.slot_enumerate_next (wpAny_call_entry F.slot_enumerate_next ty F.entry_enumerate_next (enumB_item ee t1 m1 ex ne fun h' a b c d=>wpAny_pure (K h' a b c d)) (F.args_enumerate_next_1 _))))
theorem enumB_stop {Q:Option Value→Shared→Prop} (hh:A.handled=none) (ee:IsEnum s.heap e it i old) (t1:IterB p s.heap it l i) (m1:SeqB p s.heap l xs) (ex:xs[i]?=none) (K:∀ h',Heap.ExtBut it s.heap h'→Q none { s with heap:=h' }):wpAny (model P w) A (pyNext (.ref e)) Q E s:=by
 have ty:s.TypeIs (.ref e) "enumerate":=⟨_,ee,rfl⟩
 unfold pyNext
 refine wpAny_bind (wpAny_attempt (wpAny_callSpecial?_slot (name:=Str.ofString "__next__") ty F.slot_enumerate_next (wpAny_call_entry F.slot_enumerate_next ty F.entry_enumerate_next ?_ (F.args_enumerate_next_1 _))))
 show wpAny _ _ (field (.ref e) 2 >>= _) _ _ _; refine wpAny_bind (wpAny_field ee rfl (x:=.ref it) rfl (wpAny_bind (stopB hh t1 m1 ex fun h' v k hv=>?_)))
 obtain ⟨o,e1,e2⟩:=hv
 exact wpAny_bind (wpAny_isInstance (T:="StopIteration") (b:=true) ⟨o,e1,e2⟩ isSubtype_stop (wpAny_pure (K _ k)))
end
theorem wp_anyB {P:Program} {w:World} {A:Around} {E:Value→Shared→Prop} {s:Shared} {Q:Bool→Shared→Prop} (h:∀ c,Q c s) (c:Bool):wpAny (model P w) A (pure c) Q E s:=wpAny_pure (h c)
theorem meets_enumB (p:Bool) (l:Addr) (xs:Array Value) :
  Meets (Builtin.«enumerate.__new__» ⟨[.type "enumerate",.ref l],[]⟩) (fun _ R s=>SeqB p s.heap l xs ∧
   R (.ok (.ret (.ref (zb1 p s.heap l).objs.size))) { s with heap:=(zb1 p s.heap l).push { cls:=.type "enumerate",data:=.fields #[.none,.bool false,.ref s.heap.objs.size,rawInt 0,.none,.none] } }) :=
 .of_wp fun prog w A R s h=>by
  obtain ⟨hp,g,d,tk,os⟩:=s; obtain ⟨m1,h⟩:=h
  have hsub:=sub_enumerate
  have M1:SeqB p (Shared.heap ⟨hp,g,d,tk,os⟩) l xs:=m1
  have hob:∃ o,hp.get? l=some o:=by cases p <;> (obtain ⟨o,e,_⟩:=m1; exact ⟨o,e⟩)
  obtain ⟨ob,hl⟩:=hob
  wp_walk using wpAny_loadPart' hl
  refine wpAny_stack_any fun st=>wp_anyB (fun c=>?_) _
  cases c
  ·wp_walk using wpAny_loadPart' hl,iterB M1
   exact ⟨_,rfl,h⟩
  ·wp_walk using wpAny_loadPart' hl,iterB M1
   exact ⟨_,rfl,h⟩
section
variable {P:Program}{w:World}{A:Around}{E:Value→Shared→Prop}{s:Shared}
theorem call_enumB {p:Bool} {l:Addr} {xs:Array Value} {Q:Value→Shared→Prop} (m1:SeqB p s.heap l xs)
  (K:∀ h',IsEnum h' (s.heap.objs.size + 1) s.heap.objs.size 0 .none→IterB p h' s.heap.objs.size l 0→(∀ b o,s.heap.get? b=some o→h'.get? b=some o)→Q (.ref (s.heap.objs.size + 1)) { s with heap:=h' }) :
  wpAny (model P w) A (call (.type "enumerate") [.ref l]) Q E s:=by
 refine callType_new F.called_enumerate (by decide) (F.typeCall_enumerate_1 _) (F.newCall_enumerate_1 _) (fun obj=>F.args_object_init_2 obj _) F.entry_enumerate_new (meets_enumB p l xs) ⟨m1,?_⟩
 have z1:(zb1 p s.heap l).objs.size=s.heap.objs.size + 1:=Heap.size_push ..
 show _∧_
 rw [z1]
 have f2:IsEnum ((zb1 p s.heap l).push { cls:=.type "enumerate",data:=.fields #[.none,.bool false,.ref s.heap.objs.size,rawInt 0,.none,.none] }) (s.heap.objs.size + 1) s.heap.objs.size 0 .none:=by
  have:=Heap.get?_push_size (zb1 p s.heap l) (o:={ cls:=.type "enumerate",data:=.fields #[.none,.bool false,.ref s.heap.objs.size,rawInt 0,.none,.none] }) rfl
  rw [z1] at this; exact this
 refine ⟨⟨_,f2,rfl⟩,K _ f2 ?_ fun b o x=>Heap.get?_push_of_some _ (Heap.get?_push_of_some _ x)⟩
 cases p <;> exact ⟨_,Heap.get?_push_of_some _ (Heap.get?_push_size _ rfl),rfl,rfl⟩
end
def SqB (b:Bool) (K:PySem.W.Frag) (H:Hp) (a:Addr) (xs:List V):Prop:=match b with | true=>SqL K H a xs | false=>SqT K H a xs
section
variable {X:Cx}{pins:List (Addr×Obj)}{σ:St}{H:Hp}{s:Shared}{a:Addr}{xs ys:List V}{b:Bool}
theorem Inv.seqB (I:Inv X pins σ H s) (h:SqB b X.K H a xs):∃ its:List Value,Vals xs its∧SeqB b s.heap a its.toArray∧xs.length=its.length:=by
 cases b
 ·obtain ⟨its,r,q,_⟩:=I.tuple h
  exact ⟨its,r,q,r.length⟩
 ·obtain ⟨its,r,q,_⟩:=I.list h
  exact ⟨its,r,q.isList,r.length⟩
theorem Inv.seqB_inj (I:Inv X pins σ H s) (h:SqB b X.K H a xs) (h':SqB b X.K H a ys):xs=ys:=by
 cases b
 ·exact I.tuple_inj h h'
 ·exact I.list_inj h h'
end
def Iz2 (K : PySem.W.Frag) (p q : Bool) (a b : Addr) : It :=
  ⟨fun i H => ∃ xs ys x y, SqB p K H a xs ∧ SqB q K H b ys ∧ xs[i]? = some x ∧ ys[i]? = some y,
   fun i H v H' => ∃ c, H c = none ∧ v = .ref c ∧ ∀ xs ys x y, SqB p K H a xs → SqB q K H b ys → xs[i]? = some x → ys[i]? = some y → H' = upd H c (.tup [x, y]),
   fun i H => ∃ xs ys, SqB p K H a xs ∧ SqB q K H b ys ∧ (xs.length ≤ i ∨ ys.length ≤ i)⟩
def Ien (K : PySem.W.Frag) (p : Bool) (a : Addr) : It :=
  ⟨fun i H => ∃ xs x, SqB p K H a xs ∧ xs[i]? = some x,
   fun i H v H' => ∃ c, H c = none ∧ v = .ref c ∧ ∀ xs x, SqB p K H a xs → xs[i]? = some x → H' = upd H c (.tup [.int i, x]),
   fun i H => ∃ xs, SqB p K H a xs ∧ xs.length ≤ i⟩
theorem turn_z2 {P:Program} {w:World} {K:PySem.W.Frag} {p q:Bool} {elts:List Expr} {k:Nat} {pos:Pos} {a b z TI TO i1 i2:Addr} (D:ZipApart z TI TO i1 i2 a b) :
  Turn P w K (.Tuple elts k pos) (Iz2 K p q a b) [z,TO,i1,i2,TI] z (fun i h=>IsZip h z TI TO .none∧IsPair h TI (.ref i1) (.ref i2)∧(∃ c d,IsPair h TO c d)∧IterB p h i1 a i∧IterB q h i2 b i) where
 mem:=by simp
 obj:=fun i h st c hc=>by
  obtain ⟨zz,zi,⟨x,y,zo⟩,t1,t2⟩:=st
  simp only [List.mem_cons,List.not_mem_nil,or_false] at hc
  rcases hc with rfl | rfl | rfl | rfl | rfl
  ·exact ⟨_,zz,fun v z=>by cases z⟩
  ·exact ⟨_,zo,fun v z=>by cases z⟩
  ·exact t1.obj
  ·exact t2.obj
  ·exact ⟨_,zi,fun v z=>by cases z⟩
 keep:=fun i h h' st kk=>by
  obtain ⟨zz,zi,⟨x,y,zo⟩,t1,t2⟩:=st
  exact ⟨kk z (by simp) _ zz,kk TI (by simp) _ zi,⟨x,y,kk TO (by simp) _ zo⟩,t1.to fun o e=>kk i1 (by simp) o e,t2.to fun o e=>kk i2 (by simp) o e⟩
 item:=by
  intro X hP hw hK hc i pins s σ H E I hf st hg
  subst hP hw hK
  obtain ⟨xs,ys,x,y,q1,q2,hx,hy⟩:=hg
  obtain ⟨zz,zi,⟨u0,v0,zo⟩,t1,t2⟩:=st
  obtain ⟨its,rv,m1,_⟩:=I.seqB q1
  obtain ⟨jts,rw',m2,_⟩:=I.seqB q2
  obtain ⟨u,hu,ru⟩:=rv.get hx
  obtain ⟨u',hu',ru'⟩:=rw'.get hy
  refine zipB_next D zz zi zo t1 t2 m1 m2 (x:=u) (y:=u') (by simpa using hu) (by simpa using hu') fun h' a1 a2 a3 a4 a5 hk=>?_
  refine ⟨_,rfl,wpAny_letOwnedTupleGo_zip a1 fun h'' z'' hs''=>?_⟩
  have szn:z≠s.heap.objs.size:=Nat.ne_of_lt (Heap.lt_size zz)
  have T'':IsPair h'' s.heap.objs.size u u':=hs''.extBut _ _ (Ne.symm szn) a5
  have I1:Inv X pins σ (upd H s.heap.objs.size (.tup [x,y])) { s with heap:=h'' }:=I.turnedNew (t':=s.toks) (ch:=[z,TO,i1,i2]) (Nat.le_refl _)
   (fun c ob hc e=>by simp only [List.mem_cons,List.not_mem_nil,or_false,not_or] at hc; exact hs''.extBut _ _ hc.1 (hk c ob hc.1 hc.2.1 hc.2.2.1 hc.2.2.2 e))
   (fun c hc=>hf c (by simp only [List.mem_cons,List.not_mem_nil,or_false] at hc ⊢; rcases hc with z | z | z | z <;> simp [z])) ⟨by show 2≤sizeLine; decide,[u,u'],.cons ru (.cons ru' .nil),⟨_,T'',rfl,_,rfl⟩⟩
  refine ⟨.ref s.heap.objs.size,_,I1,rfl,⟨_,I.fresh,rfl,fun xs' ys' x' y' r1 r2 hx' hy'=>?_⟩,⟨z'',hs''.extBut _ _ D.TIz (hk _ _ D.TIz D.TITO D.TIi1 D.TIi2 zi),⟨_,_,hs''.extBut _ _ D.TOz a2⟩,a3.move hs''.extBut D.i1z,a4.move hs''.extBut D.i2z⟩,fun c hc=>?_⟩
  ·have e1:=I.seqB_inj r1 q1
   have e2:=I.seqB_inj r2 q2
   subst e1 e2
   rw [hx] at hx'; rw [hy] at hy'; cases hx'; cases hy'; rfl
  ·have:c≠s.heap.objs.size:=by
    have hlt:c < s.heap.objs.size:=by
     simp only [List.mem_cons,List.not_mem_nil,or_false] at hc
     rcases hc with rfl | rfl | rfl | rfl | rfl
     ·exact Heap.lt_size zz
     ·exact Heap.lt_size zo
     ·exact t1.lt
     ·exact t2.lt
     ·exact Heap.lt_size zi
    exact Nat.ne_of_lt hlt
   rw [upd_ne this]; exact (hf c hc).1
 done:=by
  intro X hP hw hK hc i pins s σ H E I hf st hg
  subst hP hw hK
  obtain ⟨xs,ys,q1,q2,hx⟩:=hg
  obtain ⟨zz,zi,⟨u0,v0,zo⟩,t1,t2⟩:=st
  obtain ⟨its,rv,m1,l1⟩:=I.seqB q1
  obtain ⟨jts,rw',m2,l2⟩:=I.seqB q2
  refine zipB_stop (I.ok.hd hc) D zz zi zo t1 t2 m1 m2 (hx.elim (fun z=>.inl (by simp; lia)) fun z=>.inr (by simp; lia)) fun h' hk=>⟨rfl,?_⟩
  exact I.turnedL (t':=s.toks) (ch:=[z,TO,i1,i2]) (fun c ob hc e=>by simp only [List.mem_cons,List.not_mem_nil,or_false,not_or] at hc; exact hk c ob hc.1 hc.2.1 hc.2.2.1 hc.2.2.2 e)
   (fun c hc=>hf c (by simp only [List.mem_cons,List.not_mem_nil,or_false] at hc ⊢; rcases hc with z | z | z | z <;> simp [z]))
 self:=fun _ _ _ _ _ st h=>wpAny_pyIter_zip st.1 h
theorem turn_en {P:Program} {w:World} {K:PySem.W.Frag} {p:Bool} {elts:List Expr} {k:Nat} {pos:Pos} {a e it:Addr} (ne:e≠it) :
  Turn P w K (.Tuple elts k pos) (Ien K p a) [e,it] e (fun i h=>(∃ old,IsEnum h e it i old)∧IterB p h it a i) where
 mem:=by simp
 obj:=fun i h st c hc=>by
  obtain ⟨⟨old,ee⟩,t1⟩:=st
  simp only [List.mem_cons,List.not_mem_nil,or_false] at hc
  rcases hc with rfl | rfl
  ·exact ⟨_,ee,fun v z=>by cases z⟩
  ·exact t1.obj
 keep:=fun i h h' st kk=>by
  obtain ⟨⟨old,ee⟩,t1⟩:=st
  exact ⟨⟨old,kk e (by simp) _ ee⟩,t1.to fun o q=>kk it (by simp) o q⟩
 item:=by
  intro X hP hw hK hc i pins s σ H E I hf st hg
  subst hP hw hK
  obtain ⟨xs,x,q1,hx⟩:=hg
  obtain ⟨⟨old,ee⟩,t1⟩:=st
  obtain ⟨its,rv,m1,_⟩:=I.seqB q1
  obtain ⟨u,hu,ru⟩:=rv.get hx
  refine enumB_next ee t1 m1 (x:=u) (by simpa using hu) ne fun h' a1 a2 a3 hk=>?_
  refine ⟨_,rfl,wpAny_letOwnedTupleGo_enum a1 fun h'' z'' hs''=>?_⟩
  have szn:e≠s.heap.objs.size:=Nat.ne_of_lt (Heap.lt_size ee)
  have T'':=hs''.extBut _ _ (Ne.symm szn) a3
  have I1:Inv X pins σ (upd H s.heap.objs.size (.tup [.int i,x])) { s with heap:=h'',toks:=s.toks + 1 }:=I.turnedNew (t':=s.toks + 1) (ch:=[e,it]) (Nat.le_refl _)
   (fun c ob hc q=>by simp only [List.mem_cons,List.not_mem_nil,or_false,not_or] at hc; exact hs''.extBut _ _ hc.1 (hk c ob hc.1 hc.2 q))
   (fun c hc=>hf c hc) ⟨by show 2≤sizeLine; decide,[.int i s.toks,u],.cons ⟨_,rfl⟩ (.cons ru .nil),⟨_,T'',rfl,_,rfl⟩⟩
  refine ⟨.ref s.heap.objs.size,_,I1,rfl,⟨_,I.fresh,rfl,fun xs' x' r1 hx'=>?_⟩,⟨⟨_,z''⟩,a2.move hs''.extBut (Ne.symm ne)⟩,fun c hc=>?_⟩
  ·have e1:=I.seqB_inj r1 q1
   subst e1
   rw [hx] at hx'; cases hx'; rfl
  ·have:c≠s.heap.objs.size:=by
    have hlt:c < s.heap.objs.size:=by
     simp only [List.mem_cons,List.not_mem_nil,or_false] at hc
     rcases hc with rfl | rfl
     ·exact Heap.lt_size ee
     ·exact t1.lt
    exact Nat.ne_of_lt hlt
   rw [upd_ne this]; exact (hf c hc).1
 done:=by
  intro X hP hw hK hc i pins s σ H E I hf st hg
  subst hP hw hK
  obtain ⟨xs,q1,hx⟩:=hg
  obtain ⟨⟨old,ee⟩,t1⟩:=st
  obtain ⟨its,rv,m1,l1⟩:=I.seqB q1
  refine enumB_stop (I.ok.hd hc) ee t1 m1 (by simp; lia) fun h' hk=>⟨rfl,?_⟩
  exact I.turnedL (t':=s.toks) (ch:=[it]) (fun c ob hc q=>hk c ob (by simpa using hc) q) (fun c hc=>hf c (by simp at hc; simp [hc]))
 self:=fun _ _ _ _ _ st h=>wpAny_pyIter_enum st.1.choose_spec h
section
variable {X:Cx}
def iZ2 (K:PySem.W.Frag) (ta:TA):TI:=fun σ H R=>ta σ H fun vs H1=>∃ p q a b,vs=[.ref a,.ref b]∧(∃ xs,SqB p K H1 a xs)∧(∃ ys,SqB q K H1 b ys)∧R (Iz2 K p q a b) H1
theorem pi_z2 {elts:List Expr} {k:Nat} {tp:Pos} {e1 e2:Expr} {ta:TA} {p pos:Pos} (hg:Gl X "zip") (hm:X.mg "zip" = none) (ha:PA X [e1,e2] ta)
  (hs:starEach [e1,e2] X.env=[(false,eval e1 X.env),(false,eval e2 X.env)]) (hs2:starEach [e2] X.env=[(false,eval e2 X.env)]):PI X (.Tuple elts k tp) (.Call (.Name "zip" p) [e1,e2] [] pos) (iZ2 X.K ta):=by
 intro pins s σ H R I h
 refine wpAny_Call_Name_kw (ld_blt I hg hm PyProof.Rows.boot_zip ?_ (by decide) (by decide))
 refine PyProof.Rows.callWith_type1 (thn (ha pos pins s σ H _ I h) fun us s1 ⟨vs,H1,I1,r1,q1⟩=>?_) (by rw [hs,hs2]) (by rw [hs2]; rfl)
 obtain ⟨p,q,a,b,e,⟨xs,hq1⟩,⟨ys,hq2⟩,kk⟩:=q1
 subst e
 obtain ⟨u1,u2,rfl,ra,rb⟩:=vals2 r1
 cases ra; cases rb
 obtain ⟨its,rv,m1,_⟩:=I1.seqB hq1
 obtain ⟨jts,rw',m2,_⟩:=I1.seqB hq2
 refine call_zipB m1 m2 fun h' zz zi zo t1 t2 hk=>wpAny_pyIter_zip (f0:=.none) zz ?_
 have I2:Inv X pins σ H1 { s1 with heap:=h' }:=I1.kept (t':=s1.toks) fun c o e=>hk c o e
 refine ⟨_,_,_,Iz2 X.K p q a b,H1,rfl,I2,turn_z2 (zipApart_new m1.lt m2.lt),⟨zz,zi,⟨_,_,zo⟩,t1,t2⟩,fun c hc=>?_,kk⟩
 have hge:s1.heap.objs.size≤c:=by
  simp only [List.mem_cons,List.not_mem_nil,or_false] at hc
  rcases hc with rfl | rfl | rfl | rfl | rfl <;> first | exact Nat.le_refl _ | exact Nat.le_add_right _ _
 exact I1.fpOk hge (I1.hok.fresh hge)
def iEn (K:PySem.W.Frag) (ta:TA):TI:=fun σ H R=>ta σ H fun vs H1=>∃ p a,vs=[.ref a]∧(∃ xs,SqB p K H1 a xs)∧R (Ien K p a) H1
theorem pi_en {elts:List Expr} {k:Nat} {tp:Pos} {e1:Expr} {ta:TA} {p pos:Pos} (hg:Gl X "enumerate") (hm:X.mg "enumerate" = none) (ha:PA X [e1] ta) (hs:starEach [e1] X.env=[(false,eval e1 X.env)]) :
  PI X (.Tuple elts k tp) (.Call (.Name "enumerate" p) [e1] [] pos) (iEn X.K ta):=by
 intro pins s σ H R I h
 refine wpAny_Call_Name_kw (ld_blt I hg hm PyProof.Rows.boot_enumerate ?_ (by decide) (by decide))
 refine PyProof.Rows.callWith_type1 (thn (ha pos pins s σ H _ I h) fun us s1 ⟨vs,H1,I1,r1,q1⟩=>?_) (by rw [hs]; rfl) rfl
 obtain ⟨p,a,e,⟨xs,hq1⟩,kk⟩:=q1
 subst e
 obtain ⟨u1,rfl,ra⟩:=vals1 r1
 cases ra
 obtain ⟨its,rv,m1,_⟩:=I1.seqB hq1
 refine call_enumB m1 fun h' ee t1 hk=>wpAny_pyIter_enum ee ?_
 have I2:Inv X pins σ H1 { s1 with heap:=h' }:=I1.kept (t':=s1.toks) fun c o e=>hk c o e
 refine ⟨_,_,_,Ien X.K p a,H1,rfl,I2,turn_en (Nat.ne_of_gt (Nat.lt_succ_self _)),⟨⟨_,ee⟩,t1⟩,fun c hc=>?_,kk⟩
 have hge:s1.heap.objs.size≤c:=by
  simp only [List.mem_cons,List.not_mem_nil,or_false] at hc
  rcases hc with rfl | rfl <;> first | exact Nat.le_refl _ | exact Nat.le_add_right _ _
 exact I1.fpOk hge (I1.hok.fresh hge)
end
end L2
end
section
namespace Kq
open PySem PySem.Spec PyProof.Rows L2
inductive D where
 | non | bl (b:Bool) | int (i:Int) | str (x:String) | tup (xs:List D) | lst (xs:List D)
mutual
noncomputable def D.eqv:D→D→Bool
 | .non,y=>match y with | .non=>true | _=>false
 | .bl a,y=>match y with | .bl b=>a == b | .int j=>(if a then 1 else 0) == j | _=>false
 | .int i,y=>match y with | .bl b=>i == (if b then 1 else 0) | .int b=>i == b | _=>false
 | .str a,y=>match y with | .str b=>a == b | _=>false
 | .tup a,y=>match y with | .tup b=>D.eqvs a b | _=>false
 | .lst a,y=>match y with | .lst b=>D.eqvs a b | _=>false
noncomputable def D.eqvs:List D→List D→Bool
 | [],y=>match y with | []=>true | _ :: _=>false
 | a :: r,y=>match y with | b :: q=>D.eqv a b && D.eqvs r q | []=>false
end
mutual
noncomputable def D.wt:D→Nat
 | .non=>0 | .bl _=>0
 | .int i=>if -(2 ^ 40) < i∧i < 2 ^ 40 then 41 else 151
 | .str x=>x.length
 | .tup xs=>D.wts xs
 | .lst xs=>D.wts xs
noncomputable def D.wts:List D→Nat
 | []=>0
 | a :: r=>D.wt a + 1 + D.wts r
end
mutual
noncomputable def D.fit:D→Bool
 | .int i=>decide (-(2 ^ 150) < i∧i < 2 ^ 150)
 | .tup xs=>D.fits xs
 | .lst xs=>D.fits xs
 | _=>true
noncomputable def D.fits:List D→Bool
 | []=>true
 | a :: r=>D.fit a && D.fits r
end
inductive FV where
 | non | bl (b:Bool) | int (i:Int) | str (x:String) | tup (xs:List FV) | lst (xs:List FV)
 | scr (ns:List Int)
 | shn (d:D)
 | dct (ks:List (List Int)) (vs:List FV)
 | dci (ks:List Int) (vs:List FV)
 | dcz (o:Obj) (ks:List (List Int)) (vs:List FV)
 | dcn (z:Option Obj) (ks:List (List (Option Int))) (vs:List FV)
 | adr (dx:Addr)
 | dco (ks:List (Option Int)) (vs:List FV)
 | obj (C dx:Addr) (fs:List (Str×V)) (gs:List (Addr×List V))
def big:Nat:=100000
inductive Mo where | imm | own | frz | ob | gst (i:Nat) (x:Str)
 deriving DecidableEq
def Mo.w:Mo→Bool | .imm=>false | .frz=>false | _=>true
def Mo.g:Mo→Bool | .gst _ _=>true | _=>false
theorem Mo.w_imm {m:Mo} (h:m.w=true):m≠.imm:=fun z=>by rw [z] at h; cases h
theorem Mo.w_frz {m:Mo} (h:m.w=true):m≠.frz:=fun z=>by rw [z] at h; cases h
theorem Mo.w_own {m:Mo} (h:m=.own):m.w=true:=by rw [h]; rfl
abbrev Md:=List Mo
abbrev FLoc:=List (Option FV)
def mdAt:Md→Nat→Mo
 | [],_=>.imm
 | m :: _,0=>m
 | _ :: ms,n + 1=>mdAt ms n
def lk:FLoc→Nat→Option FV
 | [],_=>none
 | x :: _,0=>x
 | _ :: L,n + 1=>lk L n
theorem lk_eq:∀ (L:FLoc) (i:Nat) (v:FV),lk L i=some v↔L[i]?=some (some v)
 | [],i,v=>by show (none:Option FV)=some v↔(none:Option (Option FV))=some (some v); simp
 | x :: L,0,v=>by show x=some v↔some x=some (some v); simp
 | x :: L,i + 1,v=>by rw [List.getElem?_cons_succ]; exact lk_eq L i v
def wp {α:Type} (r:Option α) (Q:α→Prop):Prop:=match r with
 | some x=>Q x
 | none=>False
inductive Wpx {α:Type} (r:Option α) (Q:α→Prop):Prop
 | mk (x:α) (_:r=some x) (_:Q x):Wpx r Q
theorem wpx {α:Type} {r:Option α} {Q:α→Prop} (h:wp r Q):Wpx r Q:=by
 cases r with
 | none=>exact h.elim
 | some x=>exact ⟨x,rfl,h⟩
mutual
noncomputable def dPy:D→PyData
 | .non=>.none
 | .bl b=>.bool b
 | .int i=>.int i
 | .str x=>.str (Str.ofString x)
 | .tup xs=>.tuple (dPys xs)
 | .lst xs=>.list (dPys xs)
noncomputable def dPys:List D→List PyData
 | []=>[]
 | a :: r=>dPy a :: dPys r
end
def dKeys (ks:List (List Int)):List (List (Int ⊕ Option Str)):=ks.map fun k=>k.map Sum.inl
def iKeys (ks:List Int):List (Int ⊕ Option Str):=ks.map Sum.inl
def oK:Option Int→Int ⊕ Option Str
 | some i=>.inl i
 | none=>.inr none
def nKeys (ks:List (List (Option Int))):List (List (Int ⊕ Option Str)):=ks.map fun k=>k.map oK
def hoN (u:HO):Option Obj→HO
 | none=>u
 | some o=>.frz o u
def ScrAt (K:PySem.W.Frag) (S:Hp) (a:Addr) (ns:List Int):Prop:=(∃ o,S a=some (.frz o (.lst (ns.map V.int)))) ∨ SqL K (fun _=>none) a (ns.map V.int)
mutual
noncomputable def RV (K:PySem.W.Frag) (S:Hp):FV→V→Prop
 | .non,v=>v=.non
 | .bl b,v=>v=.bl b
 | .int i,v=>v=.int i
 | .str x,v=>v=.str (Str.ofString x)
 | .tup ps,v=>∃ a xs,v=.ref a∧S a=some (.tup xs)∧RVs K S ps xs
 | .lst ps,v=>∃ a xs,v=.ref a∧S a=some (.lst xs)∧RVs K S ps xs
 | .scr ns,v=>∃ a,v=.ref a∧ScrAt K S a ns
 | .shn d,v=>v=.str (dPy d).shown
 | .dct ks vs,v=>∃ a xs,v=.ref a∧ks.length=vs.length∧S a=some (.dT ((dKeys ks).zip xs))∧RVs K S vs xs
 | .dci ks vs,v=>∃ a xs,v=.ref a∧ks.length=vs.length∧S a=some (.dK ((iKeys ks).zip xs))∧RVs K S vs xs
 | .dcz o ks vs,v=>∃ a xs,v=.ref a∧ks.length=vs.length∧S a=some (.frz o (.dT ((dKeys ks).zip xs)))∧RVs K S vs xs
 | .dcn z ks vs,v=>∃ a xs,v=.ref a∧ks.length=vs.length∧S a=some (hoN (.dT ((nKeys ks).zip xs)) z)∧RVs K S vs xs
 | .obj C dx fs gs,v=>∃ a,v=.ref a∧S a=some (.big C dx fs gs)
 | .adr dx,v=>v=.ref (dx + 1)
 | .dco ks vs,v=>∃ a xs,v=.ref a∧ks.length=vs.length∧S a=some (.dK ((ks.map oK).zip xs))∧RVs K S vs xs
noncomputable def RVs (K:PySem.W.Frag) (S:Hp):List FV→List V→Prop
 | [],vs=>vs=[]
 | p :: ps,vs=>∃ v r,vs=v :: r∧RV K S p v∧RVs K S ps r
end
mutual
theorem RV.mono {K:PySem.W.Frag} {S S':Hp} (x:Same S S'):∀ {p:FV} {v:V},RV K S p v→RV K S' p v
 | .non,v,h=>h
 | .bl b,v,h=>h
 | .int i,v,h=>h
 | .str _,v,h=>h
 | .shn _,v,h=>h
 | .tup ps,v,q1=>by obtain ⟨a,xs,e,h1,h2⟩:=q1; exact ⟨a,xs,e,x _ _ h1,RVs.mono x h2⟩
 | .lst ps,v,q2=>by obtain ⟨a,xs,e,h1,h2⟩:=q2; exact ⟨a,xs,e,x _ _ h1,RVs.mono x h2⟩
 | .dct ks vs,v,q3=>by obtain ⟨a,xs,e,h0,h1,h2⟩:=q3; exact ⟨a,xs,e,h0,x _ _ h1,RVs.mono x h2⟩
 | .dci ks vs,v,q4=>by obtain ⟨a,xs,e,h0,h1,h2⟩:=q4; exact ⟨a,xs,e,h0,x _ _ h1,RVs.mono x h2⟩
 | .dcz o ks vs,v,q5=>by obtain ⟨a,xs,e,h0,h1,h2⟩:=q5; exact ⟨a,xs,e,h0,x _ _ h1,RVs.mono x h2⟩
 | .dcn z ks vs,v,q6=>by obtain ⟨a,xs,e,h0,h1,h2⟩:=q6; exact ⟨a,xs,e,h0,x _ _ h1,RVs.mono x h2⟩
 | .obj _ _ _ _,v,q7=>by obtain ⟨a,e,h⟩:=q7; exact ⟨a,e,x _ _ h⟩
 | .adr _,v,h=>h
 | .dco ks vs,v,q9=>by obtain ⟨a,xs,e,h0,h1,h2⟩:=q9; exact ⟨a,xs,e,h0,x _ _ h1,RVs.mono x h2⟩
 | .scr ns,v,q8=>by obtain ⟨a,e,h⟩:=q8; exact ⟨a,e,h.elim (fun q9=>by obtain ⟨o,h⟩:=q9; exact .inl ⟨o,x _ _ h⟩) .inr⟩
theorem RVs.mono {K:PySem.W.Frag} {S S':Hp} (x:Same S S'):∀ {ps:List FV} {vs:List V},RVs K S ps vs→RVs K S' ps vs
 | [],vs,h=>h
 | p :: ps,vs,q1=>by obtain ⟨v,r,e,h1,h2⟩:=q1; exact ⟨v,r,e,RV.mono x h1,RVs.mono x h2⟩
end
section
variable {K:PySem.W.Frag}{S H:Hp}
theorem RVs.length:∀ {ps:List FV} {vs:List V},RVs K S ps vs→ps.length=vs.length
 | [],vs,h=>by cases (show vs=[] from h); rfl
 | p :: ps,vs,h=>by
  obtain ⟨v,r,e,_,h2⟩:=h
  subst e
  rw [List.length_cons,List.length_cons,RVs.length h2]
theorem RVs.get:∀ {ps:List FV} {vs:List V} {i:Nat} {p:FV},RVs K S ps vs→ps[i]?=some p→∃ v,vs[i]?=some v∧RV K S p v
 | [],vs,i,p,_,e=>by simp at e
 | q :: ps,vs,0,p,q1,e=>by
  obtain ⟨v,r,e',h1,_⟩:=q1
  subst e'
  simp at e; subst e
  exact ⟨v,rfl,h1⟩
 | q :: ps,vs,i + 1,p,q2,e=>by
  obtain ⟨v,r,e',_,h2⟩:=q2
  subst e'
  simpa using RVs.get (i:=i) (p:=p) h2 (by simpa using e)
theorem RVs.append:∀ {ps qs:List FV} {vs us:List V},RVs K S ps vs→RVs K S qs us→RVs K S (ps++qs) (vs++us)
 | [],qs,vs,us,h,g=>by cases (show vs=[] from h); exact g
 | p :: ps,qs,vs,us,q1,g=>by
  obtain ⟨v,r,e,h1,h2⟩:=q1
  subst e
  exact ⟨v,r++us,rfl,h1,RVs.append h2 g⟩
theorem RVs.one {p:FV} {v:V} (h:RV K S p v):RVs K S [p] [v]:=⟨v,[],rfl,h,rfl⟩
theorem RVs.take:∀ {ps:List FV} {vs:List V} (n:Nat),RVs K S ps vs→RVs K S (ps.take n) (vs.take n)
 | [],vs,n,h=>by cases (show vs=[] from h); rw [List.take_nil,List.take_nil]; rfl
 | p :: ps,vs,0,h=>rfl
 | p :: ps,vs,n + 1,q1=>by
  obtain ⟨v,r,e,h1,h2⟩:=q1
  subst e
  exact ⟨v,r.take n,rfl,h1,RVs.take n h2⟩
theorem RVs.drop:∀ {ps:List FV} {vs:List V} (n:Nat),RVs K S ps vs→RVs K S (ps.drop n) (vs.drop n)
 | [],vs,n,h=>by cases (show vs=[] from h); rw [List.drop_nil,List.drop_nil]; rfl
 | p :: ps,vs,0,h=>h
 | p :: ps,vs,n + 1,q1=>by
  obtain ⟨v,r,e,h1,h2⟩:=q1
  subst e
  exact RVs.drop n h2
theorem RVs.set:∀ {ps:List FV} {vs:List V} (n:Nat) {p:FV} {v:V},RVs K S ps vs→RV K S p v→RVs K S (ps.set n p) (vs.set n v)
 | [],vs,n,p,v,h,_=>by cases (show vs=[] from h); rfl
 | q :: ps,vs,0,p,v,q1,g=>by
  obtain ⟨v',r,e,h1,h2⟩:=q1
  subst e
  exact ⟨v,r,rfl,g,h2⟩
 | q :: ps,vs,n + 1,p,v,q2,g=>by
  obtain ⟨v',r,e,h1,h2⟩:=q2
  subst e
  exact ⟨v',r.set n v,rfl,h1,RVs.set n h2 g⟩
theorem RVs.rep {ps:List FV} {vs:List V} (h:RVs K S ps vs):∀ k:Nat,RVs K S (List.replicate k ps).flatten (List.replicate k vs).flatten
 | 0=>rfl
 | k + 1=>by
  rw [List.replicate_succ,List.replicate_succ,List.flatten_cons,List.flatten_cons]
  exact h.append (h.rep k)
theorem RVs.ns:∀ (ns:List Int),RVs K S (ns.map .int) (ns.map V.int)
 | []=>rfl
 | n :: ns=>⟨_,_,rfl,rfl,RVs.ns ns⟩
theorem RVs.one_of {p:FV} {us:List V} (h:RVs K S [p] us):∃ u,us=[u]∧RV K S p u:=by
 obtain ⟨v,r,rfl,h1,h2⟩:=h
 cases (show r=[] from h2)
 exact ⟨v,rfl,h1⟩
theorem RVs.two_of {p q:FV} {us:List V} (h:RVs K S [p,q] us):∃ u v,us=[u,v]∧RV K S p u∧RV K S q v:=by
 obtain ⟨v,r,rfl,h1,h2⟩:=h
 obtain ⟨u,rfl,h3⟩:=h2.one_of
 exact ⟨v,u,rfl,h1,h3⟩
def ownP:FV→Option (List FV)
 | .lst ps=>some ps
 | .dct ks vs=>if ks.length=vs.length then some vs else none
 | .dci ks vs=>if ks.length=vs.length then some vs else none
 | .dcz _ ks vs=>if ks.length=vs.length then some vs else none
 | .dcn _ ks vs=>if ks.length=vs.length then some vs else none
 | .dco ks vs=>if ks.length=vs.length then some vs else none
 | .obj _ _ _ _=>some []
 | _=>none
def ownH:FV→List V→HO
 | .dct ks _,xs=>.dT ((dKeys ks).zip xs)
 | .dci ks _,xs=>.dK ((iKeys ks).zip xs)
 | .dcz o ks _,xs=>.frz o (.dT ((dKeys ks).zip xs))
 | .dcn z ks _,xs=>hoN (.dT ((nKeys ks).zip xs)) z
 | .dco ks _,xs=>.dK ((ks.map oK).zip xs)
 | .obj C dx fs gs,_=>.big C dx fs gs
 | _,xs=>.lst xs
inductive OwnAt (K:PySem.W.Frag) (S H:Hp) (a:Addr) (v:FV):Prop
 | mk (_:S a=none) (ps:_) (xs:_) (_:ownP v=some ps) (_:H a=some (ownH v xs)) (_:RVs K S ps xs):OwnAt K S H a v
def RH (K:PySem.W.Frag) (S H:Hp) (v:FV) (x:V):Prop:=RV K S v x ∨ ∃ a,x=.ref a∧OwnAt K S H a v
theorem RH.lst {ps:List FV} {x:V} (s:Same S H) (h:RH K S H (.lst ps) x):∃ a xs,x=.ref a∧H a=some (.lst xs)∧RVs K S ps xs:=by
 rcases h with ⟨a,xs,e,h1,h2⟩ | ⟨a,e,_,qs,xs,e2,h1,h2⟩
 ·exact ⟨a,xs,e,s _ _ h1,h2⟩
 ·cases e2; exact ⟨a,xs,e,h1,h2⟩
theorem RH.val {v:FV} {x:V} (h:RH K S H v x) (n:ownP v=none):RV K S v x:=by
 rcases h with h | ⟨a,_,_,ps,xs,e,_⟩
 ·exact h
 ·rw [n] at e; cases e
theorem RH.tup {ps:List FV} {x:V} (s:Same S H) (h:RH K S H (.tup ps) x):∃ a xs,x=.ref a∧H a=some (.tup xs)∧RVs K S ps xs:=by
 obtain ⟨a,xs,e,h1,h2⟩:=h.val rfl
 exact ⟨a,xs,e,s _ _ h1,h2⟩
theorem ScrAt.sq {a:Addr} {ns:List Int} (s:Same S H) (h:ScrAt K S a ns):SqL K H a (ns.map V.int):=by
 rcases h with ⟨o,h⟩ | h
 ·exact .inl (.inr ⟨o,s _ _ h⟩)
 ·rcases h with (h | ⟨o,h⟩) | h
  ·cases h
  ·cases h
  ·exact .inr h
def listF:FV→Option (List FV)
 | .lst xs=>some xs
 | .scr ns=>some (ns.map .int)
 | _=>none
def seqF:FV→Option (List FV)
 | .tup xs=>some xs
 | v=>listF v
theorem RH.list {v:FV} {ps:List FV} {x:V} (s:Same S H) (h:RH K S H v x) (e:listF v=some ps):∃ a xs,x=.ref a∧SqL K H a xs∧RVs K S ps xs:=by
 cases v with
 | lst qs =>
  cases e
  obtain ⟨a,xs,rfl,h1,h2⟩:=h.lst s
  exact ⟨a,xs,rfl,SqL.of h1,h2⟩
 | scr ns =>
  cases e
  obtain ⟨a,rfl,g⟩:=h.val rfl
  exact ⟨a,_,rfl,ScrAt.sq s g,RVs.ns ns⟩
 | _=>cases e
def isL:FV→Bool
 | .tup _=>false
 | _=>true
theorem RH.seq {v:FV} {ps:List FV} {x:V} (s:Same S H) (h:RH K S H v x) (e:seqF v=some ps):∃ a xs,x=.ref a∧SqB (isL v) K H a xs∧RVs K S ps xs:=by
 cases v with
 | tup qs =>
  cases e
  obtain ⟨a,xs,rfl,h1,h2⟩:=h.tup s
  exact ⟨a,xs,rfl,SqT.of h1,h2⟩
 | lst qs=>exact h.list s e
 | scr qs=>exact h.list s e
 | _=>cases e
end
def isTup:HO→Bool
 | .tup _=>true
 | _=>false
theorem ownH_nt (v:FV) (xs:List V):isTup (ownH v xs)=false:=by
 cases v with
 | dcn z ks vs=>cases z <;> rfl
 | _=>rfl
structure Cn where
 H0:Hp
 S0:Hp
 P0:Option Addr
 fz:List (Nat×Addr)
 pr:List (Addr×HO)
 P1:List (Nat×Addr)
structure Iv (K:PySem.W.Frag) (c:Cn) (md:Md) (L:FLoc) (σ:L2.St) (S H:Hp):Prop where
 len:L.length=σ.length
 imm:∀ i v,mdAt md i=.imm→L[i]?=some (some v)→∃ x,σ[i]?=some (some x)∧RV K S v x
 own:∀ i v,mdAt md i≠.imm→L[i]?=some (some v)→∃ a,σ[i]?=some (some (.ref a))∧OwnAt K S H a v∧(c.P0=some a ∨ c.H0 a=none ∨ ∃ j,(j,a)∈c.P1)
 dis:∀ i j v w a,mdAt md i≠.imm→mdAt md j≠.imm→L[i]?=some (some v)→L[j]?=some (some w)→σ[i]?=some (some (.ref a))→σ[j]?=some (some (.ref a))→i=j
 sub:Same S H
 frame:∀ a o,c.H0 a=some o→c.P0≠some a→(∀ j,(j,a) ∉ c.P1)→H a=some o
 s0:Same c.S0 S
 grow:∀ a o,S a=some o→c.S0 a=some o ∨ c.H0 a=none ∨ isTup o=true
 lent:∀ a,c.P0=some a→mdAt md 0≠.imm∧σ[0]?=some (some (.ref a))∧∃ v,L[0]?=some (some v)
 fzs:∀ p∈c.fz,mdAt md p.1=.frz∧σ[p.1]?=some (some (.ref p.2))∧∃ v,L[p.1]?=some (some v)
 fzm:∀ i v,mdAt md i=.frz→L[i]?=some (some v)→∃ a,(i,a)∈c.fz
 fzp:∀ p∈c.fz,∃ o,(p.2,o)∈c.pr
 prs:∀ p∈c.pr,H p.1=some p.2∧S p.1=none∧∀ i v,(mdAt md i).w=true→L[i]?=some (some v)→σ[i]?≠some (some (.ref p.1))
 ntp:∀ p∈c.pr,isTup p.2=false
 lnt1:∀ q∈c.P1,(mdAt md q.1).g=true∧σ[q.1]?=some (some (.ref q.2))∧∃ v,L[q.1]?=some (some v)
 tie:∀ j i x C dx fs v,mdAt md j=.gst i x→mdAt md i=.ob→L[i]?=some (some (.obj C dx fs []))→L[j]?=some (some v)→∃ u,fs.lookup x=some u∧σ[j]?=some (some u)
section
variable {K:PySem.W.Frag}{c:Cn}{md:Md}{L:FLoc}{σ:L2.St}{S H S' H':Hp}
theorem Iv.h0 (I:Iv K c md L σ S H) {p:Addr} (h:H p=none):c.H0 p=none:=by
 cases e:c.H0 p with
 | none=>rfl
 | some o =>
  by_cases z:c.P0=some p
  ·obtain ⟨m,e1,v,e2⟩:=I.lent p z
   obtain ⟨a,e3,⟨_,_,_,_,e4,_⟩,_⟩:=I.own 0 v m e2
   rw [e1] at e3; cases e3
   rw [h] at e4; cases e4
  ·by_cases z1:∃ j,(j,p)∈c.P1
   ·obtain ⟨j,hj⟩:=z1
    obtain ⟨g,e1,v,e2⟩:=I.lnt1 _ hj
    obtain ⟨a,e3,⟨_,_,_,_,e4,_⟩,_⟩:=I.own j v (fun z=>by rw [z] at g; cases g) e2
    rw [e1] at e3; cases e3
    rw [h] at e4; cases e4
   ·rw [I.frame p o e z fun j hj=>z1 ⟨j,hj⟩] at h; cases h
theorem Iv.sn (I:Iv K c md L σ S H) {p:Addr} (h:H p=none):S p=none:=by
 cases e:S p with
 | none=>rfl
 | some o=>rw [I.sub p o e] at h; cases h
theorem Iv.go3 (I:Iv K c md L σ S H) (s:Same S S') (sub:Same S' H') (g:∀ a o,S' a=some o→S a=some o ∨ H a=none ∨ isTup o=true) (k:∀ a o,H a=some o→H' a=some o):Iv K c md L σ S' H' where
 len:=I.len
 imm:=fun i v h e=>let ⟨x,e1,r⟩:=I.imm i v h e; ⟨x,e1,r.mono s⟩
 own:=fun i v h e=>by
  obtain ⟨a,e1,⟨h1,ps,xs,e2,h2,h3⟩,h4⟩:=I.own i v h e
  refine ⟨a,e1,⟨?_,ps,xs,e2,k _ _ h2,h3.mono s⟩,h4⟩
  cases q:S' a with
  | none=>rfl
  | some o =>
   rcases g a o q with z | z | z
   ·rw [h1] at z; cases z
   ·rw [h2] at z; cases z
   ·have:=sub a o q
    rw [k _ _ h2] at this
    rw [← Option.some.inj this,ownH_nt] at z; cases z
 dis:=I.dis
 sub:=sub
 frame:=fun a o h n n1=>k _ _ (I.frame a o h n n1)
 s0:=I.s0.trans s
 grow:=fun a o h=>(g a o h).elim (I.grow a o) fun z=>z.elim (fun z=>.inr (.inl (I.h0 z))) fun z=>.inr (.inr z)
 lent:=I.lent
 fzs:=I.fzs
 fzm:=I.fzm
 fzp:=I.fzp
 prs:=fun p hp=>by
  obtain ⟨h1,h2,h3⟩:=I.prs p hp
  refine ⟨k _ _ h1,?_,h3⟩
  cases q:S' p.1 with
  | none=>rfl
  | some o =>
   rcases g _ o q with z | z | z
   ·rw [h2] at z; cases z
   ·rw [h1] at z; cases z
   ·have:=sub _ o q
    rw [k _ _ h1] at this
    rw [← Option.some.inj this,I.ntp p hp] at z; cases z
 ntp:=I.ntp
 lnt1:=I.lnt1
 tie:=I.tie
theorem Iv.go (I:Iv K c md L σ S H) (s:Same S S') (sub:Same S' H') (g:∀ a o,S' a=some o→S a=some o ∨ H a=none) (k:∀ a o,H a=some o→H' a=some o):Iv K c md L σ S' H':=I.go3 s sub (fun a o e=>(g a o e).imp_right .inl) k
theorem same_upd {p:Addr} {o:HO} (h:H p=none):Same H (upd H p o):=fun a u e=>by rw [upd_ne (ne_of_none e h)]; exact e
theorem Iv.new (I:Iv K c md L σ S H) {p:Addr} (h:H p=none) (o:HO):Iv K c md L σ (upd S p o) (upd H p o) :=
 I.go (same_upd (I.sn h)) (fun a u e=>by
  by_cases z:a=p
  ·subst z; rw [upd_same] at e ⊢; exact e
  ·rw [upd_ne z] at e ⊢; exact I.sub a u e) (fun a u e=>by
  by_cases z:a=p
  ·subst z; exact .inr h
  ·rw [upd_ne z] at e; exact .inl e) (same_upd h)
theorem Iv.lay (I:Iv K c md L σ S H) {p:Addr} (h:H p=none) (o:HO):Iv K c md L σ S (upd H p o) :=
 I.go (Same.refl S) (I.sub.trans (same_upd h)) (fun a u e=>.inl e) (same_upd h)
theorem Iv.back4 (I:Iv K c md L σ S H) {i:Nat} {v w:FV} {a:Addr} (m:(mdAt md i).w=true) (e:L[i]?=some (some v)) (e1:σ[i]?=some (some (.ref a))) (s:Same S S') (sub:Same S' H') (g:∀ a o,S' a=some o→S a=some o ∨ H a=none ∨ isTup o=true)
  (k:∀ b o,H b=some o→b≠a→H' b=some o) (new:OwnAt K S' H' a w) (ht:∀ j x C dx fs u,mdAt md j=.gst i x→mdAt md i=.ob→w=.obj C dx fs []→L[j]?=some (some u)→∃ u,fs.lookup x=some u∧σ[j]?=some (some u)):Iv K c md (L.set i (some w)) σ S' H':=by
 have mi:=Mo.w_imm m
 have hi:=(List.getElem?_eq_some_iff.mp e).1
 obtain ⟨a',e1',⟨h1,qs,ys,_,h2,h3⟩,h4⟩:=I.own i v mi e
 rw [e1] at e1'; cases e1'
 have look:∀ j u,(L.set i (some w))[j]?=some (some u)→(j=i∧u=w) ∨ (j≠i∧L[j]?=some (some u)):=fun j u z=>by
  by_cases q:j=i
  ·subst q; rw [List.getElem?_set_self hi] at z; cases z; exact .inl ⟨rfl,rfl⟩
  ·rw [List.getElem?_set_ne (Ne.symm q)] at z; exact .inr ⟨q,z⟩
 have lookx:∀ j,(∃ u,L[j]?=some (some u))→∃ u,(L.set i (some w))[j]?=some (some u):=fun j h=>by
  obtain ⟨u,z⟩:=h
  by_cases q:j=i
  ·subst q; exact ⟨_,List.getElem?_set_self hi⟩
  ·exact ⟨u,by rw [List.getElem?_set_ne (Ne.symm q)]; exact z⟩
 have old:∀ j u,(L.set i (some w))[j]?=some (some u)→∃ u,L[j]?=some (some u):=fun j u z=>(look j u z).elim (fun q=>⟨v,by rw [q.1]; exact e⟩) fun q=>⟨u,q.2⟩
 refine ⟨by rw [List.length_set]; exact I.len,fun j u hm z=>?_,fun j u hm z=>?_,fun j k u u2 b m1 m2 z1 z2=>?_,sub,fun b o z n n1=>?_,I.s0.trans s,fun b o z=>(g b o z).elim (I.grow b o) fun z=>z.elim (fun z=>.inr (.inl (I.h0 z))) fun z=>.inr (.inr z),fun b z=>?_,fun p hp=>?_,fun j u hm z=>?_,I.fzp,fun p hp=>?_,I.ntp,fun q hq=>?_,fun j i' x C dx fs u h1 h2 h3 h4=>?_⟩
 ·rcases look j u z with ⟨q,_⟩ | ⟨_,z⟩
  ·rw [q] at hm; exact absurd hm mi
  ·obtain ⟨x,f1,f2⟩:=I.imm j u hm z
   exact ⟨x,f1,f2.mono s⟩
 ·rcases look j u z with ⟨rfl,rfl⟩ | ⟨q,z⟩
  ·exact ⟨a,e1,new,h4⟩
  ·obtain ⟨b,f1,⟨g1,rs,zs,g2,g3,g4⟩,g5⟩:=I.own j u hm z
   have hb:b≠a:=fun y=>by subst y; exact q (I.dis j i u v b hm mi z e f1 e1)
   refine ⟨b,f1,⟨?_,rs,zs,g2,k b _ g3 hb,g4.mono s⟩,g5⟩
   cases q':S' b with
   | none=>rfl
   | some o =>
    rcases g b o q' with z | z | z
    ·rw [g1] at z; cases z
    ·rw [g3] at z; cases z
    ·have:=sub b o q'
     rw [k b _ g3 hb] at this
     rw [← Option.some.inj this,ownH_nt] at z; cases z
 ·obtain ⟨w',z1⟩:=old j u z1
  obtain ⟨u',z2⟩:=old k u2 z2
  exact I.dis j k w' u' b m1 m2 z1 z2
 ·refine k b o (I.frame b o z n n1) fun y=>?_
  subst y
  rcases h4 with y | y | ⟨j,y⟩
  ·exact n y
  ·rw [z] at y; cases y
  ·exact n1 j y
 ·obtain ⟨g1,g2,g3⟩:=I.lent b z
  exact ⟨g1,g2,lookx 0 g3⟩
 ·obtain ⟨g1,g2,g4⟩:=I.fzs p hp
  exact ⟨g1,g2,lookx _ g4⟩
 ·rcases look j u z with ⟨q,_⟩ | ⟨_,z⟩
  ·rw [q] at hm; exact absurd hm (Mo.w_frz m)
  ·exact I.fzm j u hm z
 ·obtain ⟨g1,g2,g3⟩:=I.prs p hp
  have kp:=k _ _ g1 fun y=>g3 i v m e (by rw [y]; exact e1)
  refine ⟨kp,?_,fun j u hm z=>let ⟨u',z'⟩:=old j u z; g3 j u' hm z'⟩
  cases q':S' p.1 with
  | none=>rfl
  | some o =>
   rcases g _ o q' with z | z | z
   ·rw [g2] at z; cases z
   ·rw [g1] at z; cases z
   ·have:=sub _ o q'
    rw [kp] at this
    rw [← Option.some.inj this,I.ntp p hp] at z; cases z
 ·obtain ⟨g1,g2,g3⟩:=I.lnt1 q hq
  exact ⟨g1,g2,lookx _ g3⟩
 ·obtain ⟨u',h4'⟩:=old j u h4
  rcases look i' _ h3 with ⟨rfl,e9⟩ | ⟨_,h3⟩
  ·exact ht j x C dx fs u' h1 h2 e9.symm h4'
  ·exact I.tie j i' x C dx fs u' h1 h2 h3 h4'
theorem Iv.back3 (I:Iv K c md L σ S H) {i:Nat} {v w:FV} {a:Addr} (m:mdAt md i=.own) (e:L[i]?=some (some v)) (e1:σ[i]?=some (some (.ref a))) (s:Same S S') (sub:Same S' H') (g:∀ a o,S' a=some o→S a=some o ∨ H a=none ∨ isTup o=true)
  (k:∀ b o,H b=some o→b≠a→H' b=some o) (new:OwnAt K S' H' a w):Iv K c md (L.set i (some w)) σ S' H':=I.back4 (Mo.w_own m) e e1 s sub g k new fun _ _ _ _ _ _ _ z=>by rw [m] at z; cases z
theorem Iv.back (I:Iv K c md L σ S H) {i:Nat} {v w:FV} {a:Addr} (m:mdAt md i=.own) (e:L[i]?=some (some v)) (e1:σ[i]?=some (some (.ref a))) (s:Same S S') (sub:Same S' H') (g:∀ a o,S' a=some o→S a=some o ∨ H a=none)
  (k:∀ b o,H b=some o→b≠a→H' b=some o) (new:OwnAt K S' H' a w):Iv K c md (L.set i (some w)) σ S' H':=I.back3 m e e1 s sub (fun a o e=>(g a o e).imp_right .inl) k new
theorem Iv.write (I:Iv K c md L σ S H) {i:Nat} {v:FV} {a:Addr} {ps:List FV} {xs:List V} (m:mdAt md i=.own) (e:L[i]?=some (some v)) (e1:σ[i]?=some (some (.ref a))) (r:RVs K S ps xs) :
  Iv K c md (L.set i (some (.lst ps))) σ S (upd H a (.lst xs)):=by
 obtain ⟨a',e1',⟨h1,_⟩,_⟩:=I.own i v (fun z=>by rw [m] at z; cases z) e
 rw [e1] at e1'; cases e1'
 exact I.back m e e1 (Same.refl S) (fun b o z=>by rw [upd_ne fun y=>by subst y; rw [h1] at z; cases z]; exact I.sub b o z) (fun b o z=>.inl z) (fun b o z n=>by rw [upd_ne n]; exact z) ⟨h1,ps,xs,rfl,upd_same,r⟩
theorem Iv.set (I:Iv K c md L σ S H) {i:Nat} {v:FV} {x:V} (ni:∀ a,c.P0=some a→i≠0) (nf:mdAt md i≠.frz) (h:(mdAt md i=.imm∧RV K S v x) ∨ (mdAt md i=.own∧∃ a,x=.ref a∧OwnAt K S H a v∧c.H0 a=none∧(∀ p∈c.pr,p.1≠a)∧∀ j w,j≠i→mdAt md j≠.imm→L[j]?=some (some w)→σ[j]?≠some (some (.ref a)))) :
  Iv K c md (L.set i (some v)) (σ.set i (some x)) S H:=by
 have look:∀ j w,(L.set i (some v))[j]?=some (some w)→(j=i∧w=v∧(σ.set i (some x))[j]?=some (some x)) ∨ (j≠i∧L[j]?=some (some w)∧(σ.set i (some x))[j]?=σ[j]?):=fun j w z=>by
  by_cases q:j=i
  ·subst q
   have hj:j < L.length:=by have:=(List.getElem?_eq_some_iff.mp z).1; rwa [List.length_set] at this
   rw [List.getElem?_set_self hj] at z; cases z
   exact .inl ⟨rfl,rfl,by rw [List.getElem?_set_self (by rw [← I.len]; exact hj)]⟩
  ·rw [List.getElem?_set_ne (Ne.symm q)] at z
   exact .inr ⟨q,z,List.getElem?_set_ne (Ne.symm q)⟩
 have far:∀ j,j≠i→(L.set i (some v))[j]?=L[j]?∧(σ.set i (some x))[j]?=σ[j]?:=fun j q=>⟨List.getElem?_set_ne (Ne.symm q),List.getElem?_set_ne (Ne.symm q)⟩
 refine ⟨by rw [List.length_set,List.length_set]; exact I.len,fun j w hm z=>?_,fun j w hm z=>?_,fun j k w u b m1 m2 z1 z2 y1 y2=>?_,I.sub,I.frame,I.s0,I.grow,fun b z=>?_,fun p hp=>?_,fun j w hm z=>?_,I.fzp,fun p hp=>?_,I.ntp,fun q hq=>?_,fun j k y C dx fs u h1 h2 h3 h4=>?_⟩
 ·rcases look j w z with ⟨rfl,rfl,y⟩ | ⟨q,z,y⟩
  ·rcases h with ⟨_,r⟩ | ⟨hm',_⟩
   ·exact ⟨x,y,r⟩
   ·rw [hm] at hm'; cases hm'
  ·rw [y]; exact I.imm j w hm z
 ·rcases look j w z with ⟨rfl,rfl,y⟩ | ⟨q,z,y⟩
  ·rcases h with ⟨hm',_⟩ | ⟨_,a,rfl,o,h0,_,_⟩
   ·exact absurd hm' hm
   ·exact ⟨a,y,o,.inr (.inl h0)⟩
  ·rw [y]; exact I.own j w hm z
 ·rcases look j w z1 with ⟨p1,p2,p3⟩ | ⟨p1,p2,p3⟩
  ·rcases look k u z2 with ⟨q1,q2,q3⟩ | ⟨q1,q2,q3⟩
   ·rw [p1,q1]
   ·rcases h with ⟨hm',_⟩ | ⟨_,a,rfl,_,_,_,n⟩
    ·rw [p1] at m1; exact absurd hm' m1
    ·rw [p3] at y1; cases y1
     rw [q3] at y2
     exact absurd y2 (n k u q1 m2 q2)
  ·rw [p3] at y1
   rcases look k u z2 with ⟨q1,q2,q3⟩ | ⟨q1,q2,q3⟩
   ·rcases h with ⟨hm',_⟩ | ⟨_,a,rfl,_,_,_,n⟩
    ·rw [q1] at m2; exact absurd hm' m2
    ·rw [q3] at y2; cases y2
     exact absurd y1 (n j w p1 m1 p2)
   ·rw [q3] at y2
    exact I.dis j k w u b m1 m2 p2 q2 y1 y2
 ·obtain ⟨g1,g2,g3⟩:=I.lent b z
  obtain ⟨f1,f2⟩:=far 0 (Ne.symm (ni b z))
  rw [f1,f2]; exact ⟨g1,g2,g3⟩
 ·obtain ⟨g1,g2,g4⟩:=I.fzs p hp
  obtain ⟨f1,f2⟩:=far p.1 fun y=>nf (by rw [← y]; exact g1)
  rw [f1,f2]; exact ⟨g1,g2,g4⟩
 ·rcases look j w z with ⟨rfl,_,_⟩ | ⟨_,z,_⟩
  ·exact absurd hm nf
  ·exact I.fzm j w hm z
 ·obtain ⟨g1,g2,g3⟩:=I.prs p hp
  refine ⟨g1,g2,fun j w hm z=>?_⟩
  rcases look j w z with ⟨q1,q2,q3⟩ | ⟨q1,q2,q3⟩
  ·rcases h with ⟨hm',_⟩ | ⟨_,a,rfl,_,_,n,_⟩
   ·rw [q1,hm'] at hm; cases hm
   ·rw [q3]; exact fun y=>n p hp (by cases y; rfl)
  ·rw [q3]; exact g3 j w hm q2
 ·obtain ⟨g1,g2,g3⟩:=I.lnt1 q hq
  obtain ⟨f1,f2⟩:=far q.1 fun y=>by
   rw [y] at g1
   rcases h with ⟨hm',_⟩ | ⟨hm',_⟩ <;> rw [hm'] at g1 <;> cases g1
  rw [f1,f2]; exact ⟨g1,g2,g3⟩
 ·have n1:j≠i:=fun y=>by
   rw [y] at h1
   rcases h with ⟨hm',_⟩ | ⟨hm',_⟩ <;> rw [hm'] at h1 <;> cases h1
  have n2:k≠i:=fun y=>by
   rw [y] at h2
   rcases h with ⟨hm',_⟩ | ⟨hm',_⟩ <;> rw [hm'] at h2 <;> cases h2
  rw [(far j n1).1] at h4
  rw [(far k n2).1] at h3
  rw [(far j n1).2]
  exact I.tie j k y C dx fs u h1 h2 h3 h4
end
end Kq
end
section
namespace Kq
def mapO {α β:Type} (f:α→Option β):List α→Option (List β)
 | []=>some []
 | x :: xs=>(f x).bind fun y=>(mapO f xs).map (y :: ·)
def fD:Nat→FV→Option D
 | 0,_=>none
 | n + 1,v=>match v with
  | .non=>some .non
  | .bl b=>some (.bl b)
  | .int i=>some (.int i)
  | .str x=>some (.str x)
  | .tup xs=>(mapO (fD n) xs).map .tup
  | .lst xs=>(mapO (fD n) xs).map .lst
  | .scr _=>none
  | .shn _=>none
  | .dct _ _=>none
  | .dci _ _=>none
  | .dcz _ _ _=>none
  | .obj _ _ _ _=>none | .dcn _ _ _=>none | .adr _=>none | .dco _ _=>none
def deepest:Nat:=40
def truF:FV→Option Bool
 | .non=>some false
 | .bl b=>some b
 | .int i=>some (i != 0)
 | .str _=>none
 | .tup xs=>some (!xs.isEmpty)
 | .lst xs=>some (!xs.isEmpty)
 | .scr xs=>some (!xs.isEmpty)
 | .shn _=>none
 | .dct _ _=>none
 | .dci _ _=>none
 | .dcz _ _ _=>none
 | .obj _ _ _ _=>none | .dcn _ _ _=>none | .adr _=>none | .dco _ _=>none
def intF:FV→Option Int | .int i=>some i | _=>none
def blF:FV→Option Bool | .bl b=>some b | _=>none
def tupF:FV→Option (List FV) | .tup xs=>some xs | _=>none
def lstF:FV→Option (List FV) | .lst xs=>some xs | _=>none
def small (i:Int):Bool:=decide (-(2 ^ 64) < i∧i < 2 ^ 64)
def small62 (i:Int):Bool:=decide (-(2 ^ 62)≤i∧i < 2 ^ 62)
def small40 (i:Int):Bool:=decide (-(2 ^ 40)≤i∧i≤2 ^ 40)
def eqD (a b:FV):Option Bool:=(fD deepest a).bind fun x=>(fD deepest b).bind fun y=>some (D.eqv x y)
def eqF (a b:FV):Option Bool:=match a,b with
 | .shn x,.shn y=>open Classical in if x=y then some true else none
 | a,b=>eqD a b
def intsF:List FV→Option (List Int)
 | []=>some []
 | .int i :: r=>(intsF r).map (i :: ·)
 | _=>none
def boolsF:List FV→Option (List Bool)
 | []=>some []
 | .bl b :: r=>(boolsF r).map (b :: ·)
 | _=>none
def lexLt:List Int→List Int→Bool
 | [],[]=>false
 | [],_ :: _=>true
 | _ :: _,[]=>false
 | a :: r,b :: q=>if a=b then lexLt r q else decide (a < b)
def lexLe:List Int→List Int→Bool
 | [],[]=>true
 | [],_ :: _=>true
 | _ :: _,[]=>false
 | a :: r,b :: q=>if a=b then lexLe r q else decide (a≤b)
def int2F (f:Int→Int→Option FV) (v w:FV):Option FV:=(intF v).bind fun i=>(intF w).bind fun j=>f i j
def addF (v w:FV):Option FV:=match v with
 | .tup xs=>(tupF w).bind fun ys=>if xs.length + ys.length≤big then some (.tup (xs++ys)) else none
 | .lst xs=>(lstF w).bind fun ys=>if xs.length + ys.length≤big then some (.lst (xs++ys)) else none
 | v=>int2F (fun i j=>some (.int (i + j))) v w
def subF:FV→FV→Option FV:=int2F fun i j=>some (.int (i - j))
def mulF (v w:FV):Option FV:=match v with
 | .lst xs=>(intF w).bind fun k=>if -(2 ^ 63)≤k∧k < 2 ^ 63∧xs.length * k.toNat≤big then some (.lst (List.replicate k.toNat xs).flatten) else none
 | v=>int2F (fun i j=>if (small i || small j)=true then some (.int (i * j)) else none) v w
def fdivF:FV→FV→Option FV:=int2F fun i j=>if 0 < j∧j < 1073741824 then some (.int (i / j)) else none
def modF:FV→FV→Option FV:=int2F fun i j=>if 0 < j then some (.int (i % j)) else none
def powF:FV→FV→Option FV:=int2F fun i j=>if 0≤j∧j≤1000∧small i=true then some (.int (i ^ j.toNat)) else none
def eqB (a b:FV):Option FV:=(eqF a b).map .bl
def neB (a b:FV):Option FV:=(eqF a b).map fun r=>.bl (!r)
def ltB (v w:FV):Option FV:=match v with
 | .tup xs=>(tupF w).bind fun ys=>(intsF xs).bind fun a=>(intsF ys).bind fun b=>some (.bl (lexLt a b))
 | v=>int2F (fun i j=>some (.bl (decide (i < j)))) v w
def leB (v w:FV):Option FV:=match v with
 | .tup xs=>(tupF w).bind fun ys=>(intsF xs).bind fun a=>(intsF ys).bind fun b=>some (.bl (lexLe a b))
 | v=>int2F (fun i j=>some (.bl (decide (i≤j)))) v w
def gtB:FV→FV→Option FV:=int2F fun i j=>some (.bl (decide (j < i)))
def geB:FV→FV→Option FV:=int2F fun i j=>some (.bl (decide (j≤i)))
def ixN (n:Nat) (i:Int):Option Nat:=if 0≤i then (if i < n then some i.toNat else none) else if -(n:Int)≤i then some (i + n).toNat else none
def atF (xs:List FV) (i:Int):Option FV:=(ixN xs.length i).bind fun j=>xs[j]?
def ixF (v w:FV):Option FV:=(intF w).bind fun j=>(seqF v).bind fun xs=>atF xs j
def min2F:FV→FV→Option FV:=int2F fun i j=>some (.int (if j < i then j else i))
def max2F:FV→FV→Option FV:=int2F fun i j=>some (.int (if j > i then j else i))
def isNoneF:FV→Option FV | .non=>some (.bl true) | _=>some (.bl false)
def notNoneF:FV→Option FV | .non=>some (.bl false) | _=>some (.bl true)
def notF (v:FV):Option FV:=(blF v).map fun b=>.bl (!b)
def negF (v:FV):Option FV:=(intF v).map fun i=>.int (-i)
def lenF (v:FV):Option FV:=(seqF v).map fun xs=>.int xs.length
def absF (v:FV):Option FV:=(intF v).map fun i=>.int (if i < 0 then -i else i)
def toIntF:FV→Option FV | .int i=>some (.int i) | .bl b=>some (.int (if b then 1 else 0)) | _=>none
def sumI (xs:List FV):Option Int:=(intsF xs).bind fun ns=>if ns.length≤big∧ns.all small40=true then some ns.sum else none
def sumF (v:FV):Option FV:=(listF v).bind fun xs=>(sumI xs).map .int
def allF (v:FV):Option FV:=(listF v).bind fun xs=>(boolsF xs).map fun bs=>.bl (bs.all id)
def tupleF (v:FV):Option FV:=(seqF v).map .tup
inductive Ty where | int | bool | str | list | tuple
 deriving DecidableEq
def isTyF:FV→Ty→Option Bool
 | .non,_=>some false
 | .bl _,t=>some (t == .int || t == .bool)
 | .int _,t=>some (t == .int)
 | .str _,t=>some (t == .str)
 | .tup _,t=>some (t == .tuple)
 | .lst _,t=>some (t == .list)
 | .scr _,_=>none
 | .shn _,t=>some (t == .str)
 | .dct _ _,_=>none
 | .dci _ _,_=>none
 | .dcz _ _ _,_=>none
 | .obj _ _ _ _,_=>none
 | .dcn _ _ _,_=>none
 | .adr _,_=>none
 | .dco _ _,_=>none
def isiF (t:Ty) (v:FV):Option FV:=(isTyF v t).map .bl
def isi2F (t u:Ty) (v:FV):Option FV:=(isTyF v t).bind fun a=>(isTyF v u).map fun b=>.bl (a || b)
def sIx (n d:Nat):Option Int→Nat
 | none=>d
 | some v=>if v < 0 then (v + n).toNat else min v.toNat n
def cutF {α:Type} (xs:List α) (lo hi:Option Int):List α:=(xs.drop (sIx xs.length 0 lo)).take (sIx xs.length xs.length hi - sIx xs.length 0 lo)
def sliceF (v:FV) (lo hi:Option Int):Option FV:=match v with
 | .tup xs=>some (.tup (cutF xs lo hi))
 | .lst xs=>some (.lst (cutF xs lo hi))
 | _=>none
abbrev EW:=FLoc→(FV→FLoc→Prop)→Prop
abbrev BW:=FLoc→(Bool→FLoc→Prop)→Prop
abbrev AW:=FLoc→(List FV→FLoc→Prop)→Prop
abbrev OW:=FLoc→(Option Int→FLoc→Prop)→Prop
def eVar (i:Nat):EW:=fun L Q=>wp (lk L i) fun x=>Q x L
def eC (v:FV):EW:=fun L Q=>Q v L
def eUn (f:FV→Option FV) (a:EW):EW:=fun L Q=>a L fun x L1=>wp (f x) fun z=>Q z L1
def eOp (f:FV→FV→Option FV) (a b:EW):EW:=fun L Q=>a L fun x L1=>b L1 fun y L2=>wp (f x y) fun z=>Q z L2
def eOpN (f:FV→FV→Option FV) (i:Nat) (b:EW):EW:=fun L Q=>wp (lk L i) fun _=>b L fun y L1=>wp (lk L1 i) fun x=>wp (f x y) fun z=>Q z L1
def eAnd (a b:EW):EW:=fun L Q=>a L fun x L1=>wp (truF x) fun r=>if r=true then b L1 Q else Q x L1
def eIf (c:BW) (a b:EW):EW:=fun L Q=>c L fun r L1=>if r=true then a L1 Q else b L1 Q
def bVal (a:EW):BW:=fun L Q=>a L fun x L1=>wp (truF x) fun b=>Q b L1
def bAnd (a b:BW):BW:=fun L Q=>a L fun r L1=>if r=true then b L1 Q else Q false L1
def bOr (a b:BW):BW:=fun L Q=>a L fun r L1=>if r=true then Q true L1 else b L1 Q
def bNot (a:BW):BW:=fun L Q=>a L fun r L1=>Q (!r) L1
def bTrue:BW:=fun L Q=>Q true L
def aNil:AW:=fun L Q=>Q [] L
def aCons (a:EW) (r:AW):AW:=fun L Q=>a L fun x L1=>r L1 fun xs L2=>Q (x :: xs) L2
def eTup (a:AW):EW:=fun L Q=>a L fun xs L1=>xs.length≤big∧Q (.tup xs) L1
def eLst (a:AW):EW:=fun L Q=>a L fun xs L1=>xs.length≤big∧Q (.lst xs) L1
def oNone:OW:=fun L Q=>Q none L
def oSome (a:EW):OW:=fun L Q=>a L fun x L1=>wp (intF x) fun i=>Q (some i) L1
def eSl (a:EW) (l h:OW):EW:=fun L Q=>a L fun x L1=>l L1 fun i L2=>h L2 fun j L3=>wp (sliceF x i j) fun z=>Q z L3
abbrev CW:=Nat→List FV→(FV×FV→Prop)→Prop
def eCall (call:CW) (f:Nat) (a:AW):EW:=fun L Q=>a L fun xs L1=>call f xs fun z=>Q z.1 L1
def eCallO (call:CW) (f i:Nat) (a:AW):EW:=fun L Q=>wp (lk L i) fun _=>a L fun xs L1=>wp (lk L1 i) fun x=>call f (x :: xs) fun z=>Q z.1 (L1.set i (some z.2))
def appF (v y:FV):Option FV:=(lstF v).bind fun xs=>if xs.length < big then some (.lst (xs++[y])) else none
def eMeth (f:FV→FV→Option FV) (i:Nat) (a:EW):EW:=fun L Q=>wp (lk L i) fun v=>wp (lstF v) fun _=>a L fun y L1=>wp (lk L1 i) fun x=>wp (f x y) fun z=>Q .non (L1.set i (some z))
def upF (lo:Int):Nat→List FV
 | 0=>[]
 | n + 1=>.int lo :: upF (lo + 1) n
def pairF (xs ys:List FV):List FV:=xs.zipWith (fun p q=>.tup [p,q]) ys
def iSeq (a:EW):AW:=fun L Q=>a L fun x L1=>wp (seqF x) fun xs=>Q xs L1
def iRng (a:EW):AW:=fun L Q=>a L fun x L1=>wp (intF x) fun j=>small62 j=true∧Q (upF 0 j.toNat) L1
def iRng2 (a b:EW):AW:=fun L Q=>a L fun x L1=>b L1 fun y L2=>wp (intF x) fun i=>wp (intF y) fun j=>(small62 i && small62 j)=true∧Q (upF i (j - i).toNat) L2
def iZip (a b:EW):AW:=fun L Q=>a L fun x L1=>b L1 fun y L2=>wp (seqF x) fun xs=>wp (seqF y) fun ys=>Q (pairF xs ys) L2
def iEnum (a:EW):AW:=fun L Q=>a L fun x L1=>wp (seqF x) fun xs=>Q (pairF (upF 0 xs.length) xs) L1
inductive Tg where | nm (i:Nat) | tp (is:List Nat) | tn (i:Nat) (is:List Nat)
def pair2:List FV→Option (FV×FV) | [a,b]=>some (a,b) | _=>none
def setsF:FLoc→List Nat→List FV→Option FLoc
 | L,[],[]=>some L
 | L,i :: is,v :: vs=>setsF (L.set i (some v)) is vs
 | _,_,_=>none
def gW (tg:Tg) (v:FV) (L:FLoc) (Q:FLoc→Prop):Prop:=match tg with
 | .nm i=>Q (L.set i (some v))
 | .tp is=>wp (tupF v) fun xs=>wp (setsF L is xs) Q
 | .tn i is=>wp (tupF v) fun xs=>wp (pair2 xs) fun p=>wp (tupF p.2) fun ys=>wp (setsF (L.set i (some p.1)) is ys) Q
def compW (n m:Nat) (tg:Tg) (t:BW) (e:EW):List FV→List FV→FLoc→(List FV→FLoc→Prop)→Prop
 | [],acc,L,Q=>Q acc L
 | x :: xs,acc,L,Q=>gW tg x (L++List.replicate m none) fun L1=>t L1 fun b L2=>if b=true then e L2 fun v L3=>compW n m tg t e xs (acc++[v]) (L3.take n) Q else compW n m tg t e xs acc (L2.take n) Q
def eComp (n m:Nat) (it:AW) (tg:Tg) (t:BW) (e:EW):EW:=fun L Q=>it L fun xs L1=>L1.length=n∧xs.length≤big∧compW n m tg t e xs [] L1 fun ys L2=>Q (.lst ys) L2
inductive FFl where | next | ret (v:FV) | brk | cont
abbrev SW:=FLoc→(FFl→FLoc→Prop)→Prop
def aft (k:FLoc→Prop) (Q:FFl→FLoc→Prop):FFl→FLoc→Prop
 | .next,L=>k L
 | .ret v,L=>Q (.ret v) L
 | .brk,L=>Q .brk L
 | .cont,L=>Q .cont L
def sNil:SW:=fun L Q=>Q .next L
def sSeq (s r:SW):SW:=fun L Q=>s L (aft (fun L1=>r L1 Q) Q)
def sAsg (e:EW) (tg:Tg):SW:=fun L Q=>e L fun x L1=>gW tg x L1 fun L2=>Q .next L2
def setF (v j x:FV):Option FV:=(lstF v).bind fun xs=>(intF j).bind fun n=>(ixN xs.length n).map fun p=>.lst (xs.set p x)
def sSet (k:Nat) (i e:EW):SW:=fun L Q=>wp (lk L k) fun _=>e L fun x L1=>i L1 fun j L2=>wp (lk L2 k) fun y=>wp (setF y j x) fun z=>Q .next (L2.set k (some z))
def sRet (e:EW):SW:=fun L Q=>e L fun x L1=>Q (.ret x) L1
def sExp (e:EW):SW:=fun L Q=>e L fun _ L1=>Q .next L1
def sIf (c:BW) (a b:SW):SW:=fun L Q=>c L fun r L1=>if r=true then a L1 Q else b L1 Q
def turnW (k:FLoc→Prop) (Q:FFl→FLoc→Prop):FFl→FLoc→Prop
 | .next,L=>k L
 | .cont,L=>k L
 | .brk,L=>Q .next L
 | .ret v,L=>Q (.ret v) L
def forW (tg:Tg) (b:SW):List FV→FLoc→(FFl→FLoc→Prop)→Prop
 | [],L,Q=>Q .next L
 | x :: xs,L,Q=>gW tg x L fun L1=>b L1 (turnW (fun L2=>forW tg b xs L2 Q) Q)
def sFor (it:AW) (tg:Tg) (b:SW):SW:=fun L Q=>it L fun xs L1=>forW tg b xs L1 Q
structure FD where
 np:Nat
 ns:Nat
 body:CW→SW
 io:Bool
 fr:Bool
def endW (io fr:Bool) (Q:FV×FV→Prop):FFl→FLoc→Prop
 | .ret v,L=>match io with
  | true=>wp (lk L 0) fun x=>Q (v,x)
  | false=>Q (v,.non)
 | .next,L=>match fr with
  | true=>False
  | false=>match io with
   | true=>wp (lk L 0) fun x=>Q (.non,x)
   | false=>Q (.non,.non)
 | _,_=>False
def callW (tb:List FD):Nat→CW
 | 0,_,_,_=>False
 | d + 1,f,args,Q=>match tb[f]? with
  | none=>False
  | some fd=>args.length=fd.np∧fd.body (callW tb d) (args.map some++List.replicate (fd.ns - fd.np) none) (endW fd.io fd.fr Q)
end Kq
end
section
namespace Kq
open PySem PySem.Spec PyProof.Rows L2
theorem ofString_inj {x y:String} (h:Str.ofString x=Str.ofString y):x=y:=by
 rw [Str.ofString_eq_toList,Str.ofString_eq_toList] at h
 have h2:x.toList.map Char.toNat=y.toList.map Char.toNat:=by
  injection h with h
  simpa using congrArg Array.toList h
 have inj:∀ (a b:List Char),a.map Char.toNat=b.map Char.toNat→a=b:=by
  intro a
  induction a with
  | nil=>intro b hb; cases b <;> simp_all
  | cons c a ih =>
   intro b hb
   cases b with
   | nil=>simp at hb
   | cons d b =>
    simp only [List.map_cons,List.cons.injEq] at hb
    rw [ih b hb.2,Char.toNat_inj.mp hb.1]
 exact String.toList_inj.mp (inj _ _ h2)
theorem strBeq (a b:String):(Str.ofString a == Str.ofString b)=(a == b):=by
 rw [Bool.eq_iff_iff]
 simp only [beq_iff_eq]
 exact ⟨ofString_inj,fun h=>by rw [h]⟩
theorem str_ok (x:String):PyData.strOk (Str.ofString x)=true:=by
 rw [Str.ofString_eq_toList]
 unfold PyData.strOk
 simp only [List.all_toArray,List.all_map,List.all_eq_true,Function.comp_apply,decide_eq_true_eq]
 intro c _
 have h:c.val.toNat < 0xd800 ∨ (0xdfff < c.val.toNat∧c.val.toNat < 0x110000):=c.valid
 show c.val.toNat < 1114112
 lia
mutual
theorem d_lay:∀ d:D,(dPy d).canLay0=true
 | .non=>rfl
 | .bl _=>rfl
 | .int _=>rfl
 | .str x=>str_ok x
 | .tup xs=>d_lays xs
 | .lst xs=>d_lays xs
theorem d_lays:∀ xs:List D,PyData.canLayAll0 (dPys xs)=true
 | []=>rfl
 | x :: xs=>by simp only [dPys,PyData.canLayAll0,d_lay x,d_lays xs,Bool.and_self]
end
mutual
theorem d_eqv:∀ a b:D,PyData.eqv (dPy a) (dPy b)=D.eqv a b
 | .non,b=>by cases b <;> rfl
 | .bl _,b=>by cases b <;> rfl
 | .int _,b=>by cases b <;> rfl
 | .str x,b=>by cases b <;> first | rfl | exact strBeq ..
 | .tup xs,b=>by cases b <;> first | rfl | exact d_eqvs ..
 | .lst xs,b=>by cases b <;> first | rfl | exact d_eqvs ..
theorem d_eqvs:∀ a b:List D,PyData.eqvAll (dPys a) (dPys b)=D.eqvs a b
 | [],b=>by cases b <;> rfl
 | x :: xs,b=>by cases b <;> first | rfl | (show (_ && _)=(_ && _); rw [d_eqv,d_eqvs])
end
theorem log2_lt {i:Int} {k:Nat} (hk:0 < k) (h:-(2 ^ k:Int) < i∧i < 2 ^ k):i.natAbs.log2 < k:=by
 by_cases h0:i.natAbs=0
 ·rw [h0]; simpa using hk
 ·rw [Nat.log2_lt h0]
  have e:((2 ^ k:Nat):Int)=(2:Int) ^ k:=by rw [Int.natCast_pow]; rfl
  lia
theorem mapO_len {α β:Type} {f:α→Option β}:∀ {xs:List α} {ys:List β},mapO f xs=some ys→ys.length=xs.length
 | [],ys,h=>by cases h; rfl
 | x :: xs,ys,h=>by
  replace h:((f x).bind fun y=>(mapO f xs).map (y :: ·))=some ys:=h
  cases e1:f x with
  | none=>rw [e1] at h; cases h
  | some y =>
   rw [e1] at h
   cases e2:mapO f xs with
   | none=>simp only [Option.bind_some,e2] at h; cases h
   | some zs=>simp only [Option.bind_some,e2,Option.map_some] at h; cases h; rw [List.length_cons,List.length_cons,mapO_len e2]
inductive Bnd {α β:Type} (o:Option α) (f:α→Option β) (z:β):Prop
 | mk (a:α) (_:o=some a) (_:f a=some z):Bnd o f z
theorem bnd {α β:Type} {o:Option α} {f:α→Option β} {z:β} (h:o.bind f=some z):Bnd o f z:=let ⟨a,h1,h2⟩:=Option.bind_eq_some_iff.mp h; ⟨a,h1,h2⟩
inductive Mpd {α β:Type} (o:Option α) (f:α→β) (z:β):Prop
 | mk (a:α) (_:o=some a) (_:f a=z):Mpd o f z
theorem mpd {α β:Type} {o:Option α} {f:α→β} {z:β} (h:o.map f=some z):Mpd o f z:=let ⟨a,h1,h2⟩:=Option.map_eq_some_iff.mp h; ⟨a,h1,h2⟩
theorem itd {α:Type} {c:Prop} [Decidable c] {a b:α} (h:(if c then some a else none)=some b):c∧a=b:=by
 by_cases z:c
 ·rw [if_pos z] at h; exact ⟨z,Option.some.inj h⟩
 ·rw [if_neg z] at h; cases h
theorem fD_depth:∀ {n:Nat} {p:FV} {d:D},fD n p=some d→(dPy d).depth≤n
 | 0,p,d,h=>by cases h
 | n + 1,p,d,h=>by
  have ds:∀ {ps:List FV} {ds:List D},mapO (fD n) ps=some ds→PyData.depthAll (dPys ds)≤n:=by
   intro ps
   induction ps with
   | nil=>intro ds h; cases h; simp [dPys,PyData.depthAll]
   | cons q ps ih =>
    intro ds h
    obtain ⟨y,e1,h⟩:=bnd h
    obtain ⟨zs,e2,rfl⟩:=mpd h
    simp only [dPys,PyData.depthAll]
    exact Nat.max_le.mpr ⟨fD_depth e1,ih e2⟩
  cases p with
  | tup ps=>obtain ⟨zs,e,rfl⟩:=mpd (show (mapO (fD n) ps).map D.tup=some d from h); simp only [dPy,PyData.depth]; have:=ds e; lia
  | lst ps=>obtain ⟨zs,e,rfl⟩:=mpd (show (mapO (fD n) ps).map D.lst=some d from h); simp only [dPy,PyData.depth]; have:=ds e; lia
  | non=>cases h; simp [dPy,PyData.depth]
  | bl _=>cases h; simp [dPy,PyData.depth]
  | int _=>cases h; simp [dPy,PyData.depth]
  | str _=>cases h; simp [dPy,PyData.depth]
  | scr _=>cases h
  | shn _=>cases h
  | dct _ _=>cases h
  | dci _ _=>cases h
  | dcz _ _ _=>cases h
  | obj _ _ _ _=>cases h
  | dcn _ _ _=>cases h
  | adr _=>cases h
  | dco _ _=>cases h
section
variable {X:Cx}{pins:List (Addr×Obj)}{σ:L2.St}{S H:Hp}{s:Shared}
def RdAt (X:Cx) (S:Hp) (s:Shared) (n:Nat):Prop:=∀ (p:FV) (v:V) (u:Value) (d:D),RV X.K S p v→RelV v u→fD n p=some d→∃ as,Reads s.heap u (dPy d) as
theorem reads_all {n:Nat} (R:RdAt X S s n):∀ {ps:List FV} {vs:List V} {us:List Value} {ds:List D},RVs X.K S ps vs→Vals vs us→mapO (fD n) ps=some ds→∃ as,ReadsAll s.heap us (dPys ds) as
 | [],vs,us,ds,r,q,h=>by
  cases (show vs=[] from r)
  cases q
  cases h
  exact ⟨[],.nil⟩
 | p :: ps,vs,us,ds,r,rq,h=>by
  obtain ⟨v1,vr,rfl,r1,r2⟩:=r
  cases rq with
  | cons q1 q2 =>
   obtain ⟨y,e1,h⟩:=bnd h
   obtain ⟨zs,e2,rfl⟩:=mpd h
   obtain ⟨as,ra⟩:=R _ _ _ _ r1 q1 e1
   obtain ⟨bs,rb⟩:=reads_all R r2 q2 e2
   exact ⟨as++bs,.cons ra rb⟩
theorem reads_lst {n:Nat} (I:Inv X pins σ H s) (R:RdAt X S s n) {a:Addr} {xs:List V} {ps:List FV} {d:D} (h1:H a=some (.lst xs)) (h2:RVs X.K S ps xs) (h:(mapO (fD n) ps).map D.lst=some d):∃ as,Reads s.heap (.ref a) (dPy d) as:=by
 obtain ⟨zs,e,rfl⟩:=mpd h
 obtain ⟨its,rr,⟨o,k,e1,e2,e2',e3⟩,_⟩:=I.list (SqL.of h1)
 obtain ⟨as,ra⟩:=reads_all R h2 rr e
 exact ⟨a :: as,.list e1 e2 e3 (by simpa using ra)⟩
theorem reads_at (I:Inv X pins σ H s) (hs:Same S H):∀ n,RdAt X S s n
 | 0,p,v,u,d,_,_,h=>by cases h
 | n + 1,p,v,u,d,rp,rv,h=>by
  have R:=reads_at I hs n
  cases p with
  | tup ps =>
   obtain ⟨a,xs,rfl,h1,h2⟩:=rp
   cases (show u=Value.ref a from rv)
   obtain ⟨zs,e,rfl⟩:=mpd (show (mapO (fD n) ps).map D.tup=some d from h)
   obtain ⟨its,rr,⟨o,e1,e2,k,e3⟩,_⟩:=I.tuple (SqT.of (hs _ _ h1))
   obtain ⟨as,ra⟩:=reads_all R h2 rr e
   exact ⟨as,.tuple e1 e2 e3 (by simpa using ra)⟩
  | lst ps =>
   obtain ⟨a,xs,rfl,h1,h2⟩:=rp
   cases (show u=Value.ref a from rv)
   exact reads_lst I R (hs _ _ h1) h2 h
  | non=>cases h; cases (show v=_ from rp); cases (show u=_ from rv); exact ⟨_,.none⟩
  | bl _=>cases h; cases (show v=_ from rp); cases (show u=_ from rv); exact ⟨_,.bool _⟩
  | int _=>cases h; cases (show v=_ from rp); obtain ⟨t,rfl⟩:=rv; exact ⟨_,.int _ _⟩
  | str _=>cases h; cases (show v=_ from rp); obtain ⟨t,rfl⟩:=rv; exact ⟨_,.str _ _⟩
  | scr _=>cases h
  | shn _=>cases h
  | dct _ _=>cases h
  | dci _ _=>cases h
  | dcz _ _ _=>cases h
  | obj _ _ _ _=>cases h
  | dcn _ _ _=>cases h
  | adr _=>cases h
  | dco _ _=>cases h
theorem reads_of (I:Inv X pins σ H s) (hs:Same S H) {n:Nat} {p:FV} {v:V} {u:Value} {d:D} (rp:RH X.K S H p v) (rv:RelV v u) (h:fD n p=some d):∃ as,Reads s.heap u (dPy d) as:=by
 rcases rp with rp | ⟨a,rfl,_,ps,xs,e,h1,h2⟩
 ·exact reads_at I hs n p v u d rp rv h
 ·cases (show u=Value.ref a from rv)
  cases n with
  | zero=>cases h
  | succ n =>
   cases p with
   | lst qs=>cases e; exact reads_lst I (reads_at I hs n) h1 h2 h
   | dct _ _=>cases h
   | dci _ _=>cases h
   | dcz _ _ _=>cases h
   | obj _ _ _ _=>cases h
   | dcn _ _ _=>cases h
   | adr _=>cases h
   | dco _ _=>cases h
   | _=>cases e
end
theorem big_line:big≤sizeLine:=by decide
theorem intF_eq {v:FV} {i:Int} (h:intF v=some i):v=.int i:=by cases v <;> cases h; rfl
theorem blF_eq {v:FV} {i:Bool} (h:blF v=some i):v=.bl i:=by cases v <;> cases h; rfl
theorem tupF_eq {v:FV} {i:List FV} (h:tupF v=some i):v=.tup i:=by cases v <;> cases h; rfl
theorem lstF_eq {v:FV} {i:List FV} (h:lstF v=some i):v=.lst i:=by cases v <;> cases h; rfl
structure NewOr (K:PySem.W.Frag) (S H:Hp) (Q:VK) (z:FV):Prop where
 old:∀ x,(∀ ps,z≠.lst ps)→RV K S z x→Q x H
 tup:∀ ps xs p,z=.tup ps→RVs K S ps xs→H p=none→Q (.ref p) (upd H p (.tup xs))
 lst:∀ ps xs p,z=.lst ps→RVs K S ps xs→H p=none→Q (.ref p) (upd H p (.lst xs))
section
variable {X:Cx}{K:PySem.W.Frag}{S H:Hp}{Q:VK}
theorem NewOr.bl {b:Bool} (k:NewOr K S H Q (.bl b)):Q (.bl b) H:=k.old _ (fun _ z=>nomatch z) rfl
theorem NewOr.int {b:Int} (k:NewOr K S H Q (.int b)):Q (.int b) H:=k.old _ (fun _ z=>nomatch z) rfl
theorem RH.int {i:Int} {x:V} (h:RH K S H (.int i) x):x=.int i:=h.val rfl
theorem RH.bl {i:Bool} {x:V} (h:RH K S H (.bl i) x):x=.bl i:=h.val rfl
inductive Rq (K:PySem.W.Frag) (f:FV→FV→Option FV) (x:V) (y:V) (H:Hp) (Q:VK):Prop
 | mk (S:_) (v:_) (w:_) (z:_) (_:Same S H) (_:RH K S H v x) (_:RH K S H w y) (_:f v w=some z) (_:NewOr K S H Q z):Rq K f x y H Q
theorem q_int {g:Value→Value→Sem Value} {f:Int→Int→Option FV} {r:R2} (o:OpR X g r) (h:∀ i j z H Q,f i j=some z→(∀ x,(∀ S,RV X.K S z x)→Q x H)→r (.int i) (.int j) H Q) (n:∀ i j z,f i j=some z→∀ ps,z≠.lst ps):OpR X g (Rq X.K (int2F f)):=by
 intro pins s σ H x y u1 u2 Q I rx ry ⟨S,v,w,z,hs,hv,hw,e,k⟩
 obtain ⟨i,e1,e⟩:=bnd e
 obtain ⟨j,e2,e⟩:=bnd e
 cases intF_eq e1; cases intF_eq e2
 obtain rfl:=hv.int
 obtain rfl:=hw.int
 exact o pins s σ H _ _ u1 u2 Q I rx ry (h i j z H Q e fun x hx=>k.old x (n i j z e) (hx S))
theorem q_sub:OpR X (binaryOp .Sub) (Rq X.K subF):=q_int op_sub (fun i j z H Q e k=>⟨i,j,rfl,rfl,k _ fun S=>by cases e; rfl⟩) fun i j z e ps=>by cases e; exact fun z=>nomatch z
theorem q_fdiv:OpR X (binaryOp .FloorDiv) (Rq X.K fdivF):=q_int op_fdiv (fun i j z H Q e k=>⟨i,j,rfl,rfl,(itd e).1,k _ fun S=>by cases (itd e).2; rfl⟩) fun i j z e ps=>by cases (itd e).2; exact fun z=>nomatch z
theorem q_mod:OpR X (binaryOp .Mod) (Rq X.K modF):=q_int op_mod (fun i j z H Q e k=>⟨i,j,rfl,rfl,(itd e).1,k _ fun S=>by cases (itd e).2; rfl⟩) fun i j z e ps=>by cases (itd e).2; exact fun z=>nomatch z
theorem q_pow:OpR X (binaryOp .Pow) (Rq X.K powF):=q_int op_pow (fun i j z H Q e k=>⟨i,j,rfl,rfl,by
 obtain ⟨h1,h2,h3⟩:=(itd e).1
 have:-(2 ^ 64) < i∧i < 2 ^ 64:=by simpa [small] using h3
 exact ⟨h1,by lia,by lia⟩,k _ fun S=>by cases (itd e).2; rfl⟩) fun i j z e ps=>by cases (itd e).2; exact fun z=>nomatch z
theorem q_gt:OpR X (compareOp .Gt) (Rq X.K gtB):=q_int op_gt (fun i j z H Q e k=>⟨i,j,rfl,rfl,k _ fun S=>by cases e; rfl⟩) fun i j z e ps=>by cases e; exact fun z=>nomatch z
theorem q_ge:OpR X (compareOp .GtE) (Rq X.K geB):=q_int op_ge (fun i j z H Q e k=>⟨i,j,rfl,rfl,k _ fun S=>by cases e; rfl⟩) fun i j z e ps=>by cases e; exact fun z=>nomatch z
theorem q_addI:OpR X (binaryOp .Add) (Rq X.K (int2F fun i j=>some (.int (i + j)))):=q_int op_add (fun i j z H Q e k=>⟨i,j,rfl,rfl,k _ fun S=>by cases e; rfl⟩) fun i j z e ps=>by cases e; exact fun z=>nomatch z
theorem q_mulI:OpR X (binaryOp .Mult) (Rq X.K (int2F fun i j=>if (small i || small j)=true then some (.int (i * j)) else none)):=q_int op_mul (fun i j z H Q e k=>⟨i,j,rfl,rfl,by
 have:=(itd e).1
 simp only [small,Bool.or_eq_true,decide_eq_true_eq] at this
 exact this,k _ fun S=>by cases (itd e).2; rfl⟩) fun i j z e ps=>by cases (itd e).2; exact fun z=>nomatch z
theorem q_ltI:OpR X (compareOp .Lt) (Rq X.K (int2F fun i j=>some (.bl (decide (i < j))))):=q_int op_lt (fun i j z H Q e k=>⟨i,j,rfl,rfl,k _ fun S=>by cases e; rfl⟩) fun i j z e ps=>by cases e; exact fun z=>nomatch z
theorem q_leI:OpR X (compareOp .LtE) (Rq X.K (int2F fun i j=>some (.bl (decide (i≤j))))):=q_int op_le (fun i j z H Q e k=>⟨i,j,rfl,rfl,k _ fun S=>by cases e; rfl⟩) fun i j z e ps=>by cases e; exact fun z=>nomatch z
theorem q_catT {xs ys:List FV} {x y:V} {z:FV} {pins:List (Addr×Obj)} {σ:L2.St} {s:Shared} {u1 u2:Value} (I:Inv X pins σ H s) (rx:RelV x u1) (ry:RelV y u2) (hs:Same S H) (hv:RH X.K S H (.tup xs) x) (hw:RH X.K S H (.tup ys) y)
  (e:(if xs.length + ys.length≤big then some (FV.tup (xs++ys)) else none)=some z) (k:NewOr X.K S H Q z):wpAny (model X.prog X.w) X.A (binaryOp .Add u1 u2) (EP X pins σ Q) X.xe s:=by
 obtain ⟨hc,rfl⟩:=itd e
 have rv:=hv.val rfl
 have rw':=hw.val rfl
 obtain ⟨a,as,rfl,ha,ra⟩:=hv.tup hs
 obtain ⟨b,bs,rfl,hb,rb⟩:=hw.tup hs
 have l1:=ra.length
 have l2:=rb.length
 have hl:=big_line
 by_cases h0:as=[]
 ·subst h0
  have z2:xs=[]:=List.eq_nil_of_length_eq_zero (by simpa using l1)
  subst z2
  exact op_catT0 pins s σ H _ _ u1 u2 Q I rx ry ⟨a,b,bs,rfl,rfl,SqT.of ha,SqT.of hb,k.old _ (fun _ z=>nomatch z) rw'⟩
 refine op_catT pins s σ H _ _ u1 u2 Q I rx ry ⟨a,b,as,bs,rfl,rfl,SqT.of ha,SqT.of hb,h0,by lia,fun z=>?_,fun _ p hp=>k.tup _ _ p rfl (ra.append rb) hp⟩
 subst z
 have z2:ys=[]:=List.eq_nil_of_length_eq_zero (by simpa using l2)
 subst z2
 exact k.old _ (fun _ z=>nomatch z) (by rw [List.append_nil]; exact rv)
theorem q_add:OpR X (binaryOp .Add) (Rq X.K addF):=by
 intro pins s σ H x y u1 u2 Q I rx ry ⟨S,v,w,z,hs,hv,hw,e,k⟩
 cases v with
 | tup xs =>
  obtain ⟨ys,e1,e⟩:=bnd e
  cases tupF_eq e1
  exact q_catT I rx ry hs hv hw e k
 | lst xs =>
  obtain ⟨ys,e1,e⟩:=bnd e
  cases lstF_eq e1
  obtain ⟨hc,rfl⟩:=itd e
  obtain ⟨a,as,rfl,ha,ra⟩:=hv.lst hs
  obtain ⟨b,bs,rfl,hb,rb⟩:=hw.lst hs
  have l1:=ra.length
  have l2:=rb.length
  have hl:=big_line
  exact op_cat pins s σ H _ _ u1 u2 Q I rx ry ⟨a,b,as,bs,rfl,rfl,ha,hb,by lia,fun p hp=>k.lst _ _ p rfl (ra.append rb) hp⟩
 | _=>exact q_addI pins s σ H x y u1 u2 Q I rx ry ⟨S,_,w,z,hs,hv,hw,e,k⟩
theorem q_mul:OpR X (binaryOp .Mult) (Rq X.K mulF):=by
 intro pins s σ H x y u1 u2 Q I rx ry ⟨S,v,w,z,hs,hv,hw,e,k⟩
 cases v with
 | lst xs =>
  obtain ⟨j,e1,e⟩:=bnd e
  cases intF_eq e1
  obtain ⟨hc,rfl⟩:=itd e
  obtain ⟨a,as,rfl,ha,ra⟩:=hv.lst hs
  obtain rfl:=hw.int
  have l1:=ra.length
  have hl:=big_line
  exact op_rep pins s σ H _ _ u1 u2 Q I rx ry ⟨a,j,as,rfl,rfl,ha,hc.1,hc.2.1,by rw [← l1]; lia,fun p hp=>k.lst _ _ p rfl (ra.rep _) hp⟩
 | _=>exact q_mulI pins s σ H x y u1 u2 Q I rx ry ⟨S,_,w,z,hs,hv,hw,e,k⟩
theorem intsF_rel:∀ {ps:List FV} {xs:List V} {ns:List Int},RVs K S ps xs→intsF ps=some ns→xs=ns.map V.int
 | [],xs,ns,r,e=>by cases (show xs=[] from r); cases e; rfl
 | p :: ps,xs,ns,r,e=>by
  obtain ⟨v,q,rfl,h1,h2⟩:=r
  cases p with
  | int i =>
   obtain ⟨ms,z,rfl⟩:=mpd (show (intsF ps).map (i :: ·)=some ns from e)
   rw [intsF_rel h2 z,List.map_cons,show v=.int i from h1]
  | _=>cases e
theorem boolsF_rel:∀ {ps:List FV} {xs:List V} {ns:List Bool},RVs K S ps xs→boolsF ps=some ns→xs=ns.map V.bl
 | [],xs,ns,r,e=>by cases (show xs=[] from r); cases e; rfl
 | p :: ps,xs,ns,r,e=>by
  obtain ⟨v,q,rfl,h1,h2⟩:=r
  cases p with
  | bl i =>
   obtain ⟨ms,z,rfl⟩:=mpd (show (boolsF ps).map (i :: ·)=some ns from e)
   rw [boolsF_rel h2 z,List.map_cons,show v=.bl i from h1]
  | _=>cases e
theorem lex_eq:∀ a b:List Int,Kq.lexLt a b=HT.lexLt a b
 | [],[]=>rfl
 | [],_ :: _=>rfl
 | _ :: _,[]=>rfl
 | a :: r,b :: q=>by
  show (if a=b then Kq.lexLt r q else decide (a < b))=_
  rw [lex_eq r q]; rfl
theorem lexle_eq:∀ a b:List Int,Kq.lexLe a b=HT.lexLe a b
 | [],[]=>rfl
 | [],_ :: _=>rfl
 | _ :: _,[]=>rfl
 | a :: r,b :: q=>by
  show (if a=b then Kq.lexLe r q else decide (a≤b))=_
  rw [lexle_eq r q]; rfl
theorem q_lt (hu:X.A.units + 64 < cLine):OpR X (compareOp .Lt) (Rq X.K ltB):=by
 intro pins s σ H x y u1 u2 Q I rx ry ⟨S,v,w,z,hs,hv,hw,e,k⟩
 cases v with
 | tup xs =>
  obtain ⟨ys,e1,e⟩:=bnd e
  cases tupF_eq e1
  obtain ⟨ns,e2,e⟩:=bnd e
  obtain ⟨ms,e3,e⟩:=bnd e
  cases e
  obtain ⟨a,as,rfl,ha,ra⟩:=hv.tup hs
  obtain ⟨b,bs,rfl,hb,rb⟩:=hw.tup hs
  cases intsF_rel ra e2; cases intsF_rel rb e3
  exact op_ltT (by lia) pins s σ H _ _ u1 u2 Q I rx ry ⟨a,b,ns,ms,rfl,rfl,SqT.of ha,SqT.of hb,by rw [← lex_eq]; exact k.bl⟩
 | _=>exact q_ltI pins s σ H x y u1 u2 Q I rx ry ⟨S,_,w,z,hs,hv,hw,e,k⟩
theorem q_le (hu:X.A.units + 64 < cLine):OpR X (compareOp .LtE) (Rq X.K leB):=by
 intro pins s σ H x y u1 u2 Q I rx ry ⟨S,v,w,z,hs,hv,hw,e,k⟩
 cases v with
 | tup xs =>
  obtain ⟨ys,e1,e⟩:=bnd e
  cases tupF_eq e1
  obtain ⟨ns,e2,e⟩:=bnd e
  obtain ⟨ms,e3,e⟩:=bnd e
  cases e
  obtain ⟨a,as,rfl,ha,ra⟩:=hv.tup hs
  obtain ⟨b,bs,rfl,hb,rb⟩:=hw.tup hs
  cases intsF_rel ra e2; cases intsF_rel rb e3
  exact op_leT (by lia) pins s σ H _ _ u1 u2 Q I rx ry ⟨a,b,ns,ms,rfl,rfl,SqT.of ha,SqT.of hb,by rw [← lexle_eq]; exact k.bl⟩
 | _=>exact q_leI pins s σ H x y u1 u2 Q I rx ry ⟨S,_,w,z,hs,hv,hw,e,k⟩
theorem eqF_in {p q:FV} {b:Bool} (e:eqF p q=some b):(∃ d,p=.shn d∧q=.shn d∧b=true) ∨ ∃ x y,fD deepest p=some x∧fD deepest q=some y∧b=D.eqv x y:=by
 have gen:eqD p q=some b→∃ x y,fD deepest p=some x∧fD deepest q=some y∧b=D.eqv x y:=fun e=>by
  obtain ⟨x,e1,e⟩:=bnd e
  obtain ⟨y,e2,e⟩:=bnd e
  cases e
  exact ⟨x,y,e1,e2,rfl⟩
 unfold eqF at e
 split at e
 ·obtain ⟨rfl,rfl⟩:=@itd _ _ (Classical.propDecidable _) _ _ e
  exact .inl ⟨_,rfl,rfl,rfl⟩
 ·exact .inr (gen e)
theorem q_eqD (hu:X.A.units + 64 < cLine) (neg:Bool):OpR X (compareOp (if neg then .NotEq else .Eq)) (Rq X.K fun p q=>(eqF p q).map fun r=>.bl (neg != r)):=by
 intro pins s σ H x y v u Q I rx ry ⟨S,p,q,z,hs,rp,rq,e,k⟩
 obtain ⟨b,e',rfl⟩:=mpd (show (eqF p q).map (fun r=>FV.bl (neg != r))=some z from e)
 have fin:=k.bl
 rcases eqF_in e' with ⟨d,rfl,rfl,rfl⟩ | ⟨dx,dy,e1,e2,rfl⟩
 ·obtain rfl:x=.str (dPy d).shown:=rp.val rfl
  obtain rfl:y=.str (dPy d).shown:=rq.val rfl
  cases neg with
  | false=>exact op_eq pins s σ H _ _ v u Q I rx ry ⟨rfl,by simpa using fin⟩
  | true=>exact op_ne pins s σ H _ _ v u Q I rx ry ⟨rfl,by simpa using fin⟩
 ·obtain ⟨as,ra⟩:=reads_of I hs rp rx e1
  obtain ⟨bs,rb⟩:=reads_of I hs rq ry e2
  have hd:X.A.units + min (dPy dx).depth (dPy dy).depth < cLine:=by
   have h1:=fD_depth e1
   unfold deepest at h1
   lia
  cases neg with
  | false=>exact PySem.SeqAt.compareEq_reads ra rb (d_lay dx) (d_lay dy) hd ⟨.bl _,H,I,rfl,by rw [d_eqv]; simpa using fin⟩
  | true=>exact PySem.SeqAt.compareNe_reads ra rb (d_lay dx) (d_lay dy) hd ⟨.bl _,H,I,rfl,by rw [d_eqv]; simpa using fin⟩
theorem q_eq (hu:X.A.units + 64 < cLine):OpR X (compareOp .Eq) (Rq X.K eqB):=fun pins s σ H x y v u Q I rx ry q1=>by obtain ⟨S,p,q,z,hs,rp,rq,e,k⟩:=q1; exact q_eqD hu false pins s σ H x y v u Q I rx ry ⟨S,p,q,z,hs,rp,rq,by
 obtain ⟨b,e1,rfl⟩:=mpd e
 show (eqF p q).map _=_
 rw [e1]; cases b <;> rfl,k⟩
theorem q_ne (hu:X.A.units + 64 < cLine):OpR X (compareOp .NotEq) (Rq X.K neB):=fun pins s σ H x y v u Q I rx ry q1=>by obtain ⟨S,p,q,z,hs,rp,rq,e,k⟩:=q1; exact q_eqD hu true pins s σ H x y v u Q I rx ry ⟨S,p,q,z,hs,rp,rq,by
 obtain ⟨b,e1,rfl⟩:=mpd e
 show (eqF p q).map _=_
 rw [e1]; cases b <;> rfl,k⟩
theorem atF_rel {ps:List FV} {xs:List V} {i:Int} {p:FV} (r:RVs K S ps xs) (e:atF ps i=some p):∃ v,L2.atI xs i=some v∧RV K S p v:=by
 obtain ⟨j,e1,e2⟩:=bnd e
 obtain ⟨v,h1,h2⟩:=r.get e2
 refine ⟨v,?_,h2⟩
 show (L2.ixN xs.length i).bind (fun j=>xs[j]?)=some v
 rw [← r.length,show L2.ixN ps.length i=some j from e1]
 exact h1
inductive Ri (K:PySem.W.Frag) (x:V) (y:V) (H:Hp) (Q:VK):Prop
 | mk (S:_) (v:_) (w:_) (z:_) (_:Same S H) (_:RH K S H v x) (_:RH K S H w y) (_:ixF v w=some z) (_:∀ u,RV K S z u→Q u H):Ri K x y H Q
theorem q_ix:IxR X (Ri X.K):=by
 intro value slice pins s σ H x y v u Q I rx ry ⟨S,p,q,z,hs,rp,rq,e,k⟩ hsl
 obtain ⟨j,e1,e3⟩:=bnd e
 obtain ⟨ps,e2,e4⟩:=bnd e3
 cases intF_eq e1
 obtain rfl:=rq.int
 obtain ⟨a,xs,rfl,hq,r⟩:=rp.seq hs e2
 obtain ⟨w,h1,h2⟩:=atF_rel r e4
 cases hb:isL p with
 | true=>rw [hb] at hq; exact ix_list value slice pins s σ H _ _ v u Q I rx ry ⟨a,xs,j,w,rfl,rfl,hq,h1,k w h2⟩ hsl
 | false=>rw [hb] at hq; exact ix_tup value slice pins s σ H _ _ v u Q I rx ry ⟨a,xs,j,w,rfl,rfl,hq,h1,k w h2⟩ hsl
theorem sIx_eq (n d:Nat) (o:Option Int):Kq.sIx n d o=HT.sIx n d o:=by
 cases o with
 | none=>rfl
 | some v=>simp only [Kq.sIx,HT.sIx]; try (split <;> split <;> lia)
theorem cut_rel {ps:List FV} {xs:List V} {lo hi:Option Int} (r:RVs K S ps xs):RVs K S (cutF ps lo hi) (cutV xs lo hi):=by
 unfold cutF cutV
 rw [sIx_eq,sIx_eq,r.length]
 exact (r.drop _).take _
inductive Rsl (K:PySem.W.Frag) (x:V) (lo:Option Int) (hi:Option Int) (H:Hp) (Q:VK):Prop
 | mk (S:_) (v:_) (z:_) (_:Same S H) (_:RH K S H v x) (_:sliceF v lo hi=some z) (_:NewOr K S H Q z):Rsl K x lo hi H Q
theorem q_sl:SlR X (Rsl X.K):=by
 intro pins s σ H x v vl vu lo hi sl Q I rx hsl pl pu ⟨S,p,z,hs,rp,e,k⟩
 cases p with
 | tup ps =>
  cases e
  have rv:=rp.val rfl
  obtain ⟨a,xs,rfl,ha,ra⟩:=rp.tup hs
  by_cases hc:HT.sIx xs.length 0 lo=0∧HT.sIx xs.length xs.length hi=xs.length
  ·refine sl_whole pins s σ H _ v vl vu lo hi sl Q I rx hsl pl pu ⟨a,xs,rfl,SqT.of ha,hc.1,hc.2,k.old _ (fun _ z=>nomatch z) ?_⟩
   have e:cutF ps lo hi=ps:=by
    unfold cutF
    rw [sIx_eq,sIx_eq,ra.length,hc.1,hc.2,List.drop_zero,Nat.sub_zero,List.take_of_length_le (Nat.le_of_eq ra.length)]
   rw [e]; exact rv
  ·exact sl_tup pins s σ H _ v vl vu lo hi sl Q I rx hsl pl pu ⟨a,xs,rfl,SqT.of ha,hc,fun p hp=>k.tup _ _ p rfl (cut_rel ra) hp⟩
 | lst ps =>
  cases e
  obtain ⟨a,xs,rfl,ha,ra⟩:=rp.lst hs
  exact sl_list pins s σ H _ v vl vu lo hi sl Q I rx hsl pl pu ⟨a,xs,rfl,SqL.of ha,fun p hp=>k.lst _ _ p rfl (cut_rel ra) hp⟩
 | _=>cases e
end
section
variable {X:Cx}{K:PySem.W.Frag}{H:Hp}{Q:VK}
inductive Rc (K:PySem.W.Frag) (f:FV→Option FV) (xs:List V) (H:Hp) (Q:VK):Prop
 | mk (S:_) (v:_) (x:_) (z:_) (_:xs=[x]) (_:Same S H) (_:RH K S H v x) (_:f v=some z) (_:NewOr K S H Q z):Rc K f xs H Q
inductive Rc2 (K:PySem.W.Frag) (f:FV→FV→Option FV) (xs:List V) (H:Hp) (Q:VK):Prop
 | mk (S:_) (v:_) (w:_) (x:_) (y:_) (z:_) (_:xs=[x,y]) (_:Same S H) (_:RH K S H v x) (_:RH K S H w y) (_:f v w=some z) (_:NewOr K S H Q z):Rc2 K f xs H Q
theorem sq_or {b:Bool} {a:Addr} {xs:List V} (h:SqB b K H a xs):SqL K H a xs ∨ SqT K H a xs:=by cases b; exact .inr h; exact .inl h
theorem c_len:CallR X (.builtin "len") (Rc X.K lenF):=by
 rintro pins s σ H xs us Q I r ⟨S,v,x,z,rfl,hs,rv,e,k⟩
 obtain ⟨ps,e1,rfl⟩:=mpd e
 obtain ⟨a,ys,rfl,hq,ry⟩:=rv.seq hs e1
 refine call_len_seq pins s σ H _ us Q I r ⟨a,ys,rfl,sq_or hq,?_⟩
 rw [← ry.length]
 exact k.int
theorem c_abs:CallR X (.builtin "abs") (Rc X.K absF):=by
 rintro pins s σ H xs us Q I r ⟨S,v,x,z,rfl,hs,rv,e,k⟩
 obtain ⟨i,e1,rfl⟩:=mpd e
 cases intF_eq e1
 obtain rfl:=rv.int
 exact call_abs pins s σ H _ us Q I r ⟨i,rfl,k.int⟩
theorem c_int:CallR X (.type "int") (Rc X.K toIntF):=by
 rintro pins s σ H xs us Q I r ⟨S,v,x,z,rfl,hs,rv,e,k⟩
 cases v with
 | int i =>
  cases e
  obtain rfl:=rv.int
  exact call_int1 pins s σ H _ us Q I r (.inl ⟨i,rfl,k.int⟩)
 | bl b =>
  cases e
  obtain rfl:=rv.bl
  exact call_int1 pins s σ H _ us Q I r (.inr ⟨b,rfl,k.int⟩)
 | _=>cases e
theorem c_tuple:CallR X (.type "tuple") (Rc X.K tupleF):=by
 rintro pins s σ H xs us Q I r ⟨S,v,x,z,rfl,hs,rv,e,k⟩
 obtain ⟨ps,e1,rfl⟩:=mpd e
 obtain ⟨a,ys,rfl,hq,ry⟩:=rv.seq hs e1
 cases v with
 | tup qs=>cases e1; exact call_tuple_of pins s σ H _ us Q I r ⟨a,ys,rfl,.inr ⟨hq,k.old _ (fun _ z=>nomatch z) (rv.val rfl)⟩⟩
 | lst qs=>exact call_tuple_of pins s σ H _ us Q I r ⟨a,ys,rfl,.inl ⟨hq,fun l hl=>k.tup _ _ l rfl ry hl⟩⟩
 | scr qs=>exact call_tuple_of pins s σ H _ us Q I r ⟨a,ys,rfl,.inl ⟨hq,fun l hl=>k.tup _ _ l rfl ry hl⟩⟩
 | _=>cases e1
theorem c_min2 (hc:X.calm=true):CallR X (.builtin "min") (Rc2 X.K min2F):=by
 rintro pins s σ H xs us Q I r ⟨S,v,w,x,y,z,rfl,hs,rv,rw',e,k⟩
 obtain ⟨i,e1,e2⟩:=bnd e
 obtain ⟨j,e3,e4⟩:=bnd e2
 cases intF_eq e1; cases intF_eq e3; cases e4
 obtain rfl:=rv.int
 obtain rfl:=rw'.int
 exact call_min2 hc pins s σ H _ us Q I r ⟨i,j,rfl,k.int⟩
theorem c_max2 (hc:X.calm=true):CallR X (.builtin "max") (Rc2 X.K max2F):=by
 rintro pins s σ H xs us Q I r ⟨S,v,w,x,y,z,rfl,hs,rv,rw',e,k⟩
 obtain ⟨i,e1,e2⟩:=bnd e
 obtain ⟨j,e3,e4⟩:=bnd e2
 cases intF_eq e1; cases intF_eq e3; cases e4
 obtain rfl:=rv.int
 obtain rfl:=rw'.int
 exact call_max2 hc pins s σ H _ us Q I r ⟨i,j,rfl,k.int⟩
theorem Vals.mapInt {ns:List Int}:∀ {us:List Value},Vals (ns.map V.int) us→∀ i:Nat,i < ns.length→∃ t,us[i]?=some (.int (ns.getD i 0) t):=fun {us} r i hi=>by
 obtain ⟨u,e,t,rfl⟩:=r.get (i:=i) (x:=.int (ns.getD i 0)) (by simp [hi])
 exact ⟨t,e⟩
theorem preSum_take (ns:List Int):∀ j,j≤ns.length→preSum (fun i=>ns.getD i 0) j=(ns.take j).sum
 | 0,_=>by simp [preSum]
 | j + 1,h=>by
  have hj:j < ns.length:=h
  show preSum _ j + ns.getD j 0=_
  rw [preSum_take ns j (by lia),List.take_succ_eq_append_getElem hj,List.sum_append]
  simp [List.getD,hj]
theorem sum_le (B:Int) (hB:0≤B):∀ ns:List Int,(∀ n∈ns,-B≤n∧n≤B)→-(B * ns.length)≤ns.sum∧ns.sum≤B * ns.length
 | [],_=>by simp
 | n :: r,h=>by
  have ih:=sum_le B hB r fun m hm=>h m (List.mem_cons_of_mem _ hm)
  have hn:=h n List.mem_cons_self
  rw [List.sum_cons,List.length_cons]
  have e:B * ((r.length + 1:Nat):Int)=B * (r.length:Int) + B:=by rw [Int.natCast_add,Int.mul_add]; simp
  rw [e]
  lia
theorem call_sum_l (hc:X.calm=true):CallR X (.builtin "sum") (fun xs H Q=>∃ (a:Addr) (ns:List Int),xs=[.ref a]∧SqL X.K H a (ns.map V.int)∧ns.length≤big∧(∀ n∈ns,-(2 ^ 40)≤n∧n≤2 ^ 40)∧Q (.int ns.sum) H):=by
 intro pins s σ H xs us Q I r h
 obtain ⟨a,ns,rfl,hq,hz,hb,q⟩:=h
 obtain ⟨u,rfl,rx⟩:=vals1 r
 cases rx
 obtain ⟨its,r',pl,hz'⟩:=I.list hq
 have hlen:ns.length=its.length:=by have:=r'.length; simpa using this
 have alt:a < s.heap.objs.size:=by obtain ⟨_,e,_⟩:=pl.isList; exact Heap.lt_size e
 have hh:X.A.in1.handled=none:=I.ok.hd hc
 refine call_sum_walk (wpAny_pyIter_list pl.isList ?_)
 refine ⟨s.heap.objs.size,_,_,_,_,_,fun i=>ns.getD i 0,rfl,Walks.list hh s.heap.objs.size a (Nat.ne_of_lt alt) its.toArray,⟨⟨_,Heap.get?_push_size _ rfl,rfl,rfl⟩,pl.isList.at fun o e=>Heap.get?_push_of_some _ e⟩,?_,?_,?_,?_⟩
 ·intro b hb'
  simp at hb'
  rcases hb' with rfl | rfl
  ·show _ < (s.heap.push _).objs.size; rw [Heap.size_push]; exact Nat.lt_succ_self _
  ·show _ < (s.heap.push _).objs.size; rw [Heap.size_push]; exact Nat.lt_succ_of_lt alt
 ·intro i v hv
  have hv:its.toArray[i]?=some v:=hv
  have hi:i < ns.length:=by rw [hlen]; simpa using (Array.getElem?_eq_some_iff.mp hv).1
  obtain ⟨t,e⟩:=Vals.mapInt r' i hi
  refine ⟨t,?_⟩
  have e':its.toArray[i]?=some (.int (ns.getD i 0) t):=by simpa using e
  rw [hv] at e'
  exact Option.some.inj e'
 ·intro j hj
  have hj':j < ns.length:=by rw [hlen]; simpa using hj
  have hm:ns.getD j 0∈ns:=by simp [List.getD,hj']
  refine ⟨?_,?_⟩
  ·have:=hb _ hm
   show -(2 ^ 63)≤ns.getD j 0∧ns.getD j 0 < 2 ^ 63
   lia
  ·rw [preSum_take ns (j + 1) hj']
   have b2:=sum_le 1099511627776 (by decide) (ns.take (j + 1)) fun n hn=>by have:=hb n (List.mem_of_mem_take hn); lia
   have l2:(ns.take (j + 1)).length≤100000:=by rw [List.length_take]; unfold big at hz; lia
   unfold InLong; lia
 ·intro h' tk t' hk
  have e:preSum (fun i=>ns.getD i 0) its.toArray.size=ns.sum:=by
   rw [List.size_toArray,← hlen,preSum_take ns _ (Nat.le_refl _),List.take_length]
  rw [e]
  refine ⟨.int ns.sum,H,?_,⟨t',rfl⟩,q⟩
  exact I.kept (t':=tk) fun b o e=>hk b o (by simp; exact Nat.ne_of_lt (Heap.lt_size e)) (Heap.get?_push_of_some _ e)
theorem truth_bl {prog:Program} {w:World} {A:Around} {its:List Value} {bs:List Bool} (r:Vals (bs.map V.bl) its):TruthOf prog w A (fun i v=>its.toArray[i]?=some v) (fun i=>bs.getD i false):=by
 intro i v s Q E hv hq
 have hlen:bs.length=its.length:=by have:=r.length; simpa using this
 have hi:i < bs.length:=by rw [hlen]; simpa using (Array.getElem?_eq_some_iff.mp hv).1
 obtain ⟨u,e,ru⟩:=r.get (i:=i) (x:=.bl (bs.getD i false)) (by simp [hi])
 have e':its.toArray[i]?=some u:=by simpa using e
 rw [hv] at e'
 cases e'
 cases ru
 exact wpAny_pure hq
theorem range_all (bs:List Bool):(List.range bs.length).all (fun i=>bs.getD i false)=bs.all id:=by
 rw [Bool.eq_iff_iff]
 simp only [List.all_eq_true,List.mem_range,id]
 constructor
 ·intro h b hb
  obtain ⟨i,hi,e⟩:=List.mem_iff_getElem.mp hb
  have:=h i hi
  simpa [List.getD,hi,e] using this
 ·intro h i hi
  have:=h bs[i] (List.getElem_mem hi)
  simpa [List.getD,hi] using this
theorem call_all_l (hc:X.calm=true):CallR X (.builtin "all") (fun xs H Q=>∃ (a:Addr) (bs:List Bool),xs=[.ref a]∧SqL X.K H a (bs.map V.bl)∧Q (.bl (bs.all id)) H):=by
 intro pins s σ H xs us Q I r h
 obtain ⟨a,bs,rfl,hq,q⟩:=h
 obtain ⟨u,rfl,rx⟩:=vals1 r
 cases rx
 obtain ⟨its,r',pl,hz'⟩:=I.list hq
 have hlen:bs.length=its.length:=by have:=r'.length; simpa using this
 have alt:a < s.heap.objs.size:=by obtain ⟨_,e,_⟩:=pl.isList; exact Heap.lt_size e
 have hh:X.A.in1.handled=none:=I.ok.hd hc
 refine call_all_walk (wpAny_pyIter_list pl.isList ?_)
 refine ⟨s.heap.objs.size,_,_,_,_,_,fun i=>bs.getD i false,rfl,Walks.list hh s.heap.objs.size a (Nat.ne_of_lt alt) its.toArray,⟨⟨_,Heap.get?_push_size _ rfl,rfl,rfl⟩,pl.isList.at fun o e=>Heap.get?_push_of_some _ e⟩,truth_bl r',?_⟩
 intro h' tk hk
 rw [List.size_toArray,← hlen,range_all]
 exact ⟨.bl _,H,I.kept (t':=tk) fun b o e=>hk b o (by simp; exact Nat.ne_of_lt (Heap.lt_size e)) (Heap.get?_push_of_some _ e),rfl,q⟩
theorem c_sum (hc:X.calm=true):CallR X (.builtin "sum") (Rc X.K sumF):=by
 rintro pins s σ H xs us Q I r ⟨S,v,x,z,rfl,hs,rv,e,k⟩
 obtain ⟨ps,e1,e2⟩:=bnd e
 obtain ⟨n,e3,rfl⟩:=mpd e2
 obtain ⟨ns,e4,e5⟩:=bnd e3
 obtain ⟨hb,rfl⟩:=itd e5
 obtain ⟨a,ys,rfl,hq,ry⟩:=rv.list hs e1
 cases intsF_rel ry e4
 refine call_sum_l hc pins s σ H _ us Q I r ⟨a,ns,rfl,hq,hb.1,fun n hn=>?_,k.int⟩
 have:=List.all_eq_true.mp hb.2 n hn
 simpa [small40] using this
theorem c_all (hc:X.calm=true):CallR X (.builtin "all") (Rc X.K allF):=by
 rintro pins s σ H xs us Q I r ⟨S,v,x,z,rfl,hs,rv,e,k⟩
 obtain ⟨ps,e1,e2⟩:=bnd e
 obtain ⟨bs,e3,rfl⟩:=mpd e2
 obtain ⟨a,ys,rfl,hq,ry⟩:=rv.list hs e1
 cases boolsF_rel ry e3
 exact call_all_l hc pins s σ H _ us Q I r ⟨a,bs,rfl,hq,k.bl⟩
end
structure CC where
 N:List Str
 sc:List (Str×NameKind)
 fns:List Str
 md:Md
 top:Bool
 oc:List (Str×NameKind)
 ms:List (Str×Addr×Str)
 fl:List (Addr×Str)
def CC.vis (C:CC) (x:Str):Bool:=match C.sc.lookup x with
 | some .local=>true
 | some .cell=>true
 | some .free=>true
 | _=>false
def CC.gl (C:CC) (x:Str):Bool:=decide (C.sc.lookup x=some .globalImplicit)
def CC.loc (C:CC) (x:Str):Bool:=match C.sc.lookup x with
 | some .local=>true
 | some .cell=>C.top || C.oc.lookup x == some .cell
 | _=>false
def CC.nm (C:CC) (i:Nat) (x:Str):Bool:=decide (C.N[i]?=some x) && C.vis x && !(x == ("__debug__":Str)) && !(x == ("__classdict__":Str))
inductive MtOk (P:Program) (w:World) (K:PySem.W.Frag) (mg:Str→Option Value) (base:Heap) (n:Nat) (s:Sp) (c:Str) (Ca:Addr) (m:Str):Prop
 | mk (fa:_) (fd:_) (ps:_) (_:mg c=some (.ref Ca)) (_:Cls K Ca) (_:(m=("__init__":Str)→Mk K Ca fa)) (_:(m≠("__init__":Str)→Meth K Ca m fa)) (_:Binds K fd ps []) (_:FnOk P w K mg base CX0 n fa fd ps s):MtOk P w K mg base n s c Ca m
structure Good (X:Cx) (C:CC) (n:Nat) (sp:PySem.W.Frag→Nat→Sp):Prop where
 N:X.N=C.N
 sc:X.env.scope.names=C.sc
 kind:X.env.scope.kind=.function
 nd:C.N.Nodup
 calm:X.calm=true
 fn:∀ x,(C.top || C.oc.lookup x == some .cell)=true→X.fn x=true
 room:RoomS n X.A
 fns:∀ (f:Nat) (x:Str),C.fns[f]?=some x→∃ fa fd ps,X.mg x=some (.ref fa)∧PySem.W.keepIn X.K (.ref fa)=true∧Binds X.K fd ps []∧FnOk X.prog X.w X.K X.mg X.base CX0 n fa fd ps (sp X.K f)
 blt:∀ b∈bltNames,X.mg (Str.ofString b)=none
 mts:∀ (k:Nat) (c:Str) (Ca:Addr) (m:Str),C.ms[k]?=some (c,Ca,m)→MtOk X.prog X.w X.K X.mg X.base n (sp X.K (C.fns.length + k)) c Ca m
 fls:∀ p∈C.fl,Cls X.K p.1∧NoAttr X.K p.1 p.2
theorem b2 {a b:Bool} (h:(a && b)=true):a=true∧b=true:=by simpa using h
theorem nb {a:Bool} (h:(!a)=true):a=false:=by simpa using h
theorem de {p:Prop} [Decidable p] (h:decide p=true):p:=by simpa using h
inductive lv (K:PySem.W.Frag) (md:Md) (e:EW) (σ:L2.St) (H:Hp) (Q:VK):Prop
 | mk (c:_) (L:_) (S:_) (Q0:_) (_:Iv K c md L σ S H) (_:e L Q0) (_:∀ v L',Q0 v L'→∀ x S' H',RV K S' v x→Iv K c md L' σ S' H'→Same S S'→Q x H'):lv K md e σ H Q
inductive lr (K:PySem.W.Frag) (md:Md) (e:EW) (σ:L2.St) (H:Hp) (Q:VK):Prop
 | mk (c:_) (L:_) (S:_) (Q0:_) (_:Iv K c md L σ S H) (_:e L Q0) (_:∀ v L',Q0 v L'→∀ x S' H',RH K S' H' v x→Iv K c md L' σ S' H'→Same S S'→Q x H'):lr K md e σ H Q
def Fresh (c:Cn) (md:Md) (L:FLoc) (σ:L2.St) (a:Addr):Prop:=c.H0 a=none∧(∀ p∈c.pr,p.1≠a)∧∀ j w,mdAt md j≠.imm→L[j]?=some (some w)→σ[j]?≠some (some (.ref a))
inductive lf (K:PySem.W.Frag) (md:Md) (e:EW) (σ:L2.St) (H:Hp) (Q:VK):Prop
 | mk (c:_) (L:_) (S:_) (Q0:_) (_:Iv K c md L σ S H) (_:e L Q0) (_:∀ v L',Q0 v L'→∀ a S' H',OwnAt K S' H' a v→Fresh c md L' σ a→Iv K c md L' σ S' H'→Same S S'→Q (.ref a) H'):lf K md e σ H Q
inductive lb (K:PySem.W.Frag) (md:Md) (e:BW) (σ:L2.St) (H:Hp) (Q:Bool→Hp→Prop):Prop
 | mk (c:_) (L:_) (S:_) (Q0:_) (_:Iv K c md L σ S H) (_:e L Q0) (_:∀ v L',Q0 v L'→∀ S' H',Iv K c md L' σ S' H'→Same S S'→Q v H'):lb K md e σ H Q
inductive la (K:PySem.W.Frag) (md:Md) (e:AW) (σ:L2.St) (H:Hp) (Q:List V→Hp→Prop):Prop
 | mk (c:_) (L:_) (S:_) (Q0:_) (_:Iv K c md L σ S H) (_:e L Q0) (_:∀ v L',Q0 v L'→∀ x S' H',RVs K S' v x→Iv K c md L' σ S' H'→Same S S'→Q x H'):la K md e σ H Q
inductive lo (K:PySem.W.Frag) (md:Md) (e:OW) (σ:L2.St) (H:Hp) (Q:Option Int→Hp→Prop):Prop
 | mk (c:_) (L:_) (S:_) (Q0:_) (_:Iv K c md L σ S H) (_:e L Q0) (_:∀ v L',Q0 v L'→∀ S' H',Iv K c md L' σ S' H'→Same S S'→Q v H'):lo K md e σ H Q
def FE (X:Cx) (C:CC) (x:Expr) (e:EW):Prop:=PE X.nox x (lv X.K C.md e)
def FR (X:Cx) (C:CC) (x:Expr) (e:EW):Prop:=PE X.nox x (lr X.K C.md e)
def FF (X:Cx) (C:CC) (x:Expr) (e:EW):Prop:=PE X.nox x (lf X.K C.md e)
def FB (X:Cx) (C:CC) (x:Expr) (e:BW):Prop:=PT X.nox x (lb X.K C.md e)
def FW (X:Cx) (C:CC) (x:Expr) (e:BW):Prop:=PW X.nox x (lb X.K C.md e)
def FA (X:Cx) (C:CC) (x:List Expr) (e:AW):Prop:=PA X.nox x (la X.K C.md e)
def FO (X:Cx) (C:CC) (x:Option Expr) (e:OW):Prop:=L2.PO X.nox x (lo X.K C.md e)
section
variable {X:Cx}
theorem PE.imp {e:Expr} {t u:TE} (h:PE X e t) (f:∀ σ H Q,u σ H Q→t σ H Q):PE X e u:=fun pins s σ H Q I hu=>h pins s σ H Q I (f σ H Q hu)
theorem PT.imp {e:Expr} {t u:TT} (h:PT X e t) (f:∀ σ H Q,u σ H Q→t σ H Q):PT X e u:=fun pins s σ H Q I hu=>h pins s σ H Q I (f σ H Q hu)
theorem PW.imp {e:Expr} {t u:TT} (h:PW X e t) (f:∀ σ H Q,u σ H Q→t σ H Q):PW X e u:=fun w pins s σ H Q I hu=>h w pins s σ H Q I (f σ H Q hu)
theorem PA.imp {e:List Expr} {t u:TA} (h:PA X e t) (f:∀ σ H Q,u σ H Q→t σ H Q):PA X e u:=fun p pins s σ H Q I hu=>h p pins s σ H Q I (f σ H Q hu)
theorem PO.imp {e:Option Expr} {t u:TO} (h:L2.PO X e t) (f:∀ σ H Q,u σ H Q→t σ H Q):L2.PO X e u:=fun pins s σ H Q I hu=>h pins s σ H Q I (f σ H Q hu)
end
section
variable {X:Cx}{C:CC}{n:Nat}{sp:PySem.W.Frag→Nat→Sp}
theorem Good.vis (G:Good X C n sp) {x:Str} (h:C.vis x=true):Vis X.env.scope x:=by
 unfold CC.vis at h
 unfold Vis
 rw [G.sc]
 split at h
 ·rename_i e; exact .inl e
 ·rename_i e; exact .inr (.inl e)
 ·rename_i e; exact .inr (.inr e)
 ·cases h
theorem Good.gl (G:Good X C n sp) {x:Str} (h:C.gl x=true):Gl X x:=by
 show X.env.scope.names.lookup x=_
 rw [G.sc]; exact de h
theorem Good.loc (G:Good X C n sp) {x:Str} (h:C.loc x=true):L2.Loc X.env.scope x∧(X.fn x=true ∨ X.env.scope.names.lookup x=some .local):=by
 unfold CC.loc at h
 unfold L2.Loc
 rw [G.sc]
 split at h
 ·rename_i e; exact ⟨.inl e,.inr e⟩
 ·rename_i e; exact ⟨.inr e,.inl (G.fn x h)⟩
 ·cases h
variable {K:PySem.W.Frag}{c:Cn}{md:Md}{L:FLoc}{σ:L2.St}{S H:Hp}
theorem Iv.rd (I:Iv K c md L σ S H) {i:Nat} {v:FV} (e:lk L i=some v):∃ x,σ[i]?=some (some x)∧RH K S H v x:=by
 rw [lk_eq] at e
 by_cases m:mdAt md i=.imm
 ·obtain ⟨x,h1,h2⟩:=I.imm i v m e
  exact ⟨x,h1,.inl h2⟩
 ·obtain ⟨a,h1,h2,_⟩:=I.own i v m e
  exact ⟨_,h1,.inr ⟨a,rfl,h2⟩⟩
theorem new_v {Q:VK} {z:FV} (I:Iv K c md L σ S H) (k:∀ x S' H',RV K S' z x→Iv K c md L σ S' H'→Same S S'→Q x H'):NewOr K S H Q z where
 old:=fun x _ r=>k x S H r I (Same.refl S)
 tup:=fun ps xs p e r hp=>k _ _ _ (by rw [e]; exact ⟨p,xs,rfl,upd_same,r.mono (same_upd (I.sn hp))⟩) (I.new hp _) (same_upd (I.sn hp))
 lst:=fun ps xs p e r hp=>k _ _ _ (by rw [e]; exact ⟨p,xs,rfl,upd_same,r.mono (same_upd (I.sn hp))⟩) (I.new hp _) (same_upd (I.sn hp))
theorem Iv.fresh (I:Iv K c md L σ S H) {p:Addr} (h:H p=none):Fresh c md L σ p:=by
 refine ⟨I.h0 h,fun q hq z=>?_,fun j w m e z=>?_⟩
 ·rw [← z,(I.prs q hq).1] at h; cases h
 ·obtain ⟨a,e1,⟨_,_,_,_,e2,_⟩,_⟩:=I.own j w m e
  rw [z] at e1; cases e1
  rw [h] at e2; cases e2
theorem new_f {Q:VK} {z:FV} (I:Iv K c md L σ S H) (hz:∃ ps,z=.lst ps) (k:∀ a S' H',OwnAt K S' H' a z→Fresh c md L σ a→Iv K c md L σ S' H'→Same S S'→Q (.ref a) H'):NewOr K S H Q z where
 old:=fun x n _=>let ⟨ps,e⟩:=hz; absurd e (n ps)
 tup:=fun ps xs p e r hp=>by obtain ⟨qs,e2⟩:=hz; rw [e2] at e; cases e
 lst:=fun ps xs p e r hp=>by subst e; exact k p S _ ⟨I.sn hp,ps,xs,rfl,upd_same,r⟩ (I.fresh hp) (I.lay hp _) (Same.refl S)
theorem fe_var (G:Good X C n sp) {i:Nat} {x:Str} {pos:Pos} (h:C.nm i x=true) (m:mdAt C.md i=.imm):FE X C (.Name x pos) (eVar i):=by
 have h:=b2 h; have h1:=b2 h.1; have h2:=b2 h1.1
 refine PE.imp (pe_var (by show X.N[i]?=_; rw [G.N]; exact de h2.1) (G.vis h2.2) (nb h1.2) (nb h.2)) fun σ H Q ⟨c,L,S,Q0,I,h,k⟩=>?_
 obtain ⟨v,e,q⟩:=wpx h
 obtain ⟨x,e1,r⟩:=I.imm i v m ((lk_eq _ _ _).mp e)
 exact ⟨x,e1,k v L q x S H r I (Same.refl S)⟩
theorem fr_var (G:Good X C n sp) {i:Nat} {x:Str} {pos:Pos} (h:C.nm i x=true):FR X C (.Name x pos) (eVar i):=by
 have h:=b2 h; have h1:=b2 h.1; have h2:=b2 h1.1
 refine PE.imp (pe_var (by show X.N[i]?=_; rw [G.N]; exact de h2.1) (G.vis h2.2) (nb h1.2) (nb h.2)) fun σ H Q ⟨c,L,S,Q0,I,h,k⟩=>?_
 obtain ⟨v,e,q⟩:=wpx h
 obtain ⟨x,e1,r⟩:=I.rd e
 exact ⟨x,e1,k v L q x S H r I (Same.refl S)⟩
theorem fr_of {x:Expr} {e:EW} (h:FE X C x e):FR X C x e:=PE.imp h fun σ H Q q1=>by obtain ⟨c,L,S,Q0,I,h,k⟩:=q1; exact ⟨c,L,S,Q0,I,h,fun v L' q x S' H' r=>k v L' q x S' H' (.inl r)⟩
theorem fe_c {x:Expr} {v:FV} {u:V} (h:PE X.nox x (tC u)) (r:∀ S,RV X.K S v u):FE X C x (eC v):=PE.imp h fun σ H Q q1=>by obtain ⟨c,L,S,Q0,I,h,k⟩:=q1; exact k v L h u S H (r S) I (Same.refl S)
theorem fe_int {i j pos}:FE X C (.Constant (.int i) j pos) (eC (.int i)):=fe_c pe_int fun _=>rfl
theorem fe_bl {i j pos}:FE X C (.Constant (.bool i) j pos) (eC (.bl i)):=fe_c pe_bl fun _=>rfl
theorem fe_non {j pos}:FE X C (.Constant .none j pos) (eC .non):=fe_c pe_non fun _=>rfl
theorem fe_str {i:String} {j pos}:FE X C (.Constant (.str (Str.ofString i)) j pos) (eC (.str i)):=fe_c pe_str fun _=>rfl
section
variable {f:FV→FV→Option FV}{a b:Expr}{ea eb:EW}{pos:Pos}{i:Nat}{x:Str}
theorem tv_name (G:Good X C n sp) (h:C.nm i x=true):PE X.nox (.Name x pos) (tVar i):=by
 have h:=b2 h; have h1:=b2 h.1; have h2:=b2 h1.1
 exact pe_var (by show X.N[i]?=_; rw [G.N]; exact de h2.1) (G.vis h2.2) (nb h1.2) (nb h.2)
theorem go2 {r:R2} {σ:L2.St} {H:Hp} {Q:VK} (hh:∃ (c:Cn) (L:FLoc) (S:Hp) (Q0:FV→FV→FLoc→Prop),Iv K c md L σ S H∧ea L (fun x L1=>eb L1 fun y L2=>Q0 x y L2)∧∀ v w L' S' H' x y,Q0 v w L'→RV K S' v x→RH K S' H' w y→Iv K c md L' σ S' H'→Same S S'→r x y H' Q):tOp r (lv K md ea) (lr K md eb) σ H Q:=by
 obtain ⟨c,L,S,Q0,I,h,k⟩:=hh
 exact ⟨c,L,S,_,I,h,fun v L1 hv x S1 H1 r1 I1 s1=>⟨c,L1,S1,_,I1,hv,fun w L2 hw y S2 H2 r2 I2 s2=>k v w L2 S2 H2 x y hw (r1.mono s2) r2 I2 (s1.trans s2)⟩⟩
theorem go2N {r:R2} {σ:L2.St} {H:Hp} {Q:VK} (hh:∃ (c:Cn) (L:FLoc) (S:Hp) (Q0:FV→FV→FLoc→Prop),Iv K c md L σ S H∧(wp (lk L i) fun _=>eb L fun y L1=>wp (lk L1 i) fun x=>Q0 x y L1)∧∀ v w L' S' H' x y,Q0 v w L'→RH K S' H' v x→RH K S' H' w y→Iv K c md L' σ S' H'→Same S S'→r x y H' Q):tOp r (tVar i) (lr K md eb) σ H Q:=by
 obtain ⟨c,L,S,Q0,I,h,k⟩:=hh
 obtain ⟨_,e,h⟩:=wpx h
 obtain ⟨x,e1,_⟩:=I.rd e
 refine ⟨x,e1,c,L,S,_,I,h,fun w L2 hw y S2 H2 r2 I2 s2=>?_⟩
 obtain ⟨v,e2,q⟩:=wpx hw
 obtain ⟨x',e3,r1⟩:=I2.rd e2
 rw [e1] at e3; cases e3
 exact k v w L2 S2 H2 x y q r1 r2 I2 s2
theorem rq_v {Q0:FV→FLoc→Prop} {Q:VK} {v w:FV} {x y:V} (I:Iv K c md L σ S H) (rv:RH K S H v x) (rw':RH K S H w y) (h:wp (f v w) fun z=>Q0 z L) (k:∀ z,Q0 z L→∀ x S' H',RV K S' z x→Iv K c md L σ S' H'→Same S S'→Q x H'):Rq K f x y H Q:=by
 obtain ⟨z,e,q⟩:=wpx h
 exact ⟨S,v,w,z,I.sub,rv,rw',e,new_v I (k z q)⟩
theorem op_v (h:PE X.nox a (tOp (Rq X.K f) (lv X.K C.md ea) (lr X.K C.md eb))):FE X C a (eOp f ea eb):=PE.imp h fun σ H Q ⟨c,L,S,Q0,I,h,k⟩ =>
 go2 ⟨c,L,S,fun x y L2=>wp (f x y) fun z=>Q0 z L2,I,h,fun v w L' S' H' x y q r1 r2 I' s'=>rq_v I' (.inl r1) r2 q fun z qz x S2 H2 r I2 s2=>k z L' qz x S2 H2 r I2 (s'.trans s2)⟩
variable {op:Operator}
theorem fe_op (ho:OpR X.nox (binaryOp op) (Rq X.K f)) (ha:FE X C a ea) (hb:FR X C b eb):FE X C (.BinOp a op b pos) (eOp f ea eb):=op_v (pe_op ho ha hb)
theorem fe_add (ha:FE X C a ea) (hb:FR X C b eb):FE X C (.BinOp a .Add b pos) (eOp addF ea eb):=fe_op q_add ha hb
theorem fe_sub (ha:FE X C a ea) (hb:FR X C b eb):FE X C (.BinOp a .Sub b pos) (eOp subF ea eb):=fe_op q_sub ha hb
theorem fe_mul (ha:FE X C a ea) (hb:FR X C b eb):FE X C (.BinOp a .Mult b pos) (eOp mulF ea eb):=fe_op q_mul ha hb
theorem fe_fdiv (ha:FE X C a ea) (hb:FR X C b eb):FE X C (.BinOp a .FloorDiv b pos) (eOp fdivF ea eb):=fe_op q_fdiv ha hb
theorem fe_mod (ha:FE X C a ea) (hb:FR X C b eb):FE X C (.BinOp a .Mod b pos) (eOp modF ea eb):=fe_op q_mod ha hb
theorem fe_pow (ha:FE X C a ea) (hb:FR X C b eb):FE X C (.BinOp a .Pow b pos) (eOp powF ea eb):=fe_op q_pow ha hb
variable {cop:CmpOp}
theorem fe_cmp (ho:OpR X.nox (compareOp cop) (Rq X.K f)) (ha:FE X C a ea) (hb:FR X C b eb) (hm:behindInMarks cop b=false):FE X C (.Compare a [cop] [b] pos) (eOp f ea eb):=op_v (pe_cmpR ho ha hb hm)
def TellsB (f:FV→FV→Option FV):Prop:=∀ v w z,f v w=some z→∃ b,z=.bl b
theorem test_v {Q0:Bool→FLoc→Prop} {Q:Bool→Hp→Prop} {v w:FV} {x y:V} (tb:TellsB f) (I:Iv K c md L σ S H) (rv:RH K S H v x) (rw':RH K S H w y) (h:wp (f v w) fun z=>wp (truF z) fun b=>Q0 b L) (k:∀ z,Q0 z L→Q z H):Rq K f x y H (fun x H'=>∃ k,x=.bl k∧Q k H'):=by
 obtain ⟨z,e,q⟩:=wpx h
 obtain ⟨b,rfl⟩:=tb v w z e
 exact ⟨S,v,w,_,I.sub,rv,rw',e,⟨fun x _ r=>⟨b,r,k b q⟩,fun _ _ _ e=>(nomatch e),fun _ _ _ e=>(nomatch e)⟩⟩
theorem fb_cmp (tb:TellsB f) (ho:OpR X.nox (compareOp cop) (Rq X.K f)) (ha:FE X C a ea) (hb:FR X C b eb) (hm:behindInMarks cop b=false):FB X C (.Compare a [cop] [b] pos) (bVal (eOp f ea eb)):=PT.imp (pt_cmpR ho ha hb hm) fun σ H Q ⟨c,L,S,Q0,I,h,k⟩ =>
 go2 ⟨c,L,S,fun x y L2=>wp (f x y) fun z=>wp (truF z) fun b=>Q0 b L2,I,h,fun v w L' S' H' x y q r1 r2 I' s'=>test_v tb I' (.inl r1) r2 q fun z qz=>k z L' qz S' H' I' s'⟩
end
end
def isStar:Expr→Bool | .Starred ..=>true | _=>false
def isSlice:Expr→Bool | .Slice ..=>true | _=>false
def plainT:Expr→Bool
 | .UnaryOp .Not _ _=>false
 | .BoolOp ..=>false
 | .IfExp ..=>false
 | .Compare ..=>false
 | _=>true
section
variable {X:Cx}{C:CC}{n:Nat}{sp:PySem.W.Frag→Nat→Sp}{a b x y:Expr}{ea eb:EW}{pos:Pos}
theorem star_ok {xs:List Expr} {env:Env} (h:isStar x=false):starEach (x :: xs) env=(false,eval x env) :: starEach xs env:=by
 cases x <;> first | rfl | (cases h; done)
theorem plain_ix (h:isSlice y=false):PlainIx y:=by
 intro o i
 cases y <;> first | rfl | (cases h; done)
theorem plain_isTrue {env:Env} (h:plainT x=true):∀ whole,isTrue x env whole=(do let v ← whole; standAt x.pos; holding [v] (PySem.truthy v)):=by
 intro whole
 cases x <;> first | rfl | (cases h; done) | (rename_i op x pos; cases op <;> first | rfl | (cases h; done))
theorem fe_eq (G:Good X C n sp) (ha:FE X C a ea) (hb:FR X C b eb):FE X C (.Compare a [.Eq] [b] pos) (eOp eqB ea eb):=fe_cmp (q_eq G.room.units) ha hb (nobehind _ (by decide) (by decide))
theorem fe_ge (ha:FE X C a ea) (hb:FR X C b eb):FE X C (.Compare a [.GtE] [b] pos) (eOp geB ea eb):=fe_cmp q_ge ha hb (nobehind _ (by decide) (by decide))
theorem tb_map {f:FV→FV→Option Bool} {g:Bool→FV} (h:∀ b,∃ c,g b=.bl c):TellsB fun v w=>(f v w).map g:=fun v w z e=>by
 obtain ⟨b,_,rfl⟩:=mpd e
 exact h b
theorem tb_int {f:Int→Int→Bool}:TellsB (int2F fun i j=>some (.bl (f i j))):=fun v w z e=>by
 obtain ⟨i,_,e⟩:=bnd e
 obtain ⟨j,_,e⟩:=bnd e
 cases e; exact ⟨_,rfl⟩
theorem tb_lt:TellsB ltB:=fun v w z e=>by
 cases v with
 | tup xs =>
  obtain ⟨_,_,e⟩:=bnd e
  obtain ⟨_,_,e⟩:=bnd e
  obtain ⟨_,_,e⟩:=bnd e
  cases e; exact ⟨_,rfl⟩
 | _=>exact tb_int _ w z e
theorem tb_le:TellsB leB:=fun v w z e=>by
 cases v with
 | tup xs =>
  obtain ⟨_,_,e⟩:=bnd e
  obtain ⟨_,_,e⟩:=bnd e
  obtain ⟨_,_,e⟩:=bnd e
  cases e; exact ⟨_,rfl⟩
 | _=>exact tb_int _ w z e
theorem fb_eq (G:Good X C n sp) (ha:FE X C a ea) (hb:FR X C b eb):FB X C (.Compare a [.Eq] [b] pos) (bVal (eOp eqB ea eb)):=fb_cmp (tb_map fun b=>⟨b,rfl⟩) (q_eq G.room.units) ha hb (nobehind _ (by decide) (by decide))
theorem fb_ne (G:Good X C n sp) (ha:FE X C a ea) (hb:FR X C b eb):FB X C (.Compare a [.NotEq] [b] pos) (bVal (eOp neB ea eb)):=fb_cmp (tb_map fun b=>⟨!b,rfl⟩) (q_ne G.room.units) ha hb (nobehind _ (by decide) (by decide))
theorem fb_lt (G:Good X C n sp) (ha:FE X C a ea) (hb:FR X C b eb):FB X C (.Compare a [.Lt] [b] pos) (bVal (eOp ltB ea eb)):=fb_cmp tb_lt (q_lt G.room.units) ha hb (nobehind _ (by decide) (by decide))
theorem fb_le (G:Good X C n sp) (ha:FE X C a ea) (hb:FR X C b eb):FB X C (.Compare a [.LtE] [b] pos) (bVal (eOp leB ea eb)):=fb_cmp tb_le (q_le G.room.units) ha hb (nobehind _ (by decide) (by decide))
theorem fb_gt (ha:FE X C a ea) (hb:FR X C b eb):FB X C (.Compare a [.Gt] [b] pos) (bVal (eOp gtB ea eb)):=fb_cmp tb_int q_gt ha hb (nobehind _ (by decide) (by decide))
end
section
variable {X:Cx}{C:CC}{n:Nat}{sp:PySem.W.Frag→Nat→Sp}{a b d x:Expr}{ea eb:EW}{ba bb:BW}{pos p:Pos}
variable {K:PySem.W.Frag}{S H:Hp}
theorem non_is {v:FV} {x:V} (r1:RH K S H v x):isNoneF v=some (.bl (decide (x=V.non)))∧notNoneF v=some (.bl (!decide (x=V.non))):=by
 rcases r1 with r1 | ⟨a,rfl,_,ps,xs,e9,_⟩
 ·cases v <;> first | (cases (show x=_ from r1); exact ⟨rfl,rfl⟩; done) | (obtain ⟨a,_,rfl,_⟩:=r1; exact ⟨rfl,rfl⟩; done) | (obtain ⟨a,rfl,_⟩:=r1; exact ⟨rfl,rfl⟩; done)
 ·cases v <;> first | (cases e9; done) | exact ⟨rfl,rfl⟩
theorem fb_isN {j pos'} (ha:FR X C a ea):FB X C (.Compare a [.Is] [.Constant .none j pos'] pos) (bVal (eUn isNoneF ea)):=PT.imp (pt_cmp (pc_isN ha)) fun σ H Q q1=>by obtain ⟨c,L,S,Q0,I,h,k⟩:=q1; exact
 ⟨c,L,S,_,I,h,fun v L1 hv x S1 H1 r1 I1 s1=>by
  obtain ⟨z,e3,q⟩:=wpx hv
  rw [(non_is r1).1] at e3; cases e3
  exact ⟨_,rfl,k _ L1 q S1 H1 I1 s1⟩⟩
theorem fe_not (ha:FE X C a ea):FE X C (.UnaryOp .Not a pos) (eUn notF ea):=PE.imp (pe_not ha) fun σ H Q q1=>by obtain ⟨c,L,S,Q0,I,h,k⟩:=q1; exact
 ⟨c,L,S,_,I,h,fun v L1 hv x S1 H1 r1 I1 s1=>by
  obtain ⟨z,e,q⟩:=wpx hv
  obtain ⟨b,e1,rfl⟩:=mpd e
  cases blF_eq e1
  exact ⟨b,r1,k _ L1 q _ S1 H1 rfl I1 s1⟩⟩
theorem fe_neg (ha:FE X C a ea):FE X C (.UnaryOp .USub a pos) (eUn negF ea):=PE.imp (pe_un un_neg ha) fun σ H Q q1=>by obtain ⟨c,L,S,Q0,I,h,k⟩:=q1; exact
 ⟨c,L,S,_,I,h,fun v L1 hv x S1 H1 r1 I1 s1=>by
  obtain ⟨z,e,q⟩:=wpx hv
  obtain ⟨b,e1,rfl⟩:=mpd e
  cases intF_eq e1
  exact ⟨b,r1,k _ L1 q _ S1 H1 rfl I1 s1⟩⟩
theorem tru_rel {v:FV} {u:V} {t:Bool} (s:Same S H) (r:RH K S H v u) (e:truF v=some t):TruV K u H t:=by
 have em:∀ {ps:List FV} {xs:List V},RVs K S ps xs→(!ps.isEmpty) = !xs.isEmpty:=fun {ps xs} h=>by cases ps <;> cases xs <;> first | rfl | (have:=h.length; simp at this)
 cases v with
 | non=>cases (show u=V.non from r.val rfl); cases e; exact rfl
 | bl c=>cases r.bl; cases e; exact rfl
 | int c=>cases r.int; cases e; exact rfl
 | str c=>cases e
 | shn c=>cases e
 | dct _ _=>cases e
 | dci _ _=>cases e
 | dcz _ _ _=>cases e
 | obj _ _ _ _=>cases e
 | dcn _ _ _=>cases e
 | adr _=>cases e
 | dco _ _=>cases e
 | tup ps =>
  obtain ⟨a,xs,rfl,h1,h2⟩:=r.tup s
  cases e
  exact .inr (.inl ⟨xs,SqT.of h1,em h2⟩)
 | lst l =>
  obtain ⟨a,xs,rfl,h1,h2⟩:=r.lst s
  cases e
  exact .inl ⟨xs,SqL.of h1,em h2⟩
 | scr ns =>
  cases e
  obtain ⟨a,xs,rfl,h1,h2⟩:=r.list s (show listF (.scr ns)=_ from rfl)
  refine .inl ⟨_,h1,?_⟩
  rw [← em h2]; cases ns <;> rfl
theorem pe_andV {rest:List Expr} {ta tb:TE} (ha:PE X a ta) (hb:PE X (.BoolOp .And (b :: rest) pos) tb) :
  PE X (.BoolOp .And (a :: b :: rest) pos) (fun σ H Q=>ta σ H fun x H1=>∃ c,TruV X.K x H1 c∧(if c=true then tb σ H1 Q else Q x H1)):=by
 intro pins s σ H Q I h
 refine BoolOp_and (thn (ha pins s σ H _ I h) fun v s1 ⟨x,H1,I1,r1,c,tv,q1⟩=>?_)
 refine thn (tru_ok pins s1 σ H1 x v (fun c' H'=>c'=c∧H'=H1) I1 r1 ⟨c,tv,rfl,rfl⟩) fun b s2 q2=>?_; obtain ⟨H2,I2,e1,e2⟩:=q2
 subst e1 e2
 cases b with
 | true=>exact hb pins s2 σ H2 Q I2 (by simpa using q1)
 | false=>exact ⟨x,H2,I2,r1,by simpa using q1⟩
theorem fe_one {op:BoolOp} (ha:FE X C a ea):FE X C (.BoolOp op [a] pos) ea:=pe_one ha
theorem fe_and {rest:List Expr} (ha:FE X C a ea) (hb:FE X C (.BoolOp .And (b :: rest) pos) eb):FE X C (.BoolOp .And (a :: b :: rest) pos) (eAnd ea eb):=PE.imp (pe_andV ha hb) fun σ H Q q1=>by obtain ⟨c,L,S,Q0,I,h,k⟩:=q1; exact
 ⟨c,L,S,_,I,h,fun v L1 hv x S1 H1 r1 I1 s1=>by
  obtain ⟨t,e,q⟩:=wpx hv
  refine ⟨t,tru_rel I1.sub (.inl r1) e,?_⟩
  cases t with
  | true=>exact ⟨c,L1,S1,Q0,I1,q,fun v L' q x S' H' r I' s'=>k v L' q x S' H' r I' (s1.trans s')⟩
  | false=>exact k v L1 q x S1 H1 r1 I1 s1⟩
theorem fe_if (hc:FB X C d ba) (ha:FE X C a ea) (hb:FE X C b eb):FE X C (.IfExp d a b pos) (eIf ba ea eb):=PE.imp (pe_ifExp hc ha hb) fun σ H Q q1=>by obtain ⟨c,L,S,Q0,I,h,k⟩:=q1; exact
 ⟨c,L,S,_,I,h,fun t L1 hv S1 H1 I1 s1=>by
  cases t with
  | true=>exact ⟨c,L1,S1,Q0,I1,hv,fun v L' q x S' H' r I' s'=>k v L' q x S' H' r I' (s1.trans s')⟩
  | false=>exact ⟨c,L1,S1,Q0,I1,hv,fun v L' q x S' H' r I' s'=>k v L' q x S' H' r I' (s1.trans s')⟩⟩
theorem fb_val (hp:plainT a=true) (ha:FR X C a ea):FB X C a (bVal ea):=PT.imp (pt_truth ha (plain_isTrue hp)) fun σ H Q q1=>by obtain ⟨c,L,S,Q0,I,h,k⟩:=q1; exact
 ⟨c,L,S,_,I,h,fun v L1 hv x S1 H1 r1 I1 s1=>by
  obtain ⟨t,e,q⟩:=wpx hv
  exact ⟨t,tru_rel I1.sub r1 e,k t L1 q S1 H1 I1 s1⟩⟩
theorem fb_not (ha:FB X C a ba):FB X C (.UnaryOp .Not a pos) (bNot ba):=PT.imp (pt_not ha) fun σ H Q q1=>by obtain ⟨c,L,S,Q0,I,h,k⟩:=q1; exact ⟨c,L,S,_,I,h,fun t L1 hv S1 H1 I1 s1=>k _ L1 hv S1 H1 I1 s1⟩
theorem fw_and1 (ha:FB X C a ba):FW X C (.BoolOp .And [a] pos) ba:=pw_and1 ha
theorem fw_or1 (ha:FB X C a ba):FW X C (.BoolOp .Or [a] pos) ba:=pw_or1 ha
theorem fw_and {rest:List Expr} (ha:FB X C a ba) (hb:FW X C (.BoolOp .And (b :: rest) pos) bb):FW X C (.BoolOp .And (a :: b :: rest) pos) (bAnd ba bb):=PW.imp (pw_and ha hb) fun σ H Q q1=>by obtain ⟨c,L,S,Q0,I,h,k⟩:=q1; exact
 ⟨c,L,S,_,I,h,fun t L1 hv S1 H1 I1 s1=>by
  cases t with
  | true=>exact ⟨c,L1,S1,Q0,I1,hv,fun v L' q S' H' I' s'=>k v L' q S' H' I' (s1.trans s')⟩
  | false=>exact k _ L1 hv S1 H1 I1 s1⟩
theorem fw_or {rest:List Expr} (ha:FB X C a ba) (hb:FW X C (.BoolOp .Or (b :: rest) pos) bb):FW X C (.BoolOp .Or (a :: b :: rest) pos) (bOr ba bb):=PW.imp (pw_or ha hb) fun σ H Q q1=>by obtain ⟨c,L,S,Q0,I,h,k⟩:=q1; exact
 ⟨c,L,S,_,I,h,fun t L1 hv S1 H1 I1 s1=>by
  cases t with
  | false=>exact ⟨c,L1,S1,Q0,I1,hv,fun v L' q S' H' I' s'=>k v L' q S' H' I' (s1.trans s')⟩
  | true=>exact k _ L1 hv S1 H1 I1 s1⟩
theorem fb_w (h:FW X C a ba):FB X C a ba:=PW.pt h
theorem fa_nil:FA X C [] aNil:=PA.imp pa_nil fun σ H Q q1=>by obtain ⟨c,L,S,Q0,I,h,k⟩:=q1; exact k [] L h [] S H rfl I (Same.refl S)
theorem fa_cons {xs:List Expr} {as:AW} (hs:isStar a=false) (ha:FE X C a ea) (hr:FA X C xs as):FA X C (a :: xs) (aCons ea as):=PA.imp (pa_cons ha hr (star_ok hs)) fun σ H Q q1=>by obtain ⟨c,L,S,Q0,I,h,k⟩:=q1; exact
 ⟨c,L,S,_,I,h,fun v L1 hv x S1 H1 r1 I1 s1=>⟨c,L1,S1,_,I1,hv,fun vs L2 hvs us S2 H2 r2 I2 s2=>k _ L2 hvs _ S2 H2 ⟨x,us,rfl,r1.mono s2,r2⟩ I2 (s1.trans s2)⟩⟩
theorem fe_tup {xs:List Expr} {as:AW} {m:Nat} (h:FA X C xs as):FE X C (.Tuple xs m pos) (eTup as):=PE.imp (pe_tup h) fun σ H Q q1=>by obtain ⟨c,L,S,Q0,I,h,k⟩:=q1; exact
 ⟨c,L,S,_,I,h,fun vs L1 hv us S1 H1 r1 I1 s1=>⟨by have:=big_line; rw [← r1.length]; exact Nat.le_trans hv.1 this,fun p hp=>(new_v I1 fun x S' H' r I' s'=>k _ L1 hv.2 x S' H' r I' (s1.trans s')).tup _ _ p rfl r1 hp⟩⟩
theorem fe_lst {xs:List Expr} {as:AW} (h:FA X C xs as):FE X C (.List xs pos) (eLst as):=PE.imp (pe_lst h) fun σ H Q q1=>by obtain ⟨c,L,S,Q0,I,h,k⟩:=q1; exact
 ⟨c,L,S,_,I,h,fun vs L1 hv us S1 H1 r1 I1 s1=>⟨by have:=big_line; rw [← r1.length]; exact Nat.le_trans hv.1 this,fun p hp=>(new_v I1 fun x S' H' r I' s'=>k _ L1 hv.2 x S' H' r I' (s1.trans s')).lst _ _ p rfl r1 hp⟩⟩
theorem ff_lst {xs:List Expr} {as:AW} (h:FA X C xs as):FF X C (.List xs pos) (eLst as):=PE.imp (pe_lst h) fun σ H Q q1=>by obtain ⟨c,L,S,Q0,I,h,k⟩:=q1; exact
 ⟨c,L,S,_,I,h,fun vs L1 hv us S1 H1 r1 I1 s1=>⟨by have:=big_line; rw [← r1.length]; exact Nat.le_trans hv.1 this,fun p hp=>(new_f I1 ⟨vs,rfl⟩ fun a S' H' o fr I' s'=>k _ L1 hv.2 a S' H' o fr I' (s1.trans s')).lst _ _ p rfl r1 hp⟩⟩
theorem fe_ix (hs:isSlice b=false) (ha:FE X C a ea) (hb:FR X C b eb):FE X C (.Subscript a b pos) (eOp ixF ea eb):=PE.imp (pe_ix q_ix ha hb (plain_ix hs)) fun σ H Q ⟨c,L,S,Q0,I,h,k⟩ =>
 go2 ⟨c,L,S,fun x y L2=>wp (ixF x y) fun z=>Q0 z L2,I,h,fun v w L' S' H' x y q r1 r2 I' s'=>by
  obtain ⟨z,e,q⟩:=wpx q
  exact ⟨S',v,w,z,I'.sub,.inl r1,r2,e,fun u r=>k z L' q u S' H' r I' s'⟩⟩
theorem fe_ixN (G:Good X C n sp) {i:Nat} {nx:Str} (hs:isSlice b=false) (h:C.nm i nx=true) (hb:FR X C b eb):FE X C (.Subscript (.Name nx p) b pos) (eOpN ixF i eb):=PE.imp (pe_ix q_ix (tv_name G h) hb (plain_ix hs)) fun σ H Q ⟨c,L,S,Q0,I,h,k⟩ =>
 go2N ⟨c,L,S,fun x y L2=>wp (ixF x y) fun z=>Q0 z L2,I,h,fun v w L' S' H' x y q r1 r2 I' s'=>by
  obtain ⟨z,e,q⟩:=wpx q
  exact ⟨S',v,w,z,I'.sub,r1,r2,e,fun u r=>k z L' q u S' H' r I' s'⟩⟩
theorem fo_none:FO X C none oNone:=PO.imp po_none fun σ H Q q1=>by obtain ⟨c,L,S,Q0,I,h,k⟩:=q1; exact k none L h S H I (Same.refl S)
theorem fo_some (h:FE X C a ea):FO X C (some a) (oSome ea):=PO.imp (po_some h) fun σ H Q q1=>by obtain ⟨c,L,S,Q0,I,h,k⟩:=q1; exact
 ⟨c,L,S,_,I,h,fun v L1 hv x S1 H1 r1 I1 s1=>by
  obtain ⟨i,e,q⟩:=wpx hv
  cases intF_eq e
  exact ⟨i,r1,k _ L1 q S1 H1 I1 s1⟩⟩
variable {xl xh:Option Expr}{wl wh:OW}{p2:Pos}
theorem fe_sl (ha:FE X C a ea) (hl:FO X C xl wl) (hh:FO X C xh wh):FE X C (.Subscript a (.Slice xl xh none p2) pos) (eSl ea wl wh):=PE.imp (pe_slice q_sl ha hl hh) fun σ H Q q1=>by obtain ⟨c,L,S,Q0,I,h,k⟩:=q1; exact
 ⟨c,L,S,_,I,h,fun v L1 hv x S1 H1 r1 I1 s1=>⟨c,L1,S1,_,I1,hv,fun o1 L2 h1 S2 H2 I2 s2=>⟨c,L2,S2,_,I2,h1,fun o2 L3 h2 S3 H3 I3 s3=>by
  obtain ⟨z,e,q⟩:=wpx h2
  exact ⟨S3,v,z,I3.sub,.inl (r1.mono (s2.trans s3)),e,new_v I3 fun x S' H' r I' s'=>k z L3 q x S' H' r I' (s1.trans (s2.trans (s3.trans s')))⟩⟩⟩⟩
end
section
variable {X:Cx}{C:CC}{n:Nat}{sp:PySem.W.Frag→Nat→Sp}{a b:Expr}{ea eb:EW}{pos p:Pos}
variable {K:PySem.W.Frag}{md:Md}{σ:L2.St}{S H:Hp}{i:Nat}{nx:Str}
variable {p2:Pos}
theorem cb_go {f:FV→Option FV} {Q:VK} (hh:lv K md (eUn f ea) σ H Q):tCB (Rc K f) (tCons (lr K md ea) tNil) σ H Q:=by
 obtain ⟨c,L,S,Q0,I,h,k⟩:=hh
 refine ⟨c,L,S,_,I,h,fun v L1 hv x S1 H1 r1 I1 s1=>?_⟩
 obtain ⟨z,e,q⟩:=wpx hv
 exact ⟨S1,v,x,z,rfl,I1.sub,r1,e,new_v I1 fun x S' H' r I' s'=>k z L1 q x S' H' r I' (s1.trans s')⟩
theorem fe_bi {id nm:String} {f:FV→Option FV} (hc:CallR X.nox (.builtin id) (Rc X.K f)) (G:Good X C n sp) (hb:nm∈bltNames) (hv:bootBuiltins (Str.ofString nm)=some (.builtin id)) (h1:Str.ofString nm≠"__name__") (h2:(Str.ofString nm == ("__debug__":Str))=false) (hg:C.gl (Str.ofString nm)=true) (hs:isStar a=false) (ha:FR X C a ea) :
  FE X C (.Call (.Name (Str.ofString nm) p) [a] [] pos) (eUn f ea):=PE.imp (pe_callB hc (G.gl hg) (G.blt nm hb) hv (pa_cons ha pa_nil (star_ok hs)) h1 h2 (star_ok hs) rfl) fun σ H Q h=>cb_go h
theorem fe_bt {T nm:String} {f:FV→Option FV} (hc:CallR X.nox (.type T) (Rc X.K f)) (G:Good X C n sp) (hb:nm∈bltNames) (hv:bootBuiltins (Str.ofString nm)=some (.type T)) (h1:Str.ofString nm≠"__name__") (h2:(Str.ofString nm == ("__debug__":Str))=false) (hg:C.gl (Str.ofString nm)=true) (hs:isStar a=false) (ha:FR X C a ea) :
  FE X C (.Call (.Name (Str.ofString nm) p) [a] [] pos) (eUn f ea):=PE.imp (pe_callTy hc (G.gl hg) (G.blt nm hb) hv (pa_cons ha pa_nil (star_ok hs)) h1 h2 (star_ok hs) rfl) fun σ H Q h=>cb_go h
theorem fe_len (G:Good X C n sp) (hg:C.gl (Str.ofString "len")=true) (hs:isStar a=false) (ha:FR X C a ea):FE X C (.Call (.Name (Str.ofString "len") p) [a] [] pos) (eUn lenF ea):=fe_bi c_len G (by decide) (by nofun) (by nofun) (by nofun) hg hs ha
theorem fe_abs (G:Good X C n sp) (hg:C.gl (Str.ofString "abs")=true) (hs:isStar a=false) (ha:FR X C a ea):FE X C (.Call (.Name (Str.ofString "abs") p) [a] [] pos) (eUn absF ea):=fe_bi c_abs G (by decide) (by nofun) (by nofun) (by nofun) hg hs ha
theorem fe_all (G:Good X C n sp) (hg:C.gl (Str.ofString "all")=true) (hs:isStar a=false) (ha:FR X C a ea):FE X C (.Call (.Name (Str.ofString "all") p) [a] [] pos) (eUn allF ea):=fe_bi (c_all G.calm) G (by decide) (by nofun) (by nofun) (by nofun) hg hs ha
theorem fe_toint (G:Good X C n sp) (hg:C.gl (Str.ofString "int")=true) (hs:isStar a=false) (ha:FR X C a ea):FE X C (.Call (.Name (Str.ofString "int") p) [a] [] pos) (eUn toIntF ea):=fe_bt c_int G (by decide) (by nofun) (by nofun) (by nofun) hg hs ha
theorem fe_tuple (G:Good X C n sp) (hg:C.gl (Str.ofString "tuple")=true) (hs:isStar a=false) (ha:FR X C a ea):FE X C (.Call (.Name (Str.ofString "tuple") p) [a] [] pos) (eUn tupleF ea):=fe_bt c_tuple G (by decide) (by nofun) (by nofun) (by nofun) hg hs ha
theorem fe_b2 {id nm:String} {f:FV→FV→Option FV} (hc:CallR X.nox (.builtin id) (Rc2 X.K f)) (G:Good X C n sp) (hb:nm∈bltNames) (hv:bootBuiltins (Str.ofString nm)=some (.builtin id)) (h1:Str.ofString nm≠"__name__") (h2:(Str.ofString nm == ("__debug__":Str))=false) (hg:C.gl (Str.ofString nm)=true) (hs:isStar a=false) (hs2:isStar b=false) (ha:FE X C a ea) (hb':FR X C b eb) :
  FE X C (.Call (.Name (Str.ofString nm) p) [a,b] [] pos) (eOp f ea eb):=PE.imp (pe_callB hc (G.gl hg) (G.blt nm hb) hv (pa_cons ha (pa_cons hb' pa_nil (star_ok hs2)) (star_ok hs)) h1 h2 (star_ok hs) (by rw [star_ok hs2]; rfl)) fun σ H Q q1=>by obtain ⟨c,L,S,Q0,I,h,k⟩:=q1; exact
 ⟨c,L,S,_,I,h,fun v L1 hv x S1 H1 r1 I1 s1=>⟨c,L1,S1,_,I1,hv,fun w L2 hw y S2 H2 r2 I2 s2=>by
  obtain ⟨z,e,q⟩:=wpx hw
  exact ⟨S2,v,w,x,y,z,rfl,I2.sub,.inl (r1.mono s2),r2,e,new_v I2 fun x S' H' r I' s'=>k z L2 q x S' H' r I' (s1.trans (s2.trans s'))⟩⟩⟩
theorem fe_min2 (G:Good X C n sp) (hg:C.gl (Str.ofString "min")=true) (hs:isStar a=false) (hs2:isStar b=false) (ha:FE X C a ea) (hb':FR X C b eb):FE X C (.Call (.Name (Str.ofString "min") p) [a,b] [] pos) (eOp min2F ea eb):=fe_b2 (c_min2 G.calm) G (by decide) (by nofun) (by nofun) (by nofun) hg hs hs2 ha hb'
theorem fe_max2 (G:Good X C n sp) (hg:C.gl (Str.ofString "max")=true) (hs:isStar a=false) (hs2:isStar b=false) (ha:FE X C a ea) (hb':FR X C b eb):FE X C (.Call (.Name (Str.ofString "max") p) [a,b] [] pos) (eOp max2F ea eb):=fe_b2 (c_max2 G.calm) G (by decide) (by nofun) (by nofun) (by nofun) hg hs hs2 ha hb'
def tyName:Ty→String | .int=>"int" | .bool=>"bool" | .str=>"str" | .list=>"list" | .tuple=>"tuple"
theorem tyOf_rel {v:FV} {u:V} {t:Ty} {r:Bool} (s:Same S H) (rv:RH K S H v u) (e:isTyF v t=some r):∃ T,TyOf K H u (.type T)∧PySem.W.kitOne K (.type T) (.type (tyName t))=some r:=by
 cases v with
 | non=>cases (show u=V.non from rv.val rfl); exact ⟨_,.non,by cases e; cases t <;> rfl⟩
 | bl c=>cases rv.bl; exact ⟨_,.bl _,by cases e; cases t <;> rfl⟩
 | int c=>cases rv.int; exact ⟨_,.int _,by cases e; cases t <;> rfl⟩
 | str c=>cases (show u=V.str _ from rv.val rfl); exact ⟨_,.str _,by cases e; cases t <;> rfl⟩
 | tup ps =>
  obtain ⟨a,xs,rfl,h1,h2⟩:=rv.tup s
  exact ⟨_,.tup h1,by cases e; cases t <;> rfl⟩
 | lst l =>
  obtain ⟨a,xs,rfl,h1,h2⟩:=rv.lst s
  exact ⟨_,.lst h1,by cases e; cases t <;> rfl⟩
 | scr ns=>cases e
 | dct _ _=>cases e
 | dci _ _=>cases e
 | dcz _ _ _=>cases e
 | obj _ _ _ _=>cases e
 | dcn _ _ _=>cases e
 | adr _=>cases e
 | dco _ _=>cases e
 | shn d=>cases (show u=V.str _ from rv.val rfl); exact ⟨_,.str _,by cases e; cases t <;> rfl⟩
theorem fe_isi {t:Ty} {tn:Str} (G:Good X C n sp) (hg:C.gl (Str.ofString "isinstance")=true) (ht:tn=Str.ofString (tyName t)) (hg2:C.gl tn=true) (hs:isStar a=false) (ha:FR X C a ea) :
  FE X C (.Call (.Name (Str.ofString "isinstance") p) [a,.Name tn p2] [] pos) (eUn (isiF t) ea):=by
 subst ht
 have cc:CallR X.nox (.builtin "isinstance") (fun xs H Q=>∃ v c b T,xs=[v,.ty c]∧TyOf X.K H v (.type T)∧PySem.W.kitOne X.K (.type T) (.type c)=some b∧Q (.bl b) H):=by
  rintro pins s σ H xs us Q I r ⟨v,c,b,T,rfl,h1,h2,q⟩
  obtain ⟨u,u',rfl,ru,ru'⟩:=vals2 r
  obtain rfl:u'=.type c:=ru'
  exact isinst_ok I ru h1 h2 fun tk=>⟨.bl b,H,I.tok _,rfl,q⟩
 have tt:PE X.nox (.Name (Str.ofString (tyName t)) p2) (tC (.ty (tyName t))):=by
  cases t <;> exact pe_bltn (G.gl hg2) (G.blt _ (by decide)) (by nofun) rfl (by nofun) (by nofun)
 refine PE.imp (pe_callB cc (G.gl hg) (G.blt "isinstance" (by decide)) (by nofun) (pa_cons ha (pa_cons tt pa_nil rfl) (star_ok hs)) (by nofun) (by nofun) (star_ok hs) rfl) fun σ H Q q1=>?_; obtain ⟨c,L,S,Q0,I,h,k⟩:=q1; refine
  ⟨c,L,S,_,I,h,fun v L1 hv x S1 H1 r1 I1 s1=>?_⟩
 obtain ⟨z,e,q⟩:=wpx hv
 obtain ⟨r,e1,rfl⟩:=mpd e
 obtain ⟨T,t1,t2⟩:=tyOf_rel I1.sub r1 e1
 exact ⟨x,_,_,T,rfl,t1,t2,k _ L1 q _ S1 H1 rfl I1 s1⟩
def bmOk (apos cpos:Pos):Bool:=apos.endLine == cpos.line
theorem fe_app (G:Good X C n sp) {apos cpos:Pos} (h:C.nm i nx=true) (m:mdAt C.md i=.own) (hl:bmOk apos cpos=true) (hs:isStar a=false) (ha:FE X C a ea):FE X C (.Call (.Attribute (.Name nx p) (Str.ofString "append") apos) [a] [] cpos) (eMeth appF i ea):=by
 refine PE.imp (pe_bm PySem.F.plainAttrs_list PySem.F.slot_list_append PySem.F.type_list_append mt_append (tv_name G h) (pa_cons ha pa_nil (star_ok hs)) rfl (by rw [star_ok hs]; rfl) hl (star_ok hs) rfl) fun σ H Q ⟨c,L,S,Q0,I,h,k⟩=>?_
 obtain ⟨v,e,h⟩:=wpx h
 obtain ⟨v9,e9,h⟩:=wpx h
 cases lstF_eq e9
 have e':=(lk_eq _ _ _).mp e
 have mi:mdAt C.md i≠.imm:=fun z=>by rw [m] at z; cases z
 obtain ⟨l,e1,⟨_,ps,xs,e8,h1,_⟩,_⟩:=I.own i _ mi e'
 refine ⟨_,e1,.inl ⟨rfl,xs,SqL.of h1⟩,c,L,S,_,I,h,fun w L1 hw y S1 H1 r1 I1 s1=>?_⟩
 obtain ⟨v1,e2,hw⟩:=wpx hw
 obtain ⟨z,e3,q⟩:=wpx hw
 have e2':=(lk_eq _ _ _).mp e2
 obtain ⟨qs,e4,e5⟩:=bnd e3
 cases lstF_eq e4
 obtain ⟨hb,rfl⟩:=itd e5
 obtain ⟨l',f1,⟨f2,rs,zs,f3,f4,f5⟩,_⟩:=I1.own i _ mi e2'
 rw [e1] at f1; cases f1
 cases f3
 have:=big_line
 exact ⟨l,zs,y,rfl,rfl,f4,by rw [← f5.length]; lia,k _ _ q .non S1 _ rfl (I1.write m e2' e1 (f5.append (RVs.one r1))) s1⟩
end
def ArgsOk (K:PySem.W.Frag) (S H:Hp) (args:List FV) (vs:List V):Bool→Prop
 | false=>RVs K S args vs
 | true=>∃ v r a us,args=v :: r∧vs=.ref a :: us∧OwnAt K S H a v∧RVs K S r us
def ResOk (K:PySem.W.Frag) (S' H' H:Hp) (v:FV) (x:V):Bool→Prop
 | false=>RV K S' v x
 | true=>∃ a,x=.ref a∧OwnAt K S' H' a v∧H a=none
def lentTo (vs:List V):Bool→Option Addr
 | false=>none
 | true=>match vs with
  | .ref a :: _=>some a
  | _=>none
structure Kept (K:PySem.W.Frag) (S H S' H':Hp) (P:Option Addr) (w:FV):Prop where
 same:Same S S'
 sub:Same S' H'
 grow:∀ a o,S' a=some o→S a=some o ∨ H a=none ∨ isTup o=true
 keep:∀ a o,H a=some o→P≠some a→H' a=some o
 back:∀ a,P=some a→OwnAt K S' H' a w
def spQ (K:PySem.W.Frag) (call:CW) (io fr:Bool) (f:Nat):Sp:=fun vs H Q E=>∃ S args Q0,Same S H∧ArgsOk K S H args vs io∧call f args Q0∧∀ z,Q0 z→∀ x S' H',Kept K S H S' H' (lentTo vs io) z.2→ResOk K S' H' H z.1 x fr→Q x H'
section
variable {X:Cx}{C:CC}{n:Nat}{sp:PySem.W.Frag→Nat→Sp}{a:Expr}{ea:EW}{pos p:Pos}{call:CW}
variable {K:PySem.W.Frag}{c:Cn}{md:Md}{L:FLoc}{σ:L2.St}{S H S' H':Hp}{i f:Nat}{nx:Str}{xs:List Expr}{as:AW}
def noStars (xs:List Expr):Bool:=xs.all fun x=>!isStar x
theorem stars_no:∀ {xs:List Expr} {env:Env},noStars xs=true→(backTo pos (starEach xs env)).any (·.1)=false
 | [],_,_=>rfl
 | x :: xs,env,h=>by
  have h:=b2 (show (!isStar x && noStars xs)=true from h)
  rw [star_ok (nb h.1)]
  show (false || (backTo pos (starEach xs env)).any (·.1))=false
  rw [stars_no h.2]; rfl
theorem Kept.iv (I:Iv K c md L σ S H) {w:FV} (k:Kept K S H S' H' none w):Iv K c md L σ S' H':=I.go3 k.same k.sub k.grow fun a o e=>k.keep a o e (by simp)
theorem call_go (G:Good X C n sp) {t:TA} (hf:C.fns[f]?=some nx) (hg:C.gl nx=true) (hd:(nx == ("__debug__":Str))=false) (hs:noStars (a :: xs)=true) (ha:PA X.nox (a :: xs) t):PE X.nox (.Call (.Name nx p) (a :: xs) [] pos) (fun σ H Q=>t σ H fun vs H1=>sp X.K f vs H1 Q E0):=by
 obtain ⟨fa,fd,ps,h1,h2,h3,h4⟩:=G.fns f nx hf
 have h:=b2 (show (!isStar a && noStars xs)=true from hs)
 refine PE.imp (pe_call (X:=X.nox) h4 G.room.toRoom (G.gl hg) h1 h2 h3 .nil pass0 ha hd (star_ok (nb h.1)) (stars_no h.2)) fun σ H Q q=>?_
 show t σ H fun vs H1=>sp X.K f (vs++[]) H1 Q E0
 have e:(fun vs H1=>sp X.K f (vs++[]) H1 Q E0)=fun vs H1=>sp X.K f vs H1 Q E0:=by funext vs H1; rw [List.append_nil]
 rw [e]; exact q
theorem fe_call (G:Good X C n sp) (e:sp X.K f=spQ X.K call false false f) (hf:C.fns[f]?=some nx) (hg:C.gl nx=true) (hd:(nx == ("__debug__":Str))=false) (hs:noStars (a :: xs)=true) (ha:FA X C (a :: xs) as):FE X C (.Call (.Name nx p) (a :: xs) [] pos) (eCall call f as) :=
 PE.imp (call_go G hf hg hd hs ha) fun σ H Q q1=>by obtain ⟨c,L,S,Q0,I,h,k⟩:=q1; exact ⟨c,L,S,_,I,h,fun vs L1 hv us S1 H1 r1 I1 s1=>by
  rw [e]
  exact ⟨S1,vs,_,I1.sub,r1,hv,fun z q x S' H' kp r=>k _ L1 q x S' H' r (kp.iv I1) (s1.trans kp.same)⟩⟩
theorem ff_call (G:Good X C n sp) (e:sp X.K f=spQ X.K call false true f) (hf:C.fns[f]?=some nx) (hg:C.gl nx=true) (hd:(nx == ("__debug__":Str))=false) (hs:noStars (a :: xs)=true) (ha:FA X C (a :: xs) as):FF X C (.Call (.Name nx p) (a :: xs) [] pos) (eCall call f as) :=
 PE.imp (call_go G hf hg hd hs ha) fun σ H Q q1=>by obtain ⟨c,L,S,Q0,I,h,k⟩:=q1; exact ⟨c,L,S,_,I,h,fun vs L1 hv us S1 H1 r1 I1 s1=>by
  rw [e]
  refine ⟨S1,vs,_,I1.sub,r1,hv,fun z q x S' H' kp r=>?_⟩
  obtain ⟨a,rfl,o,hn⟩:=r
  exact k _ L1 q a S' H' o (I1.fresh hn) (kp.iv I1) (s1.trans kp.same)⟩
theorem new_own {v:FV} {q:Addr} (I:Iv K c md L σ S H) (o:OwnAt K S H q v) (fr:Fresh c md L σ q):∃ u,H q=some u∧Iv K c md L σ (upd S q u) H∧RV K (upd S q u) v (.ref q):=by
 obtain ⟨h1,ps,us,e0,h2,h3⟩:=o
 have s:=same_upd (o:=ownH v us) h1
 refine ⟨_,h2,⟨I.len,fun i v h e=>let ⟨x,e1,r⟩:=I.imm i v h e; ⟨x,e1,r.mono s⟩,fun i v h e=>?_,I.dis,fun a u e=>?_,I.frame,I.s0.trans s,fun a u e=>?_,I.lent,I.fzs,I.fzm,I.fzp,fun p hp=>let ⟨g1,g2,g3⟩:=I.prs p hp; ⟨g1,by rw [upd_ne (fr.2.1 p hp)]; exact g2,g3⟩,I.ntp,I.lnt1,I.tie⟩,?_⟩
 ·obtain ⟨b,e1,⟨g1,rs,zs,g2,g3,g4⟩,g5⟩:=I.own i v h e
  have hb:b≠q:=fun z=>by subst z; exact fr.2.2 i v h e e1
  exact ⟨b,e1,⟨by rw [upd_ne hb]; exact g1,rs,zs,g2,g3,g4.mono s⟩,g5⟩
 ·by_cases z:a=q
  ·subst z; rw [upd_same] at e; cases e; exact h2
  ·rw [upd_ne z] at e; exact I.sub a u e
 ·by_cases z:a=q
  ·subst z; exact .inr (.inl fr.1)
  ·rw [upd_ne z] at e; exact I.grow a u e
 ·cases v with
  | lst qs=>cases e0; exact ⟨q,us,rfl,upd_same,h3.mono s⟩
  | dct ks vs=>obtain ⟨hl,rfl⟩:=itd e0; exact ⟨q,us,rfl,hl,upd_same,h3.mono s⟩
  | dci ks vs=>obtain ⟨hl,rfl⟩:=itd e0; exact ⟨q,us,rfl,hl,upd_same,h3.mono s⟩
  | dcz o ks vs=>obtain ⟨hl,rfl⟩:=itd e0; exact ⟨q,us,rfl,hl,upd_same,h3.mono s⟩
  | obj C dx fs gs=>cases e0; exact ⟨q,rfl,upd_same⟩
  | dcn z ks vs=>obtain ⟨hl,rfl⟩:=itd e0; exact ⟨q,us,rfl,hl,upd_same,h3.mono s⟩
  | dco ks vs=>obtain ⟨hl,rfl⟩:=itd e0; exact ⟨q,us,rfl,hl,upd_same,h3.mono s⟩
  | _=>cases e0
theorem fe_ff (h:FF X C a ea):FE X C a ea:=PE.imp h fun σ H Q q1=>by obtain ⟨c,L,S,Q0,I,h,k⟩:=q1; exact ⟨c,L,S,Q0,I,h,fun v L' q a S' H' o fr I' s'=>by
 obtain ⟨u,hu,I2,r⟩:=new_own I' o fr
 exact k v L' q _ _ H' r I2 (s'.trans (same_upd o.1))⟩
theorem own_arg (G:Good X C n sp) {t:TA} (h:C.nm i nx=true) (hr:PA X.nox xs t):PA X.nox (.Name nx p :: xs) (tCons (tVar i) t):=pa_cons (tv_name G h) hr rfl
theorem callO_go {Q:VK} {fr:Bool} {Q1:FV→FLoc→Prop} (I:Iv K c md L σ S H) (m:mdAt md i=.own) (h:eCallO call f i as L Q1)
  (k:∀ v L' x H1 S' H',Q1 v L'→ResOk K S' H' H1 v x fr→Iv K c md L' σ S' H'→Same S S'→(∀ a,H1 a=none→Fresh c md L' σ a)→Q x H'):tCons (tVar i) (la K md as) σ H fun vs H1=>spQ K call true fr f vs H1 Q E0:=by
 obtain ⟨v0,e,h⟩:=wpx h
 have mi:mdAt md i≠.imm:=fun z=>by rw [m] at z; cases z
 obtain ⟨l,e1,_⟩:=I.own i v0 mi ((lk_eq _ _ _).mp e)
 refine ⟨_,e1,c,L,S,_,I,h,fun vs L1 hv us S1 H1 r1 I1 s1=>?_⟩
 obtain ⟨v1,e2,q⟩:=wpx hv
 have e2:=(lk_eq _ _ _).mp e2
 obtain ⟨l',f1,o,_⟩:=I1.own i v1 mi e2
 rw [e1] at f1; cases f1
 refine ⟨S1,v1 :: vs,_,I1.sub,⟨v1,vs,l,us,rfl,rfl,o,r1⟩,q,fun z q x S' H' kp r=>?_⟩
 have I2:=I1.back3 m e2 e1 kp.same kp.sub kp.grow (fun b o e n=>kp.keep b o e fun z=>n (by cases z; rfl)) (kp.back l rfl)
 refine k _ _ x H1 S' H' q r I2 (s1.trans kp.same) fun a ha=>⟨I1.h0 ha,(I1.fresh ha).2.1,fun j w mj ej z=>?_⟩
 obtain ⟨_,_,g2⟩:=I1.fresh ha
 by_cases hj:j=i
 ·subst hj; exact g2 j v1 mj e2 z
 ·rw [List.getElem?_set_ne (Ne.symm hj)] at ej; exact g2 j w mj ej z
theorem fe_callO (G:Good X C n sp) {np:Str} {pp:Pos} (e:sp X.K f=spQ X.K call true false f) (hf:C.fns[f]?=some np) (hg:C.gl np=true) (hd:(np == ("__debug__":Str))=false) (h:C.nm i nx=true) (m:mdAt C.md i=.own) (hs:noStars xs=true) (ha:FA X C xs as):FE X C (.Call (.Name np pp) (.Name nx p :: xs) [] pos) (eCallO call f i as) :=
 PE.imp (call_go G hf hg hd (show (true && noStars xs)=true by rw [hs]; rfl) (own_arg G h ha)) fun σ H Q q1=>by
  obtain ⟨c,L,S,Q0,I,h,k⟩:=q1
  rw [e]
  exact callO_go I m h fun v L' x H1 S' H' q r I' s' _=>k v L' q x S' H' r I' s'
end
section
variable {K:PySem.W.Frag}{c:Cn}{md:Md}{L:FLoc}{σ:L2.St}{S H:Hp}{i:Nat}{v:FV}{x:V}{a:Addr}
theorem Iv.setI (I:Iv K c md L σ S H) (m:mdAt md i=.imm) (r:RV K S v x):Iv K c md (L.set i (some v)) (σ.set i (some x)) S H :=
 I.set (fun a h z=>by subst z; exact (I.lent a h).1 m) (fun z=>by rw [m] at z; cases z) (.inl ⟨m,r⟩)
theorem Iv.prot (I:Iv K c md L σ S H) {o:HO} (h:H a=some o) (hs:S a=none) (ho:∀ i v,(mdAt md i).w=true→L[i]?=some (some v)→σ[i]?≠some (some (.ref a))) (nt:isTup o=false:=by first | rfl | exact ownH_nt _ _):Iv K { c with pr:=(a,o) :: c.pr } md L σ S H :=
 ⟨I.len,I.imm,I.own,I.dis,I.sub,I.frame,I.s0,I.grow,I.lent,I.fzs,I.fzm,fun p hp=>let ⟨xs,h⟩:=I.fzp p hp; ⟨xs,List.mem_cons_of_mem _ h⟩,fun p hp=>(List.mem_cons.mp hp).elim (fun e=>e ▸ ⟨h,hs,ho⟩) (I.prs p),fun p hp=>(List.mem_cons.mp hp).elim (fun e=>e ▸ nt) (I.ntp p),I.lnt1,I.tie⟩
end
def ItR (K:PySem.W.Frag) (c:Cn) (md:Md) (J:It) (xs:List FV) (S1:Hp):Prop :=
 ∀ (i:Nat) (L:FLoc) (σ:L2.St) (S H:Hp),Iv K c md L σ S H→Same S1 S→(xs[i]?=none→J.stop i H)∧∀ p,xs[i]?=some p→J.go i H∧∀ v H',J.yld i H v H'→∃ S',Same S S'∧(∀ c md L σ,Iv K c md L σ S H→Iv K c md L σ S' H')∧RV K S' p v
inductive liI (K:PySem.W.Frag) (it:AW) (md md':Md) (σ:L2.St) (H:Hp) (R:It→Hp→Prop):Prop
 | mk (c:_) (L:_) (S:_) (Q0:_) (_:Iv K c md L σ S H) (_:it L Q0) (_:∀ xs L',Q0 xs L'→∀ J c' S' H',Iv K c' md' L' σ S' H'→(∀ L σ S H,Iv K c' md' L σ S H→Iv K c md L σ S H)→c'.H0=c.H0→ItR K c' md' J xs S'→Same S S'→R J H'):liI K it md md' σ H R
abbrev li (K:PySem.W.Frag) (md md':Md) (it:AW):TI:=liI K it md md'
def FI (X:Cx) (C:CC) (md':Md) (tg iter:Expr) (it:AW):Prop:=PI X.nox tg iter (li X.K C.md md' it)
section
variable {X:Cx}{C:CC}{n:Nat}{sp:PySem.W.Frag→Nat→Sp}{a b tg:Expr}{ea eb:EW}{pos p:Pos}
variable {K:PySem.W.Frag}{c:Cn}{md:Md}{L:FLoc}{σ:L2.St}{S H:Hp}{i:Nat}
theorem PI.imp {X:Cx} {tg it:Expr} {t u:TI} (h:PI X tg it t) (f:∀ σ H R,u σ H R→t σ H R):PI X tg it u:=fun pins s σ H R I hu=>h pins s σ H R I (f σ H R hu)
def Its (K:PySem.W.Frag):Bool→Addr→It
 | true,a=>Itl K a
 | false,a=>Itt K a
theorem pi_seq {X:Cx} {tg it:Expr} {te:TE} (h:PE X it te):PI X tg it (fun σ H R=>te σ H fun v H1=>∃ b a xs,v=.ref a∧SqB b X.K H1 a xs∧R (Its X.K b a) H1):=by
 intro pins s σ H R I hh
 refine thn (h pins s σ H _ I hh) fun v s1 q1=>?_; obtain ⟨x,H1,I1,r1,b,a,xs,e,hq,q⟩:=q1
 subst e
 cases r1
 cases b with
 | true =>
  obtain ⟨its,rv,p,hz⟩:=I1.list hq
  refine wpAny_pyIter_list p.isList ?_
  refine ⟨s1.heap.objs.size,[s1.heap.objs.size],_,_,H1,rfl,I1.kept (t':=s1.toks) fun b o e=>Heap.get?_push_of_some _ e,turn_list a _,⟨_,Heap.get?_push_size _ rfl,rfl,rfl⟩,fun b hb=>?_,q⟩
  have e:b=s1.heap.objs.size:=by simpa using hb
  subst e
  exact I1.fpOk (Nat.le_refl _) (I1.hok.fresh (Nat.le_refl _))
 | false =>
  obtain ⟨its,rv,p,hz⟩:=I1.tuple hq
  refine wpAny_pyIter_tuple p ?_
  refine ⟨s1.heap.objs.size,[s1.heap.objs.size],_,_,H1,rfl,I1.kept (t':=s1.toks) fun b o e=>Heap.get?_push_of_some _ e,turn_tuple a _,⟨_,Heap.get?_push_size _ rfl,rfl,rfl⟩,fun b hb=>?_,q⟩
  have e:b=s1.heap.objs.size:=by simpa using hb
  subst e
  exact I1.fpOk (Nat.le_refl _) (I1.hok.fresh (Nat.le_refl _))
theorem it_seq {t:Bool} {q:Addr} {ps:List FV} {S1:Hp} (h:∀ L σ S H,Iv K c md L σ S H→Same S1 S→∃ vs,SqB t K H q vs∧RVs K S ps vs):ItR K c md (Its K t q) ps S1:=by
 intro i L σ S H I s
 obtain ⟨vs,h1,h2⟩:=h L σ S H I s
 cases t with
 | true =>
  refine ⟨fun e=>⟨vs,h1,by rw [← h2.length]; exact List.getElem?_eq_none_iff.mp e⟩,fun p ep=>?_⟩
  obtain ⟨v,e1,r1⟩:=h2.get ep
  refine ⟨⟨vs,v,h1,e1⟩,fun w H' ⟨eh,y⟩=>?_⟩
  have:=y vs h1
  rw [e1] at this; cases this
  subst eh
  exact ⟨S,Same.refl S,fun _ _ _ _ I=>I,r1⟩
 | false =>
  refine ⟨fun e=>⟨vs,h1,by rw [← h2.length]; exact List.getElem?_eq_none_iff.mp e⟩,fun p ep=>?_⟩
  obtain ⟨v,e1,r1⟩:=h2.get ep
  refine ⟨⟨vs,v,h1,e1⟩,fun w H' ⟨eh,y⟩=>?_⟩
  have:=y vs h1
  rw [e1] at this; cases this
  subst eh
  exact ⟨S,Same.refl S,fun _ _ _ _ I=>I,r1⟩
theorem RV.stays {v:FV} {ps:List FV} {u:V} {S1:Hp} (r:RV K S1 v u) (e:seqF v=some ps):∃ q,u=.ref q∧∀ S H,Same S1 S→Same S H→∃ vs,SqB (isL v) K H q vs∧RVs K S ps vs:=by
 cases v with
 | tup qs=>cases e; obtain ⟨q,vs,rfl,h1,h2⟩:=r; exact ⟨q,rfl,fun S H s s'=>⟨vs,SqT.of (s' _ _ (s _ _ h1)),h2.mono s⟩⟩
 | lst qs=>cases e; obtain ⟨q,vs,rfl,h1,h2⟩:=r; exact ⟨q,rfl,fun S H s s'=>⟨vs,SqL.of (s' _ _ (s _ _ h1)),h2.mono s⟩⟩
 | scr ns=>cases e; obtain ⟨q,rfl,h⟩:=r; exact ⟨q,rfl,fun S H s s'=>⟨_,h.sq (s.trans s'),RVs.ns ns⟩⟩
 | _=>cases e
theorem fi_seq (ha:FE X C a ea):FI X C C.md tg a (iSeq ea):=PI.imp (pi_seq ha) fun σ H R q1=>by obtain ⟨c,L,S,Q0,I,h,k⟩:=q1; exact
 ⟨c,L,S,_,I,h,fun v L1 hv x S1 H1 r1 I1 s1=>by
  obtain ⟨ps,e,q⟩:=wpx hv
  obtain ⟨l,rfl,st⟩:=r1.stays e
  obtain ⟨vs,h1,h2⟩:=st S1 H1 (Same.refl _) I1.sub
  exact ⟨isL v,l,vs,rfl,h1,k ps L1 q _ c S1 H1 I1 (fun _ _ _ _ I=>I) rfl (it_seq fun L σ S H I s=>st S H s I.sub) s1⟩⟩
theorem upF_get:∀ (n:Nat) (lo:Int) (i:Nat),(upF lo n)[i]?=if i < n then some (.int (lo + i)) else none
 | 0,lo,i=>by simp [upF]
 | n + 1,lo,0=>by simp [upF]
 | n + 1,lo,i + 1=>by
  show (upF (lo + 1) n)[i]?=_
  rw [upF_get n (lo + 1) i]
  have e:lo + 1 + (i:Int)=lo + ((i + 1:Nat):Int):=by lia
  rw [e]
  simp
theorem it_rng {lo:Int} {m:Nat} {S1:Hp}:ItR K c md (Itr lo m) (upF lo m) S1:=by
 intro i L σ S H I s
 rw [upF_get]
 by_cases h:i < m
 ·rw [if_pos h]
  refine ⟨fun e=>(nomatch e),fun p e=>?_⟩
  cases e
  exact ⟨h,fun v H' q1=>by obtain ⟨e1,e2⟩:=q1; exact ⟨S,Same.refl S,by rw [e1]; exact fun _ _ _ _ I=>I,e2⟩⟩
 ·rw [if_neg h]
  exact ⟨fun _=>show m≤i by lia,fun p e=>(nomatch e)⟩
theorem fi_rng (G:Good X C n sp) (hg:C.gl (Str.ofString "range")=true) (hs:isStar a=false) (ha:FE X C a ea):FI X C C.md tg (.Call (.Name (Str.ofString "range") p) [a] [] pos) (iRng ea):=PI.imp (pi_range1 (G.gl hg) (G.blt "range" (by decide)) (pa_cons ha pa_nil (star_ok hs)) (star_ok hs)) fun σ H R q1=>by obtain ⟨c,L,S,Q0,I,h,k⟩:=q1; exact
 ⟨c,L,S,_,I,h,fun v L1 hv x S1 H1 r1 I1 s1=>by
  obtain ⟨j,e,hb,q⟩:=wpx hv
  cases intF_eq e
  have hb:=de hb
  exact ⟨j,by rw [show x=.int j from r1],hb.1,hb.2,k _ L1 q _ c S1 H1 I1 (fun _ _ _ _ I=>I) rfl it_rng s1⟩⟩
theorem fi_rng2 (G:Good X C n sp) (hg:C.gl (Str.ofString "range")=true) (hs:isStar a=false) (hs2:isStar b=false) (ha:FE X C a ea) (hb:FE X C b eb):FI X C C.md tg (.Call (.Name (Str.ofString "range") p) [a,b] [] pos) (iRng2 ea eb) :=
 PI.imp (pi_range2 (G.gl hg) (G.blt "range" (by decide)) (pa_cons ha (pa_cons hb pa_nil (star_ok hs2)) (star_ok hs)) (by rw [star_ok hs,star_ok hs2]; rfl) (star_ok hs2)) fun σ H R q1=>by obtain ⟨c,L,S,Q0,I,h,k⟩:=q1; exact
 ⟨c,L,S,_,I,h,fun v L1 hv x S1 H1 r1 I1 s1=>⟨c,L1,S1,_,I1,hv,fun w L2 hw y S2 H2 r2 I2 s2=>by
  obtain ⟨j,e,hw⟩:=wpx hw
  obtain ⟨j',e',hb,q⟩:=wpx hw
  cases intF_eq e; cases intF_eq e'
  have hb:=b2 hb
  have h1:=de hb.1
  have h2:=de hb.2
  exact ⟨j,j',by rw [show x=.int j from r1,show y=.int j' from r2],⟨h1.1,h1.2,h2.1,h2.2⟩,k _ L2 q _ c S2 H2 I2 (fun _ _ _ _ I=>I) rfl it_rng (s1.trans s2)⟩⟩⟩
theorem new_pair {P Q:FV} {u w:V} {pp:Addr} (I:Iv K c md L σ S H) (hp:H pp=none) (r1:RV K S P u) (r2:RV K S Q w):∃ S',Same S S'∧(∀ c md L σ,Iv K c md L σ S H→Iv K c md L σ S' (upd H pp (.tup [u,w])))∧RV K S' (.tup [P,Q]) (.ref pp) :=
 ⟨upd S pp (.tup [u,w]),same_upd (I.sn hp),fun _ _ _ _ I=>I.new hp _,pp,[u,w],rfl,upd_same,u,[w],rfl,r1.mono (same_upd (I.sn hp)),w,[],rfl,r2.mono (same_upd (I.sn hp)),rfl⟩
theorem it_zip {t t':Bool} {q q':Addr} {ps qs:List FV} {S1:Hp} (h:∀ L σ S H,Iv K c md L σ S H→Same S1 S→∃ vs,SqB t K H q vs∧RVs K S ps vs) (h':∀ L σ S H,Iv K c md L σ S H→Same S1 S→∃ vs,SqB t' K H q' vs∧RVs K S qs vs):ItR K c md (Iz2 K t t' q q') (pairF ps qs) S1:=by
 intro i L σ S H I s
 obtain ⟨vs,h1,h2⟩:=h L σ S H I s
 obtain ⟨ws,g1,g2⟩:=h' L σ S H I s
 unfold pairF
 rw [List.getElem?_zipWith]
 refine ⟨fun z=>⟨vs,ws,h1,g1,?_⟩,fun y ey=>?_⟩
 ·rw [← h2.length,← g2.length]
  cases c1:ps[i]? with
  | none=>exact .inl (List.getElem?_eq_none_iff.mp c1)
  | some _ =>
   cases c2:qs[i]? with
   | none=>exact .inr (List.getElem?_eq_none_iff.mp c2)
   | some _=>rw [c1,c2] at z; cases z
 ·cases c1:ps[i]? with
  | none=>rw [c1] at ey; cases ey
  | some p1 =>
   cases c2:qs[i]? with
   | none=>rw [c1,c2] at ey; cases ey
   | some q1 =>
    rw [c1,c2] at ey
    cases ey
    obtain ⟨v,f1,f2⟩:=h2.get c1
    obtain ⟨w,f3,f4⟩:=g2.get c2
    refine ⟨⟨vs,ws,v,w,h1,g1,f1,f3⟩,fun z H' ⟨pp,hp,ez,yy⟩=>?_⟩
    have:=yy vs ws v w h1 g1 f1 f3
    subst this ez
    exact new_pair I hp f2 f4
theorem it_enum {t:Bool} {q:Addr} {ps:List FV} {S1:Hp} (h:∀ L σ S H,Iv K c md L σ S H→Same S1 S→∃ vs,SqB t K H q vs∧RVs K S ps vs):ItR K c md (Ien K t q) (pairF (upF 0 ps.length) ps) S1:=by
 intro i L σ S H I s
 obtain ⟨vs,h1,h2⟩:=h L σ S H I s
 unfold pairF
 rw [List.getElem?_zipWith,upF_get]
 refine ⟨fun z=>⟨vs,h1,?_⟩,fun y ey=>?_⟩
 ·rw [← h2.length]
  by_cases hi:i < ps.length
  ·rw [if_pos hi,List.getElem?_eq_getElem hi] at z; cases z
  ·lia
 ·by_cases hi:i < ps.length
  ·rw [if_pos hi,List.getElem?_eq_getElem hi] at ey
   cases ey
   obtain ⟨v,f1,f2⟩:=h2.get (List.getElem?_eq_getElem hi)
   refine ⟨⟨vs,v,h1,f1⟩,fun z H' ⟨pp,hp,ez,yy⟩=>?_⟩
   have:=yy vs v h1 f1
   subst this ez
   exact new_pair I hp (show RV K S (.int (0 + i)) (.int i) by show V.int i=V.int (0 + i); rw [Int.zero_add]) f2
  ·rw [if_neg hi] at ey; cases ey
variable {elts:List Expr}{kk:Nat}{tp:Pos}
theorem fi_zip (G:Good X C n sp) (hg:C.gl (Str.ofString "zip")=true) (hs:isStar a=false) (hs2:isStar b=false) (ha:FE X C a ea) (hb:FE X C b eb):FI X C C.md (.Tuple elts kk tp) (.Call (.Name (Str.ofString "zip") p) [a,b] [] pos) (iZip ea eb) :=
 PI.imp (pi_z2 (G.gl hg) (G.blt "zip" (by decide)) (pa_cons ha (pa_cons hb pa_nil (star_ok hs2)) (star_ok hs)) (by rw [star_ok hs,star_ok hs2]; rfl) (star_ok hs2)) fun σ H R q1=>by obtain ⟨c,L,S,Q0,I,h,k⟩:=q1; exact
 ⟨c,L,S,_,I,h,fun v L1 hv x S1 H1 r1 I1 s1=>⟨c,L1,S1,_,I1,hv,fun w L2 hw y S2 H2 r2 I2 s2=>by
  obtain ⟨ps,e,hw⟩:=wpx hw
  obtain ⟨qs,e',q⟩:=wpx hw
  obtain ⟨l,rfl,st⟩:=(r1.mono s2).stays e
  obtain ⟨l',rfl,st'⟩:=r2.stays e'
  obtain ⟨vs,h1,_⟩:=st S2 H2 (Same.refl _) I2.sub
  obtain ⟨ws,h2,_⟩:=st' S2 H2 (Same.refl _) I2.sub
  exact ⟨_,_,l,l',rfl,⟨vs,h1⟩,⟨ws,h2⟩,k _ L2 q _ c S2 H2 I2 (fun _ _ _ _ I=>I) rfl (it_zip (fun L σ S H I s=>st S H s I.sub) fun L σ S H I s=>st' S H s I.sub) (s1.trans s2)⟩⟩⟩
theorem fi_enum (G:Good X C n sp) (hg:C.gl (Str.ofString "enumerate")=true) (hs:isStar a=false) (ha:FE X C a ea):FI X C C.md (.Tuple elts kk tp) (.Call (.Name (Str.ofString "enumerate") p) [a] [] pos) (iEnum ea) :=
 PI.imp (pi_en (G.gl hg) (G.blt "enumerate" (by decide)) (pa_cons ha pa_nil (star_ok hs)) (star_ok hs)) fun σ H R q1=>by obtain ⟨c,L,S,Q0,I,h,k⟩:=q1; exact
 ⟨c,L,S,_,I,h,fun v L1 hv x S1 H1 r1 I1 s1=>by
  obtain ⟨ps,e,q⟩:=wpx hv
  obtain ⟨l,rfl,st⟩:=r1.stays e
  obtain ⟨vs,h1,_⟩:=st S1 H1 (Same.refl _) I1.sub
  exact ⟨_,l,rfl,⟨vs,h1⟩,k _ L1 q _ c S1 H1 I1 (fun _ _ _ _ I=>I) rfl (it_enum fun L σ S H I s=>st S H s I.sub) s1⟩⟩
end
def gTs:List Nat→TGs
 | []=>gNil
 | i :: is=>gCons (gName i) (gTs is)
def gT (K:PySem.W.Frag):Tg→TG
 | .nm i=>gName i
 | .tp is=>gTup K is.length (gTs is)
 | .tn i is=>gTup K 2 (gCons (gName i) (gCons (gTup K is.length (gTs is)) gNil))
def tgImm (md:Md):Tg→Bool
 | .nm i=>decide (mdAt md i=.imm)
 | .tp is=>is.all fun i=>decide (mdAt md i=.imm)
 | .tn i is=>decide (mdAt md i=.imm) && is.all fun i=>decide (mdAt md i=.imm)
def tgMin (n:Nat):Tg→Bool
 | .nm i=>decide (n≤i)
 | .tp is=>is.all fun i=>decide (n≤i)
 | .tn i is=>decide (n≤i) && is.all fun i=>decide (n≤i)
def FG (X:Cx) (t:Expr) (tg:Tg):Prop:=PG X.nox t (gT X.K tg)
section
variable {K:PySem.W.Frag}{c:Cn}{md:Md}{L:FLoc}{σ:L2.St}{S H:Hp}
theorem sets_rel:∀ {is:List Nat} {ps:List FV} {vs:List V} {L L':FLoc} {σ:L2.St},(is.all fun i=>decide (mdAt md i=.imm))=true→Iv K c md L σ S H→RVs K S ps vs→setsF L is ps=some L' →
  ∃ σ',(∀ Q:L2.St→Hp→Prop,Q σ' H→gTs is vs σ H Q)∧Iv K c md L' σ' S H∧σ'.length=σ.length∧is.length=vs.length∧∀ n,(is.all fun i=>decide (n≤i))=true→∀ j,j < n→σ'[j]?=σ[j]?
 | [],[],vs,L,L',σ,_,I,r,e=>by cases (show vs=[] from r); cases e; exact ⟨σ,fun Q q=>⟨rfl,q⟩,I,rfl,rfl,fun _ _ _ _=>rfl⟩
 | i :: is,p :: ps,vs,L,L',σ,hm,I,r,e=>by
  obtain ⟨v,q,rfl,h1,h2⟩:=r
  have hm:=b2 (show (decide (mdAt md i=.imm) && is.all fun i=>decide (mdAt md i=.imm))=true from hm)
  obtain ⟨σ',g,I',l1,l2,far⟩:=sets_rel (is:=is) (ps:=ps) (vs:=q) hm.2 (I.setI (de hm.1) h1) h2 e
  refine ⟨σ',fun Q q'=>⟨v,q,rfl,g Q q'⟩,I',by rw [l1,List.length_set],by rw [List.length_cons,List.length_cons,l2],fun n hn j hj=>?_⟩
  have hn:=b2 (show (decide (n≤i) && is.all fun i=>decide (n≤i))=true from hn)
  have:=de hn.1
  rw [far n hn.2 j hj,List.getElem?_set_ne (by lia)]
 | [],p :: ps,_,_,_,_,_,_,_,e=>by cases e
 | i :: is,[],_,_,_,_,_,_,_,e=>by cases e
theorem gT_rel {tg:Tg} {v:FV} {x:V} {Q:FLoc→Prop} (hm:tgImm md tg=true) (I:Iv K c md L σ S H) (r:RV K S v x) (h:gW tg v L Q) :
  ∃ σ' L',(∀ Q':L2.St→Hp→Prop,Q' σ' H→gT K tg x σ H Q')∧Q L'∧Iv K c md L' σ' S H∧σ'.length=σ.length∧∀ n,tgMin n tg=true→∀ j,j < n→σ'[j]?=σ[j]?:=by
 cases tg with
 | nm i =>
  refine ⟨σ.set i (some x),L.set i (some v),fun Q q=>q,h,I.setI (de hm) r,List.length_set ..,fun n hn j hj=>?_⟩
  have:n≤i:=de hn
  exact List.getElem?_set_ne (by lia)
 | tp is =>
  obtain ⟨ps,e,h⟩:=wpx h
  obtain ⟨L',e1,q⟩:=wpx h
  cases tupF_eq e
  obtain ⟨a,vs,rfl,h1,h2⟩:=r
  obtain ⟨σ',g,I',l1,l2,far⟩:=sets_rel hm I h2 e1
  exact ⟨σ',L',fun Q q=>⟨a,vs,rfl,SqT.of (I.sub _ _ h1),l2.symm,g Q q⟩,q,I',l1,far⟩
 | tn i is =>
  have hm:=b2 hm
  obtain ⟨ps,e,h⟩:=wpx h
  obtain ⟨p,e1,h⟩:=wpx h
  obtain ⟨qs,e2,h⟩:=wpx h
  obtain ⟨L',e3,q⟩:=wpx h
  cases tupF_eq e
  obtain ⟨p1,p2⟩:=p
  obtain rfl:ps=[p1,p2]:=by
   rcases ps with _ | ⟨a,_ | ⟨b,_ | ⟨c,r⟩⟩⟩ <;> first | (cases e1; done) | (cases e1; rfl)
  obtain ⟨a,vs,rfl,h1,h2⟩:=r
  obtain ⟨u,w,rfl,r1,r2⟩:=h2.two_of
  cases tupF_eq e2
  obtain ⟨b,ws,rfl,h3,h4⟩:=r2
  obtain ⟨σ',g,I',l1,l2,far⟩:=sets_rel hm.2 (I.setI (de hm.1) r1) h4 e3
  refine ⟨σ',L',fun Q q=>⟨a,_,rfl,SqT.of (I.sub _ _ h1),rfl,_,_,rfl,_,_,rfl,b,ws,rfl,SqT.of (I.sub _ _ h3),l2.symm,g _ ⟨rfl,q⟩⟩,q,I',by rw [l1,List.length_set],fun n hn j hj=>?_⟩
  have hn:=b2 hn
  have:=de hn.1
  rw [far n hn.2 j hj,List.getElem?_set_ne (by lia)]
theorem Iv.regrow {a:Addr} {o o':HO} (I:Iv K { c with pr:=(a,o) :: c.pr } md L σ S H) (h0:c.H0 a=none) (hp:∀ p∈c.pr,p.1≠a) (hz:∀ p∈c.fz,∃ o,(p.2,o)∈c.pr) (nt:isTup o'=false:=by first | rfl | exact ownH_nt _ _):Iv K { c with pr:=(a,o') :: c.pr } md L σ S (upd H a o'):=by
 obtain ⟨_,sa,na⟩:=I.prs (a,o) List.mem_cons_self
 have oa:∀ j w b,mdAt md j≠.imm→L[j]?=some (some w)→σ[j]?=some (some (.ref b))→b≠a:=fun j w b hm hj hs z=>by
  subst z
  by_cases m:(mdAt md j).w=true
  ·exact na j w m hj hs
  ·have m:mdAt md j=.frz:=by cases q:mdAt md j with | imm=>exact absurd q hm | frz=>rfl | _=>rw [q] at m; exact absurd rfl m
   obtain ⟨b',g1⟩:=I.fzm j w m hj
   obtain ⟨_,g2,_⟩:=I.fzs _ g1
   rw [hs] at g2; cases g2
   obtain ⟨xs,g3⟩:=hz _ g1
   exact hp _ g3 rfl
 refine ⟨I.len,I.imm,fun j w hm hj=>?_,I.dis,fun b u e=>?_,fun b u e n n1=>?_,I.s0,I.grow,I.lent,I.fzs,I.fzm,fun p hpz=>let ⟨xs,g⟩:=hz p hpz; ⟨xs,List.mem_cons_of_mem _ g⟩,fun p hpr=>?_,fun p hpr=>(List.mem_cons.mp hpr).elim (fun z=>by rw [z]; exact nt) fun z=>I.ntp p (List.mem_cons_of_mem _ z),I.lnt1,I.tie⟩
 ·obtain ⟨b,e1,⟨g1,ps,xs,g2,g3,g4⟩,g5⟩:=I.own j w hm hj
  exact ⟨b,e1,⟨g1,ps,xs,g2,by rw [upd_ne (oa j w b hm hj e1)]; exact g3,g4⟩,g5⟩
 ·rw [upd_ne fun z=>by subst z; rw [sa] at e; cases e]; exact I.sub b u e
 ·rw [upd_ne fun z=>by subst z; rw [h0] at e; cases e]; exact I.frame b u e n n1
 ·rcases List.mem_cons.mp hpr with rfl | hpr
  ·exact ⟨upd_same,sa,na⟩
  ·obtain ⟨g1,g2,g3⟩:=I.prs p (List.mem_cons_of_mem _ hpr)
   exact ⟨by rw [upd_ne (hp p hpr)]; exact g1,g2,g3⟩
theorem Iv.unprot {a:Addr} {o:HO} (I:Iv K { c with pr:=(a,o) :: c.pr } md L σ S H) (hz:∀ p∈c.fz,∃ o,(p.2,o)∈c.pr):Iv K c md L σ S H :=
 ⟨I.len,I.imm,I.own,I.dis,I.sub,I.frame,I.s0,I.grow,I.lent,I.fzs,I.fzm,hz,fun p hp=>I.prs p (List.mem_cons_of_mem _ hp),fun p hp=>I.ntp p (List.mem_cons_of_mem _ hp),I.lnt1,I.tie⟩
theorem md_far:∀ {md:Md} {i:Nat},md.length≤i→mdAt md i=.imm
 | [],i,_=>rfl
 | a :: md,0,h=>absurd h (by simp)
 | a :: md,i + 1,h=>md_far (md:=md) (i:=i) (by simpa using h)
theorem Iv.more (I:Iv K c md L σ S H) (m:Nat):Iv K c md (L++List.replicate m none) (σ++List.replicate m none) S H:=by
 have look:∀ j w,(L++List.replicate m none)[j]?=some (some w)→L[j]?=some (some w)∧(σ++List.replicate m none)[j]?=σ[j]?:=fun j w z=>by
  by_cases h:j < L.length
  ·rw [List.getElem?_append_left h] at z
   exact ⟨z,List.getElem?_append_left (by rw [← I.len]; exact h)⟩
  ·rw [List.getElem?_append_right (by lia),List.getElem?_replicate] at z
   split at z <;> cases z
 have up:∀ j w,L[j]?=some (some w)→(L++List.replicate m none)[j]?=some (some w)∧(σ++List.replicate m none)[j]?=σ[j]?:=fun j w z=>by
  have h:=(List.getElem?_eq_some_iff.mp z).1
  exact ⟨by rw [List.getElem?_append_left h]; exact z,List.getElem?_append_left (by rw [← I.len]; exact h)⟩
 refine ⟨by simp [I.len],fun j w hm z=>?_,fun j w hm z=>?_,fun j k w u b m1 m2 z1 z2 y1 y2=>?_,I.sub,I.frame,I.s0,I.grow,fun b hb=>?_,fun p hp=>?_,fun j w hm z=>I.fzm j w hm (look j w z).1,I.fzp,fun p hp=>?_,I.ntp,fun q hq=>?_,fun j k x C dx fs w h1 h2 h3 h4=>?_⟩
 ·obtain ⟨z,y⟩:=look j w z; rw [y]; exact I.imm j w hm z
 ·obtain ⟨z,y⟩:=look j w z; rw [y]; exact I.own j w hm z
 ·obtain ⟨z1,q1⟩:=look j w z1
  obtain ⟨z2,q2⟩:=look k u z2
  rw [q1] at y1; rw [q2] at y2
  exact I.dis j k w u b m1 m2 z1 z2 y1 y2
 ·obtain ⟨g1,g2,w,g3⟩:=I.lent b hb
  obtain ⟨f1,f2⟩:=up 0 w g3
  exact ⟨g1,by rw [f2]; exact g2,w,f1⟩
 ·obtain ⟨g1,g2,w,g3⟩:=I.fzs p hp
  obtain ⟨f1,f2⟩:=up p.1 w g3
  exact ⟨g1,by rw [f2]; exact g2,w,f1⟩
 ·obtain ⟨g1,g2,g3⟩:=I.prs p hp
  refine ⟨g1,g2,fun j w hm z=>?_⟩
  obtain ⟨z,y⟩:=look j w z
  rw [y]; exact g3 j w hm z
 ·obtain ⟨g1,g2,w,g3⟩:=I.lnt1 q hq
  obtain ⟨f1,f2⟩:=up q.1 w g3
  exact ⟨g1,by rw [f2]; exact g2,w,f1⟩
 ·obtain ⟨z4,y4⟩:=look j w h4
  rw [y4]
  exact I.tie j k x C dx fs w h1 h2 (look k _ h3).1 z4
theorem Iv.take {n:Nat} {σ2:L2.St} (I:Iv K c md L σ2 S H) (hmd:md.length≤n) (hs:σ.length=n) (hl:n≤σ2.length) (e:∀ j,j < n→σ2[j]?=σ[j]?):Iv K c md (L.take n) σ S H:=by
 have look:∀ j w,(L.take n)[j]?=some (some w)→L[j]?=some (some w)∧σ[j]?=σ2[j]?:=fun j w z=>by
  have h:=(List.getElem?_eq_some_iff.mp z).1
  rw [List.length_take] at h
  rw [List.getElem?_take_of_lt (by lia)] at z
  exact ⟨z,(e j (by lia)).symm⟩
 have up:∀ j w,mdAt md j≠.imm→L[j]?=some (some w)→(L.take n)[j]?=some (some w)∧σ[j]?=σ2[j]?:=fun j w hm z=>by
  have h:j < n:=by
   by_cases h:j < n
   ·exact h
   ·exact absurd (md_far (by lia)) hm
  exact ⟨by rw [List.getElem?_take_of_lt h]; exact z,(e j h).symm⟩
 refine ⟨by rw [List.length_take,I.len,hs]; lia,fun j w hm z=>?_,fun j w hm z=>?_,fun j k w u b m1 m2 z1 z2 y1 y2=>?_,I.sub,I.frame,I.s0,I.grow,fun b hb=>?_,fun p hp=>?_,fun j w hm z=>I.fzm j w hm (look j w z).1,I.fzp,fun p hp=>?_,I.ntp,fun q hq=>?_,fun j k x C dx fs w h1 h2 h3 h4=>?_⟩
 ·obtain ⟨z,y⟩:=look j w z; rw [y]; exact I.imm j w hm z
 ·obtain ⟨z,y⟩:=look j w z; rw [y]; exact I.own j w hm z
 ·obtain ⟨z1,q1⟩:=look j w z1
  obtain ⟨z2,q2⟩:=look k u z2
  rw [q1] at y1; rw [q2] at y2
  exact I.dis j k w u b m1 m2 z1 z2 y1 y2
 ·obtain ⟨g1,g2,w,g3⟩:=I.lent b hb
  obtain ⟨f1,f2⟩:=up 0 w g1 g3
  exact ⟨g1,by rw [f2]; exact g2,w,f1⟩
 ·obtain ⟨g1,g2,w,g3⟩:=I.fzs p hp
  obtain ⟨f1,f2⟩:=up p.1 w (fun z=>by rw [g1] at z; cases z) g3
  exact ⟨g1,by rw [f2]; exact g2,w,f1⟩
 ·obtain ⟨g1,g2,g3⟩:=I.prs p hp
  refine ⟨g1,g2,fun j w hm z=>?_⟩
  obtain ⟨z,y⟩:=look j w z
  rw [y]; exact g3 j w hm z
 ·obtain ⟨g1,g2,w,g3⟩:=I.lnt1 q hq
  obtain ⟨f1,f2⟩:=up q.1 w (fun z=>by rw [z] at g1; cases g1) g3
  exact ⟨g1,by rw [f2]; exact g2,w,f1⟩
 ·obtain ⟨z4,y4⟩:=look j w h4
  rw [y4]
  exact I.tie j k x C dx fs w h1 h2 (look k _ h3).1 z4
theorem comp_semX {α β:Type} {J:It} {xs:List FV} {n m:Nat} {tg:Tg} {t:BW} {QH:Hp→Prop} {fr:β→Cn} {P:α→β→Hp→Prop} {N:α→Nat} {Cm:List FV→α→FLoc→Prop} {em:α→FLoc→(α→FLoc→Prop)→Prop} {eh:L2.St→Hp→(Hp→Prop)→Prop} {a0:α} {b0:β}
  (I:Iv K (fr b0) md L σ S H) (hJ:ItR K c md J xs S) (hL:L.length=n) (hmd:md.length≤n) (ht:tgImm md tg=true) (hg:tgMin n tg=true) (p0:P a0 b0 S) (n0:N a0=0) (h:Cm xs a0 L)
  (hU:∀ a b L σ S H,Iv K (fr b) md L σ S H→P a b S→Iv K c md L σ S H) (hP:∀ a b S S',P a b S→Same S S'→P a b S')
  (hC:∀ x xs a L,Cm (x :: xs) a L→gW tg x (L++List.replicate m none) fun L1=>t L1 fun b L2=>if b=true then em a L2 (fun a' L4=>Cm xs a' (L4.take n)) else Cm xs a (L2.take n))
  (hE:∀ a b L3 σ2 S3 H3 K' Z,N a < xs.length→Iv K (fr b) md L3 σ2 S3 H3→P a b S3→em a L3 K'→(∀ a' b' L4 S4 H4,K' a' L4→Iv K (fr b') md L4 σ2 S4 H4→P a' b' S4→Same S3 S4→N a'≤N a + 1→Z H4)→eh σ2 H3 Z)
  (k:∀ a b L' S' H',Cm [] a L'→Iv K (fr b) md L' σ S' H'→P a b S'→Same S S'→QH H') :
  ∃ W:Nat→Nat→Hp→Prop,(∃ m,W 0 m H)∧∀ i j H,W i j H →
   (J.stop i H∧QH H) ∨ (J.go i H∧∀ x H',J.yld i H x H'→gT K tg x (σ++List.replicate m none) H' fun σ2 H2=>Wk (σ++List.replicate m none) σ2∧lb K md t σ2 H2 fun b H3 =>
    if b=true then eh σ2 H3 fun H4=>∃ m',m' < j∧W (i + 1) m' H4 else ∃ m',m' < j∧W (i + 1) m' H3):=by
 have hl:σ.length=n:=by rw [← I.len]; exact hL
 refine ⟨fun i j H1=>∃ L S1 a b,j=(xs.drop i).length∧Iv K (fr b) md L σ S1 H1∧P a b S1∧Same S S1∧L.length=n∧N a≤i∧Cm (xs.drop i) a L,⟨_,L,S,a0,b0,rfl,I,p0,Same.refl S,hL,Nat.le_of_eq n0,by rw [List.drop_zero]; exact h⟩,?_⟩
 rintro i j H1 ⟨L,S1,a,b,rfl,I,r,s,hL,hps,hc⟩
 obtain ⟨j1,j2⟩:=hJ i L σ S1 H1 (hU _ _ _ _ _ _ I r) s
 cases hd:xs.drop i with
 | nil =>
  left
  rw [hd] at hc
  exact ⟨j1 (List.getElem?_eq_none_iff.mpr (List.drop_eq_nil_iff.mp hd)),k a b L S1 H1 hc I r s⟩
 | cons p rest =>
  right
  rw [hd] at hc
  have hi:xs[i]?=some p:=by
   have:=congrArg (·[0]?) hd
   simpa using this
  have hd':xs.drop (i + 1)=rest:=by
   have:=congrArg List.tail hd
   simpa [List.tail_drop] using this
  have hix:i < xs.length:=(List.getElem?_eq_some_iff.mp hi).1
  obtain ⟨go,yl⟩:=j2 p hi
  refine ⟨go,fun x H2 y=>?_⟩
  obtain ⟨S2,s2,tr,rx⟩:=yl x H2 y
  have I2:=(tr _ _ _ _ I).more m
  obtain ⟨σ2,L2,gq,q2,I2,len2,far⟩:=gT_rel ht I2 rx (hC _ _ _ _ hc)
  have l2:n≤σ2.length:=by rw [len2,List.length_append,hl]; lia
  have far':∀ q,q < n→σ2[q]?=σ[q]?:=fun q hq=>by rw [far n hg q hq,List.getElem?_append_left (by rw [hl]; exact hq)]
  refine gq _ ⟨⟨len2,fun q v hv=>?_⟩,?_⟩
  ·have hq:q < n:=by
    by_cases h:q < σ.length
    ·rw [← hl]; exact h
    ·rw [List.getElem?_append_right (by lia),List.getElem?_replicate] at hv
     split at hv <;> cases hv
   rw [far n hg q hq]; exact hv
  ·refine ⟨_,L2,S2,_,I2,q2,fun b1 L3 hb3 S3 H3 I3 s3=>?_⟩
   have ln:∀ {c':Cn} {L4:FLoc} {S4 H4:Hp},Iv K c' md L4 σ2 S4 H4→(L4.take n).length=n:=fun I4=>by rw [List.length_take,I4.len]; lia
   show ite _ _ _
   cases b1 with
   | false =>
    rw [if_neg Bool.false_ne_true] at hb3 ⊢
    exact ⟨rest.length,by simp,L3.take n,S3,a,b,by rw [hd'],I3.take hmd hl l2 far',hP _ _ _ _ r (s2.trans s3),s.trans (s2.trans s3),ln I3,by lia,by rw [hd']; exact hb3⟩
   | true =>
    rw [if_pos rfl] at hb3 ⊢
    exact hE a b L3 σ2 S3 H3 _ _ (by lia) I3 (hP _ _ _ _ r (s2.trans s3)) hb3 fun a' b' L4 S4 H4 hv I4 r4 s4 n4=>⟨rest.length,by simp,L4.take n,S4,a',b',by rw [hd'],I4.take hmd hl l2 far',r4,s.trans (s2.trans (s3.trans s4)),ln I4,by lia,by rw [hd']; exact hv⟩
theorem Iv.newPr {acc:Addr} {o:HO} (I:Iv K { c with pr:=(acc,o) :: c.pr } md L σ S H) (h0:c.H0 acc=none) (hp:∀ p∈c.pr,p.1≠acc) (hz:∀ p∈c.fz,∃ o,(p.2,o)∈c.pr):H acc=some o∧S acc=none∧Fresh c md L σ acc:=by
 obtain ⟨g1,g2,g3⟩:=I.prs (acc,o) List.mem_cons_self
 refine ⟨g1,g2,h0,hp,fun q w hm hq hs=>?_⟩
 by_cases mo:(mdAt md q).w=true
 ·exact g3 q w mo hq hs
 ·have mo:mdAt md q=.frz:=by cases z:mdAt md q with | imm=>exact absurd z hm | frz=>rfl | _=>rw [z] at mo; exact absurd rfl mo
  obtain ⟨b,f1⟩:=I.fzm q w mo hq
  obtain ⟨_,f2,_⟩:=I.fzs _ f1
  rw [hs] at f2; cases f2
  obtain ⟨ys,f3⟩:=hz _ f1
  exact hp _ f3 rfl
theorem comp_sem {J:It} {xs:List FV} {n m:Nat} {tg:Tg} {t:BW} {e:EW} {Q:VK} {Q1:List FV→FLoc→Prop} (I:Iv K c md L σ S H) (hJ:ItR K c md J xs S) (hL:L.length=n) (hmd:md.length≤n) (ht:tgImm md tg=true) (hg:tgMin n tg=true) (hb:xs.length≤big) (h:compW n m tg t e xs [] L Q1)
  (k:∀ acc ps L' S' H',H acc=none→Q1 ps L'→OwnAt K S' H' acc (.lst ps)→Fresh c md L' σ acc→Iv K c md L' σ S' H'→Same S S'→Q (.ref acc) H') :
  ∀ acc,H acc=none→∃ W:Nat→Nat→Hp→Prop,(∃ m,W 0 m (upd H acc (.lst [])))∧∀ i j H,W i j H →
   (J.stop i H∧Q (.ref acc) H) ∨ (J.go i H∧∀ x H',J.yld i H x H'→gT K tg x (σ++List.replicate m none) H' fun σ2 H2=>Wk (σ++List.replicate m none) σ2∧lb K md t σ2 H2 fun b H3 =>
    if b=true then emL (lv K md e) acc σ2 H3 fun H4=>∃ m',m' < j∧W (i + 1) m' H4 else ∃ m',m' < j∧W (i + 1) m' H3):=by
 intro acc hacc
 have h0:=I.h0 hacc
 have hp:∀ p∈c.pr,p.1≠acc:=(I.fresh hacc).2.1
 have hz:=I.fzp
 have hbl:=big_line
 refine comp_semX (fr:=fun us=>{ c with pr:=(acc,.lst us) :: c.pr }) (P:=fun ps us S=>RVs K S ps us) (N:=List.length) (Cm:=fun xs ps L=>compW n m tg t e xs ps L Q1) (em:=fun ps L3 K'=>e L3 fun v L4=>K' (ps++[v]) L4) (a0:=[]) (b0:=[]) ((I.lay hacc _).prot upd_same (I.sn hacc) fun j w hm hj=>(I.fresh hacc).2.2 j w (Mo.w_imm hm) hj) hJ hL hmd ht hg rfl rfl h (fun _ _ _ _ _ _ I _=>I.unprot hz) (fun _ _ _ _ r s=>r.mono s) (fun _ _ _ _ h=>h) (fun ps us L3 σ2 S3 H3 K' Z hn I3 r hv kz=>?_) fun ps us L' S' H' q I' r s'=>?_
 ·refine ⟨_,L3,S3,_,I3,hv,fun v L4 hv u S4 H4 r4 I4 s4=>?_⟩
  have lr:=r.length
  exact ⟨us,(I4.prs (acc,.lst us) List.mem_cons_self).1,by lia,kz _ (us++[u]) L4 S4 _ hv (I4.regrow h0 hp hz) ((r.mono s4).append (RVs.one r4)) s4 (by simp)⟩
 ·obtain ⟨g1,g2,f⟩:=I'.newPr h0 hp hz
  exact k acc ps L' S' H' hacc q ⟨g2,ps,us,rfl,g1,r⟩ f (I'.unprot hz) s'
end
def isSet:Expr→Bool
 | .Set ..=>true
 | _=>false
theorem fsi_ok {x:Expr} {env:Env} (h:isSet x=false):∀ v,foldedSetIterable x env v=pure v:=by
 intro v
 cases x <;> first | rfl | (cases h; done)
def CC.tn (C:CC) (i:Nat) (x:Str):Bool:=decide (C.N[i]?=some x) && C.loc x
def relN (outer:List (Str×NameKind)) (names:List (Str×NameKind)):List (Str×NameKind) :=
 names.map fun (n,k)=>if (k == NameKind.free && outer.lookup n == some .cell) then (n,NameKind.cell) else (n,k)
def CC.sub (C:CC) (scope:Scope) (own:List Str) (md:Md):CC:=⟨C.N.map (maskN own)++own,relN C.sc scope.names,C.fns,md,false,scope.names,C.ms,C.fl⟩
def CC.scOk (C:CC) (scope:Scope) (own:List Str):Bool :=
 decide (scope.kind=.function) && scope.names.all (fun p=>decide (p.2=.cell→scope.names.lookup p.1=some .cell)) && scope.names.all (fun p=>decide (p.2=.local→scope.names.lookup p.1=some .local)) &&
 scope.names.all (fun p=>decide (p.2=.free→(C.sc.lookup p.1=some .cell ∨ C.sc.lookup p.1=some .free))) && C.N.all (fun x=>if own.contains x then decide (scope.names.lookup (hidN x)=none) else decide (scope.names.lookup x≠some .local∧scope.names.lookup x≠some .cell)) && decide ((C.N.map (maskN own)++own).Nodup)
def mdLe:Md→Md→Bool
 | [],_=>true
 | a :: md,[]=>decide (a=.imm) && mdLe md []
 | a :: md,b :: md'=>(decide (a=.imm) || !decide (b=.imm)) && mdLe md md'
theorem mdLe_of:∀ {md md':Md},mdLe md md'=true→∀ j,mdAt md j≠.imm→mdAt md' j≠.imm
 | [],_,_,j,h=>absurd rfl h
 | a :: md,[],h,0,h0=>absurd (de (b2 h).1) h0
 | a :: md,[],h,j + 1,h0=>mdLe_of (md:=md) (md':=[]) (b2 h).2 j h0
 | a :: md,b :: md',h,0,h0=>fun z=>by
  have h:=(b2 h).1
  have h0:a≠.imm:=h0
  have z:b=.imm:=z
  simp [h0,z] at h
 | a :: md,b :: md',h,j + 1,h0=>mdLe_of (md:=md) (md':=md') (b2 h).2 j h0
def FGs (X:Cx) (es:List Expr) (is:List Nat):Prop:=PGs X.nox es (gTs is)∧(assignEach es X.env).length=is.length∧(assignEach es X.env).findIdx? (·.1)=none
def FTs (X:Cx) (C:CC) (xs:List Expr) (t:BW):Prop:=PTs X.nox xs (lb X.K C.md t)
section
variable {X:Cx}{C:CC}{n:Nat}{sp:PySem.W.Frag→Nat→Sp}{x:Expr}{xs:List Expr}{pos p:Pos}{i k:Nat}{nx:Str}{is:List Nat}{t u:BW}
theorem Good.ix (G:Good X C n sp) {y:Str} (h:decide (C.N[i]?=some y)=true):X.N[i]?=some y:=by rw [G.N]; exact de h
theorem Good.nd' (G:Good X C n sp):X.N.Nodup:=by rw [G.N]; exact G.nd
theorem fg_nm (G:Good X C n sp) (h:C.tn i nx=true):FG X (.Name nx p) (.nm i):=by
 have h:=b2 h
 obtain ⟨l1,l2⟩:=G.loc h.2
 exact pg_name (X:=X.nox) G.nd' (G.ix h.1) l1 l2
theorem fgs_nil:FGs X [] []:=⟨pgs_nil,rfl,rfl⟩
theorem fgs_cons (G:Good X C n sp) (h:C.tn i nx=true) (r:FGs X xs is):FGs X (.Name nx p :: xs) (i :: is):=by
 obtain ⟨h1,h2,h3⟩:=r
 refine ⟨pgs_cons (fg_nm G h) h1 rfl,?_,?_⟩
 ·show (assignEach xs X.env).length + 1=is.length + 1
  rw [h2]
 ·show ((false,assign (.Name nx p) X.env) :: assignEach xs X.env).findIdx? (·.1)=none
  rw [List.findIdx?_cons]
  simp [h3]
theorem fg_tp (G:Good X C n sp) (r:FGs X xs is):FG X (.Tuple xs k p) (.tp is):=pg_tup (X:=X.nox) G.calm r.1 r.2.1 r.2.2
theorem PTs.imp {e:List Expr} {t u:TT} (h:PTs X e t) (f:∀ σ H Q,u σ H Q→t σ H Q):PTs X e u:=fun pins s σ H Q I hu=>h pins s σ H Q I (f σ H Q hu)
theorem fts_nil:FTs X C [] bTrue:=PTs.imp pts_nil fun σ H Q q1=>by obtain ⟨c,L,S,Q0,I,h,k⟩:=q1; exact k true L h S H I (Same.refl S)
theorem Good.sub (G:Good X C n sp) {scope:Scope} {own:List Str} (h:C.scOk scope own=true) (md:Md):CScope X scope own∧∀ fp D s H,Good (cxC X scope own fp D s H) (C.sub scope own md) n sp:=by
 simp only [CC.scOk,Bool.and_eq_true,decide_eq_true_eq,List.all_eq_true] at h
 obtain ⟨⟨⟨⟨⟨h1,h2⟩,h3⟩,h4⟩,h5⟩,h6⟩:=h
 refine ⟨⟨h1,fun p hp=>by simpa using h2 p hp,fun p hp=>by simpa using h3 p hp,fun p hp hk=>?_,fun x hx hw=>?_,fun x hx hw=>?_⟩,fun fp D s H=>⟨?_,?_,h1,h6,G.calm,(fun x z=>z),G.room,G.fns,G.blt,G.mts,G.fls⟩⟩
 ·have:=h4 p hp
  show X.env.scope.names.lookup p.1=_ ∨ X.env.scope.names.lookup p.1=_
  rw [G.sc]; exact this hk
 ·have:=h5 x (by rw [← G.N]; exact hx)
  rw [if_neg (by rw [hw]; exact Bool.false_ne_true)] at this
  exact de this
 ·have:=h5 x (by rw [← G.N]; exact hx)
  rw [if_pos hw] at this
  exact de this
 ·show X.N.map (maskN own)++own=C.N.map (maskN own)++own
  rw [G.N]
 ·show (relabel scope X.env).names=relN C.sc scope.names
  unfold relabel relN
  simp only
  refine List.map_congr_left fun p hp=>?_
  obtain ⟨nm,kd⟩:=p
  show (if (kd == NameKind.free && X.env.scope.kind == .function && X.env.scope.names.lookup nm == some .cell)=true then (nm,NameKind.cell) else (nm,kd))=_
  rw [G.kind,G.sc]
  simp
variable {scope:Scope}{own:List Str}{elt tgx iter:Expr}{ifs:List Expr}{it:AW}{tg:Tg}{e:EW}{nn m:Nat}{md':Md}
structure CompOk (X:Cx) (C:CC) (n:Nat) (sp:PySem.W.Frag→Nat→Sp) (scope:Scope) (own:List Str) (elt tgx iter:Expr) (ifs:List Expr) (nn m:Nat) (md':Md) (it:AW) (tg:Tg) (t:BW) (e:EW):Prop where
 st:(C.scOk scope own && decide (C.N.length=nn) && decide (own.length=m) && decide (md'.length≤nn) && mdLe C.md md' && tgImm md' tg && tgMin nn tg && !isSet iter)=true
 it:FI X C md' tgx iter it
 tg:∀ X',Good X' (C.sub scope own md') n sp→FG X' tgx tg
 ts:∀ X',Good X' (C.sub scope own md') n sp→FTs X' (C.sub scope own md') ifs t
 el:∀ X',Good X' (C.sub scope own md') n sp→FE X' (C.sub scope own md') elt e
theorem CompOk.run (G:Good X C n sp) (h:CompOk X C n sp scope own elt tgx iter ifs nn m md' it tg t e) {σ:L2.St} {H:Hp} {Q:VK} (hq:lf X.K C.md (eComp nn m it tg t e) σ H Q):tComp (li X.K C.md md' it) (gT X.K tg) (lb X.K md' t) (lv X.K md' e) own.length σ H Q:=by
 have h0:=b2 h.st; have h1:=b2 h0.1; have h2:=b2 h1.1; have h3:=b2 h2.1; have h4:=b2 h3.1; have h5:=b2 h4.1; have h6:=b2 h5.1
 obtain ⟨c,L,S,Q0,I,hh,k⟩:=hq
 refine ⟨c,L,S,_,I,hh,fun xs L1 hx J c' S1 H1 I1 un e0 hJ s1=>?_⟩
 obtain ⟨hl,hb,hc⟩:=hx
 rw [de h5.2]
 refine comp_sem I1 hJ hl (de h4.2) h2.2 h1.2 hb hc fun acc ps L' S' H' hn q o fr I' s'=>k _ L' q acc S' H' o ⟨by rw [← e0]; exact fr.1,((un _ _ _ _ I1).fresh hn).2.1,fun j w hm=>fr.2.2 j w (mdLe_of h3.2 j hm)⟩ (un _ _ _ _ I') (s1.trans s')
theorem CompOk.blk (G:Good X C n sp) (h:CompOk X C n sp scope own elt tgx iter ifs nn m md' it tg t e):CScope X scope own∧(∀ fp D s H,PG (cxC X scope own fp D s H) tgx (gT X.K tg)∧PTs (cxC X scope own fp D s H) ifs (lb X.K md' t)∧PE (cxC X scope own fp D s H) elt (lv X.K md' e))∧∀ v,foldedSetIterable iter X.env v=pure v:=by
 have h0:=b2 h.st; have h1:=b2 h0.1; have h2:=b2 h1.1; have h3:=b2 h2.1; have h4:=b2 h3.1; have h5:=b2 h4.1; have h6:=b2 h5.1
 obtain ⟨s1,s2⟩:=G.sub h6.1 md'
 exact ⟨s1,fun fp D s H=>⟨h.tg _ (s2 fp D s H),h.ts _ (s2 fp D s H),h.el _ (s2 fp D s H)⟩,fsi_ok (nb h0.2)⟩
theorem ff_comp (G:Good X C n sp) (h:CompOk X C n sp scope own elt tgx iter ifs nn m md' it tg t e):FF X C (.ListComp elt [⟨tgx,iter,ifs,0⟩] scope pos) (eComp nn m it tg t e):=by
 obtain ⟨s1,s2,s3⟩:=h.blk G
 exact PE.imp (pe_comp G.calm s1 h.it s2 s3) fun σ H Q q=>h.run G q
end
def RetOk (K:PySem.W.Frag) (c:Cn) (S H:Hp) (v:FV) (x:V):Bool→Prop
 | false=>RV K S v x
 | true=>∃ a,x=.ref a∧OwnAt K S H a v∧c.H0 a=none
def EndQ (K:PySem.W.Frag) (c:Cn) (fr:Bool) (D:Ends) (σ:L2.St) (S H:Hp):FFl→Prop
 | .next=>D.nx σ H
 | .brk=>D.bk σ H
 | .cont=>D.ct σ H
 | .ret v=>∀ x,RetOk K c S H v x fr→D.rt x H
inductive ls (K:PySem.W.Frag) (md:Md) (fr:Bool) (s:SW) (D:Ends) (σ:L2.St) (H:Hp):Prop
 | mk (c:_) (L:_) (S:_) (Q0:_) (_:Iv K c md L σ S H) (_:s L Q0) (_:∀ fl L',Q0 fl L'→∀ σ' S' H',Iv K c md L' σ' S' H'→Same S S'→EndQ K c fr D σ' S' H' fl):ls K md fr s D σ H
def FS (X:Cx) (C:CC) (fr:Bool) (x:Stmt) (s:SW):Prop:=PS X.nox x (ls X.K C.md fr s)
def FSs (X:Cx) (C:CC) (fr:Bool) (x:List Stmt) (s:SW):Prop:=PSs X.nox x (ls X.K C.md fr s)
def CC.wmd (C:CC) (md:Md):CC:=⟨C.N,C.sc,C.fns,md,C.top,C.oc,C.ms,C.fl⟩
section
variable {X:Cx}{C:CC}{n:Nat}{sp:PySem.W.Frag→Nat→Sp}{fr:Bool}{a b x y:Expr}{e ea eb:EW}{pos p px py:Pos}{i j k:Nat}{nx:Str}{is:List Nat}{st:Stmt}{sts:List Stmt}{s r:SW}
variable {K:PySem.W.Frag}{c:Cn}{md:Md}{L:FLoc}{σ:L2.St}{S H:Hp}
theorem Good.wmd (G:Good X C n sp) (md:Md):Good X (C.wmd md) n sp:=⟨G.N,G.sc,G.kind,G.nd,G.calm,G.fn,G.room,G.fns,G.blt,G.mts,G.fls⟩
theorem PS.imp {e:Stmt} {t u:TS} (h:PS X e t) (f:∀ D σ H,u D σ H→t D σ H):PS X e u:=fun pins s σ H D I hu=>h pins s σ H D I (f D σ H hu)
theorem PSs.imp {e:List Stmt} {t u:TS} (h:PSs X e t) (f:∀ D σ H,u D σ H→t D σ H):PSs X e u:=fun pins s σ H D I hu=>h pins s σ H D I (f D σ H hu)
theorem fs_nil:FSs X C fr [] sNil:=PSs.imp pss_nil fun D σ H q1=>by obtain ⟨c,L,S,Q0,I,h,k⟩:=q1; exact k .next L h σ S H I (Same.refl S)
theorem fs_one (h:FS X C fr st s):FSs X C fr [st] s:=pss_one h
theorem fs_cons (h:FS X C fr st s) (h2:FSs X C fr sts r):FSs X C fr (st :: sts) (sSeq s r):=PSs.imp (pss_cons h h2) fun D σ H q1=>by obtain ⟨c,L,S,Q0,I,h,k⟩:=q1; exact
 ⟨c,L,S,_,I,h,fun fl L1 q σ1 S1 H1 I1 s1=>by
  cases fl with
  | next=>exact ⟨c,L1,S1,_,I1,q,fun fl L2 q σ2 S2 H2 I2 s2=>k fl L2 q σ2 S2 H2 I2 (s1.trans s2)⟩
  | brk=>exact k _ L1 q σ1 S1 H1 I1 s1
  | cont=>exact k _ L1 q σ1 S1 H1 I1 s1
  | ret v=>exact k _ L1 q σ1 S1 H1 I1 s1⟩
def isComp:Expr→Bool
 | .ListComp ..=>true
 | .SetComp ..=>true
 | .DictComp ..=>true
 | _=>false
theorem swaps_no {e:Expr} {t:Option Expr} {n:Nat} {env:Env} (h:isComp e=false):swapsWith e t n env=pure false:=by
 cases e <;> first | rfl | (cases h; done)
theorem swaps_so {e t:Expr} {n:Nat} {env:Env} (h:isComp e=false):swapsWithSole [t] e n env=pure false:=by
 delta swapsWithSole; exact swaps_no h
theorem fs_expr (hc:isComp a=false) (h:FE X C a e):FS X C fr (.Expr a pos) (sExp e):=PS.imp (ps_expr h (swaps_no hc)) fun D σ H q1=>by obtain ⟨c,L,S,Q0,I,h,k⟩:=q1; exact
 ⟨c,L,S,_,I,h,fun v L1 q x S1 H1 r I1 s1=>k .next L1 q σ S1 H1 I1 s1⟩
theorem fs_ret (h:FE X C a e):FS X C false (.Return (some a) pos) (sRet e):=PS.imp (ps_ret h) fun D σ H q1=>by obtain ⟨c,L,S,Q0,I,h,k⟩:=q1; exact
 ⟨c,L,S,_,I,h,fun v L1 q x S1 H1 r I1 s1=>k (.ret v) L1 q σ S1 H1 I1 s1 x r⟩
theorem fs_retF (h:FF X C a e):FS X C true (.Return (some a) pos) (sRet e):=PS.imp (ps_ret h) fun D σ H q1=>by obtain ⟨c,L,S,Q0,I,h,k⟩:=q1; exact
 ⟨c,L,S,_,I,h,fun v L1 q l S1 H1 o fr I1 s1=>k (.ret v) L1 q σ S1 H1 I1 s1 _ ⟨l,rfl,o,fr.1⟩⟩
theorem fs_if {t:BW} {xa xb:List Stmt} (h:FB X C a t) (ha:FSs X C fr xa s) (hb:FSs X C fr xb r):FS X C fr (.If a xa xb pos) (sIf t s r):=PS.imp (ps_if h ha hb) fun D σ H q1=>by obtain ⟨c,L,S,Q0,I,h,k⟩:=q1; exact
 ⟨c,L,S,_,I,h,fun v L1 q S1 H1 I1 s1=>by
  cases v with
  | true=>rw [if_pos rfl] at q ⊢; exact ⟨c,L1,S1,_,I1,q,fun fl L2 q σ2 S2 H2 I2 s2=>k fl L2 q σ2 S2 H2 I2 (s1.trans s2)⟩
  | false=>rw [if_neg Bool.false_ne_true] at q ⊢; exact ⟨c,L1,S1,_,I1,q,fun fl L2 q σ2 S2 H2 I2 s2=>k fl L2 q σ2 S2 H2 I2 (s1.trans s2)⟩⟩
theorem asg_val {tg:Tg} {te:TE} (ht:tgImm C.md tg=true) (hte:∀ σ H Q,lv X.K C.md e σ H Q→te σ H Q) (h:PS X.nox st (tAsg te (gT X.K tg))):FS X C fr st (sAsg e tg):=PS.imp h fun D σ H ⟨c,L,S,Q0,I,h,k⟩=>hte _ _ _
 ⟨c,L,S,_,I,h,fun v L1 q x S1 H1 r I1 s1=>by
  obtain ⟨σ',L',g,q,I2,_⟩:=gT_rel ht I1 r q
  exact g _ (k .next L' q σ' S1 H1 I2 s1)⟩
theorem asg_imm {te:TE} (m:mdAt C.md i=.imm) (hte:∀ σ H Q,lf X.K C.md e σ H Q→te σ H Q) (h:PS X.nox st (tAsg te (gName i))):FS X C fr st (sAsg e (.nm i)):=PS.imp h fun D σ H ⟨c,L,S,Q0,I,h,k⟩=>hte _ _ _
 ⟨c,L,S,_,I,h,fun v L1 q l S1 H1 o f I1 s1=>by
  obtain ⟨u,hu,I2,r⟩:=new_own I1 o f
  exact k .next _ q _ _ H1 (I2.setI m r) (s1.trans (same_upd o.1))⟩
theorem asg_own {te:TE} (m:(decide (mdAt C.md i=.own) && decide (i≠0))=true) (hte:∀ σ H Q,lf X.K C.md e σ H Q→te σ H Q) (h:PS X.nox st (tAsg te (gName i))):FS X C fr st (sAsg e (.nm i)):=PS.imp h fun D σ H ⟨c,L,S,Q0,I,h,k⟩=>hte _ _ _
 ⟨c,L,S,_,I,h,fun v L1 q l S1 H1 o f I1 s1=>by
  have m:=b2 m
  exact k .next _ q _ _ H1 (I1.set (fun _ _=>de m.2) (fun z=>by rw [de m.1] at z; cases z) (.inr ⟨de m.1,l,rfl,o,f.1,f.2.1,fun j w _ hm hj=>f.2.2 j w hm hj⟩)) s1⟩
theorem ps_nm (G:Good X C n sp) {te:TE} (ht:C.tn i nx=true) (hs:swapsWith a (some (.Name nx px)) pos.line X.env=pure false) (h:PE X.nox a te):PS X.nox (.Assign [.Name nx px] a pos) (tAsg te (gName i)):=by
 have ht:=b2 ht
 obtain ⟨l1,l2⟩:=G.loc ht.2
 exact ps_set (X:=X.nox) G.nd' (G.ix ht.1) l1 h hs l2
theorem fs_set (G:Good X C n sp) (ht:C.tn i nx=true) (m:mdAt C.md i=.imm) (hc:isComp a=false) (h:FE X C a e):FS X C fr (.Assign [.Name nx px] a pos) (sAsg e (.nm i)) :=
 asg_val (tg:=.nm i) (by simpa [tgImm] using m) (fun _ _ _ z=>z) (ps_nm G ht (swaps_no hc) h)
theorem fs_setF (G:Good X C n sp) (ht:C.tn i nx=true) (m:(decide (mdAt C.md i=.own) && decide (i≠0))=true) (hc:isComp a=false) (h:FF X C a e):FS X C fr (.Assign [.Name nx px] a pos) (sAsg e (.nm i)) :=
 asg_own m (fun _ _ _ z=>z) (ps_nm G ht (swaps_no hc) h)
def swC (C:CC) (x:Str) (px:Pos) (scope:Scope) (p:Pos):Bool:=decide (C.sc.lookup x=some .local) && (px.line == p.line) && !(scope.names.any fun (n,k)=>n == x && (k == .local || k == .cell))
theorem sw_comp {elt:Expr} {gs:List Comprehension} {scope:Scope} {p px:Pos} {x:Str} {n:Nat} {env:Env} (hk:env.scope.kind=.function) :
  swapsWith (.ListComp elt gs scope p) (some (.Name x px)) n env=pure (decide (env.scope.names.lookup x=some .local) && (px.line == p.line) && !(scope.names.any fun (n,k)=>n == x && (k == .local || k == .cell))):=by
 have hb:env.blockKind=.function:=by unfold Env.blockKind; rw [hk]; rfl
 have:(env.kindOf x == some .local)=decide (env.scope.names.lookup x=some .local):=by
  rw [Bool.eq_iff_iff]; simp [Env.kindOf]
 unfold swapsWith
 simp only [hb,this]
 rfl
variable {scope:Scope}{own:List Str}{elt tgx iter:Expr}{ifs:List Expr}{it:AW}{tg:Tg}{t:BW}{nn m:Nat}{md':Md}
theorem comp_set (G:Good X C n sp) (ht:C.tn i nx=true) (h:CompOk X C n sp scope own elt tgx iter ifs nn m md' it tg t e):∃ te:TE,(∀ σ H Q,lf X.K C.md (eComp nn m it tg t e) σ H Q→te σ H Q)∧PS X.nox (.Assign [.Name nx px] (.ListComp elt [⟨tgx,iter,ifs,0⟩] scope p) pos) (tAsg te (gName i)):=by
 have hsw:swapsWith (.ListComp elt [⟨tgx,iter,ifs,0⟩] scope p) (some (.Name nx px)) pos.line X.env=pure (swC C nx px scope p):=by rw [sw_comp G.kind,G.sc]; rfl
 obtain ⟨s1,s2,s3⟩:=h.blk G
 cases hb:swC C nx px scope p with
 | false =>
  rw [hb] at hsw
  exact ⟨_,fun σ H Q q=>h.run G q,ps_nm G ht hsw (pe_comp G.calm s1 h.it s2 s3)⟩
 | true =>
  rw [hb] at hsw
  have hlo:X.env.scope.names.lookup nx=some .local:=by
   rw [G.sc]
   have hb:=b2 hb
   exact de (b2 hb.1).1
  exact ⟨_,fun σ H Q q=>h.run G q,ps_setcomp G.calm s1 G.nd' (G.ix (b2 ht).1) hlo h.it s2 hsw s3⟩
theorem fs_setC (G:Good X C n sp) (ht:C.tn i nx=true) (hm:mdAt C.md i=.imm) (h:CompOk X C n sp scope own elt tgx iter ifs nn m md' it tg t e):FS X C fr (.Assign [.Name nx px] (.ListComp elt [⟨tgx,iter,ifs,0⟩] scope p) pos) (sAsg (eComp nn m it tg t e) (.nm i)) :=
 let ⟨te,h1,h2⟩:=comp_set G ht h
 asg_imm hm h1 h2
def tupX:Expr→Bool
 | .Tuple ..=>true
 | _=>false
def starX:Expr→Bool
 | .Starred ..=>true
 | _=>false
theorem fs_tup (G:Good X C n sp) {ts:List Expr} (hm:tgImm C.md (.tp is)=true) (hn:tupX a=false) (hg:FGs X ts is) (h:FE X C a e):FS X C fr (.Assign [.Tuple ts k p] a pos) (sAsg e (.tp is)) :=
 asg_val (tg:=.tp is) hm (fun _ _ _ z=>z) (ps_asg (X:=X.nox) h (fg_tp G hg) (by cases a <;> rfl) (by cases a <;> first | rfl | (cases hn; done)) rfl)
def lcX (env:Env) (l:Nat):Expr→Option Str
 | .Name id pos=>if env.kindOf id == some .local && pos.line == l then some id else none
 | _=>none
def swB (ts vs:List Expr) (env:Env):Bool:=!(ts.length == 2 || ts.length == 3) || vs.length != ts.length || env.blockKind != .function
def swN (ts:List Expr) (ns:List Str):Bool:=ns.length != ts.length || ns.eraseDups.length != ns.length
def swL (ts:List Expr) (env:Env):List Str:=ts.filterMap (lcX env ((ts.head?.map (·.pos.line)).getD 0))
theorem sw_eq (ts vs:List Expr) (k k2:Nat) (tp tp2:Pos) (env:Env):∃ z,swappedStores [.Tuple ts k tp] (.Tuple vs k2 tp2) env=if swB ts vs env then pure none else if vs.any starX then pure none else if swN ts (swL ts env) then pure none else if vs.all (foldedForSure 8) then pure none else if vs.all (constantsAlone 8) then z else pure (some (swL ts env)):=⟨_,rfl⟩
theorem sw_ok {ts vs:List Expr} {k k2:Nat} {tp tp2:Pos} {env:Env} {ns:List Str} (h1:swB ts vs env=false) (h2:vs.any starX=false) (h3:swL ts env=ns) (h4:swN ts ns=false) (h5:vs.all (foldedForSure 8)=false) (h6:vs.all (constantsAlone 8)=false):swappedStores [.Tuple ts k tp] (.Tuple vs k2 tp2) env=pure (some ns):=by
 obtain ⟨z,e⟩:=sw_eq ts vs k k2 tp tp2 env
 rw [e,h1,h2,h3,h4,h5,h6]; rfl
theorem lcX_ok {env:Env} {l:Nat} {x:Str} {p:Pos} (hx:env.scope.names.lookup x=some .local) (hl:(p.line == l)=true):lcX env l (.Name x p)=some x:=by
 show (if env.kindOf x == some .local && p.line == l then some x else none)=some x
 rw [hl,show env.kindOf x=some .local from hx]; rfl
theorem kind_fn {env:Env} (hk:env.scope.kind=.function):env.blockKind=.function:=by unfold Env.blockKind; rw [hk]; rfl
theorem sw2 {x y:Str} {px py pt pt2:Pos} {kt k2:Nat} {a b:Expr} {env:Env} (hk:env.scope.kind=.function) (hx:env.scope.names.lookup x=some .local) (hy:env.scope.names.lookup y=some .local) (hxy:x≠y) (hl:(py.line == px.line)=true)
  (sa:starX a=false) (sb:starX b=false) (hf:(foldedForSure 8 a && foldedForSure 8 b)=false) (hc:(constantsAlone 8 a && constantsAlone 8 b)=false) :
  swappedStores [.Tuple [.Name x px,.Name y py] kt pt] (.Tuple [a,b] k2 pt2) env=pure (some [x,y]):=by
 refine sw_ok (by unfold swB; rw [kind_fn hk]; rfl) ?_ ?_ ?_ ?_ ?_
 ·show (starX a || (starX b || false))=false; rw [sa,sb]; rfl
 ·show List.filterMap (lcX env px.line) [.Name x px,.Name y py]=_
  rw [List.filterMap_cons,lcX_ok hx (beq_self_eq_true _),List.filterMap_cons,lcX_ok hy hl]; rfl
 ·unfold swN; simp [List.eraseDups_cons,Ne.symm hxy]
 ·show (_ && (_ && true))=false; rw [Bool.and_true]; exact hf
 ·show (_ && (_ && true))=false; rw [Bool.and_true]; exact hc
def parOk (C:CC) (i j:Nat) (x y:Str) (px py:Pos) (a b:Expr):Bool:=decide (C.N[i]?=some x) && decide (C.N[j]?=some y) && decide (i≠j) && decide (x≠y) && decide (C.sc.lookup x=some .local) && decide (C.sc.lookup y=some .local) && (py.line == px.line) && !starX a && !starX b && !(foldedForSure 8 a && foldedForSure 8 b) && !(constantsAlone 8 a && constantsAlone 8 b)
theorem setix_ok {xo xi : Expr} {p : Pos} {env : Env} (h : isSlice xi = false) : ∀ v, assign (.Subscript xo xi p) env v = (do
      let ov ← holding [v] (eval xo env)
      let iv ← holding [v, ov] (eval xi env)
      standAt p
      holding [v, ov, iv] (setItem ov iv v)
      release [v, ov, iv] []) := by
  intro v
  cases xi <;> first | rfl | (cases h; done)
theorem fs_ix (G:Good X C n sp) (hn:C.nm i nx=true) (m:mdAt C.md i=.own) (hc:(!isComp a && !isSlice b)=true) (ha:FE X C a ea) (hb:FE X C b eb):FS X C fr (.Assign [.Subscript (.Name nx px) b p] a pos) (sSet i eb ea):=by
 have hc:=b2 hc
 refine PS.imp (ps_asg (X:=X.nox) ha (pg_sub (tv_name (pos:=px) G hn) hb set_list (setix_ok (nb hc.2))) (swaps_so (nb hc.1)) rfl rfl) fun D σ H ⟨c,L,S,Q0,I,h,k⟩=>?_
 have mi:mdAt C.md i≠.imm:=fun z=>by rw [m] at z; cases z
 obtain ⟨v0,e,h⟩:=wpx h
 obtain ⟨l,e1,_⟩:=I.own i v0 mi ((lk_eq _ _ _).mp e)
 refine ⟨c,L,S,_,I,h,fun v L1 q x S1 H1 r1 I1 s1=>⟨_,e1,c,L1,S1,_,I1,q,fun w L2 q y S2 H2 r2 I2 s2=>?_⟩⟩
 obtain ⟨v1,e2,q2⟩:=wpx q
 obtain ⟨z,e3,q3⟩:=wpx q2
 have e2:=(lk_eq _ _ _).mp e2
 obtain ⟨l',f1,⟨o1,ps,us,e9,o2,o3⟩,_⟩:=I2.own i v1 mi e2
 rw [e1] at f1; cases f1
 obtain ⟨xs,g1,e3⟩:=bnd e3
 obtain ⟨nn,g2,e3⟩:=bnd e3
 obtain ⟨pp,g3,rfl⟩:=mpd e3
 cases lstF_eq g1
 cases e9
 obtain rfl:w=.int nn:=by cases w <;> cases g2; rfl
 obtain rfl:y=.int nn:=r2
 refine ⟨l,us,nn,pp,rfl,rfl,o2,by rw [← o3.length]; exact g3,?_⟩
 exact k .next _ q3 σ S2 _ (I2.write m e2 e1 (o3.set pp (r1.mono s2))) (s1.trans s2)
theorem for_sem {J:It} {xs:List FV} {D:Ends} {Q0:FFl→FLoc→Prop} (I:Iv K c md L σ S H) (hJ:ItR K c md J xs S) (ht:tgImm md tg=true) (h:forW tg s xs L Q0)
  (k:∀ fl L',Q0 fl L'→∀ σ' S' H',Iv K c md L' σ' S' H'→Same S S'→EndQ K c fr D σ' S' H' fl) :
  ∃ W:Nat→Nat→L2.St→Hp→Prop,(∃ m,W 0 m σ H)∧∀ i m σ H,W i m σ H →
   (J.stop i H∧D.nx σ H) ∨ (J.go i H∧∃ N:L2.St→Hp→Prop,(∀ σ' H',N σ' H'→∃ m',m' < m∧W (i + 1) m' σ' H')∧∀ x H',J.yld i H x H'→gT K tg x σ H' fun σ2 H2=>ls K md fr s { D with nx:=N,ct:=N,bk:=D.nx } σ2 H2):=by
 let W:Nat→Nat→L2.St→Hp→Prop:=fun i j σ1 H1=>∃ L S1,j=(xs.drop i).length∧Iv K c md L σ1 S1 H1∧Same S S1∧forW tg s (xs.drop i) L Q0
 refine ⟨W,⟨_,L,S,rfl,I,Same.refl S,by rw [List.drop_zero]; exact h⟩,?_⟩
 rintro i m σ1 H1 ⟨L,S1,rfl,I,s1,h⟩
 obtain ⟨j1,j2⟩:=hJ i L σ1 S1 H1 I s1
 cases hd:xs.drop i with
 | nil =>
  rw [hd] at h
  exact .inl ⟨j1 (List.getElem?_eq_none_iff.mpr (List.drop_eq_nil_iff.mp hd)),k .next L h σ1 S1 H1 I s1⟩
 | cons p rest =>
  right
  rw [hd] at h
  have hi:xs[i]?=some p:=by
   have:=congrArg (·[0]?) hd
   simpa using this
  have hd':xs.drop (i + 1)=rest:=by
   have:=congrArg List.tail hd
   simpa [List.tail_drop] using this
  obtain ⟨go,yl⟩:=j2 p hi
  refine ⟨go,fun σ' H'=>∃ m',m' < rest.length + 1∧W (i + 1) m' σ' H',fun σ' H' h=>h,fun x H2 y=>?_⟩
  obtain ⟨S2,s2,tr,rx⟩:=yl x H2 y
  have I2:=tr _ _ _ _ I
  obtain ⟨σ2,L2,g,q,I3,_⟩:=gT_rel ht I2 rx h
  refine g _ ⟨c,L2,S2,_,I3,q,fun fl L3 q σ3 S3 H3 I4 s3=>?_⟩
  have ss:=s1.trans (s2.trans s3)
  cases fl with
  | next=>exact ⟨_,Nat.lt_succ_self _,L3,S3,by rw [hd'],I4,ss,by rw [hd']; exact q⟩
  | cont=>exact ⟨_,Nat.lt_succ_self _,L3,S3,by rw [hd'],I4,ss,by rw [hd']; exact q⟩
  | brk=>exact k .next L3 q σ3 S3 H3 I4 ss
  | ret v=>exact k (.ret v) L3 q σ3 S3 H3 I4 ss
theorem fs_for (G:Good X C n sp) {body:List Stmt} (hc:(tgImm md' tg && !isSet iter)=true) (hi:FI X C md' tgx iter it) (hg:FG X tgx tg) (hb:Good X (C.wmd md') n sp→FSs X (C.wmd md') fr body s):FS X C fr (.For tgx iter body [] pos) (sFor it tg s):=by
 have hc:=b2 hc
 refine PS.imp (ps_for (X:=X.nox) PassesOwn.never G.calm hi hg (hb (G.wmd md')) (fsi_ok (nb hc.2))) fun D σ H q1=>?_; obtain ⟨c,L,S,Q0,I,h,k⟩:=q1
 refine ⟨c,L,S,_,I,h,fun xs L1 q J c' S1 H1 I1 un e0 hJ s1=>?_⟩
 refine for_sem I1 hJ hc.1 q fun fl L2 q σ2 S2 H2 I2 s2=>?_
 have:=k fl L2 q σ2 S2 H2 (un _ _ _ _ I2) (s1.trans s2)
 cases fl with
 | next=>exact this
 | brk=>exact this
 | cont=>exact this
 | ret v =>
  intro x r
  refine this x ?_
  cases fr with
  | false=>exact r
  | true =>
   obtain ⟨a,r1,r2,r3⟩:=r
   exact ⟨a,r1,r2,by rw [← e0]; exact r3⟩
end
structure Df where
 name:String
 st:Stmt
 ps:List Str
 N:List Str
 md:Md
structure Fns where
 f:List Str
 ms:List (Str×Addr×Str)
 fl:List (Addr×Str)
def Df.cc (d:Df) (fns:Fns):CC:=⟨d.N,(defScope d.st).names,fns.f,d.md,true,[],fns.ms,fns.fl⟩
def parMd (io:Bool) (md:Md) (np:Nat):Bool:=(List.range np).all fun i=>decide (mdAt md i=if (io && decide (i=0))=true then .own else .imm)
def Df.ok (d:Df) (np ns:Nat) (io:Bool):Bool :=
 decide ((defScope d.st).kind=.function) && !(defScope d.st).isCoroutine && !(defScope d.st).isGenerator && decide (d.N.Nodup) && decide (d.N.take d.ps.length=d.ps) && d.ps.all (fun x=>decide ((defScope d.st).names.lookup x=some .local ∨ (defScope d.st).names.lookup x=some .cell)) &&
 (defScope d.st).names.all (fun p=>decide (p.2≠.free)) && decide (np=d.ps.length) && decide (ns=d.N.length) && parMd io d.md np
def spT (K:PySem.W.Frag) (tb:List FD) (call:CW) (f:Nat):Sp:=match tb[f]? with
 | some fd=>spQ K call fd.io fd.fr f
 | none=>fun _ _ _ _=>False
theorem Df.sc {d:Df} {np ns:Nat} {io:Bool} (h:d.ok np ns io=true):FnScope d.N d.ps (defScope d.st)∧np=d.ps.length∧ns=d.N.length∧∀ i,i < np→mdAt d.md i=if (io && decide (i=0))=true then .own else .imm:=by
 have h0:=b2 h; have h1:=b2 h0.1; have h2:=b2 h1.1; have h3:=b2 h2.1; have h4:=b2 h3.1; have h5:=b2 h4.1; have h6:=b2 h5.1; have h7:=b2 h6.1; have h8:=b2 h7.1
 exact ⟨⟨de h8.1,nb h8.2,nb h7.2,de h6.2,de h5.2,fun x hx=>de (List.all_eq_true.mp h4.2 x hx),fun y hy=>de (List.all_eq_true.mp h3.2 y hy)⟩,de h2.2,de h1.2,fun i hi=>de (List.all_eq_true.mp h0.2 i (List.mem_range.mpr hi))⟩
section
variable {w:World}{K:PySem.W.Frag}{tb:List FD}
theorem ArgsOk.len {S H:Hp} {args:List FV} {vs:List V} {io:Bool} (h:ArgsOk K S H args vs io):args.length=vs.length:=by
 cases io with
 | false=>exact RVs.length h
 | true =>
  obtain ⟨v,r,a,us,rfl,rfl,_,h⟩:=h
  rw [List.length_cons,List.length_cons,h.length]
theorem iv_start {S H:Hp} {args:List FV} {vs:List V} {io:Bool} {md:Md} {N:List Str} {np ns:Nat} (h:ArgsOk K S H args vs io) (hs:Same S H) (hn:args.length=np) (hN:ns=N.length) (hm:∀ i,i < np→mdAt md i=if (io && decide (i=0))=true then .own else .imm) :
  Iv K ⟨H,S,lentTo vs io,[],[],[]⟩ md (args.map some++List.replicate (ns - np) none) (L2.start N vs) S H:=by
 have hl:=h.len
 have look:∀ i v,(args.map some++List.replicate (ns - np) none)[i]?=some (some v)→args[i]?=some v∧i < np:=fun i v e=>by
  by_cases hi:i < args.length
  ·rw [List.getElem?_append_left (by rw [List.length_map]; exact hi),List.getElem?_map] at e
   cases ea:args[i]? with
   | none=>rw [ea] at e; cases e
   | some q=>rw [ea] at e; cases e; exact ⟨rfl,by lia⟩
  ·rw [List.getElem?_append_right (by rw [List.length_map]; lia),List.getElem?_replicate] at e
   split at e <;> cases e
 have st:∀ i,i < np→(L2.start N vs)[i]?=vs[i]?.map some:=fun i hi=>by
  unfold L2.start
  rw [List.getElem?_append_left (by rw [List.length_map]; lia),List.getElem?_map]
 have own:∀ i v,mdAt md i≠.imm→(args.map some++List.replicate (ns - np) none)[i]?=some (some v)→i=0∧io=true∧mdAt md 0=.own:=fun i v hm' e=>by
  obtain ⟨_,hi⟩:=look i v e
  have:=hm i hi
  cases io with
  | false=>exact absurd (by simpa using this) hm'
  | true =>
   by_cases h0:i=0
   ·subst h0; exact ⟨rfl,rfl,by simpa using this⟩
   ·exact absurd (by simpa [h0] using this) hm'
 have lent:∀ a,lentTo vs io=some a→io=true∧0 < np∧mdAt md 0=.own∧vs[0]?=some (.ref a)∧∃ v,args[0]?=some v∧OwnAt K S H a v:=fun a e=>by
  cases io with
  | false=>cases e
  | true =>
   obtain ⟨v,r,a',us,rfl,rfl,o,_⟩:=h
   cases e
   have hp:0 < np:=by rw [← hn]; exact Nat.succ_pos _
   exact ⟨rfl,hp,by simpa using hm 0 hp,rfl,v,rfl,o⟩
 refine ⟨?_,fun i v hm' e=>?_,fun i v hm' e=>?_,fun i j v w a m1 m2 e1 e2 _ _=>?_,hs,fun a o e _ _=>e,Same.refl S,fun a o e=>.inl e,fun a e=>?_,fun p hp=>absurd hp List.not_mem_nil,fun i v hf e=>?_,fun p hp=>absurd hp List.not_mem_nil,fun p hp=>absurd hp List.not_mem_nil,fun p hp=>absurd hp List.not_mem_nil,fun q hq=>absurd hq List.not_mem_nil,fun j i x C dx fs v h1 h2 h3 h4=>?_⟩
 ·unfold L2.start
  rw [List.length_append,List.length_append,List.length_map,List.length_map,List.length_replicate,List.length_replicate,hN]
  lia
 ·obtain ⟨ea,hi⟩:=look i v e
  rw [st i hi]
  cases io with
  | false =>
   obtain ⟨x,e1,r⟩:=RVs.get (show RVs K S args vs from h) ea
   exact ⟨x,by rw [e1]; rfl,r⟩
  | true =>
   obtain ⟨v0,r,a',us,rfl,rfl,o,hr⟩:=h
   cases i with
   | zero=>rw [show mdAt md 0=.own by simpa using hm 0 hi] at hm'; cases hm'
   | succ i =>
    obtain ⟨x,e1,r1⟩:=RVs.get hr (by simpa using ea)
    exact ⟨x,by simp [e1],r1⟩
 ·obtain ⟨rfl,rfl,m0⟩:=own i v hm' e
  obtain ⟨ea,hi⟩:=look 0 v e
  obtain ⟨v0,r,a',us,rfl,rfl,o,hr⟩:=h
  cases ea
  exact ⟨a',by rw [st 0 hi]; rfl,o,.inl rfl⟩
 ·rw [(own i v m1 e1).1,(own j w m2 e2).1]
 ·obtain ⟨rfl,hp,m0,e1,v,ea,_⟩:=lent a e
  refine ⟨fun z=>(nomatch (m0.symm.trans z)),by rw [st 0 hp,e1]; rfl,v,?_⟩
  rw [List.getElem?_append_left (by rw [List.length_map]; lia),List.getElem?_map,ea]; rfl
 ·have:=own i v (fun z=>by rw [z] at hf; cases hf) e
  rw [this.1,this.2.2] at hf; cases hf
 ·have:=own j v (fun z=>by rw [z] at h1; cases h1) h4
  rw [this.1,this.2.2] at h1; cases h1
theorem law_sp {d f:Nat} {H:Hp} {a:Addr} {ns:List Int} {fd:FD} (hf:tb[f]?=some fd) (hio:fd.io=false) (hfr:fd.fr=false) (hO:Only H) (hS:SqL K H a (ns.map V.int)) (h:callW tb d f [.scr ns] fun z=>z.1=.bl true) :
  spT K tb (callW tb d) f [.ref a] H (fun v _=>v=.bl true) fun _ _ _=>False:=by
 have e0:spT K tb (callW tb d) f=spQ K (callW tb d) false false f:=by unfold spT; rw [hf]; show spQ K (callW tb d) fd.io fd.fr f=_; rw [hio,hfr]
 rw [e0]
 refine ⟨H,[.scr ns],_,Same.refl H,RVs.one ⟨a,rfl,?_⟩,h,fun z e x S' H' _ r=>?_⟩
 ·rcases hS with (h | ⟨o,h⟩) | h
  ·rcases hO a with z | ⟨o,xs,z⟩
   ·rw [z] at h; cases h
   ·rw [z] at h; cases h
  ·exact .inl ⟨o,h⟩
  ·exact .inr (.inr h)
 ·have r:RV K S' z.1 x:=r
  rw [e] at r; exact r
end
def EachI {α:Type} (P:Nat→α→Prop):Nat→List α→Prop
 | _,[]=>True
 | i,x :: xs=>P i x∧EachI P (i + 1) xs
theorem EachI.get {α:Type} {P:Nat→α→Prop}:∀ {xs:List α} {k:Nat},EachI P k xs→∀ (f:Nat) (x:α),xs[f]?=some x→P (k + f) x
 | _ :: _,_,h,0,x,e=>(Option.some.inj e) ▸ h.1
 | _ :: xs,k,h,f + 1,x,e=>by
  have:=EachI.get h.2 f x e
  rw [Nat.add_assoc,Nat.add_comm 1 f] at this
  exact this
theorem usS {P:List Value→Prop} {us:List Value} {n:Nat} (h:us.length=n + 1) (H:∀ a r,r.length=n→P (a :: r)):P us:=by
 cases us with
 | nil=>cases h
 | cons a r=>exact H a r (Nat.succ.inj h)
theorem us1 {P:List Value→Prop} {us:List Value} (h:us.length=1) (H:∀ a,P [a]):P us:=usS h fun a r hr=>by rw [List.length_eq_zero_iff.mp hr]; exact H a
theorem us2 {P:List Value→Prop} {us:List Value} (h:us.length=2) (H:∀ a b,P [a,b]):P us:=usS h fun a r hr=>us1 (P:=fun r=>P (a :: r)) hr fun b=>H a b
theorem us3 {P:List Value→Prop} {us:List Value} (h:us.length=3) (H:∀ a b c,P [a,b,c]):P us:=usS h fun a r hr=>us2 (P:=fun r=>P (a :: r)) hr fun b c=>H a b c
theorem us4 {P:List Value→Prop} {us:List Value} (h:us.length=4) (H:∀ a b c d,P [a,b,c,d]):P us:=usS h fun a r hr=>us3 (P:=fun r=>P (a :: r)) hr fun b c d=>H a b c d
end Kq
end
section
namespace Kq
open PySem PySem.Spec PySem.Calls PyProof.Rows L2 PySem.W
theorem look_mem:∀ {K:Frag} {a:Addr} {o:Obj},K.lookup a=some o→(a,o)∈K
 | [],a,o,h=>by simp at h
 | (b,u) :: K,a,o,h=>by
  rw [List.lookup_cons] at h
  split at h
  ·rename_i e; cases h; rw [beq_iff_eq.mp e]; exact List.mem_cons_self
  ·exact List.mem_cons_of_mem _ (look_mem h)
theorem look_some {K:Frag} {a:Addr} {o:Obj} (h:(a,o)∈K):∃ u,K.lookup a=some u:=by
 induction K with
 | nil=>exact absurd h List.not_mem_nil
 | cons p K ih =>
  obtain ⟨b,u⟩:=p
  rw [List.lookup_cons]
  split
  ·exact ⟨_,rfl⟩
  ·rename_i e
   rcases List.mem_cons.mp h with z | z
   ·rw [(Prod.mk.inj z).1,beq_self_eq_true] at e; cases e
   ·exact ih z
def AllIn (K:Frag) (h:Heap):Prop:=∀ p∈K,h.get? p.1=some p.2
theorem AllIn.to {K:Frag} {h:Heap} (x:AllIn K h):K.In h:=fun a o e=>x _ (look_mem e)
theorem AllIn.look {K:Frag} {h:Heap} (x:AllIn K h) {a:Addr} {o:Obj} (m:(a,o)∈K):K.lookup a=some o:=by
 obtain ⟨u,e⟩:=look_some m
 have h1:=x _ (look_mem e)
 rw [show h.get? a=some o from x _ m] at h1
 cases h1; exact e
def CIn (K:Frag) (cd:Value) (q:Str):Prop:=∃ c oc vs t,cd=.ref c∧(c,oc)∈K∧oc.data=.fields vs∧vs[1]?=some (.str q t)
def DIn (K:Frag) (mg:Str→Option Value) (d:DefRec):Prop:=∃ fa o pm cd doc,mg d.name=some (.ref fa)∧(fa,o)∈K∧o.data=.func (docDef d.name d.params d.body d.scope pm cd doc)∧CIn K cd d.name
theorem DIn.fn {K:Frag} {h:Heap} (A:AllIn K h) {mg:Str→Option Value} {x:Str} {st:Stmt} {pos:Pos} (D:DIn K mg ⟨x,defArgs st,defBody st,defScope st,pos⟩):∃ fa fd,mg x=some (.ref fa)∧Fun K x x st fa fd:=by
 obtain ⟨fa,o,pm,cd,doc,h1,h2,h3,c,oc,vs,t,rfl,h5,h6,h7⟩:=D
 have l:=A.look h2
 have lc:=A.look h5
 obtain ⟨k1,k2,k3,k4⟩:=o
 obtain ⟨j1,j2,j3,j4⟩:=oc
 cases h3; cases h6
 refine ⟨fa,_,h1,fun_mk (kV:=.none) (doc:=doc) (pm:=pm) (an:=none) (cdv:=.ref c) (ct:=.none) l ?_ ?_⟩
 ·show (match K.lookup c with | some ⟨_,_,.fields vs,_⟩=>_ | _=>_)=true
  rw [lc]
  obtain ⟨l⟩:=vs
  match l,h7 with
  | [],h7=>simp at h7
  | [a],h7=>simp at h7
  | a :: b :: r,h7 =>
   simp at h7; subst h7
   exact beq_self_eq_true _
 ·show (match K.lookup fa with | some ⟨_,_,.func _,_⟩=>true | some ⟨_,_,.cls _,_⟩=>_ | _=>false)=true
  rw [l]
def defPos:Stmt→Pos
 | .FunctionDef _ _ _ _ _ _ _ _ _ p=>p
 | _=>⟨0,0,0,0⟩
theorem free_in {q:Program} {loose:List Str} {mean:ExcName→Option Value} {mg mb:Str→Option Value} {h:Heap} (T:Top q loose mean mg mb h) {x:Str} (e:freeIn q loose x=true):mg x=none:=by
 unfold freeIn at e
 simp only [Bool.and_eq_true,Bool.not_eq_true',List.contains_eq_mem,decide_eq_false_iff_not] at e
 exact T.free x e.1.1.1.1 e.1.1.1.2 e.1.1.2 e.1.2 e.2
end Kq
end
set_option maxHeartbeats 1000000
section
namespace Kq
@[scoped simp ↓] theorem wp_some {α:Type} (x:α) (Q:α→Prop):wp (some x) Q=Q x:=propext Iff.rfl
@[scoped simp ↓] theorem wp_none {α:Type} (Q:α→Prop):wp (none:Option α) Q=False:=propext Iff.rfl
theorem wp_bind {α β:Type} (r:Option α) (f:α→Option β) (Q:β→Prop):wp (r.bind f) Q↔wp r (fun x=>wp (f x) Q):=by cases r <;> rfl
@[scoped simp ↓] theorem wp_map {α β:Type} (r:Option α) (f:α→β) (Q:β→Prop):wp (r.map f) Q↔wp r (fun x=>Q (f x)):=by cases r <;> rfl
@[scoped simp ↓] theorem wp_ite {α:Type} (c:Prop) [Decidable c] (a:α) (Q:α→Prop):wp (if c then some a else none) Q↔c∧Q a:=by
 by_cases h:c <;> simp [h]
@[scoped simp ↓] theorem eVar_eq (i:Nat) (L:FLoc) (Q:FV→FLoc→Prop):eVar i L Q=(wp (lk L i) fun x=>Q x L):=propext Iff.rfl
@[scoped simp ↓] theorem eC_eq (v:FV) (L:FLoc) (Q:FV→FLoc→Prop):eC v L Q=(Q v L):=propext Iff.rfl
@[scoped simp ↓] theorem eUn_eq (f:FV→Option FV) (a:EW) (L:FLoc) (Q:FV→FLoc→Prop):eUn f a L Q=(a L fun x L1=>wp (f x) fun z=>Q z L1):=propext Iff.rfl
@[scoped simp ↓] theorem eOp_eq (f:FV→FV→Option FV) (a b:EW) (L:FLoc) (Q:FV→FLoc→Prop):eOp f a b L Q=(a L fun x L1=>b L1 fun y L2=>wp (f x y) fun z=>Q z L2):=propext Iff.rfl
@[scoped simp ↓] theorem eOpN_eq (f:FV→FV→Option FV) (i:Nat) (b:EW) (L:FLoc) (Q:FV→FLoc→Prop):eOpN f i b L Q=(wp (lk L i) fun _=>b L fun y L1=>wp (lk L1 i) fun x=>wp (f x y) fun z=>Q z L1):=propext Iff.rfl
@[scoped simp ↓] theorem eAnd_eq (a b:EW) (L:FLoc) (Q:FV→FLoc→Prop):eAnd a b L Q=(a L fun x L1=>wp (truF x) fun r=>if r=true then b L1 Q else Q x L1):=propext Iff.rfl
@[scoped simp ↓] theorem eIf_eq (c:BW) (a b:EW) (L:FLoc) (Q:FV→FLoc→Prop):eIf c a b L Q=(c L fun r L1=>if r=true then a L1 Q else b L1 Q):=propext Iff.rfl
@[scoped simp ↓] theorem bVal_eq (a:EW) (L:FLoc) (Q:Bool→FLoc→Prop):bVal a L Q=(a L fun x L1=>wp (truF x) fun b=>Q b L1):=propext Iff.rfl
@[scoped simp ↓] theorem bAnd_eq (a b:BW) (L:FLoc) (Q:Bool→FLoc→Prop):bAnd a b L Q=(a L fun r L1=>if r=true then b L1 Q else Q false L1):=propext Iff.rfl
@[scoped simp ↓] theorem bOr_eq (a b:BW) (L:FLoc) (Q:Bool→FLoc→Prop):bOr a b L Q=(a L fun r L1=>if r=true then Q true L1 else b L1 Q):=propext Iff.rfl
@[scoped simp ↓] theorem bNot_eq (a:BW) (L:FLoc) (Q:Bool→FLoc→Prop):bNot a L Q=(a L fun r L1=>Q (!r) L1):=propext Iff.rfl
@[scoped simp ↓] theorem bTrue_eq (L:FLoc) (Q:Bool→FLoc→Prop):bTrue  L Q=(Q true L):=propext Iff.rfl
@[scoped simp ↓] theorem aNil_eq (L:FLoc) (Q:List FV→FLoc→Prop):aNil  L Q=(Q [] L):=propext Iff.rfl
@[scoped simp ↓] theorem aCons_eq (a:EW) (r:AW) (L:FLoc) (Q:List FV→FLoc→Prop):aCons a r L Q=(a L fun x L1=>r L1 fun xs L2=>Q (x :: xs) L2):=propext Iff.rfl
@[scoped simp ↓] theorem eTup_eq (a:AW) (L:FLoc) (Q:FV→FLoc→Prop):eTup a L Q=(a L fun xs L1=>xs.length≤big∧Q (.tup xs) L1):=propext Iff.rfl
@[scoped simp ↓] theorem eLst_eq (a:AW) (L:FLoc) (Q:FV→FLoc→Prop):eLst a L Q=(a L fun xs L1=>xs.length≤big∧Q (.lst xs) L1):=propext Iff.rfl
@[scoped simp ↓] theorem oNone_eq (L:FLoc) (Q:Option Int→FLoc→Prop):oNone  L Q=(Q none L):=propext Iff.rfl
@[scoped simp ↓] theorem oSome_eq (a:EW) (L:FLoc) (Q:Option Int→FLoc→Prop):oSome a L Q=(a L fun x L1=>wp (intF x) fun i=>Q (some i) L1):=propext Iff.rfl
@[scoped simp ↓] theorem eSl_eq (a:EW) (l h:OW) (L:FLoc) (Q:FV→FLoc→Prop):eSl a l h L Q=(a L fun x L1=>l L1 fun i L2=>h L2 fun j L3=>wp (sliceF x i j) fun z=>Q z L3):=propext Iff.rfl
@[scoped simp ↓] theorem eCall_eq (call:CW) (f:Nat) (a:AW) (L:FLoc) (Q:FV→FLoc→Prop):eCall call f a L Q=(a L fun xs L1=>call f xs fun z=>Q z.1 L1):=propext Iff.rfl
@[scoped simp ↓] theorem eCallO_eq (call:CW) (f i:Nat) (a:AW) (L:FLoc) (Q:FV→FLoc→Prop):eCallO call f i a L Q=(wp (lk L i) fun _=>a L fun xs L1=>wp (lk L1 i) fun x=>call f (x :: xs) fun z=>Q z.1 (L1.set i (some z.2))):=propext Iff.rfl
@[scoped simp ↓] theorem eMeth_eq (f:FV→FV→Option FV) (i:Nat) (a:EW) (L:FLoc) (Q:FV→FLoc→Prop):eMeth f i a L Q=(wp (lk L i) fun v=>wp (lstF v) fun _=>a L fun y L1=>wp (lk L1 i) fun x=>wp (f x y) fun z=>Q .non (L1.set i (some z))):=propext Iff.rfl
@[scoped simp ↓] theorem iSeq_eq (a:EW) (L:FLoc) (Q:List FV→FLoc→Prop):iSeq a L Q=(a L fun x L1=>wp (seqF x) fun xs=>Q xs L1):=propext Iff.rfl
@[scoped simp ↓] theorem iRng_eq (a:EW) (L:FLoc) (Q:List FV→FLoc→Prop):iRng a L Q=(a L fun x L1=>wp (intF x) fun j=>small62 j=true∧Q (upF 0 j.toNat) L1):=propext Iff.rfl
@[scoped simp ↓] theorem iRng2_eq (a b:EW) (L:FLoc) (Q:List FV→FLoc→Prop):iRng2 a b L Q=(a L fun x L1=>b L1 fun y L2=>wp (intF x) fun i=>wp (intF y) fun j=>(small62 i && small62 j)=true∧Q (upF i (j - i).toNat) L2):=propext Iff.rfl
@[scoped simp ↓] theorem iZip_eq (a b:EW) (L:FLoc) (Q:List FV→FLoc→Prop):iZip a b L Q=(a L fun x L1=>b L1 fun y L2=>wp (seqF x) fun xs=>wp (seqF y) fun ys=>Q (pairF xs ys) L2):=propext Iff.rfl
@[scoped simp ↓] theorem iEnum_eq (a:EW) (L:FLoc) (Q:List FV→FLoc→Prop):iEnum a L Q=(a L fun x L1=>wp (seqF x) fun xs=>Q (pairF (upF 0 xs.length) xs) L1):=propext Iff.rfl
@[scoped simp ↓] theorem eComp_eq (n m:Nat) (it:AW) (tg:Tg) (t:BW) (e:EW) (L:FLoc) (Q:FV→FLoc→Prop):eComp n m it tg t e L Q=(it L fun xs L1=>L1.length=n∧xs.length≤big∧compW n m tg t e xs [] L1 fun ys L2=>Q (.lst ys) L2):=propext Iff.rfl
@[scoped simp ↓] theorem sNil_eq (L:FLoc) (Q:FFl→FLoc→Prop):sNil  L Q=(Q .next L):=propext Iff.rfl
@[scoped simp ↓] theorem sSeq_eq (s r:SW) (L:FLoc) (Q:FFl→FLoc→Prop):sSeq s r L Q=(s L (aft (fun L1=>r L1 Q) Q)):=propext Iff.rfl
@[scoped simp ↓] theorem sAsg_eq (e:EW) (tg:Tg) (L:FLoc) (Q:FFl→FLoc→Prop):sAsg e tg L Q=(e L fun x L1=>gW tg x L1 fun L2=>Q .next L2):=propext Iff.rfl
@[scoped simp ↓] theorem sSet_eq (k:Nat) (i e:EW) (L:FLoc) (Q:FFl→FLoc→Prop):sSet k i e L Q=(wp (lk L k) fun _=>e L fun x L1=>i L1 fun j L2=>wp (lk L2 k) fun y=>wp (setF y j x) fun z=>Q .next (L2.set k (some z))):=propext Iff.rfl
@[scoped simp ↓] theorem sRet_eq (e:EW) (L:FLoc) (Q:FFl→FLoc→Prop):sRet e L Q=(e L fun x L1=>Q (.ret x) L1):=propext Iff.rfl
@[scoped simp ↓] theorem sExp_eq (e:EW) (L:FLoc) (Q:FFl→FLoc→Prop):sExp e L Q=(e L fun _ L1=>Q .next L1):=propext Iff.rfl
@[scoped simp ↓] theorem sIf_eq (c:BW) (a b:SW) (L:FLoc) (Q:FFl→FLoc→Prop):sIf c a b L Q=(c L fun r L1=>if r=true then a L1 Q else b L1 Q):=propext Iff.rfl
@[scoped simp ↓] theorem sFor_eq (it:AW) (tg:Tg) (b:SW) (L:FLoc) (Q:FFl→FLoc→Prop):sFor it tg b L Q=(it L fun xs L1=>forW tg b xs L1 Q):=propext Iff.rfl
@[scoped simp ↓] theorem lk_z (x:Option FV) (L:FLoc) (Q:FV→Prop):wp (lk (x :: L) 0) Q=wp x Q:=propext Iff.rfl
@[scoped simp ↓] theorem gw_nm (i:Nat) (v:FV) (L:FLoc) (Q:FLoc→Prop):gW (.nm i) v L Q=Q (L.set i (some v)):=propext Iff.rfl
@[scoped simp ↓] theorem gw_tp (is:List Nat) (v:FV) (L:FLoc) (Q:FLoc→Prop):gW (.tp is) v L Q=wp (tupF v) fun xs=>wp (setsF L is xs) Q:=propext Iff.rfl
@[scoped simp ↓] theorem sa_n (L:FLoc) (Q:FLoc→Prop):wp (setsF L [] []) Q=Q L:=propext Iff.rfl
@[scoped simp ↓] theorem sa_c (L:FLoc) (i:Nat) (is:List Nat) (v:FV) (vs:List FV) (Q:FLoc→Prop):wp (setsF L (i :: is) (v :: vs)) Q=wp (setsF (L.set i (some v)) is vs) Q:=propext Iff.rfl
section
variable (L:FLoc)(k:FLoc→Prop)(Q:FFl→FLoc→Prop)
@[scoped simp ↓] theorem af_next:aft k Q .next L=k L:=propext Iff.rfl
@[scoped simp ↓] theorem af_ret (v:FV):aft k Q (.ret v) L=Q (.ret v) L:=propext Iff.rfl
@[scoped simp ↓] theorem tq_n:turnW k Q .next L=k L:=propext Iff.rfl
@[scoped simp ↓] theorem tq_r (v:FV):turnW k Q (.ret v) L=Q (.ret v) L:=propext Iff.rfl
end
@[scoped simp ↓] theorem en_rt (fr:Bool) (Q:FV×FV→Prop) (v:FV) (L:FLoc):endW true fr Q (.ret v) L=wp (lk L 0) fun x=>Q (v,x):=propext Iff.rfl
@[scoped simp ↓] theorem en_rf (fr:Bool) (Q:FV×FV→Prop) (v:FV) (L:FLoc):endW false fr Q (.ret v) L=Q (v,.non):=propext Iff.rfl
@[scoped simp ↓] theorem en_nt (Q:FV×FV→Prop) (L:FLoc):endW true false Q .next L=wp (lk L 0) fun x=>Q (.non,x):=propext Iff.rfl
section
variable (Q:FV→Prop)(B:Bool→Prop)(i j:Int)
@[scoped simp ↓] theorem tr_b (b:Bool):wp (truF (.bl b)) B=B b:=propext Iff.rfl
@[scoped simp ↓] theorem in_i (Q:Int→Prop):wp (intF (.int i)) Q=Q i:=propext Iff.rfl
@[scoped simp ↓] theorem tp_t (xs:List FV) (Q:List FV→Prop):wp (tupF (.tup xs)) Q=Q xs:=propext Iff.rfl
@[scoped simp ↓] theorem ls_l (xs:List FV) (Q:List FV→Prop):wp (lstF (.lst xs)) Q=Q xs:=propext Iff.rfl
@[scoped simp ↓] theorem sq_t (xs:List FV) (Q:List FV→Prop):wp (seqF (.tup xs)) Q=Q xs:=propext Iff.rfl
@[scoped simp ↓] theorem sq_l (xs:List FV) (Q:List FV→Prop):wp (seqF (.lst xs)) Q=Q xs:=propext Iff.rfl
@[scoped simp ↓] theorem sq_s (ns:List Int) (Q:List FV→Prop):wp (seqF (.scr ns)) Q=Q (ns.map .int):=propext Iff.rfl
@[scoped simp ↓] theorem li_l (xs:List FV) (Q:List FV→Prop):wp (listF (.lst xs)) Q=Q xs:=propext Iff.rfl
@[scoped simp ↓] theorem b_add:wp (addF (.int i) (.int j)) Q=Q (.int (i + j)):=propext Iff.rfl
@[scoped simp ↓] theorem b_sub:wp (subF (.int i) (.int j)) Q=Q (.int (i - j)):=propext Iff.rfl
@[scoped simp ↓] theorem b_mul:wp (mulF (.int i) (.int j)) Q↔(small i || small j)=true∧Q (.int (i * j)):=wp_ite _ _ _
@[scoped simp ↓] theorem b_fdiv:wp (fdivF (.int i) (.int j)) Q↔(0 < j∧j < 1073741824)∧Q (.int (i / j)):=wp_ite _ _ _
@[scoped simp ↓] theorem b_mod:wp (modF (.int i) (.int j)) Q↔0 < j∧Q (.int (i % j)):=wp_ite _ _ _
@[scoped simp ↓] theorem b_pow:wp (powF (.int i) (.int j)) Q↔(0≤j∧j≤1000∧small i=true)∧Q (.int (i ^ j.toNat)):=wp_ite _ _ _
@[scoped simp ↓] theorem b_addl (xs ys:List FV):wp (addF (.lst xs) (.lst ys)) Q↔xs.length + ys.length≤big∧Q (.lst (xs++ys)):=wp_ite _ _ _
@[scoped simp ↓] theorem k_eq (a b:FV):wp (eqB a b) Q↔wp (eqF a b) fun r=>Q (.bl r):=wp_map _ _ _
@[scoped simp ↓] theorem k_ne (a b:FV):wp (neB a b) Q↔wp (eqF a b) fun r=>Q (.bl (!r)):=wp_map _ _ _
@[scoped simp ↓] theorem k_lt:wp (ltB (.int i) (.int j)) Q=Q (.bl (decide (i < j))):=propext Iff.rfl
@[scoped simp ↓] theorem k_le:wp (leB (.int i) (.int j)) Q=Q (.bl (decide (i≤j))):=propext Iff.rfl
@[scoped simp ↓] theorem k_gt:wp (gtB (.int i) (.int j)) Q=Q (.bl (decide (j < i))):=propext Iff.rfl
@[scoped simp ↓] theorem k_ge:wp (geB (.int i) (.int j)) Q=Q (.bl (decide (j≤i))):=propext Iff.rfl
@[scoped simp ↓] theorem e_ii:wp (eqF (.int i) (.int j)) B=B (i == j):=propext Iff.rfl
@[scoped simp ↓] theorem e_ss (a b:String):wp (eqF (.str a) (.str b)) B=B (a == b):=propext Iff.rfl
@[scoped simp ↓] theorem e_bb (a b:Bool):wp (eqF (.bl a) (.bl b)) B=B (a == b):=propext Iff.rfl
@[scoped simp ↓] theorem e_nn:wp (eqF .non .non) B=B true:=propext Iff.rfl
@[scoped simp ↓] theorem ix_eq (v:FV):wp (ixF v (.int i)) Q↔wp (seqF v) fun xs=>wp (atF xs i) Q:=by
 show wp ((seqF v).bind _) Q↔_; rw [wp_bind]
@[scoped simp ↓] theorem f_min:wp (min2F (.int i) (.int j)) Q=Q (.int (if j < i then j else i)):=propext Iff.rfl
@[scoped simp ↓] theorem f_max:wp (max2F (.int i) (.int j)) Q=Q (.int (if j > i then j else i)):=propext Iff.rfl
@[scoped simp ↓] theorem f_not (b:Bool):wp (notF (.bl b)) Q=Q (.bl (!b)):=propext Iff.rfl
@[scoped simp ↓] theorem f_neg:wp (negF (.int i)) Q=Q (.int (-i)):=propext Iff.rfl
@[scoped simp ↓] theorem f_len (v:FV):wp (lenF v) Q↔wp (seqF v) fun xs=>Q (.int xs.length):=wp_map _ _ _
@[scoped simp ↓] theorem f_abs:wp (absF (.int i)) Q=Q (.int (if i < 0 then -i else i)):=propext Iff.rfl
@[scoped simp ↓] theorem f_intb (b:Bool):wp (toIntF (.bl b)) Q=Q (.int (if b then 1 else 0)):=propext Iff.rfl
@[scoped simp ↓] theorem f_all (v:FV):wp (allF v) Q↔wp (listF v) fun xs=>wp (boolsF xs) fun bs=>Q (.bl (bs.all id)):=by
 show wp ((listF v).bind _) Q↔_; rw [wp_bind]; simp only [wp_map]
@[scoped simp ↓] theorem f_tuple (v:FV):wp (tupleF v) Q↔wp (seqF v) fun xs=>Q (.tup xs):=wp_map _ _ _
@[scoped simp ↓] theorem f_isi (t:Ty) (v:FV):wp (isiF t v) Q↔wp (isTyF v t) fun b=>Q (.bl b):=wp_map _ _ _
@[scoped simp ↓] theorem y_non (t:Ty):wp (isTyF .non t) B=B false:=propext Iff.rfl
@[scoped simp ↓] theorem y_bl (b:Bool) (t:Ty):wp (isTyF (.bl b) t) B=B (t == .int || t == .bool):=propext Iff.rfl
@[scoped simp ↓] theorem y_int (t:Ty):wp (isTyF (.int i) t) B=B (t == .int):=propext Iff.rfl
@[scoped simp ↓] theorem y_str (b:String) (t:Ty):wp (isTyF (.str b) t) B=B (t == .str):=propext Iff.rfl
@[scoped simp ↓] theorem y_tup (b:List FV) (t:Ty):wp (isTyF (.tup b) t) B=B (t == .tuple):=propext Iff.rfl
@[scoped simp ↓] theorem y_lst (b:List FV) (t:Ty):wp (isTyF (.lst b) t) B=B (t == .list):=propext Iff.rfl
@[scoped simp ↓] theorem iN_n:wp (isNoneF .non) Q=Q (.bl true):=propext Iff.rfl
@[scoped simp ↓] theorem iN_b (b:Bool):wp (isNoneF (.bl b)) Q=Q (.bl false):=propext Iff.rfl
@[scoped simp ↓] theorem iN_i:wp (isNoneF (.int i)) Q=Q (.bl false):=propext Iff.rfl
@[scoped simp ↓] theorem m_app (xs:List FV) (v:FV):wp (appF (.lst xs) v) Q↔xs.length < big∧Q (.lst (xs++[v])):=wp_ite _ _ _
@[scoped simp ↓] theorem s_t (xs:List FV) (lo hi:Option Int):wp (sliceF (.tup xs) lo hi) Q=Q (.tup (cutF xs lo hi)):=propext Iff.rfl
@[scoped simp ↓] theorem st_l (xs:List FV) (v:FV):wp (setF (.lst xs) (.int j) v) Q↔wp (ixN xs.length j) fun p=>Q (.lst (xs.set p v)):=wp_map _ _ _
end
theorem at_nat {xs:List FV} {i:Int} {n:Nat} {v:FV} {Q:FV→Prop} (h:i=n) (hv:xs[n]?=some v):wp (atF xs i) Q↔Q v:=by
 subst h
 have:=(List.getElem?_eq_some_iff.mp hv).1
 simp only [atF,ixN,Int.natCast_nonneg,if_true,Int.ofNat_lt,this,Option.bind_some,Int.toNat_natCast,hv,wp_some]
@[scoped simp ↓] theorem at_0 (x:FV) (r:List FV) (Q:FV→Prop):wp (atF (x :: r) 0) Q↔Q x:=at_nat (n:=0) rfl rfl
@[scoped simp ↓] theorem at_1 (x y:FV) (r:List FV) (Q:FV→Prop):wp (atF (x :: y :: r) 1) Q↔Q y:=at_nat (n:=1) rfl rfl
@[scoped simp ↓] theorem at_2 (x y z:FV) (r:List FV) (Q:FV→Prop):wp (atF (x :: y :: z :: r) 2) Q↔Q z:=at_nat (n:=2) rfl rfl
theorem at_any {xs:List FV} {u:Int} {Q:FV→Prop} (h0:0≤u) (h1:u < xs.length) (h:∀ x∈xs,Q x):wp (atF xs u) Q:=by
 have hu:u.toNat < xs.length:=by lia
 rw [at_nat (show u=u.toNat by lia) (List.getElem?_eq_getElem hu)]
 exact h _ (List.getElem_mem hu)
theorem bools_map {α:Type} (p:α→Bool):∀ xs:List α,boolsF (xs.map fun x=>.bl (p x))=some (xs.map p)
 | []=>rfl
 | x :: r=>by simp only [List.map_cons,boolsF,bools_map p r,Option.map_some]
theorem ints_map:∀ ns:List Int,intsF (ns.map .int)=some ns
 | []=>rfl
 | x :: r=>by simp only [List.map_cons,intsF,ints_map r,Option.map_some]
@[scoped simp] theorem ty_10:(Ty.bool == Ty.int)=false:=by decide
@[scoped simp] theorem ty_20:(Ty.str == Ty.int)=false:=by decide
@[scoped simp] theorem ty_21:(Ty.str == Ty.bool)=false:=by decide
@[scoped simp] theorem ty_30:(Ty.list == Ty.int)=false:=by decide
@[scoped simp] theorem ty_31:(Ty.list == Ty.bool)=false:=by decide
@[scoped simp] theorem ty_32:(Ty.list == Ty.str)=false:=by decide
@[scoped simp] theorem ty_34:(Ty.list == Ty.tuple)=false:=by decide
@[scoped simp] theorem ty_40:(Ty.tuple == Ty.int)=false:=by decide
@[scoped simp] theorem ty_41:(Ty.tuple == Ty.bool)=false:=by decide
@[scoped simp] theorem ty_42:(Ty.tuple == Ty.str)=false:=by decide
@[scoped simp] theorem ty_43:(Ty.tuple == Ty.list)=false:=by decide
theorem call_of {tb:List FD} {d f:Nat} {args:List FV} {fd:FD} {Q:FV×FV→Prop} (h:tb[f]?=some fd) (hl:args.length=fd.np)
  (H:fd.body (callW tb d) (args.map some++List.replicate (fd.ns - fd.np) none) (endW fd.io fd.fr Q)):callW tb (d + 1) f args Q:=by
 show (match tb[f]? with
  | none=>False
  | some fd=>args.length=fd.np∧fd.body (callW tb d) (args.map some++List.replicate (fd.ns - fd.np) none) (endW fd.io fd.fr Q))
 rw [h]; exact ⟨hl,H⟩
theorem call_iff {tb:List FD} {d f:Nat} {args:List FV} {fd:FD} {Q:FV×FV→Prop} (h:tb[f]?=some fd) (hl:args.length=fd.np) :
  callW tb (d + 1) f args Q↔fd.body (callW tb d) (args.map some++List.replicate (fd.ns - fd.np) none) (endW fd.io fd.fr Q):=by
 show (match tb[f]? with
  | none=>False
  | some fd=>args.length=fd.np∧fd.body (callW tb d) (args.map some++List.replicate (fd.ns - fd.np) none) (endW fd.io fd.fr Q))↔_
 rw [h]; exact ⟨fun z=>z.2,fun z=>⟨hl,z⟩⟩
theorem for_upto {tg:Tg} {b:SW} {I:Nat→FLoc→Prop} {Q:FFl→FLoc→Prop}:∀ (n i:Nat) (L:FLoc),I i L →
  (∀ j L (K:FLoc→Prop),i≤j→j < i + n→I j L→(∀ L',I (j + 1) L'→K L')→gW tg (.int (j:Int)) L fun L1=>b L1 (turnW K Q)) →
  (∀ L,I (i + n) L→Q .next L)→forW tg b (upF (i:Int) n) L Q
 | 0,i,L,h,_,E=>E L h
 | n + 1,i,L,h,B,E=>B i L _ (Nat.le_refl _) (by lia) h fun L' h'=>by
  have:=for_upto n (i + 1) L' h' (fun j L K hj hj'=>B j L K (by lia) (by lia)) (fun L h=>E L (by rw [show i + (n + 1)=i + 1 + n by lia]; exact h))
  simpa using this
theorem comp_each {α:Type} {tg:Tg} {n m:Nat} {t:BW} {e:EW} {f:α→FV} {I:List α→List FV→FLoc→Prop} {Q:List FV→FLoc→Prop} (all:List α) :
  ∀ (rest done:List α) (acc:List FV) (L:FLoc),all=done++rest→I done acc L →
  (∀ d x r acc L (K:List FV→FLoc→Prop),all=d++x :: r→I d acc L→(∀ acc' L',I (d++[x]) acc' L'→K acc' L')→gW tg (f x) (L++List.replicate m none) fun L1=>t L1 fun b L2=>if b=true then e L2 fun v L3=>K (acc++[v]) (L3.take n) else K acc (L2.take n)) →
  (∀ ys L,I all ys L→Q ys L)→compW n m tg t e (rest.map f) acc L Q
 | [],done,acc,L,e,h,_,E=>by
  rw [List.append_nil] at e
  exact E acc L (e ▸ h)
 | x :: rest,done,acc,L,e,h,B,E=>B done x rest acc L (fun acc' L'=>compW _ _ _ _ _ (rest.map f) acc' L' Q) e h fun acc' L' h'=>comp_each all rest (done++[x]) acc' L' (by simp [e]) h' B E
theorem comp_map {α:Type} {tg:Tg} {n m:Nat} {e:EW} {f:α→FV} {g:α→FV} {Q:List FV→FLoc→Prop} {L:FLoc}:∀ (xs:List α) (acc:List FV),
  (∀ x∈xs,∀ K:FV→FLoc→Prop,K (g x) L→gW tg (f x) (L++List.replicate m none) fun L1=>e L1 fun v L3=>K v (L3.take n))→Q (acc++xs.map g) L→compW n m tg bTrue e (xs.map f) acc L Q
 | [],acc,_,E=>by
  show Q acc L
  simpa using E
 | x :: xs,acc,B,E=>B x List.mem_cons_self (fun v L'=>compW n m tg bTrue e (xs.map f) (acc++[v]) L' Q) (comp_map xs (acc++[g x]) (fun y hy=>B y (List.mem_cons_of_mem _ hy)) (by simpa using E))
theorem up_map:∀ n lo:Nat,upF (lo:Int) n=(List.range' lo n).map fun i:Nat=>FV.int i
 | 0,lo=>rfl
 | n + 1,lo=>by simp only [upF,List.range'_succ,List.map_cons]; rw [← up_map n (lo + 1)]; simp
theorem up_range (n:Nat):upF 0 n=(List.range n).map fun i:Nat=>FV.int i:=by
 have:=up_map n 0
 rw [List.range_eq_range']; exact_mod_cast this
theorem ite2 {c A B:Prop} [Decidable c] (h1:c→A) (h2:¬ c→B):if c then A else B:=by
 by_cases h:c
 ·rw [if_pos h]; exact h1 h
 ·rw [if_neg h]; exact h2 h
end Kq
end
set_option maxHeartbeats 4000000
section
namespace Kq
open PySem PySem.Spec PyProof.Rows L2
section
variable {X:Cx}{C:CC}{n:Nat}{sp:PySem.W.Frag→Nat→Sp}{a:Expr}{ea:EW}{p p2 p3 p4 pos:Pos}
theorem c_isi2:CallR X (.builtin "isinstance") (fun xs H Q=>∃ v d c c' b b' T,xs=[v,.ref d]∧H d=some (.tup [.ty c,.ty c'])∧TyOf X.K H v (.type T)∧PySem.W.kitOne X.K (.type T) (.type c)=some b∧PySem.W.kitOne X.K (.type T) (.type c')=some b'∧Q (.bl (b || b')) H):=by
 intro pins s σ H xs us Q I r hh
 obtain ⟨v,d,c,c',b,b',T,rfl,hd,h1,h2,h3,q⟩:=hh
 obtain ⟨u,u',rfl,ru,ru'⟩:=vals2 r
 obtain rfl:u'=.ref d:=ru'
 obtain ⟨_,its,rv,o,ho,hcl,nn,hdt⟩:=(show ObjOk X.prog X.w H s.heap d (.tup [.ty c,.ty c']) from I.hok d _ hd)
 obtain ⟨w1,w2,rfl,rw1,rw2⟩:=vals2 rv
 obtain rfl:w1=.type c:=rw1
 obtain rfl:w2=.type c':=rw2
 have fin:∀ tk,EP X pins σ Q (.bool (b || b')) { s with toks:=tk }:=fun tk=>⟨.bl (b || b'),H,I.tok _,rfl,q⟩
 have hany:PySem.W.kitAny X.K (.type T) [.type c,.type c']=some (b || b'):=by
  show (match PySem.W.kitOne X.K (.type T) (.type c) with | some true=>some true | some false=>PySem.W.kitAny X.K (.type T) [.type c'] | none=>none)=_
  rw [h2]
  cases b with
  | true=>rfl
  | false =>
   show (match PySem.W.kitOne X.K (.type T) (.type c') with | some true=>some true | some false=>PySem.W.kitAny X.K (.type T) [] | none=>none)=_
   rw [h3]; cases b' <;> rfl
 obtain ⟨oc,od,odt,osl⟩:=o
 simp only at hcl hdt
 subst hcl hdt
 cases h1 with
 | non=>cases (show u=Value.none from ru); exact PySem.W.kia_tup PySem.W.kitx_none I.kIn True.intro ho hany (fun z=>nomatch z) fin
 | bl y=>cases (show u=Value.bool y from ru); exact PySem.W.kia_tup PySem.W.kitx_bool I.kIn True.intro ho hany (fun z=>nomatch z) fin
 | int i=>obtain ⟨t,rfl⟩:=(show ∃ t,u=Value.int i t from ru); exact PySem.W.kia_tup PySem.W.kitx_int I.kIn True.intro ho hany (fun z=>nomatch z) fin
 | str y=>obtain ⟨t,rfl⟩:=(show ∃ t,u=Value.str y t from ru); exact PySem.W.kia_tup PySem.W.kitx_str I.kIn True.intro ho hany (fun z=>nomatch z) fin
 | flt y=>obtain ⟨t,rfl⟩:=(show ∃ t,u=Value.float y t from ru); exact PySem.W.kia_tup PySem.W.kitx_float I.kIn True.intro ho hany (fun z=>nomatch z) fin
 | @lst a xs ea =>
  cases (show u=Value.ref a from ru)
  obtain ⟨_,_,n,_,h1⟩:=(show ObjOk X.prog X.w H s.heap a (.lst xs) from I.hok a _ ea)
  exact PySem.W.kia_tup PySem.W.kitx_list I.kIn ⟨_,h1,rfl⟩ ho hany (fun z=>nomatch z) fin
 | @frz a ob xs ea =>
  cases (show u=Value.ref a from ru)
  obtain ⟨_,_,_,n,_,h1⟩:=(show ObjOk X.prog X.w H s.heap a (.frz ob (.lst xs)) from I.hok a _ ea)
  exact PySem.W.kia_tup PySem.W.kitx_list I.kIn ⟨_,h1,rfl⟩ ho hany (fun z=>nomatch z) fin
 | @tup a xs ea =>
  cases (show u=Value.ref a from ru)
  obtain ⟨_,_,_,o,h1,h2,_⟩:=(show ObjOk X.prog X.w H s.heap a (.tup xs) from I.hok a _ ea)
  exact PySem.W.kia_tup PySem.W.kitx_tuple I.kIn ⟨o,h1,h2⟩ ho hany (fun z=>nomatch z) fin
 | @dK a kvs ea =>
  cases (show u=Value.ref a from ru)
  obtain ⟨_,_,vs,_,o,es,ep,h1,h2,_⟩:=(show ObjOk X.prog X.w H s.heap a (.dK kvs) from I.hok a _ ea)
  exact PySem.W.kia_tup PySem.W.kitx_dict I.kIn ⟨o,h1,h2.1⟩ ho hany (fun z=>nomatch z) fin
 | @dT a kvs ea =>
  cases (show u=Value.ref a from ru)
  obtain ⟨_,_,xs,_,o,es,ep,h1,h2,_⟩:=(show ObjOk X.prog X.w H s.heap a (.dT kvs) from I.hok a _ ea)
  exact PySem.W.kia_tup PySem.W.kitx_dict I.kIn ⟨o,h1,h2.1⟩ ho hany (fun z=>nomatch z) fin
theorem fe_isi2 {t t':Ty} {tn tn':Str} {m:Nat} (G:Good X C n sp) (hg:C.gl (Str.ofString "isinstance")=true) (ht:tn=Str.ofString (tyName t)) (ht':tn'=Str.ofString (tyName t')) (hg2:(C.gl tn && C.gl tn')=true) (hs:isStar a=false) (ha:FR X C a ea) :
  FE X C (.Call (.Name (Str.ofString "isinstance") p) [a,.Tuple [.Name tn p2,.Name tn' p3] m p4] [] pos) (eUn (isi2F t t') ea):=by
 subst ht ht'
 have hg2:=b2 hg2
 have tt:∀ (t:Ty) (p2:Pos),C.gl (Str.ofString (tyName t))=true→PE X.nox (.Name (Str.ofString (tyName t)) p2) (tC (.ty (tyName t))):=fun t p2 hg=>by
  cases t <;> exact pe_bltn (G.gl hg) (G.blt _ (by decide)) (by nofun) rfl (by nofun) (by nofun)
 have tup:=pe_tup (x1:=m) (pos:=p4) (pa_cons (tt t p2 hg2.1) (pa_cons (tt t' p3 hg2.2) pa_nil rfl) rfl)
 refine PE.imp (pe_callB c_isi2 (G.gl hg) (G.blt "isinstance" (by decide)) (by nofun) (pa_cons ha (pa_cons tup pa_nil rfl) (star_ok hs)) (by nofun) (by nofun) (star_ok hs) rfl) fun σ H Q q1=>?_; obtain ⟨c,L,S,Q0,I,h,k⟩:=q1; refine
  ⟨c,L,S,_,I,h,fun v L1 hv x S1 H1 r1 I1 s1=>?_⟩
 refine ⟨by show 2≤sizeLine; decide,fun d hd=>?_⟩
 obtain ⟨z,e,q⟩:=wpx hv
 obtain ⟨r,e1,e2⟩:=bnd e
 obtain ⟨r',e3,rfl⟩:=mpd e2
 have I2:=I1.lay hd (.tup [.ty (tyName t),.ty (tyName t')])
 have rr:RH X.K S1 (upd H1 d (.tup [.ty (tyName t),.ty (tyName t')])) v x:=by
  rcases r1 with r1 | ⟨b,rfl,o1,ps,us,e4,o2,o3⟩
  ·exact .inl r1
  ·exact .inr ⟨b,rfl,o1,ps,us,e4,by rw [upd_ne (ne_of_none o2 hd)]; exact o2,o3⟩
 obtain ⟨T,t1,t2⟩:=tyOf_rel I2.sub rr e1
 obtain ⟨T',t3,t4⟩:=tyOf_rel I2.sub rr e3
 have hT:T=T':=by cases t1 <;> cases t3 <;> first | rfl | (simp_all)
 subst hT
 exact ⟨x,d,_,_,_,_,T,rfl,upd_same,t1,t2,t4,k _ L1 q _ S1 _ rfl I2 s1⟩
end
@[scoped simp ↓] theorem f_isi2 (t u:Ty) (v:FV) (Q:FV→Prop):wp (isi2F t u v) Q↔wp (isTyF v t) fun a=>wp (isTyF v u) fun b=>Q (.bl (a || b)):=by
 unfold isi2F; rw [wp_bind]; simp only [wp_map]
section
variable {X:Cx}{C:CC}{n:Nat}{sp:PySem.W.Frag→Nat→Sp}{fr:Bool}{a b:Expr}{ea eb:EW}{pos px py pt p2:Pos}{i j kt k2:Nat}{nx ny:Str}
theorem par_of (G:Good X C n sp) {ta:TA} (h:parOk C i j nx ny px py a b=true) (ha:PA X.nox [a,b] ta):PS X.nox (.Assign [.Tuple [.Name nx px,.Name ny py] kt pt] (.Tuple [a,b] k2 p2) pos) (tPar i j ta):=by
 have g0:=b2 h; have g1:=b2 g0.1; have g2:=b2 g1.1; have g3:=b2 g2.1; have g4:=b2 g3.1; have g5:=b2 g4.1; have g6:=b2 g5.1; have g7:=b2 g6.1; have g8:=b2 g7.1; have g9:=b2 g8.1
 have lx:X.env.scope.names.lookup nx=some .local:=by rw [G.sc]; exact de g6.2
 have ly:X.env.scope.names.lookup ny=some .local:=by rw [G.sc]; exact de g5.2
 exact ps_par (X:=X.nox) G.calm G.nd' (G.ix g9.1) (G.ix g9.2) (de g8.2) lx ly ha (sw2 (env:=X.env) G.kind lx ly (de g7.2) g4.2 (nb g3.2) (nb g2.2) (nb g1.2) (nb g0.2))
theorem par_st (h:parOk C i j nx ny px py a b=true):isStar a=false∧isStar b=false∧i≠j:=by
 have g0:=b2 h; have g1:=b2 g0.1; have g2:=b2 g1.1; have g3:=b2 g2.1; have g4:=b2 g3.1; have g5:=b2 g4.1; have g6:=b2 g5.1; have g7:=b2 g6.1; have g8:=b2 g7.1
 exact ⟨by cases a <;> first | rfl | (exact nb g3.2),by cases b <;> first | rfl | (exact nb g2.2),de g8.2⟩
theorem fs_parI (G:Good X C n sp) (hm:(decide (mdAt C.md i=.own) && decide (i≠0) && decide (mdAt C.md j=.imm))=true) (h:parOk C i j nx ny px py a b=true) (ha:FF X C a ea) (hb:FE X C b eb):FS X C fr (.Assign [.Tuple [.Name nx px,.Name ny py] kt pt] (.Tuple [a,b] k2 p2) pos) (sAsg (eTup (aCons ea (aCons eb aNil))) (.tp [i,j])):=by
 obtain ⟨sa,sb,hij⟩:=par_st h
 refine PS.imp (par_of G h (pa_cons ha (pa_cons hb pa_nil (star_ok sb)) (star_ok sa))) fun D σ H q1=>?_; obtain ⟨c,L,S,Q0,I,h,k⟩:=q1
 have hm:=b2 hm; have hm2:=b2 hm.1
 refine ⟨c,L,S,_,I,h,fun v L1 q l S1 H1 o f I1 s1=>?_⟩
 obtain ⟨o1,ps,us,e9,o2,o3⟩:=o
 have I2:=I1.prot o2 o1 fun y u hy hu=>f.2.2 y u (Mo.w_imm hy) hu
 refine ⟨_,L1,S1,_,I2,q,fun w L2 q y S2 H2 r2 I3 s2=>⟨.ref l,y,rfl,?_⟩⟩
 obtain ⟨g1,g2,g3⟩:=I3.prs (l,ownH v us) List.mem_cons_self
 have I4:=I3.unprot I1.fzp
 have nf:∀ y u,mdAt C.md y≠.imm→L2[y]?=some (some u)→σ[y]?≠some (some (.ref l)):=fun y u hy hu hs=>by
  by_cases mo:(mdAt C.md y).w=true
  ·exact g3 y u mo hu hs
  ·have mo:mdAt C.md y=.frz:=by cases z:mdAt C.md y with | imm=>exact absurd z hy | frz=>rfl | _=>rw [z] at mo; exact absurd rfl mo
   obtain ⟨b',f1⟩:=I4.fzm y u mo hu
   obtain ⟨_,f2,_⟩:=I4.fzs _ f1
   rw [hs] at f2; cases f2
   obtain ⟨ys,f3⟩:=I1.fzp _ f1
   exact f.2.1 _ f3 rfl
 have I5:=I4.set (x:=.ref l) (v:=v) (fun _ _=>de hm2.2) (fun z=>by rw [de hm2.1] at z; cases z) (.inr ⟨de hm2.1,l,rfl,⟨g2,ps,us,e9,g1,o3.mono s2⟩,f.1,f.2.1,fun y u _ hy hu=>nf y u hy hu⟩)
 exact k .next _ q.2 _ S2 H2 (I5.setI (de hm.2) r2) (s1.trans s2)
end
end Kq
end
section
namespace PySem
def LtAt (A:Around) (s:Shared) (x y:Value) (b:Bool):Prop :=
 ∀ (prog:Program) (w:World) (E:Value→Shared→Prop) (Q:Value→Shared→Prop),Q (.bool b) s→wpAny (model prog w) A (richCompare .Lt x y) Q E s
inductive LexAt (A:Around) (s:Shared):List Value→List Value→Bool→Prop
 | nn:LexAt A s [] [] false
 | nc {y ys}:LexAt A s [] (y :: ys) true
 | cn {x xs}:LexAt A s (x :: xs) [] false
 | eq {x y xs ys r}:SeqAt.EqAt A s x y true→LexAt A s xs ys r→LexAt A s (x :: xs) (y :: ys) r
 | ne {x y xs ys r}:SeqAt.EqAt A s x y false→LtAt A s x y r→LexAt A s (x :: xs) (y :: ys) r
section
open PySem.SeqAt
open PySem.AutoSeq1 (wpAny_loadPart')
open PySem.MeetsSeq PySem.MeetsSeq2 PySem.MeetsSeq3
theorem tuple_lt_gen (l b:Addr) (items items2:Array Value) (n n2:Nat) (dd dd2:Option Addr) (sl sl2:Array (Option Value)) :
  Meets (Builtin.«tuple.__lt__» ⟨[.ref l,.ref b],[]⟩)
   (fun A R s=>s.heap.get? l=some { cls:=.type "tuple",dict:=dd,data:=.seq items n,slots:=sl }∧s.heap.get? b=some { cls:=.type "tuple",dict:=dd2,data:=.seq items2 n2,slots:=sl2 } ∧
    ∃ r,LexAt A.in1 s items.toList items2.toList r∧R (.ok (.ret (.bool r))) s) :=
 .of_wp fun prog w A R s h=>by
  obtain ⟨hp,g,d,tk,os⟩:=s; obtain ⟨hl,hb,r,hlex,h⟩:=h
  have f2:=AutoSeq1.sub_tuple_tuple
  wp_walk using wpAny_loadPart' hl,wpAny_loadPart' hb,wpAny_forIn_list _ (fun rest b s'=>b.1=none∧s'=⟨hp,g,d,tk,os⟩∧∃ (vs ws:List Value),rest=vs.zip ws ∧
   LexAt A.in1 ⟨hp,g,d,tk,os⟩ vs ws r∧vs.length + items2.size=ws.length + items.size) _
  case turn =>
   rintro ⟨y,x⟩ rest b s' ⟨hb',rfl,vs,ws,hz,hlx,hlen⟩
   cases hlx with
   | nn=>cases hz
   | nc=>cases hz
   | cn=>rw [List.zip_nil_right] at hz; cases hz
   | eq he hr =>
    rw [List.zip_cons_cons] at hz
    injection hz with hyx hrest
    injection hyx with hy hx
    subst hy hx
    simp only [List.length_cons] at hlen
    refine wpAny_bind (he prog w _ _ ?_)
    wp_walk
    exact ⟨rfl,rfl,_,_,hrest,hr,by lia⟩
   | ne he hr =>
    rw [List.zip_cons_cons] at hz
    injection hz with hyx hrest
    injection hyx with hy hx
    subst hy hx
    refine wpAny_bind (he prog w _ _ ?_)
    have hri:=hr prog w
    wp_walk using hri
    exact ⟨_,rfl,by simpa using h⟩
  case fin =>
   rintro ⟨b1,b2⟩ s' ⟨hb',rfl,vs,ws,hz,hlx,hlen⟩
   simp only at hb'
   subst hb'
   have hv:r=decide (items.size < items2.size):=by
    cases hlx with
    | nn=>simp only [List.length_nil] at hlen; exact (decide_eq_false (by lia)).symm
    | nc=>simp only [List.length_nil,List.length_cons] at hlen; exact (decide_eq_true (by lia)).symm
    | cn=>simp only [List.length_nil,List.length_cons] at hlen; exact (decide_eq_false (by lia)).symm
    | eq=>rw [List.zip_cons_cons] at hz; cases hz
    | ne=>rw [List.zip_cons_cons] at hz; cases hz
   rw [hv] at h
   wp_walk
   exact ⟨_,rfl,by simpa [Builtin.Tuple.tupleCompareSizes] using h⟩
  case h =>
   exact ⟨rfl,rfl,items.toList,items2.toList,rfl,hlex,by simp; lia⟩
end
theorem ltAt_tup {A:Around} {s:Shared} {l b:Addr} {o o2:Obj} {items items2:Array Value} {n n2:Nat} {r:Bool} (h1:s.heap.get? l=some o) (h2:o.cls=.type "tuple") (h3:o.data=.seq items n) (g1:s.heap.get? b=some o2) (g2:o2.cls=.type "tuple") (g3:o2.data=.seq items2 n2)
  (hlex:LexAt A.in1 s items.toList items2.toList r) (hu:A.units < cLine):LtAt A s (.ref l) (.ref b) r:=by
 intro prog w E Q h
 obtain ⟨cls,dd,data,sl⟩:=o
 obtain ⟨cls2,dd2,data2,sl2⟩:=o2
 simp only at h2 h3 g2 g3
 subst h2 h3 g2 g3
 exact richCompare_meets_room (op:=.Lt) ⟨_,h1,rfl⟩ ⟨_,g1,rfl⟩ PySem.F.slot_tuple_lt PySem.F.entry_tuple_lt (PySem.F.args_tuple_lt_2 _ _) (tuple_lt_gen l b items items2 n n2 dd dd2 sl sl2)
  ⟨h1,g1,r,hlex,show Value.bool r≠Value.notImplemented∧Q (.bool r) s from ⟨(fun x=>nomatch x),h⟩⟩ hu
end PySem
end
section
namespace Kq
open PySem PySem.Spec PyProof.Rows L2
def putV {κ α:Type} [DecidableEq κ] (ks:List κ) (vs:List α) (k:κ) (v:α):List κ×List α :=
 if k∈ks then (ks,List.zipWith (fun k' v'=>if k'=k then v else v') ks vs) else (ks++[k],vs++[v])
end Kq
end
section
namespace Kq
open PySem PySem.Spec PyProof.Rows L2
def sum2F (v:FV):Option FV:=(seqF v).bind fun xs=>(sumI xs).map .int
section
variable {X:Cx}
theorem call_sum_t (hc:X.calm=true):CallR X (.builtin "sum") (fun xs H Q=>∃ (a:Addr) (ns:List Int),xs=[.ref a]∧SqT X.K H a (ns.map V.int)∧ns.length≤big∧(∀ n∈ns,-(2 ^ 40)≤n∧n≤2 ^ 40)∧Q (.int ns.sum) H):=by
 intro pins s σ H xs us Q I r h
 obtain ⟨a,ns,rfl,hq,hz,hb,q⟩:=h
 obtain ⟨u,rfl,rx⟩:=vals1 r
 cases rx
 obtain ⟨its,r',pl,hz'⟩:=I.tuple hq
 have hlen:ns.length=its.length:=by have:=r'.length; simpa using this
 have pt:s.heap.IsTuple a its.toArray:=pl
 have alt:a < s.heap.objs.size:=by obtain ⟨_,e,_⟩:=pt; exact Heap.lt_size e
 have hh:X.A.in1.handled=none:=I.ok.hd hc
 refine call_sum_walk (wpAny_pyIter_tuple pt ?_)
 refine ⟨s.heap.objs.size,_,_,_,_,_,fun i=>ns.getD i 0,rfl,Walks.tuple hh s.heap.objs.size a (Nat.ne_of_lt alt) its.toArray,⟨⟨_,Heap.get?_push_size _ rfl,rfl,rfl⟩,pt.at fun o e=>Heap.get?_push_of_some _ e⟩,?_,?_,?_,?_⟩
 ·intro b hb'
  simp at hb'
  rcases hb' with rfl | rfl
  ·show _ < (s.heap.push _).objs.size; rw [Heap.size_push]; exact Nat.lt_succ_self _
  ·show _ < (s.heap.push _).objs.size; rw [Heap.size_push]; exact Nat.lt_succ_of_lt alt
 ·intro i v hv
  have hv:its.toArray[i]?=some v:=hv
  have hi:i < ns.length:=by rw [hlen]; simpa using (Array.getElem?_eq_some_iff.mp hv).1
  obtain ⟨t,e⟩:=Vals.mapInt r' i hi
  refine ⟨t,?_⟩
  have e':its.toArray[i]?=some (.int (ns.getD i 0) t):=by simpa using e
  rw [hv] at e'
  exact Option.some.inj e'
 ·intro j hj
  have hj':j < ns.length:=by rw [hlen]; simpa using hj
  have hm:ns.getD j 0∈ns:=by simp [List.getD,hj']
  refine ⟨?_,?_⟩
  ·have:=hb _ hm
   show -(2 ^ 63)≤ns.getD j 0∧ns.getD j 0 < 2 ^ 63
   lia
  ·rw [preSum_take ns (j + 1) hj']
   have b2:=sum_le 1099511627776 (by decide) (ns.take (j + 1)) fun n hn=>by have:=hb n (List.mem_of_mem_take hn); lia
   have l2:(ns.take (j + 1)).length≤100000:=by rw [List.length_take]; unfold big at hz; lia
   unfold InLong; lia
 ·intro h' tk t' hk
  have e:preSum (fun i=>ns.getD i 0) its.toArray.size=ns.sum:=by
   rw [List.size_toArray,← hlen,preSum_take ns _ (Nat.le_refl _),List.take_length]
  rw [e]
  refine ⟨.int ns.sum,H,?_,⟨t',rfl⟩,q⟩
  exact I.kept (t':=tk) fun b o e=>hk b o (by simp; exact Nat.ne_of_lt (Heap.lt_size e)) (Heap.get?_push_of_some _ e)
theorem c_sum2 (hc:X.calm=true):CallR X (.builtin "sum") (Rc X.K sum2F):=by
 rintro pins s σ H xs us Q I r ⟨S,v,x,z,rfl,hs,rv,e,k⟩
 cases v with
 | tup ps =>
  obtain ⟨n,e3,rfl⟩:=mpd e
  obtain ⟨ns,e4,e5⟩:=bnd e3
  obtain ⟨hb,rfl⟩:=itd e5
  obtain ⟨a,ys,rfl,hq,ry⟩:=rv.tup hs
  cases intsF_rel ry e4
  refine call_sum_t hc pins s σ H _ us Q I r ⟨a,ns,rfl,SqT.of hq,hb.1,fun n hn=>?_,k.int⟩
  have:=List.all_eq_true.mp hb.2 n hn
  simpa [small40] using this
 | lst ps=>exact c_sum hc pins s σ H _ us Q I r ⟨S,.lst ps,x,z,rfl,hs,rv,e,k⟩
 | scr ps=>exact c_sum hc pins s σ H _ us Q I r ⟨S,.scr ps,x,z,rfl,hs,rv,e,k⟩
 | _=>cases e
end
section
variable {X:Cx}{C:CC}{n:Nat}{sp:PySem.W.Frag→Nat→Sp}{a:Expr}{ea:EW}{pos p:Pos}
theorem fe_sum2 (G:Good X C n sp) (hg:C.gl (Str.ofString "sum")=true) (hs:isStar a=false) (ha:FR X C a ea):FE X C (.Call (.Name (Str.ofString "sum") p) [a] [] pos) (eUn sum2F ea):=fe_bi (c_sum2 G.calm) G (by decide) (by nofun) (by nofun) (by nofun) hg hs ha
end
@[scoped simp ↓] theorem f_sum2 (v:FV) (Q:FV→Prop):wp (sum2F v) Q↔wp (seqF v) fun xs=>wp (sumI xs) fun n=>Q (.int n):=by
 show wp ((seqF v).bind _) Q↔_
 simp only [wp_bind,wp_map]
def insL {α:Type} (xs:List α) (k:Nat) (y:α):List α:=xs.take k++y :: xs.drop k
end Kq
end
section
namespace Kq
open PySem PySem.Spec PyProof.Rows L2
def noTup (o:HO):Prop:=∀ xs,o≠.tup xs
section
variable {S:Hp}{os:List Addr}
def lessO (S:Hp) (os:List Addr):Hp:=fun a=>if a∈os then none else S a
end
end Kq
end
section
namespace Kq
open PySem PySem.Spec PyProof.Rows L2
def tupsOk:List FV→Bool
 | []=>true
 | .tup ps :: r=>(match intsF ps with | some (_ :: _)=>true | _=>false) && tupsOk r
 | _=>false
section
variable {K:PySem.W.Frag}{c:Cn}{md:Md}{L:FLoc}{σ:L2.St}{S H:Hp}
theorem Iv.writeV (I:Iv K c md L σ S H) {i:Nat} {v w:FV} {a:Addr} {ps:List FV} {xs:List V} (m:mdAt md i=.own) (e:L[i]?=some (some v)) (e1:σ[i]?=some (some (.ref a))) (hw:ownP w=some ps) (r:RVs K S ps xs) :
  Iv K c md (L.set i (some w)) σ S (upd H a (ownH w xs)):=by
 obtain ⟨a',e1',⟨h1,_⟩,_⟩:=I.own i v (fun z=>by rw [m] at z; cases z) e
 rw [e1] at e1'; cases e1'
 exact I.back m e e1 (Same.refl S) (fun b o z=>by rw [upd_ne fun y=>by subst y; rw [h1] at z; cases z]; exact I.sub b o z) (fun b o z=>.inl z) (fun b o z n=>by rw [upd_ne n]; exact z) ⟨h1,ps,xs,hw,upd_same,r⟩
end
end Kq
end
section
namespace Kq
open PySem PySem.Spec PyProof.Rows L2
def inW (tg:Tg) (t:BW) (e:EW):List FV→List FV→FLoc→(List FV→FLoc→Prop)→Prop
 | [],acc,L,Q=>Q acc L
 | y :: r,acc,L,Q=>gW tg y L fun L1=>t L1 fun b L2=>if b=true then e L2 fun v L3=>inW tg t e r (acc++[v]) L3 Q else inW tg t e r acc L2 Q
inductive liv (K:PySem.W.Frag) (md:Md) (it:AW) (σ:L2.St) (H:Hp) (R:It→Hp→Prop):Prop
 | mk (c:_) (L:_) (S:_) (Q0:_) (_:Iv K c md L σ S H) (_:it L Q0) (_:∀ xs L',Q0 xs L'→∀ J S' H',Iv K c md L' σ S' H'→(∀ c md,ItR K c md J xs S')→Same S S'→R J H'):liv K md it σ H R
def FIv (X:Cx) (C:CC) (tg iter:Expr) (it:AW):Prop:=PI X.nox tg iter (liv X.K C.md it)
end Kq
end
set_option maxHeartbeats 1000000
set_option maxHeartbeats 4000000
section
namespace Kq
open PySem PySem.Spec PyProof.Rows L2 PySem.W
abbrev Asc {α:Type} (lt:α→α→Bool) (l:List α):Prop:=l.Pairwise fun x y=>lt y x=false
def RiseA (xs:Array Nat):Prop:=∀ i j (hi:i < xs.size) (hj:j < xs.size),i < j→xs[i] < xs[j]
def TabOk (t:SetTable) (l:Bool):Prop:=t.led=l∧t.dummies = #[]∧(t.plain=true→RiseA t.place)
def NumEs (l:List (Int×Value)):Prop:=∀ e∈l,∃ k tk,e=(hashInt k,Value.int k tk)
def esNums (l:List (Int×Value)):List Int:=l.map fun e=>numOf e.2
end Kq
end
section
namespace Kq
open PySem PySem.Spec PyProof.Rows L2
def optsF:List FV→Option (List (Option Int))
 | []=>some []
 | .int i :: r=>(optsF r).map (some i :: ·)
 | .non :: r=>(optsF r).map (none :: ·)
 | _=>none
def compWN (n m:Nat) (tg:Tg) (t:BW) (ek ev:EW):List FV→List (List (Option Int))→List FV→FLoc→(List (List (Option Int))→List FV→FLoc→Prop)→Prop
 | [],ks,vs,L,Q=>Q ks vs L
 | x :: xs,ks,vs,L,Q=>gW tg x (L++List.replicate m none) fun L1=>t L1 fun b L2=>if b=true then ek L2 fun kx L3=>wp (tupF kx) fun ps=>wp (optsF ps) fun k=>ev L3 fun v L4=>compWN n m tg t ek ev xs (putV ks vs k v).1 (putV ks vs k v).2 (L4.take n) Q else compWN n m tg t ek ev xs ks vs (L2.take n) Q
def oF:Option Int→FV
 | some i=>.int i
 | none=>.non
mutual
noncomputable def fla:FV→Bool
 | .non=>true
 | .bl _=>true
 | .int _=>true
 | .str _=>true
 | .shn _=>true
 | .scr _=>true
 | .tup xs=>flas xs
 | .lst _=>false
 | .dct _ _=>false
 | .dci _ _=>false
 | .dcz _ _ _=>false
 | .dcn _ _ _=>false
 | .obj _ _ _ _=>false
 | .dco _ _=>false
 | .adr _=>true
noncomputable def flas:List FV→Bool
 | []=>true
 | x :: xs=>fla x && flas xs
end
def ownNo (v:FV):Bool:=match ownP v with
 | some ps=>flas ps
 | none=>false
def nl (S:Hp):Hp:=fun a=>match S a with
 | some (.lst _)=>none
 | o=>o
section
variable {K:PySem.W.Frag}{S:Hp}
theorem nl_of {a:Addr} {o:HO} (h:S a=some o) (n:∀ xs,o≠.lst xs):nl S a=some o:=by
 unfold nl
 split
 ·rename_i xs z; rw [h] at z; exact absurd (Option.some.inj z) (n xs)
 ·exact h
mutual
theorem RV.nl:∀ {p:FV} {v:V},fla p=true→RV K S p v→RV K (nl S) p v
 | .non,v,_,h=>h
 | .bl b,v,_,h=>h
 | .int i,v,_,h=>h
 | .str _,v,_,h=>h
 | .shn _,v,_,h=>h
 | .tup ps,v,n,q1=>by obtain ⟨a,xs,e,h1,h2⟩:=q1; exact ⟨a,xs,e,nl_of h1 (fun _ z=>nomatch z),RVs.nl n h2⟩
 | .lst ps,v,n,h=>by cases n
 | .dct ks vs,v,n,h=>by cases n
 | .dci ks vs,v,n,h=>by cases n
 | .dcz o ks vs,v,n,h=>by cases n
 | .dcn z ks vs,v,n,h=>by cases n
 | .obj _ _ _ _,v,n,h=>by cases n
 | .dco _ _,v,n,h=>by cases n
 | .adr _,v,_,h=>h
 | .scr ns,v,_,q2=>by obtain ⟨a,e,h⟩:=q2; exact ⟨a,e,h.elim (fun q3=>by obtain ⟨o,h⟩:=q3; exact .inl ⟨o,nl_of h (fun _ z=>nomatch z)⟩) .inr⟩
theorem RVs.nl:∀ {ps:List FV} {vs:List V},flas ps=true→RVs K S ps vs→RVs K (nl S) ps vs
 | [],vs,_,h=>h
 | p :: ps,vs,n,q1=>by obtain ⟨v,r,e,h1,h2⟩:=q1; exact ⟨v,r,e,RV.nl (b2 n).1 h1,RVs.nl (b2 n).2 h2⟩
end
end
theorem ok_app {a b:Str} (ha:PyData.strOk a=true) (hb:PyData.strOk b=true):PyData.strOk (a++b)=true:=by
 show Array.all (a.cps++b.cps) _=true
 rw [Array.all_append]
 exact Bool.and_eq_true_iff.mpr ⟨ha,hb⟩
theorem ok_join {s:Str} (hs:PyData.strOk s=true):∀ {ts:List Str},(∀ t∈ts,PyData.strOk t=true)→PyData.strOk (Str.join s ts)=true
 | [],_=>str_ok ""
 | [a],h=>h a (by simp)
 | a :: b :: r,h=>by
  simp only [Str.join]
  exact ok_app (ok_app (h a (by simp)) hs) (ok_join hs fun t ht=>h t (by simp [List.mem_cons.mp ht]))
theorem ok_from:∀ {ts:List Str} {k:Nat} {acc:Str},PyData.strOk acc=true→(∀ t∈ts,PyData.strOk t=true)→PyData.strOk (textFrom k acc ts)=true
 | [],k,acc,ha,_=>ha
 | t :: r,k,acc,ha,h=>by
  unfold textFrom
  refine ok_from ?_ fun x hx=>h x (by simp [hx])
  split
  ·exact ok_app (ok_app ha (str_ok _)) (h t (by simp))
  ·exact ok_app ha (h t (by simp))
end Kq
end
section
namespace Kq
@[scoped simp ↓ high] theorem lk_1 (a0:Option FV) (v:FV) (L:FLoc) (Q:FV→Prop):wp (lk (a0 :: some v :: L) 1) Q=Q v:=propext Iff.rfl
@[scoped simp ↓ high] theorem lk_2 (a0 a1:Option FV) (v:FV) (L:FLoc) (Q:FV→Prop):wp (lk (a0 :: a1 :: some v :: L) 2) Q=Q v:=propext Iff.rfl
@[scoped simp ↓ high] theorem lk_3 (a0 a1 a2:Option FV) (v:FV) (L:FLoc) (Q:FV→Prop):wp (lk (a0 :: a1 :: a2 :: some v :: L) 3) Q=Q v:=propext Iff.rfl
@[scoped simp ↓ high] theorem lk_4 (a0 a1 a2 a3:Option FV) (v:FV) (L:FLoc) (Q:FV→Prop):wp (lk (a0 :: a1 :: a2 :: a3 :: some v :: L) 4) Q=Q v:=propext Iff.rfl
@[scoped simp ↓ high] theorem lk_5 (a0 a1 a2 a3 a4:Option FV) (v:FV) (L:FLoc) (Q:FV→Prop):wp (lk (a0 :: a1 :: a2 :: a3 :: a4 :: some v :: L) 5) Q=Q v:=propext Iff.rfl
@[scoped simp ↓ high] theorem lk_6 (a0 a1 a2 a3 a4 a5:Option FV) (v:FV) (L:FLoc) (Q:FV→Prop):wp (lk (a0 :: a1 :: a2 :: a3 :: a4 :: a5 :: some v :: L) 6) Q=Q v:=propext Iff.rfl
@[scoped simp ↓ high] theorem lk_7 (a0 a1 a2 a3 a4 a5 a6:Option FV) (v:FV) (L:FLoc) (Q:FV→Prop):wp (lk (a0 :: a1 :: a2 :: a3 :: a4 :: a5 :: a6 :: some v :: L) 7) Q=Q v:=propext Iff.rfl
@[scoped simp ↓ high] theorem lk_8 (a0 a1 a2 a3 a4 a5 a6 a7:Option FV) (v:FV) (L:FLoc) (Q:FV→Prop):wp (lk (a0 :: a1 :: a2 :: a3 :: a4 :: a5 :: a6 :: a7 :: some v :: L) 8) Q=Q v:=propext Iff.rfl
@[scoped simp ↓ high] theorem lk_9 (a0 a1 a2 a3 a4 a5 a6 a7 a8:Option FV) (v:FV) (L:FLoc) (Q:FV→Prop):wp (lk (a0 :: a1 :: a2 :: a3 :: a4 :: a5 :: a6 :: a7 :: a8 :: some v :: L) 9) Q=Q v:=propext Iff.rfl
@[scoped simp ↓ high] theorem lk_10 (a0 a1 a2 a3 a4 a5 a6 a7 a8 a9:Option FV) (v:FV) (L:FLoc) (Q:FV→Prop):wp (lk (a0 :: a1 :: a2 :: a3 :: a4 :: a5 :: a6 :: a7 :: a8 :: a9 :: some v :: L) 10) Q=Q v:=propext Iff.rfl
@[scoped simp ↓ high] theorem lk_11 (a0 a1 a2 a3 a4 a5 a6 a7 a8 a9 a10:Option FV) (v:FV) (L:FLoc) (Q:FV→Prop):wp (lk (a0 :: a1 :: a2 :: a3 :: a4 :: a5 :: a6 :: a7 :: a8 :: a9 :: a10 :: some v :: L) 11) Q=Q v:=propext Iff.rfl
@[scoped simp ↓ high] theorem lk_12 (a0 a1 a2 a3 a4 a5 a6 a7 a8 a9 a10 a11:Option FV) (v:FV) (L:FLoc) (Q:FV→Prop):wp (lk (a0 :: a1 :: a2 :: a3 :: a4 :: a5 :: a6 :: a7 :: a8 :: a9 :: a10 :: a11 :: some v :: L) 12) Q=Q v:=propext Iff.rfl
@[scoped simp ↓ high] theorem lk_13 (a0 a1 a2 a3 a4 a5 a6 a7 a8 a9 a10 a11 a12:Option FV) (v:FV) (L:FLoc) (Q:FV→Prop):wp (lk (a0 :: a1 :: a2 :: a3 :: a4 :: a5 :: a6 :: a7 :: a8 :: a9 :: a10 :: a11 :: a12 :: some v :: L) 13) Q=Q v:=propext Iff.rfl
@[scoped simp ↓ high] theorem lk_14 (a0 a1 a2 a3 a4 a5 a6 a7 a8 a9 a10 a11 a12 a13:Option FV) (v:FV) (L:FLoc) (Q:FV→Prop):wp (lk (a0 :: a1 :: a2 :: a3 :: a4 :: a5 :: a6 :: a7 :: a8 :: a9 :: a10 :: a11 :: a12 :: a13 :: some v :: L) 14) Q=Q v:=propext Iff.rfl
@[scoped simp ↓ high] theorem lk_15 (a0 a1 a2 a3 a4 a5 a6 a7 a8 a9 a10 a11 a12 a13 a14:Option FV) (v:FV) (L:FLoc) (Q:FV→Prop):wp (lk (a0 :: a1 :: a2 :: a3 :: a4 :: a5 :: a6 :: a7 :: a8 :: a9 :: a10 :: a11 :: a12 :: a13 :: a14 :: some v :: L) 15) Q=Q v:=propext Iff.rfl
@[scoped simp ↓ high] theorem lk_16 (a0 a1 a2 a3 a4 a5 a6 a7 a8 a9 a10 a11 a12 a13 a14 a15:Option FV) (v:FV) (L:FLoc) (Q:FV→Prop):wp (lk (a0 :: a1 :: a2 :: a3 :: a4 :: a5 :: a6 :: a7 :: a8 :: a9 :: a10 :: a11 :: a12 :: a13 :: a14 :: a15 :: some v :: L) 16) Q=Q v:=propext Iff.rfl
@[scoped simp ↓ high] theorem lk_17 (a0 a1 a2 a3 a4 a5 a6 a7 a8 a9 a10 a11 a12 a13 a14 a15 a16:Option FV) (v:FV) (L:FLoc) (Q:FV→Prop):wp (lk (a0 :: a1 :: a2 :: a3 :: a4 :: a5 :: a6 :: a7 :: a8 :: a9 :: a10 :: a11 :: a12 :: a13 :: a14 :: a15 :: a16 :: some v :: L) 17) Q=Q v:=propext Iff.rfl
@[scoped simp ↓ high] theorem lk_18 (a0 a1 a2 a3 a4 a5 a6 a7 a8 a9 a10 a11 a12 a13 a14 a15 a16 a17:Option FV) (v:FV) (L:FLoc) (Q:FV→Prop):wp (lk (a0 :: a1 :: a2 :: a3 :: a4 :: a5 :: a6 :: a7 :: a8 :: a9 :: a10 :: a11 :: a12 :: a13 :: a14 :: a15 :: a16 :: a17 :: some v :: L) 18) Q=Q v:=propext Iff.rfl
@[scoped simp ↓ high] theorem lk_19 (a0 a1 a2 a3 a4 a5 a6 a7 a8 a9 a10 a11 a12 a13 a14 a15 a16 a17 a18:Option FV) (v:FV) (L:FLoc) (Q:FV→Prop):wp (lk (a0 :: a1 :: a2 :: a3 :: a4 :: a5 :: a6 :: a7 :: a8 :: a9 :: a10 :: a11 :: a12 :: a13 :: a14 :: a15 :: a16 :: a17 :: a18 :: some v :: L) 19) Q=Q v:=propext Iff.rfl
end Kq
end
section
namespace Kq
open PySem PySem.Spec PySem.Calls PyProof.Rows L2 PySem.W
theorem whole_in (h:Heap):AllIn (whole h) h:=fun p hp=>by
 obtain ⟨a,_,e⟩:=List.mem_filterMap.mp hp
 obtain ⟨o,e1,e2⟩:=Option.map_eq_some_iff.mp e
 rw [← e2]; exact e1
theorem isR_eq {r:Option (Option Value)} {f:Addr} (h:isR r f=true):r=some (some (.ref f)):=by
 unfold isR at h
 split at h
 ·rw [beq_iff_eq.mp h]
 ·cases h
theorem isNo_eq {r:Option (Option Value)} (h:isNo r=true):r=some none:=by
 unfold isNo at h
 split at h
 ·rfl
 ·cases h
theorem isBt_eq {r:Option (Option Value)} {x:String} (h:isBt r x=true):r=some (some (.builtin x)):=by
 unfold isBt at h
 split at h
 ·rw [beq_iff_eq.mp h]
 ·cases h
theorem mgR_eq {r:Option Value} {f:Addr} (h:mgR r f=true):r=some (.ref f):=by
 unfold mgR at h
 split at h
 ·rw [beq_iff_eq.mp h]
 ·cases h
structure CF (K:Frag) (mg:Str→Option Value) (c:CSp):Prop where
 x:c.x K mg=true
 mg:mg c.c=some (.ref c.a)
 cl:Cls K c.a
 fl:∀ f∈c.fl,NoAttr K c.a f
 ms:∀ m∈c.ms,findIn K (.ref c.a) m.1=some (some (.ref m.2))∧isFn K (.ref m.2)=true∧keepIn K (.ref m.2)=true∧fnB K m.2=true
 mks:makesIn K c.a=true
 kp:keepIn K (.ref c.a)=true
theorem CF.of {K:Frag} {mg:Str→Option Value} {c:CSp} (h:cB K mg c=true):CF K mg c:=by
 obtain ⟨h1,h⟩:=b2 h
 obtain ⟨h2,h⟩:=b2 h
 obtain ⟨h3,h⟩:=b2 h
 obtain ⟨h4,h⟩:=b2 h
 obtain ⟨h5,h⟩:=b2 h
 obtain ⟨h6,h⟩:=b2 h
 obtain ⟨h7,h⟩:=b2 h
 obtain ⟨h8,h⟩:=b2 h
 obtain ⟨h9,h10⟩:=b2 h
 refine ⟨h10,mgR_eq h1,⟨h2,h3,h4,isBt_eq h5⟩,fun f hf=>isNo_eq (List.all_eq_true.mp h6 f hf),fun m hm=>?_,h8,h9⟩
 obtain ⟨g1,g⟩:=b2 (List.all_eq_true.mp h7 m hm)
 obtain ⟨g2,g⟩:=b2 g
 obtain ⟨g3,g4⟩:=b2 g
 exact ⟨isR_eq g1,g2,g3,g4⟩
inductive VF (K:Frag) (p:Vw):Prop
 | mk (fd:_) (_:Fun K p.m p.q p.st p.f fd):VF K p
def YPC (vw:List Vw) (w:World) (h:Heap):Prop:=∀ p∈vw,∃ o,h.get? p.f=some o∧viewO o=some p.due
theorem YPC.of {vw:List Vw} {w:World} {s:Shared} (h:YfC vw s=YaC vw):YPC vw w s.heap:=fun p hp=>by
 obtain ⟨i,hi,e⟩:=List.mem_iff_getElem.mp hp
 have:=congrArg (·[i]?) h
 simp only [YfC,YaC,List.getElem?_map,List.getElem?_eq_getElem hi,e,Option.map_some] at this
 exact Option.bind_eq_some_iff.mp (Option.some.inj this)
theorem YPC.keeps {vw:List Vw} {w:World} {h h':Heap} (y:YPC vw w h) (k:∀ (b:Addr) (o:Obj),h.get? b=some o→h'.get? b=some o):YPC vw w h':=fun p hp=>let ⟨o,e1,e2⟩:=y p hp; ⟨o,k _ _ e1,e2⟩
theorem VF.of {vw:List Vw} {w:World} {h:Heap} {K:Frag} (A:AllIn K h) (y:YPC vw w h) {p:Vw} (hp:p∈vw) (kp:keepIn K (.ref p.f)=true) (fb:fnB K p.f=true):VF K p:=by
 obtain ⟨o,e1,e2⟩:=y p hp
 unfold fnB at fb
 split at fb
 ·rename_i oc od fd osl lk
  have:=A _ (look_mem lk)
  rw [e1] at this
  cases this
  have e3:viewF fd=p.due:=Option.some.inj e2
  obtain ⟨f1,f2,f3,f4,f5,f6,f7,f8,f9,f10,f11,f12,f13,f14,f15⟩:=fd
  simp only [viewF,Vw.due,fnOf,Prod.mk.injEq] at e3
  obtain ⟨rfl,rfl,rfl,rfl,rfl,rfl,rfl,rfl,rfl⟩:=e3
  exact ⟨_,fun_mk lk fb kp⟩
 ·cases fb
inductive XPC (q:Program) (cs:List CSp) (mg:Str→Option Value) (h:Heap):Prop
 | mk (_:XL q [] mg h) (K:_) (_:AllIn K h) (_:allB cs ((recsOf q).map (·.name)) K mg=true):XPC q cs mg h
theorem XPC.of {q:Program} {cs:List CSp} (s:Shared) (h:XtC q cs s=true):XPC q cs (s.heap.nsMap mainGlobals) s.heap:=⟨xl_of s (b2 h).1,_,whole_in _,(b2 h).2⟩
theorem XPC.keeps {q:Program} {cs:List CSp} (mg:Str→Option Value) (h h':Heap) (x:XPC q cs mg h) (k:∀ (b:Addr) (o:Obj),h.get? b=some o→h'.get? b=some o):XPC q cs mg h':=let ⟨x1,K,x2,x3⟩:=x; ⟨XL.keeps mg h h' x1 k,K,fun p hp=>k _ _ (x2 p hp),x3⟩
theorem DIn.in {q:Program} {loose:List Str} {mean:ExcName→Option Value} {mg mb:Str→Option Value} {h:Heap} {K:Frag} (T:Top q loose mean mg mb h) (A:AllIn K h) {d:DefRec} (hd:d∈recsOf q) (b:dB K mg d.name=true):DIn K mg d:=by
 obtain ⟨a,o,pm,cd,doc,g1,g2,g3,c,oc,vs,t,g4,g5,g6⟩:=T.fn d hd
 unfold dB at b
 rw [g1] at b
 dsimp only at b
 split at b
 ·rename_i x1 x2 fd x3 lk
  have:=A _ (look_mem lk)
  rw [g2] at this
  cases this
  cases g3
  rw [g4] at b
  obtain ⟨u,hu⟩:=Option.isSome_iff_exists.mp b
  have h2:=A _ (look_mem hu)
  rw [g5] at h2
  cases h2
  exact ⟨a,_,pm,cd,doc,g1,look_mem lk,rfl,c,_,vs,t,g4,look_mem hu,g6⟩
 ·cases b
theorem walkC {l:OpenLaw} {n k:Nat} {q:Program} {cs:List CSp} {vw:List Vw} {d:DefRec} {ds:List DefRec} {x:Str} {sp:Frag→Sp}
  (hn:l.most=some n) (hn2:n≤sizeLine) (hdf:d.params.defaults=[]) (hr:Room k callerA) (hds:ds=recsOf q) (hfree:(bltNames.all fun b=>freeIn q (looseW q []) (Str.ofString b))=true) (hvw:(vw.all fun p=>cs.any fun c=>c.ms.any fun m=>m.2 == p.f)=true)
  (F:∀ (w:World) (K:Frag) (mg:Str→Option Value) (fa:Addr) (h:Heap),AllIn K h→(∀ d∈ds,DIn K mg d)→(∀ c∈cs,CF K mg c)→(∀ p∈vw,VF K p)→(∀ b∈bltNames,mg (Str.ofString b)=none)→mg d.name=some (.ref fa) →
   ∃ fd:FuncData,(∀ (s:Shared) (u:Value),BindsTo s fd ⟨[u],[]⟩ [(x,u)])∧∀ base:Heap,FnOk l.prog w K mg base CX0 k fa fd [x] (sp K))
  (hsp:∀ (K:Frag) (H:Hp) (a:Addr) (ns:List Int),ns.length≤n→Only H→SqL K H a (ns.map V.int)→sp K [.ref a] H (fun v _=>v=.bl true) fun _ _ _=>False) :
  WalkO q [] (XPC q cs) (YPC vw) l.row.toRowW d [] (fun f vs=>PySem.call f vs):=by
 refine Att.attach_call hn hdf fun w s₀ s₁ mg mb fa o pm cd doc a vs ns G Y ho hd hcd hmg hobj hints hlen hg=>?_
 obtain ⟨_,K,hK,hB⟩:=G.X
 have hB:=b2 hB
 have hC:∀ c∈cs,CF K mg c:=fun c hc=>CF.of (List.all_eq_true.mp hB.2 c hc)
 have hD:∀ d∈ds,DIn K mg d:=fun d hd=>DIn.in G.T hK (hds ▸ hd) (List.all_eq_true.mp hB.1 _ (List.mem_map.mpr ⟨d,hds ▸ hd,rfl⟩))
 have hV:∀ p∈vw,VF K p:=fun p hp=>by
  obtain ⟨c,hc,z⟩:=List.any_eq_true.mp (List.all_eq_true.mp hvw p hp)
  obtain ⟨m,hm,z⟩:=List.any_eq_true.mp z
  have z:=beq_iff_eq.mp z
  obtain ⟨_,_,g3,g4⟩:=(hC c hc).ms m hm
  exact VF.of hK Y hp (z ▸ g3) (z ▸ g4)
 obtain ⟨fd,hb,hF⟩:=F w K mg fa _ hK hD hC hV (fun b hb=>free_in G.T (List.all_eq_true.mp hfree b hb)) hmg
 exact law_call hK.to G.T.g G.T.b G.T.builtins G.T.nolimit hg hobj hints (Nat.le_trans hlen hn2) hr (fun base _ _=>hF base) hb (fun H hO hS=>hsp K H a ns hlen hO hS) fun H e s' z=>z
theorem row_holdsC {l:OpenLaw} {q:Program} {cs:List CSp} {vw:List Vw} {d:DefRec} {N:Nat} (said:l.wellSaid=true) (left:LeftO l.prog q [] (fun s=>XtC q cs s && recOk (RowW.records l.row.toRowW) s) (YfC vw) (fun _=>YaC vw) N)
  (hdef:defOf q l.name=some (d,[])) (hp:l.prog.theDef l.name=some (d.params,d.body,d.scope)) (hk:kwWritten? d.params.kwonlyargs d.params.kw_defaults=some []) (hwr:(!l.writes || l.row.records.isEmpty)=true)
  (ok:(chainsOk q && opensWell l.prog && (frees l.row.toRowW && l.row.within.isEmpty))=true) (hb:l.prog.bare) (hw:l.row.toRowW.promised)
  (call:WalkO q [] (XPC q cs) (YPC vw) l.row.toRowW d [] fun f vs=>PySem.call f vs):l.Holds :=
 holds_law said fun k1=>holds_open (r:=l.row) left (fun w s h=>YPC.of h) (fun w h h' y k=>y.keeps k) (fun s e=>XPC.of s (Bool.and_eq_true_iff.mp e).1) XPC.keeps hdef hp hk (fun s e=>recFacts_of (Bool.and_eq_true_iff.mp e).2) hwr k1 ok hb hw call
end Kq
end
section
namespace Kq
open PySem PySem.Spec PyProof.Rows L2
def opn (H:Hp) (a C dx:Addr) (fs:List (Str×V)) (gs:List (Addr×List V)):Hp:=fun b=>if b=a then some (.ins C dx fs) else match gs.lookup b with
 | some ys=>some (.lst ys)
 | none=>H b
structure Big (H:Hp) (a C dx:Addr) (fs:List (Str×V)) (gs:List (Addr×List V)):Prop where
 at_:H a=some (.big C dx fs gs)
 dxo:H dx=some (.own a)
 gso:∀ g∈gs,H g.1=some (.own a)
 nd:(a :: dx :: gs.map (·.1)).Nodup
 ax:a=dx + 1
theorem look_nd {l:Addr} {ys:List V}:∀ {gs:List (Addr×List V)},(gs.map (·.1)).Nodup→(l,ys)∈gs→gs.lookup l=some ys
 | [],_,h=>absurd h List.not_mem_nil
 | (b,zs) :: gs,nd,h=>by
  obtain ⟨n1,n2⟩:=List.nodup_cons.mp nd
  rw [List.lookup_cons]
  rcases List.mem_cons.mp h with z | z
  ·cases z; simp
  ·have:l≠b:=fun y=>n1 (List.mem_map.mpr ⟨_,z,y⟩)
   rw [beq_eq_false_iff_ne.mpr this]
   exact look_nd n2 z
theorem look_mem2 {l:Addr} {ys:List V}:∀ {gs:List (Addr×List V)},gs.lookup l=some ys→(l,ys)∈gs
 | [],h=>by simp at h
 | (b,zs) :: gs,h=>by
  rw [List.lookup_cons] at h
  split at h
  ·rename_i e; cases h; rw [beq_iff_eq.mp e]; exact List.mem_cons_self
  ·exact List.mem_cons_of_mem _ (look_mem2 h)
section
variable {X:Cx}{pins:List (Addr×Obj)}{σ:L2.St}{H:Hp}{s:Shared}{a C dx:Addr}{fs:List (Str×V)}{gs:List (Addr×List V)}
theorem big_of (I:Inv X pins σ H s) (h:H a=some (.big C dx fs gs)):Big H a C dx fs gs:=by
 obtain ⟨d,gg,nd,_⟩:=(show ObjOk X.prog X.w H s.heap a (.big C dx fs gs) from I.hok a _ h)
 exact ⟨h,d.1,gg,nd,d.2⟩
theorem opn_a:opn H a C dx fs gs a=some (.ins C dx fs):=if_pos rfl
theorem Big.ndg (B:Big H a C dx fs gs):(gs.map (·.1)).Nodup:=(List.nodup_cons.mp (List.nodup_cons.mp B.nd).2).2
theorem Big.ne (B:Big H a C dx fs gs) {g:Addr×List V} (hg:g∈gs):g.1≠a:=fun z=>(List.nodup_cons.mp B.nd).1 (List.mem_cons_of_mem _ (List.mem_map.mpr ⟨g,hg,z⟩))
theorem Big.opl (B:Big H a C dx fs gs) {l:Addr} {ys:List V} (hg:(l,ys)∈gs):opn H a C dx fs gs l=some (.lst ys):=by
 unfold opn
 rw [if_neg (B.ne hg),look_nd B.ndg hg]
theorem opn_o {b:Addr} (h:b≠a) (hg:gs.lookup b=none):opn H a C dx fs gs b=H b:=by
 unfold opn
 rw [if_neg h,hg]
theorem opn_cases (B:Big H a C dx fs gs) (b:Addr):b=a ∨ (∃ ys,(b,ys)∈gs∧opn H a C dx fs gs b=some (.lst ys)∧H b=some (.own a)) ∨ (b≠a∧gs.lookup b=none∧opn H a C dx fs gs b=H b):=by
 by_cases h:b=a
 ·exact .inl h
 ·cases e:gs.lookup b with
  | none=>exact .inr (.inr ⟨h,rfl,opn_o h e⟩)
  | some ys=>have m:=look_mem2 e; exact .inr (.inl ⟨ys,m,B.opl m,B.gso _ m⟩)
theorem Big.dxn (B:Big H a C dx fs gs):opn H a C dx fs gs dx=some (.own a):=by
 have n:=List.nodup_cons.mp (List.nodup_cons.mp B.nd).2
 have h1:dx≠a:=fun z=>(List.nodup_cons.mp B.nd).1 (by rw [z]; exact List.mem_cons_self)
 rcases opn_cases B dx with z | ⟨ys,m,_⟩ | ⟨_,_,e⟩
 ·exact absurd z h1
 ·exact absurd (List.mem_map.mpr ⟨_,m,rfl⟩) n.1
 ·rw [e]; exact B.dxo
theorem inv_opn (I:Inv X pins σ H s) (h:H a=some (.big C dx fs gs)):Inv X pins σ (opn H a C dx fs gs) s:=by
 have B:=big_of I h
 obtain ⟨d,gg,nd,z,e,mm,ls⟩:=(show ObjOk X.prog X.w H s.heap a (.big C dx fs gs) from I.hok a _ h)
 have same:∀ {b:Addr} {u:HO},H b=some u→(∀ x,u≠.own x)→u≠.big C dx fs gs→opn H a C dx fs gs b=some u:=fun {b u} e1 n1 n2=>by
  rcases opn_cases B b with z | ⟨ys,m,_,e2⟩ | ⟨_,_,e2⟩
  ·rw [z,h] at e1; cases e1; exact absurd rfl n2
  ·rw [e2] at e1; cases e1; exact absurd rfl (n1 a)
  ·rw [e2]; exact e1
 refine I.un (t':=s.toks) (h':=s.heap) ⟨fun b o' e _ _ _=>e,fun b o' e _ _ _=>⟨o'.slots,e⟩,fun b o' e n _=>?_,fun b o' e _=>⟨o',e⟩,fun b xs e=>same e (fun _ z=>nomatch z) (fun z=>nomatch z),fun b o' u e=>same e (fun _ z=>nomatch z) (fun z=>nomatch z),fun b ps e=>⟨#[],by rw [Array.append_empty]; exact same e (fun _ z=>nomatch z) (fun z=>nomatch z)⟩⟩ fun b u e1=>?_
 ·rcases opn_cases B b with z | ⟨ys,m,_,e2⟩ | ⟨_,_,e2⟩
  ·rw [z,h] at n; cases n
  ·rw [e2] at n; cases n
  ·rw [e2]; exact n
 ·rcases opn_cases B b with rfl | ⟨ys,m,e2,_⟩ | ⟨h1,h2,e2⟩
  ·rw [opn_a] at e1; cases e1
   exact ⟨B.dxn,z,(fun y=>(List.nodup_cons.mp nd).1 (by rw [y]; exact List.mem_cons_self)),e,mm⟩
  ·rw [e2] at e1; cases e1
   exact ls _ m
  ·rw [e2] at e1
   refine (I.hok b u e1).stay (fun _ _ _ q=>q) (fun c e3=>?_) fun c xs e3=>same e3 (fun _ z=>nomatch z) (fun z=>nomatch z)
   rcases opn_cases B c with rfl | ⟨ys,m,_,e4⟩ | ⟨_,_,e4⟩
   ·rw [h] at e3; cases e3
   ·rw [e4] at e3; cases e3; exact absurd rfl h1
   ·rw [e4]; exact e3
theorem inv_cls (I:Inv X pins σ (opn H a C dx fs gs) s) (B:Big H a C dx fs gs):Inv X pins σ H s:=by
 have same:∀ {b:Addr} {u:HO},opn H a C dx fs gs b=some u→(∀ ys,u≠.lst ys)→u≠.ins C dx fs→H b=some u:=fun {b u} e1 n1 n2=>by
  rcases opn_cases B b with rfl | ⟨ys,m,e2,_⟩ | ⟨_,_,e2⟩
  ·rw [opn_a] at e1; cases e1; exact absurd rfl n2
  ·rw [e2] at e1; cases e1; exact absurd rfl (n1 ys)
  ·rw [← e2]; exact e1
 refine I.un (t':=s.toks) (h':=s.heap) ⟨fun b o' e _ _ _=>e,fun b o' e _ _ _=>⟨o'.slots,e⟩,fun b o' e n _=>?_,fun b o' e _=>⟨o',e⟩,fun b xs e=>same e (fun _ z=>nomatch z) (fun z=>nomatch z),fun b o' u e=>same e (fun _ z=>nomatch z) (fun z=>nomatch z),fun b ps e=>⟨#[],by rw [Array.append_empty]; exact same e (fun _ z=>nomatch z) (fun z=>nomatch z)⟩⟩ fun b u e1=>?_
 ·rcases opn_cases B b with rfl | ⟨ys,m,e2,_⟩ | ⟨_,_,e2⟩
  ·rw [opn_a] at n; cases n
  ·rw [e2] at n; cases n
  ·rw [← e2]; exact n
 ·rcases opn_cases B b with rfl | ⟨ys,m,e2,e3⟩ | ⟨h1,h2,e2⟩
  ·rw [B.at_] at e1; cases e1
   obtain ⟨_,z,_,e,mm⟩:=(show ObjOk X.prog X.w (opn H b C dx fs gs) s.heap b (.ins C dx fs) from I.hok b _ opn_a)
   exact ⟨⟨B.dxo,B.ax⟩,B.gso,B.nd,z,e,mm,fun g hg=>(show ObjOk X.prog X.w (opn H b C dx fs gs) s.heap g.1 (.lst g.2) from I.hok g.1 _ (B.opl (ys:=g.2) hg))⟩
  ·rw [e3] at e1; cases e1
   obtain ⟨_,its,n,_,e⟩:=(show ObjOk X.prog X.w (opn H a C dx fs gs) s.heap b (.lst ys) from I.hok b _ e2)
   exact ⟨_,e⟩
  ·refine (I.hok b u (by rw [e2]; exact e1)).stay (fun _ _ _ q=>q) (fun c e3=>same e3 (fun _ z=>nomatch z) (fun z=>nomatch z)) fun c xs e3=>same e3 (fun _ z=>nomatch z) (fun z=>nomatch z)
theorem opn_new (B:Big H a C dx fs gs) {p:Addr} (o:HO) (hp:H p=none):upd (opn H a C dx fs gs) p o=opn (upd H p o) a C dx fs gs∧Big (upd H p o) a C dx fs gs:=by
 have n:∀ {b u},H b=some u→b≠p:=fun e z=>by rw [z,hp] at e; cases e
 refine ⟨?_,by rw [upd_ne (n B.at_)]; exact B.at_,by rw [upd_ne (n B.dxo)]; exact B.dxo,fun g hg=>by rw [upd_ne (n (B.gso g hg))]; exact B.gso g hg,B.nd,B.ax⟩
 funext b
 unfold opn
 by_cases h:b=a
 ·rw [upd_ne (by rw [h]; exact n B.at_),if_pos h,if_pos h]
 ·rw [if_neg h]
  cases e:gs.lookup b with
  | none =>
   by_cases z:b=p
   ·rw [z,upd_same,upd_same]
   ·rw [upd_ne z,upd_ne z,if_neg h,e]
  | some ys=>rw [upd_ne (n (B.gso _ (look_mem2 e))),if_neg h,e]
def putG (gs:List (Addr×List V)) (l:Addr) (ys:List V):List (Addr×List V):=gs.map fun g=>if g.1=l then (l,ys) else g
theorem putG_fst (l:Addr) (ys:List V):∀ gs:List (Addr×List V),(putG gs l ys).map (·.1)=gs.map (·.1)
 | []=>rfl
 | g :: gs=>by
  show (if g.1=l then (l,ys) else g).1 :: (putG gs l ys).map (·.1)=_
  rw [putG_fst l ys gs]
  split
  ·rename_i e; rw [List.map_cons,e]
  ·rfl
theorem putG_look (l:Addr) (ys:List V) (b:Addr):∀ gs:List (Addr×List V),(putG gs l ys).lookup b=if b=l then (gs.lookup b).map fun _=>ys else gs.lookup b
 | []=>by simp [putG]
 | g :: gs=>by
  show List.lookup b ((if g.1=l then (l,ys) else g) :: putG gs l ys)=_
  obtain ⟨g1,g2⟩:=g
  by_cases e:g1=l
  ·subst e
   rw [if_pos rfl,List.lookup_cons,List.lookup_cons,putG_look]
   by_cases h:b=g1
   ·subst h; simp
   ·rw [beq_eq_false_iff_ne.mpr h]
  ·rw [if_neg e,List.lookup_cons,List.lookup_cons,putG_look]
   by_cases h:b=g1
   ·subst h; simp [e]
   ·rw [beq_eq_false_iff_ne.mpr h]
theorem opn_set (B:Big H a C dx fs gs) {l:Addr} {zs:List V} (ys:List V) (hl:(l,zs)∈gs):upd (opn H a C dx fs gs) l (.lst ys)=opn (upd H a (.big C dx fs (putG gs l ys))) a C dx fs (putG gs l ys)∧Big (upd H a (.big C dx fs (putG gs l ys))) a C dx fs (putG gs l ys):=by
 have na:=B.ne hl
 have nn:∀ {b u},H b=some u→(∀ x y z w,u≠.big x y z w)→b≠a:=fun e n z=>by rw [z,B.at_] at e; exact n _ _ _ _ (Option.some.inj e).symm
 refine ⟨?_,upd_same,by rw [upd_ne (nn B.dxo (fun _ _ _ _ z=>nomatch z))]; exact B.dxo,fun g hg=>?_,by rw [putG_fst]; exact B.nd,B.ax⟩
 ·funext b
  unfold opn
  rw [putG_look]
  by_cases h:b=a
  ·rw [upd_ne (by rw [h]; exact Ne.symm na),if_pos h,if_pos h]
  ·rw [if_neg h,upd_ne h]
   by_cases z:b=l
   ·subst z; rw [upd_same,if_pos rfl,look_nd B.ndg hl]; rfl
   ·rw [upd_ne z,if_neg h,if_neg z]
 ·have:g.1∈gs.map (·.1):=by rw [← putG_fst l ys]; exact List.mem_map.mpr ⟨g,hg,rfl⟩
  obtain ⟨g',hg',e⟩:=List.mem_map.mp this
  rw [← e,upd_ne (B.ne hg')]; exact B.gso g' hg'
theorem opn_fld (B:Big H a C dx fs gs) (fs':List (Str×V)):upd (opn H a C dx fs gs) a (.ins C dx fs')=opn (upd H a (.big C dx fs' gs)) a C dx fs' gs∧Big (upd H a (.big C dx fs' gs)) a C dx fs' gs:=by
 have nn:∀ {b u},H b=some u→(∀ x y z w,u≠.big x y z w)→b≠a:=fun e n z=>by rw [z,B.at_] at e; exact n _ _ _ _ (Option.some.inj e).symm
 refine ⟨?_,upd_same,by rw [upd_ne (nn B.dxo (fun _ _ _ _ z=>nomatch z))]; exact B.dxo,fun g hg=>by rw [upd_ne (B.ne hg)]; exact B.gso g hg,B.nd,B.ax⟩
 funext b
 unfold opn
 by_cases h:b=a
 ·rw [h,upd_same,if_pos rfl]
 ·rw [upd_ne h,if_neg h,if_neg h,upd_ne h]
theorem opn_add (B:Big H a C dx fs gs) {p:Addr} (hp:H p=none) (fs':List (Str×V)) (ys:List V):upd (upd (opn H a C dx fs gs) p (.lst ys)) a (.ins C dx fs')=opn (upd (upd H p (.own a)) a (.big C dx fs' ((p,ys) :: gs))) a C dx fs' ((p,ys) :: gs)∧Big (upd (upd H p (.own a)) a (.big C dx fs' ((p,ys) :: gs))) a C dx fs' ((p,ys) :: gs):=by
 have n:∀ {b u},H b=some u→b≠p:=fun e z=>by rw [z,hp] at e; cases e
 have nn:∀ {b u},H b=some u→(∀ x y z w,u≠.big x y z w)→b≠a:=fun e n z=>by rw [z,B.at_] at e; exact n _ _ _ _ (Option.some.inj e).symm
 have pa:p≠a:=Ne.symm (n B.at_)
 refine ⟨?_,upd_same,by rw [upd_ne (nn B.dxo (fun _ _ _ _ z=>nomatch z)),upd_ne (n B.dxo)]; exact B.dxo,fun g hg=>?_,?_,B.ax⟩
 ·funext b
  unfold opn
  by_cases h:b=a
  ·rw [h,upd_same,if_pos rfl]
  ·rw [upd_ne h,if_neg h,upd_ne h,List.lookup_cons]
   by_cases z:b=p
   ·subst z; rw [upd_same]; simp
   ·rw [upd_ne z,if_neg h,beq_eq_false_iff_ne.mpr z,upd_ne z]
 ·rcases List.mem_cons.mp hg with z | z
  ·rw [z,upd_ne pa]; exact upd_same
  ·rw [upd_ne (B.ne z),upd_ne (n (B.gso g z))]; exact B.gso g z
 ·obtain ⟨n1,n2⟩:=List.nodup_cons.mp B.nd
  obtain ⟨n3,n4⟩:=List.nodup_cons.mp n2
  refine List.nodup_cons.mpr ⟨fun z=>?_,List.nodup_cons.mpr ⟨fun z=>?_,List.nodup_cons.mpr ⟨fun z=>?_,n4⟩⟩⟩
  ·rcases List.mem_cons.mp z with z | z
   ·exact n1 (by rw [z]; exact List.mem_cons_self)
   ·rcases List.mem_cons.mp z with z | z
    ·exact pa z.symm
    ·exact n1 (List.mem_cons_of_mem _ z)
  ·rcases List.mem_cons.mp z with z | z
   ·exact n B.dxo z
   ·exact n3 z
  ·obtain ⟨g,hg,e⟩:=List.mem_map.mp z
   exact n (B.gso g hg) e
end
inductive Cl (a C dx:Addr) (Q:Hp→Prop) (H2:Hp):Prop
 | mk (H':_) (fs:_) (gs:_) (_:H2=opn H' a C dx fs gs) (_:Big H' a C dx fs gs) (_:Q H'):Cl a C dx Q H2
section
variable {X:Cx}{pins:List (Addr×Obj)}{σ:L2.St}{H:Hp}{s:Shared}{a Ca dx:Addr}
theorem ep_cl {Q:VK} {u:Value} {s':Shared} (h:EP X pins σ (fun v H2=>Cl a Ca dx (Q v) H2) u s'):EP X pins σ Q u s':=by
 obtain ⟨v,H2,I,r,H',fs,gs,rfl,B,q⟩:=h
 exact ⟨v,H',inv_cls I B,r,q⟩
theorem c_opn {f:Value} {r:List V→Hp→VK→Prop} (hc:CallR X f r):CallR X f (fun xs H Q=>∃ a C dx fs gs,H a=some (.big C dx fs gs)∧(Big H a C dx fs gs→r xs (opn H a C dx fs gs) (fun v H2=>Cl a C dx (Q v) H2))):=by
 rintro pins s σ H xs us Q I rv ⟨a,C,dx,fs,gs,h,q⟩
 exact thn (hc pins s σ _ xs us _ (inv_opn I h) rv (q (big_of I h))) fun u s' h=>ep_cl h
theorem s_opn {t:TSet} (hs:PSet X t):PSet X (fun o i v H Q=>∃ a C dx fs gs,H a=some (.big C dx fs gs)∧(Big H a C dx fs gs→t o i v (opn H a C dx fs gs) (fun H2=>Cl a C dx Q H2))):=by
 rintro pins s σ H o i v ov iv u Q I ro ri rv ⟨a,C,dx,fs,gs,h,q⟩
 refine thn (hs pins s σ _ o i v ov iv u _ (inv_opn I h) ro ri rv (q (big_of I h))) fun u s' q1=>?_; obtain ⟨H2,I2,H',fs',gs',e,B,q⟩:=q1; exact ⟨H',inv_cls (e ▸ I2) B,q⟩
variable {i:Nat}{nx:Str}{p pos:Pos}{f:Str}
theorem pe_fldB (ho:PE X (.Name nx p) (tVar i)):PE X (.Attribute (.Name nx p) f pos) (fun σ H Q=>∃ a C dx fs gs v,σ[i]?=some (some (.ref a))∧H a=some (.big C dx fs gs)∧Cls X.K C∧NoAttr X.K C f∧fs.lookup f=some v∧Q v H):=by
 rintro pins s σ H Q I ⟨a,C,dx,fs,gs,v,e1,h,c,n,l,q⟩
 refine attr_of rfl (thn (ho pins s σ H (fun x H1=>x=.ref a∧H1=H) I ⟨_,e1,rfl,rfl⟩) fun u s1 ⟨x,H1,I1,rx,ex,eh⟩=>?_)
 subst ex; subst eh
 obtain rfl:u=Value.ref a:=rx
 exact getattr_ok (inv_opn I1 h) opn_a c n l fun u' s2 I2 ru=>⟨v,H1,inv_cls I2 (big_of I1 h),ru,q⟩
theorem ps_fldB {value:Expr} {tv:TE} {pos':Pos} (ho:PE X (.Name nx p) (tVar i)) (hv:PE X value tv) (hs:swapsWith value (some (.Attribute (.Name nx p) f pos')) pos.line X.env=pure false):PS X (.Assign [.Attribute (.Name nx p) f pos'] value pos) (fun D σ H=>tv σ H fun y H1=>∃ a C dx fs gs,σ[i]?=some (some (.ref a))∧H1 a=some (.big C dx fs gs)∧Cls X.K C∧NoAttr X.K C f∧fs.length < 1000∧(Big H1 a C dx fs gs→Cl a C dx (D.nx σ) (upd (opn H1 a C dx fs gs) a (.ins C dx (putF f y fs))))):=by
 intro pins s σ H D I h
 refine plainObj_wpAny_Assign_Attribute (thn (hv pins s σ H _ I h) fun u s1 ⟨y,H1,I1,ry,a,C,dx,fs,gs,e1,h1,c,n,l,q⟩=>thn (ho pins s1 σ H1 (fun x H2=>x=.ref a∧H2=H1) I1 ⟨_,e1,rfl,rfl⟩) fun ov s2 ⟨x,H2,I2,rx,ex,eh⟩=>?_) hs
 subst ex; subst eh
 obtain rfl:ov=Value.ref a:=rx
 refine setattr_ok (inv_opn I2 h1) opn_a c n l ry fun s3 I3=>?_
 obtain ⟨H',fs',gs',e,B,q⟩:=q (big_of I2 h1)
 exact ⟨σ,H',inv_cls (e ▸ I3) B,q⟩
theorem ps_augB {op:Operator} {rd:V→V→Hp→VK→Prop} {value:Expr} {tv:TE} {tpos:Pos} (ho:PE X (.Name nx p) (tVar i)) (hv:PE X value tv) (hop:InOp X op rd):PS X (.AugAssign (.Attribute (.Name nx p) f tpos) op value pos) (fun D σ H=>∃ a C dx fs gs v,σ[i]?=some (some (.ref a))∧H a=some (.big C dx fs gs)∧Cls X.K C∧NoAttr X.K C f∧fs.lookup f=some v∧tv σ H fun y H2=>rd v y H2 fun z H3=>∃ fs' gs',H3 a=some (.big C dx fs' gs')∧fs'.length < 1000∧D.nx σ (upd H3 a (.big C dx (putF f z fs') gs'))):=by
 rintro pins s σ H D I ⟨a,C,dx,fs,gs,v,e1,h,c,n,l,q⟩
 refine wpAny_AugAssign_AttributeAny (thn (ho pins s σ H (fun x H1=>x=.ref a∧H1=H) I ⟨_,e1,rfl,rfl⟩) fun ov s1 ⟨x,H1,I1,rx,ex,eh⟩=>?_)
 subst ex; subst eh
 obtain rfl:ov=Value.ref a:=rx
 refine getattr_ok (inv_opn I1 h) opn_a c n l fun u s2 I2 ru=>?_
 have I2:=inv_cls I2 (big_of I1 h)
 refine thn (hv pins s2 σ H1 _ I2 q) fun w3 s3 ⟨y,H2,I3,ry,q3⟩=>thn (hop pins s3 σ H2 v y u w3 _ I3 ru ry q3) fun w4 s4 ⟨z,H3,I4,rz,fs',gs',ea',l',q4⟩=>?_
 have B:=big_of I4 ea'
 refine setattr_ok (inv_opn I4 ea') opn_a c n l' rz fun s5 I5=>?_
 obtain ⟨e5,B5⟩:=opn_fld B (putF f z fs')
 rw [e5] at I5
 exact ⟨σ,_,inv_cls I5 B5,q4⟩
theorem pe_bmB {o e:Expr} {es:List Expr} {to:TE} {t:TA} {name:Str} {apos cpos:Pos} {T id:String} {r:V→List V→Hp→VK→Prop} (pa:PlainAttrs T) (slot:Slot T name id) (hty:typeOf (.builtin id)=pure (.type "method_descriptor")) (hm:MtR X id r) (ho:PE X o to) (ha:PA X (e :: es) t)
  (hbase:attributeBase o name X.env (eval o X.env)=eval o X.env)
  (hfew:((backTo cpos (starEach (e :: es) X.env)).all (fun x=>!x.1) && (backToKw cpos (keywordEach [] X.env)).all (fun x=>x.1.isSome) && decide ((e :: es).length + ([]:List Keyword).length + (if ([]:List Keyword).isEmpty then 0 else 1) < 30))=true)
  (hline:(apos.endLine == cpos.line)=true) (hs:starEach (e :: es) X.env=(false,eval e X.env) :: starEach es X.env) (hplain:(backTo cpos (starEach es X.env)).any (·.1)=false) :
  PE X (.Call (.Attribute o name apos) (e :: es) [] cpos) (fun σ H Q=>to σ H fun x H1=>(∃ a C dx fs gs,H1 a=some (.big C dx fs gs)∧(Big H1 a C dx fs gs→tyV X.K T x (opn H1 a C dx fs gs)))∧t σ H1 fun xs H2=>∃ a C dx fs gs,H2 a=some (.big C dx fs gs)∧(Big H2 a C dx fs gs→r x xs (opn H2 a C dx fs gs) fun v H3=>Cl a C dx (Q v) H3)):=by
 intro pins s σ H Q I h
 refine wpAny_Call_method_late hbase hfew hline rfl (thn (ho pins s σ H _ I h) fun v s1 ⟨x,H1,I1,r1,⟨a,C,dx,fs,gs,h1,ty⟩,q1⟩=>?_)
 obtain ⟨t1,t2⟩:=tyV_is (inv_opn I1 h1) r1 (ty (big_of I1 h1))
 refine ⟨T,id,pa,slot,hty,t1,t2,?_⟩
 have hA:=ha cpos pins s1 σ H1 _ I1 q1
 rw [hs] at hA ⊢
 refine Calls.callWith_builtin (by show (false || (backTo cpos (starEach es X.env)).any (·.1))=false; rw [hplain] <;> rfl) (Calls.evalArgs_plain ?_)
 refine thn hA fun us s2 q2=>?_; obtain ⟨vs,H2,I2,r2,a,C,dx,fs,gs,h2,q2⟩:=q2; exact thn (hm pins s2 σ _ x vs v us _ (inv_opn I2 h2) r1 r2 (q2 (big_of I2 h2))) fun u s' h=>ep_cl h
variable {CX:CXT}{k:Nat}{g:Addr}{fd:FuncData}{ps:List Str}{sp:Sp}{e:Expr}{es:List Expr}{t:TA}{E:XK}
theorem run_makeB {Q:VK} {us:List Value} {vs:List V} (M:Mk X.K Ca g) (F:FnOk X.prog X.w X.K X.mg X.base CX k g fd ps sp) (hr:RoomS k X.A) (hb:Binds X.K fd ps []) (hx:Passes CX X E) (I:Inv X pins σ H s) (r:Vals vs us)
  (h:∀ x dx,H x=none→H dx=none→dx≠x→x=dx + 1→sp (.ref x :: vs) (upd (upd H dx (.own x)) x (.big Ca dx [] [])) (fun v H2=>v=.non∧Q (.ref x) H2) E) :
  wpAny (model X.prog X.w) X.A (call (.ref Ca) us) (EP X pins σ Q) X.xe s:=by
 have f1:=I.hok.fresh (Nat.le_succ _)
 have f2:=I.hok.fresh (Nat.le_refl _)
 have ne:s.heap.objs.size≠s.heap.objs.size + 1:=Nat.ne_of_lt (Nat.lt_succ_self _)
 have hq:=h (s.heap.objs.size + 1) s.heap.objs.size f1 f2 ne rfl
 have B:Big (upd (upd H s.heap.objs.size (.own (s.heap.objs.size + 1))) (s.heap.objs.size + 1) (.big Ca s.heap.objs.size [] [])) (s.heap.objs.size + 1) Ca s.heap.objs.size [] []:=⟨upd_same,by rw [upd_ne ne,upd_same],fun g hg=>absurd hg List.not_mem_nil,by simp,rfl⟩
 have I2:=Inv.made (C:=Ca) I
 have e0:upd (upd H s.heap.objs.size (.own (s.heap.objs.size + 1))) (s.heap.objs.size + 1) (.ins Ca s.heap.objs.size [])=opn (upd (upd H s.heap.objs.size (.own (s.heap.objs.size + 1))) (s.heap.objs.size + 1) (.big Ca s.heap.objs.size [] [])) (s.heap.objs.size + 1) Ca s.heap.objs.size [] []:=by
  funext b
  unfold opn
  by_cases z:b=s.heap.objs.size + 1
  ·rw [z,upd_same,if_pos rfl]
  ·rw [upd_ne z,if_neg z,upd_ne z]; rfl
 rw [e0] at I2
 have I2:=inv_cls I2 B
 have r2:Vals (V.ref (s.heap.objs.size + 1) :: vs) (Value.ref (s.heap.objs.size + 1) :: us):=.cons rfl r
 have hl:(Value.ref (s.heap.objs.size + 1) :: us++[]).length=ps.length:=by
  have e:=r2.length
  rw [F.len _ _ _ _ hq] at e
  rw [List.append_nil]; exact e.symm
 have hbb:=hb _ (Value.ref (s.heap.objs.size + 1) :: us) I2.kIn hl
 rw [List.append_nil] at hbb
 refine wpAny_call (make_map (f:=g) I.kIn M.makes M.init (beq_iff_eq.mp M.fn) (codeAny_mono (F.run _ X.stack _ _ ⟨Value.ref (s.heap.objs.size + 1) :: us,[]⟩ (Value.ref (s.heap.objs.size + 1) :: us) _ _ E (hr.make Ca us [])
  (I2.env0.make Ca us []) hbb r2 hq) fun r s' hq'=>?_))
 cases r with
 | error e=>exact hx pins σ _ _ e s' I2 hq'
 | ok fl =>
  cases fl with
  | ret u =>
   obtain ⟨v,H',I3,rv,ev,q3⟩:=I2.after hq'
   subst ev
   exact ⟨rv,⟨V.ref (s.heap.objs.size + 1),H',I3,rfl,q3⟩⟩
  | next=>exact False.elim hq'
  | brk=>exact False.elim hq'
  | cont=>exact False.elim hq'
variable {x:Str}
theorem pe_makeB (M:Mk X.K Ca g) (F:FnOk X.prog X.w X.K X.mg X.base CX k g fd ps sp) (hr:RoomS k X.A) (hg:Gl X x) (hm:X.mg x=some (.ref Ca)) (hb:Binds X.K fd ps []) (hx:Passes CX X E)
  (ha:PA X (e :: es) t) (hdb:(x == ("__debug__":Str))=false) (he:starEach (e :: es) X.env=(false,eval e X.env) :: starEach es X.env) (hpl:(backTo pos (starEach es X.env)).any (·.1)=false) :
  PE X (.Call (.Name x p) (e :: es) [] pos) (fun σ H Q=>t σ H fun vs H1=>∀ x dx,H1 x=none→H1 dx=none→dx≠x→x=dx + 1→sp (.ref x :: vs) (upd (upd H1 dx (.own x)) x (.big Ca dx [] [])) (fun v H2=>v=.non∧Q (.ref x) H2) E):=by
 intro pins s σ H Q I h
 refine wpAny_Call_Name_kw (ld_glob I hg hm ?_ hdb)
 refine PySem.W.callWith_K (h₀:=X.base) I.ok.mod.kin M.kp (thn (ha pos pins s σ H _ I h) fun us s1 ⟨vs,H1,I1,r,q⟩=>⟨I1.kIn,?_⟩) he hpl
 exact run_makeB M F hr hb hx I1 r q
theorem pe_makeB0 (M:Mk X.K Ca g) (F:FnOk X.prog X.w X.K X.mg X.base CX k g fd ps sp) (hr:RoomS k X.A) (hg:Gl X x) (hm:X.mg x=some (.ref Ca)) (hb:Binds X.K fd ps []) (hx:Passes CX X E)
  (hdb:(x == ("__debug__":Str))=false) :
  PE X (.Call (.Name x p) [] [] pos) (fun σ H Q=>∀ x dx,H x=none→H dx=none→dx≠x→x=dx + 1→sp [.ref x] (upd (upd H dx (.own x)) x (.big Ca dx [] [])) (fun v H2=>v=.non∧Q (.ref x) H2) E):=by
 intro pins s σ H Q I h
 refine wpAny_Call_Name_kw (ld_glob I hg hm ?_ hdb)
 exact PySem.W.callWith_K0 I.kIn M.kp (run_makeB (us:=[]) M F hr hb hx I .nil h)
end
def vF:V→Option FV
 | .int i=>some (.int i)
 | .non=>some .non
 | _=>none
def vI:FV→Option V
 | .int i=>some (.int i)
 | .non=>some .non
 | _=>none
def fldF (Ca:Addr) (f:Str):FV→Option FV
 | .obj C _ fs _=>if C=Ca then (fs.lookup f).bind vF else none
 | _=>none
def lsA (fs:List (Str×V)) (gs:List (Addr×List V)) (f:Str):Option (Addr×List V):=match fs.lookup f with
 | some (.ref l)=>(gs.lookup l).map fun ys=>(l,ys)
 | _=>none
def lsF (Ca:Addr) (f:Str):FV→Option (List FV)
 | .obj C _ fs gs=>if C=Ca then (lsA fs gs f).bind fun p=>mapO vF p.2 else none
 | _=>none
def appO (Ca:Addr) (f:Str) (u:V):FV→Option FV
 | .obj C dx fs gs=>if C=Ca then (lsA fs gs f).bind fun p=>if p.2.length < big then some (.obj C dx fs (putG gs p.1 (p.2++[u]))) else none else none
 | _=>none
def setO (Ca:Addr) (f:Str) (k:Int) (u:V):FV→Option FV
 | .obj C dx fs gs=>if C=Ca then (lsA fs gs f).bind fun p=>(ixN p.2.length k).map fun j=>.obj C dx fs (putG gs p.1 (p.2.set j u)) else none
 | _=>none
def putO (Ca:Addr) (f:Str) (u:V):FV→Option FV
 | .obj C dx fs gs=>if C=Ca∧fs.length < 1000 then some (.obj C dx (putF f u fs) gs) else none
 | _=>none
def eFld (i:Nat) (Ca:Addr) (f:Str):EW:=fun L Q=>wp (lk L i) fun o=>wp (fldF Ca f o) fun z=>Q z L
def eObjL (i:Nat) (Ca:Addr) (f:Str) (F:FV→Option FV):EW:=fun L Q=>wp (lk L i) fun o=>wp (lsF Ca f o) fun xs=>wp (F (.lst xs)) fun z=>(∀ ps,z≠.lst ps)∧Q z L
def eObjApp (i:Nat) (Ca:Addr) (f:Str) (e:EW):EW:=fun L Q=>wp (lk L i) fun o=>wp (lsF Ca f o) fun _=>e L fun v L1=>wp (vI v) fun u=>wp (lk L1 i) fun o1=>o1=o∧wp (appO Ca f u o1) fun o2=>Q .non (L1.set i (some o2))
def sObjSet (i:Nat) (Ca:Addr) (f:Str) (ek ev:EW):SW:=fun L Q=>wp (lk L i) fun o=>ev L fun v L1=>wp (vI v) fun u=>wp (lk L1 i) fun o1=>o1=o∧wp (lsF Ca f o1) fun _=>ek L1 fun w L2=>wp (intF w) fun k=>wp (lk L2 i) fun o2=>o2=o∧wp (setO Ca f k u o2) fun o3=>Q .next (L2.set i (some o3))
def sObjFld (i:Nat) (Ca:Addr) (f:Str) (e:EW):SW:=fun L Q=>e L fun v L1=>wp (vI v) fun u=>wp (lk L1 i) fun o=>wp (putO Ca f u o) fun o1=>Q .next (L1.set i (some o1))
def sObjAug (i:Nat) (Ca:Addr) (f:Str) (g:Int→Int→Int) (e:EW):SW:=fun L Q=>wp (lk L i) fun o=>wp (fldF Ca f o) fun z=>e L fun w L1=>wp (lk L1 i) fun o1=>o1=o∧wp (intF z) fun a=>wp (intF w) fun b=>wp (putO Ca f (.int (g a b)) o1) fun o2=>Q .next (L1.set i (some o2))
def newO (Ca:Addr) (f:Str) (Q:FV→Prop):FV→Prop
 | .obj C dx fs gs=>C=Ca∧fs.length < 1000∧∀ p,(∀ g∈gs,g.1≠p)→Q (.obj C dx (putF f (.ref p) fs) ((p,[]) :: gs))
 | _=>False
def sObjNew (i:Nat) (Ca:Addr) (f:Str):SW:=fun L Q=>wp (lk L i) fun o=>newO Ca f (fun o1=>Q .next (L.set i (some o1))) o
def eMake (call:CW) (f:Nat) (Ca:Addr) (as:AW):EW:=fun L Q=>as L fun xs L1=>∀ dx,call f (.obj Ca dx [] [] :: xs) fun z=>z.1=.non∧Q z.2 L1
section
@[scoped simp ↓] theorem eFld_eq (i:Nat) (Ca:Addr) (f:Str) (L:FLoc) (Q:FV→FLoc→Prop):eFld i Ca f L Q=(wp (lk L i) fun o=>wp (fldF Ca f o) fun z=>Q z L):=propext Iff.rfl
@[scoped simp ↓] theorem eObjL_eq (i:Nat) (Ca:Addr) (f:Str) (F:FV→Option FV) (L:FLoc) (Q:FV→FLoc→Prop):eObjL i Ca f F L Q=(wp (lk L i) fun o=>wp (lsF Ca f o) fun xs=>wp (F (.lst xs)) fun z=>(∀ ps,z≠.lst ps)∧Q z L):=propext Iff.rfl
@[scoped simp ↓] theorem eObjApp_eq (i:Nat) (Ca:Addr) (f:Str) (e:EW) (L:FLoc) (Q:FV→FLoc→Prop):eObjApp i Ca f e L Q=(wp (lk L i) fun o=>wp (lsF Ca f o) fun _=>e L fun v L1=>wp (vI v) fun u=>wp (lk L1 i) fun o1=>o1=o∧wp (appO Ca f u o1) fun o2=>Q .non (L1.set i (some o2))):=propext Iff.rfl
@[scoped simp ↓] theorem sObjSet_eq (i:Nat) (Ca:Addr) (f:Str) (ek ev:EW) (L:FLoc) (Q:FFl→FLoc→Prop):sObjSet i Ca f ek ev L Q=(wp (lk L i) fun o=>ev L fun v L1=>wp (vI v) fun u=>wp (lk L1 i) fun o1=>o1=o∧wp (lsF Ca f o1) fun _=>ek L1 fun w L2=>wp (intF w) fun k=>wp (lk L2 i) fun o2=>o2=o∧wp (setO Ca f k u o2) fun o3=>Q .next (L2.set i (some o3))):=propext Iff.rfl
@[scoped simp ↓] theorem sObjFld_eq (i:Nat) (Ca:Addr) (f:Str) (e:EW) (L:FLoc) (Q:FFl→FLoc→Prop):sObjFld i Ca f e L Q=(e L fun v L1=>wp (vI v) fun u=>wp (lk L1 i) fun o=>wp (putO Ca f u o) fun o1=>Q .next (L1.set i (some o1))):=propext Iff.rfl
@[scoped simp ↓] theorem sObjAug_eq (i:Nat) (Ca:Addr) (f:Str) (g:Int→Int→Int) (e:EW) (L:FLoc) (Q:FFl→FLoc→Prop):sObjAug i Ca f g e L Q=(wp (lk L i) fun o=>wp (fldF Ca f o) fun z=>e L fun w L1=>wp (lk L1 i) fun o1=>o1=o∧wp (intF z) fun a=>wp (intF w) fun b=>wp (putO Ca f (.int (g a b)) o1) fun o2=>Q .next (L1.set i (some o2))):=propext Iff.rfl
@[scoped simp ↓] theorem sObjNew_eq (i:Nat) (Ca:Addr) (f:Str) (L:FLoc) (Q:FFl→FLoc→Prop):sObjNew i Ca f L Q=(wp (lk L i) fun o=>newO Ca f (fun o1=>Q .next (L.set i (some o1))) o):=propext Iff.rfl
@[scoped simp ↓] theorem eMake_eq (call:CW) (f:Nat) (Ca:Addr) (as:AW) (L:FLoc) (Q:FV→FLoc→Prop):eMake call f Ca as L Q=(as L fun xs L1=>∀ dx,call f (.obj Ca dx [] [] :: xs) fun z=>z.1=.non∧Q z.2 L1):=propext Iff.rfl
end
theorem ifd {α:Type} {c:Prop} [Decidable c] {a:Option α} {z:α} (h:(if c then a else none)=some z):c∧a=some z:=by
 by_cases y:c
 ·rw [if_pos y] at h; exact ⟨y,h⟩
 ·rw [if_neg y] at h; cases h
theorem RV.vF {K:PySem.W.Frag} {S:Hp} {v:V} {z:FV} (h:Kq.vF v=some z):RV K S z v:=by
 cases v <;> cases h <;> rfl
theorem RV.vI {K:PySem.W.Frag} {S:Hp} {z:FV} {u x:V} (h:Kq.vI z=some u) (r:RV K S z x):x=u:=by
 cases z <;> cases h
 ·exact r
 ·exact r
theorem RVs.vFs {K:PySem.W.Frag} {S:Hp}:∀ {vs:List V} {zs:List FV},mapO vF vs=some zs→RVs K S zs vs
 | [],zs,h=>by cases h; rfl
 | v :: vs,zs,h=>by
  obtain ⟨z,e1,h⟩:=bnd h
  obtain ⟨r,e2,rfl⟩:=mpd h
  exact ⟨v,vs,rfl,RV.vF e1,RVs.vFs e2⟩
section
variable {X:Cx}{C:CC}{n:Nat}{sp:PySem.W.Frag→Nat→Sp}{a:Expr}{e:EW}{pos p px apos:Pos}{i:Nat}{nx fl:Str}{Ca:Addr}
variable {K:PySem.W.Frag}{c:Cn}{md:Md}{L:FLoc}{σ:L2.St}{S H:Hp}
theorem Iv.obj (I:Iv K c md L σ S H) (m:mdAt md i=.own) {C dx:Addr} {fs:List (Str×V)} {gs:List (Addr×List V)} (e:lk L i=some (.obj C dx fs gs)):∃ l,σ[i]?=some (some (.ref l))∧H l=some (.big C dx fs gs):=by
 obtain ⟨l,e1,⟨_,ps,xs,e2,h,_⟩,_⟩:=I.own i _ (fun z=>by rw [m] at z; cases z) ((lk_eq _ _ _).mp e)
 exact ⟨l,e1,h⟩
theorem Iv.wobj (I:Iv K c md L σ S H) (m:mdAt md i=.own) {C dx C' dx':Addr} {fs fs':List (Str×V)} {gs gs':List (Addr×List V)} (e:lk L i=some (.obj C dx fs gs)) {l:Addr} (e1:σ[i]?=some (some (.ref l))):Iv K c md (L.set i (some (.obj C' dx' fs' gs'))) σ S (upd H l (.big C' dx' fs' gs')) :=
 I.writeV (w:=.obj C' dx' fs' gs') m ((lk_eq _ _ _).mp e) e1 rfl (xs:=[]) rfl
theorem fe_fld (G:Good X C n sp) (h:C.nm i nx=true) (m:mdAt C.md i=.own) (hf:decide ((Ca,fl)∈C.fl)=true):FE X C (.Attribute (.Name nx p) fl pos) (eFld i Ca fl):=PE.imp (pe_fldB (tv_name G h)) fun σ H Q q1=>by
 obtain ⟨c,L,S,Q0,I,h,k⟩:=q1
 obtain ⟨o,e,h⟩:=wpx h
 obtain ⟨z,e2,q⟩:=wpx h
 cases o with
 | obj C' dx fs gs =>
  obtain ⟨rfl,e3⟩:=ifd (show (if C'=Ca then (fs.lookup fl).bind vF else none)=some z from e2)
  obtain ⟨v,e4,e5⟩:=bnd e3
  obtain ⟨l,e1,hh⟩:=I.obj m e
  obtain ⟨g1,g2⟩:=G.fls _ (de hf)
  exact ⟨l,_,dx,fs,gs,v,e1,hh,g1,g2,e4,k z L q v S H (RV.vF e5) I (Same.refl S)⟩
 | _=>cases e2
theorem lsA_in {fs:List (Str×V)} {gs:List (Addr×List V)} {p:Addr×List V} (h:lsA fs gs fl=some p):fs.lookup fl=some (.ref p.1)∧gs.lookup p.1=some p.2:=by
 unfold lsA at h
 split at h
 ·rename_i l hl
  obtain ⟨ys,e3,rfl⟩:=mpd h
  exact ⟨hl,e3⟩
 ·cases h
theorem lsF_in {Ca:Addr} {o:FV} {xs:List FV} (h:lsF Ca fl o=some xs):∃ dx fs gs l ys,o=.obj Ca dx fs gs∧fs.lookup fl=some (.ref l)∧gs.lookup l=some ys∧mapO vF ys=some xs:=by
 cases o with
 | obj C' dx fs gs =>
  obtain ⟨y,h⟩:=ifd (show (if C'=Ca then (lsA fs gs fl).bind fun p=>mapO vF p.2 else none)=some xs from h)
  obtain ⟨p,e1,e2⟩:=bnd h
  obtain ⟨g1,g2⟩:=lsA_in e1
  exact ⟨dx,fs,gs,p.1,p.2,by rw [y],g1,g2,e2⟩
 | _=>cases h
theorem objL_go {F:FV→Option FV} (G:Good X C n sp) (m:mdAt C.md i=.own) (hf:decide ((Ca,fl)∈C.fl)=true) {σ:L2.St} {H:Hp} {Q:VK} (h:lv X.K C.md (eObjL i Ca fl F) σ H Q):∃ a C dx fs gs v,σ[i]?=some (some (.ref a))∧H a=some (.big C dx fs gs)∧Cls X.K C∧NoAttr X.K C fl∧fs.lookup fl=some v∧∃ a C dx fs gs,H a=some (.big C dx fs gs)∧(Big H a C dx fs gs→Rc X.K F [v] (opn H a C dx fs gs) fun v H2=>Cl a C dx (Q v) H2):=by
 obtain ⟨c,L,S,Q0,I,h,k⟩:=h
 obtain ⟨o,e,h⟩:=wpx h
 obtain ⟨xs,e2,h⟩:=wpx h
 obtain ⟨z,e3,nl,q⟩:=wpx h
 obtain ⟨dx,fs,gs,l,ys,rfl,h1,h2,h3⟩:=lsF_in e2
 obtain ⟨a,e1,hh⟩:=I.obj m e
 obtain ⟨g1,g2⟩:=G.fls _ (de hf)
 refine ⟨a,_,dx,fs,gs,.ref l,e1,hh,g1,g2,h1,a,_,dx,fs,gs,hh,fun B=>?_⟩
 have hm:=look_mem2 h2
 refine ⟨fun _=>none,.lst xs,.ref l,z,rfl,(fun _ _ e=>by cases e),.inr ⟨l,rfl,rfl,xs,ys,rfl,B.opl hm,RVs.vFs h3⟩,e3,⟨fun x _ r=>⟨H,fs,gs,rfl,B,k z L q x S H (r.mono (fun _ _ e=>by cases e)) I (Same.refl S)⟩,fun ps us p0 ez r hp=>?_,fun ps us p0 ez _ _=>absurd ez (nl ps)⟩⟩
 have hp:H p0=none:=by
  rcases opn_cases B p0 with y | ⟨zs,_,y,_⟩ | ⟨_,_,y⟩
  ·rw [y,opn_a] at hp; cases hp
  ·rw [y] at hp; cases hp
  ·rw [← y]; exact hp
 obtain ⟨e5,B5⟩:=opn_new B (.tup us) hp
 exact ⟨_,fs,gs,e5,B5,k z L q _ _ _ (by rw [ez]; exact ⟨p0,us,rfl,upd_same,r.mono (fun _ _ e=>by cases e)⟩) (I.new hp _) (same_upd (I.sn hp))⟩
theorem fe_objLen (G:Good X C n sp) (hg:C.gl (Str.ofString "len")=true) (h:C.nm i nx=true) (m:mdAt C.md i=.own) (hf:decide ((Ca,fl)∈C.fl)=true):FE X C (.Call (.Name (Str.ofString "len") p) [.Attribute (.Name nx px) fl apos] [] pos) (eObjL i Ca fl lenF) :=
 PE.imp (pe_callB (c_opn c_len) (G.gl hg) (G.blt "len" (by decide)) (by nofun) (pa_cons (pe_fldB (tv_name G h)) pa_nil (star_ok rfl)) (by nofun) (by nofun) (star_ok rfl) rfl) fun σ H Q h=>objL_go G m hf h
theorem fe_objSum (G:Good X C n sp) (hg:C.gl (Str.ofString "sum")=true) (h:C.nm i nx=true) (m:mdAt C.md i=.own) (hf:decide ((Ca,fl)∈C.fl)=true):FE X C (.Call (.Name (Str.ofString "sum") p) [.Attribute (.Name nx px) fl apos] [] pos) (eObjL i Ca fl sum2F) :=
 PE.imp (pe_callB (c_opn (c_sum2 G.calm)) (G.gl hg) (G.blt "sum" (by decide)) (by nofun) (pa_cons (pe_fldB (tv_name G h)) pa_nil (star_ok rfl)) (by nofun) (by nofun) (star_ok rfl) rfl) fun σ H Q h=>objL_go G m hf h
theorem fe_objTup (G:Good X C n sp) (hg:C.gl (Str.ofString "tuple")=true) (h:C.nm i nx=true) (m:mdAt C.md i=.own) (hf:decide ((Ca,fl)∈C.fl)=true):FE X C (.Call (.Name (Str.ofString "tuple") p) [.Attribute (.Name nx px) fl apos] [] pos) (eObjL i Ca fl tupleF) :=
 PE.imp (pe_callTy (c_opn c_tuple) (G.gl hg) (G.blt "tuple" (by decide)) (by nofun) (pa_cons (pe_fldB (tv_name G h)) pa_nil (star_ok rfl)) (by nofun) (by nofun) (star_ok rfl) rfl) fun σ H Q h=>objL_go G m hf h
end
section
variable {X:Cx}{C:CC}{n:Nat}{sp:PySem.W.Frag→Nat→Sp}{fr:Bool}{a b:Expr}{ea eb:EW}{pos p px p2 apos cpos:Pos}{i k:Nat}{nx fl:Str}{Ca:Addr}{xs:List Expr}{as:AW}{call:CW}{cn:Str}
variable {K:PySem.W.Frag}{c:Cn}{md:Md}{L:FLoc}{σ:L2.St}{S H:Hp}
theorem appO_in {u:V} {o o2:FV} (h:appO Ca fl u o=some o2):∃ dx fs gs l ys,o=.obj Ca dx fs gs∧fs.lookup fl=some (.ref l)∧gs.lookup l=some ys∧ys.length < big∧o2=.obj Ca dx fs (putG gs l (ys++[u])):=by
 cases o with
 | obj C' dx fs gs =>
  obtain ⟨y,h⟩:=ifd (show (if C'=Ca then (lsA fs gs fl).bind fun p=>if p.2.length < big then some (FV.obj C' dx fs (putG gs p.1 (p.2++[u]))) else none else none)=some o2 from h)
  obtain ⟨p,e1,e2⟩:=bnd h
  obtain ⟨g1,g2⟩:=lsA_in e1
  obtain ⟨hl,rfl⟩:=itd e2
  subst y
  exact ⟨dx,fs,gs,p.1,p.2,rfl,g1,g2,hl,rfl⟩
 | _=>cases h
theorem setO_in {u:V} {j:Int} {o o2:FV} (h:setO Ca fl j u o=some o2):∃ dx fs gs l ys q,o=.obj Ca dx fs gs∧fs.lookup fl=some (.ref l)∧gs.lookup l=some ys∧ixN ys.length j=some q∧o2=.obj Ca dx fs (putG gs l (ys.set q u)):=by
 cases o with
 | obj C' dx fs gs =>
  obtain ⟨y,h⟩:=ifd (show (if C'=Ca then (lsA fs gs fl).bind fun p=>(ixN p.2.length j).map fun q=>FV.obj C' dx fs (putG gs p.1 (p.2.set q u)) else none)=some o2 from h)
  obtain ⟨p,e1,e2⟩:=bnd h
  obtain ⟨g1,g2⟩:=lsA_in e1
  obtain ⟨q,hq,rfl⟩:=mpd e2
  subst y
  exact ⟨dx,fs,gs,p.1,p.2,q,rfl,g1,g2,hq,rfl⟩
 | _=>cases h
theorem putO_in {u:V} {o o2:FV} (h:putO Ca fl u o=some o2):∃ dx fs gs,o=.obj Ca dx fs gs∧fs.length < 1000∧o2=.obj Ca dx (putF fl u fs) gs:=by
 cases o with
 | obj C' dx fs gs =>
  obtain ⟨⟨y,hl⟩,rfl⟩:=itd (show (if C'=Ca∧fs.length < 1000 then some (FV.obj C' dx (putF fl u fs) gs) else none)=some o2 from h)
  subst y
  exact ⟨dx,fs,gs,rfl,hl,rfl⟩
 | _=>cases h
theorem fe_objApp (G:Good X C n sp) (h:C.nm i nx=true) (mo:mdAt C.md i=.own) (hf:decide ((Ca,fl)∈C.fl)=true) (hl:bmOk apos cpos=true) (hs:isStar a=false) (ha:FE X C a ea):FE X C (.Call (.Attribute (.Attribute (.Name nx p) fl p2) (Str.ofString "append") apos) [a] [] cpos) (eObjApp i Ca fl ea):=by
 refine PE.imp (pe_bmB PySem.F.plainAttrs_list PySem.F.slot_list_append PySem.F.type_list_append mt_append (pe_fldB (tv_name G h)) (pa_cons ha pa_nil (star_ok hs)) rfl (by rw [star_ok hs]; rfl) hl (star_ok hs) rfl) fun σ H Q ⟨c,L,S,Q0,I,h,k⟩=>?_
 obtain ⟨o,e,h⟩:=wpx h
 obtain ⟨xs,e2,h⟩:=wpx h
 obtain ⟨dx,fs,gs,l,ys,rfl,h1,h2,h3⟩:=lsF_in e2
 obtain ⟨g1,g2⟩:=G.fls _ (de hf)
 obtain ⟨a,e1,hh⟩:=I.obj mo e
 refine ⟨a,_,dx,fs,gs,.ref l,e1,hh,g1,g2,h1,⟨a,_,dx,fs,gs,hh,fun B=>.inl ⟨rfl,ys,SqL.of (B.opl (look_mem2 h2))⟩⟩,c,L,S,_,I,h,fun v L1 q x S1 H1 r1 I1 s1=>?_⟩
 obtain ⟨u,e3,q⟩:=wpx q
 obtain ⟨o1,e4,rfl,q⟩:=wpx q
 obtain ⟨o2,e5,q⟩:=wpx q
 obtain ⟨dx',fs',gs',l',ys',ee,h4,h5,hb,rfl⟩:=appO_in e5
 cases ee
 rw [h1] at h4; cases h4
 obtain ⟨a',e1',hh'⟩:=I1.obj mo e4
 rw [e1] at e1'; cases e1'
 cases RV.vI e3 r1
 refine ⟨a,_,_,_,_,hh',fun B=>?_⟩
 have hm:=look_mem2 h5
 have:=big_line
 obtain ⟨e6,B6⟩:=opn_set B (ys'++[x]) hm
 exact ⟨l,ys',x,rfl,rfl,B.opl hm,by lia,_,_,_,e6,B6,k .non _ q .non S1 _ rfl (I1.wobj mo e4 e1) s1⟩
theorem fs_objSet (G:Good X C n sp) (h:C.nm i nx=true) (mo:mdAt C.md i=.own) (hf:decide ((Ca,fl)∈C.fl)=true) (hc:(!isComp a && !isSlice b)=true) (ha:FE X C a ea) (hb:FE X C b eb):FS X C fr (.Assign [.Subscript (.Attribute (.Name nx p) fl p2) b px] a pos) (sObjSet i Ca fl eb ea):=by
 have hc:=b2 hc
 refine PS.imp (ps_asg (X:=X.nox) ha (pg_sub (pe_fldB (tv_name G h)) hb (s_opn set_list) (setix_ok (nb hc.2))) (swaps_so (nb hc.1)) rfl rfl) fun D σ H ⟨c,L,S,Q0,I,h,k⟩=>?_
 obtain ⟨o,e,h⟩:=wpx h
 obtain ⟨g1,g2⟩:=G.fls _ (de hf)
 refine ⟨c,L,S,_,I,h,fun v L1 q x S1 H1 r1 I1 s1=>?_⟩
 obtain ⟨u,e3,q⟩:=wpx q
 obtain ⟨o1,e4,rfl,q⟩:=wpx q
 obtain ⟨xs,e5,q⟩:=wpx q
 obtain ⟨dx,fs,gs,l,ys,rfl,h1,h2,h3⟩:=lsF_in e5
 obtain ⟨a,e1,hh⟩:=I1.obj mo e4
 cases RV.vI e3 r1
 refine ⟨a,_,dx,fs,gs,.ref l,e1,hh,g1,g2,h1,c,L1,S1,_,I1,q,fun w L2 q y S2 H2 r2 I2 s2=>?_⟩
 obtain ⟨j,e6,qa⟩:=wpx q
 obtain ⟨o2,e7,rfl,qb⟩:=wpx qa
 obtain ⟨o3,e8,qc⟩:=wpx qb
 have e6:=intF_eq e6
 rw [e6] at r2
 obtain rfl:y=.int j:=r2
 obtain ⟨dx',fs',gs',l',ys',jj,ee,h4,h5,hq,rfl⟩:=setO_in e8
 cases ee
 rw [h1] at h4; cases h4
 obtain ⟨a',e1',hh'⟩:=I2.obj mo e7
 rw [e1] at e1'; cases e1'
 refine ⟨a,_,_,_,_,hh',fun B=>?_⟩
 have hm:=look_mem2 h5
 obtain ⟨e9,B9⟩:=opn_set B (ys'.set jj x) hm
 exact ⟨l,ys',j,jj,rfl,rfl,B.opl hm,hq,_,_,_,e9,B9,k .next _ qc σ S2 _ (I2.wobj mo e7 e1) (s1.trans s2)⟩
theorem fs_objFld (G:Good X C n sp) (h:C.nm i nx=true) (mo:mdAt C.md i=.own) (hf:decide ((Ca,fl)∈C.fl)=true) (hc:isComp a=false) (ha:FE X C a ea):FS X C fr (.Assign [.Attribute (.Name nx p) fl px] a pos) (sObjFld i Ca fl ea):=by
 refine PS.imp (ps_fldB (tv_name G h) ha (swaps_no hc)) fun D σ H ⟨c,L,S,Q0,I,h,k⟩=>⟨c,L,S,_,I,h,fun v L1 q x S1 H1 r1 I1 s1=>?_⟩
 obtain ⟨u,e3,q⟩:=wpx q
 obtain ⟨o,e4,q⟩:=wpx q
 obtain ⟨o2,e5,q⟩:=wpx q
 obtain ⟨dx,fs,gs,rfl,hl,rfl⟩:=putO_in e5
 obtain ⟨g1,g2⟩:=G.fls _ (de hf)
 obtain ⟨a,e1,hh⟩:=I1.obj mo e4
 cases RV.vI e3 r1
 refine ⟨a,_,dx,fs,gs,e1,hh,g1,g2,hl,fun B=>?_⟩
 obtain ⟨e6,B6⟩:=opn_fld B (putF fl x fs)
 exact ⟨_,_,_,e6,B6,k .next _ q σ S1 _ (I1.wobj mo e4 e1) s1⟩
theorem fs_objAdd (G:Good X C n sp) (h:C.nm i nx=true) (mo:mdAt C.md i=.own) (hf:decide ((Ca,fl)∈C.fl)=true) (ha:FE X C a ea):FS X C fr (.AugAssign (.Attribute (.Name nx p) fl px) .Add a pos) (sObjAug i Ca fl (fun i j=>i + j) ea):=by
 refine PS.imp (ps_augB (tv_name G h) ha (ip_add (X:=X.nox))) fun D σ H q1=>?_; obtain ⟨c,L,S,Q0,I,h,k⟩:=q1
 obtain ⟨o,e,h⟩:=wpx h
 obtain ⟨z,e2,h⟩:=wpx h
 cases o with
 | obj C' dx fs gs =>
  obtain ⟨rfl,e3⟩:=ifd (show (if C'=Ca then (fs.lookup fl).bind vF else none)=some z from e2)
  obtain ⟨v,e4,e5⟩:=bnd e3
  obtain ⟨l,e1,hh⟩:=I.obj mo e
  obtain ⟨g1,g2⟩:=G.fls _ (de hf)
  refine ⟨l,_,dx,fs,gs,v,e1,hh,g1,g2,e4,c,L,S,_,I,h,fun w L1 q y S1 H1 r1 I1 s1=>?_⟩
  obtain ⟨o1,e6,rfl,q⟩:=wpx q
  obtain ⟨a,e7,qa⟩:=wpx q
  obtain ⟨b,e8,qb⟩:=wpx qa
  obtain ⟨o2,e9,qc⟩:=wpx qb
  have e7:=intF_eq e7
  have e8:=intF_eq e8
  rw [e7] at e5
  rw [e8] at r1
  obtain ⟨dx',fs',gs',ee,hl,rfl⟩:=putO_in e9
  cases ee
  obtain rfl:v=.int a:=by cases v <;> cases e5; rfl
  obtain rfl:y=.int b:=r1
  obtain ⟨l',e1',hh'⟩:=I1.obj mo e6
  rw [e1] at e1'; cases e1'
  exact ⟨a,b,rfl,rfl,_,_,hh',hl,k .next _ qc σ S1 _ (I1.wobj mo e6 e1) s1⟩
 | _=>cases e2
theorem fs_objNew (G:Good X C n sp) (h:C.nm i nx=true) (mo:mdAt C.md i=.own) (hf:decide ((Ca,fl)∈C.fl)=true):FS X C fr (.Assign [.Attribute (.Name nx p) fl px] (.List [] p2) pos) (sObjNew i Ca fl):=by
 refine PS.imp (ps_fldB (tv_name G h) (pe_lst pa_nil) (swaps_no rfl)) fun D σ H q1=>?_; obtain ⟨c,L,S,Q0,I,h,k⟩:=q1
 obtain ⟨o,e,h⟩:=wpx h
 cases o with
 | obj C' dx fs gs =>
  obtain ⟨rfl,hl,q⟩:=h
  obtain ⟨g1,g2⟩:=G.fls _ (de hf)
  obtain ⟨a,e1,hh⟩:=I.obj mo e
  refine ⟨Nat.zero_le _,fun p0 hp=>?_⟩
  have na:a≠p0:=fun z=>by rw [z,hp] at hh; cases hh
  refine ⟨a,_,dx,fs,gs,e1,by rw [upd_ne na]; exact hh,g1,g2,hl,fun B=>?_⟩
  have B0:Big H a C' dx fs gs:=by
   have nn:∀ {b u},upd H p0 (.lst []) b=some u→(∀ ys,u≠.lst ys)→H b=some u:=fun {b u} e n=>by
    by_cases z:b=p0
    ·rw [z,upd_same] at e; cases e; exact absurd rfl (n [])
    ·rwa [upd_ne z] at e
   exact ⟨hh,nn B.dxo (fun _ z=>nomatch z),fun g hg=>nn (B.gso g hg) (fun _ z=>nomatch z),B.nd,B.ax⟩
  rw [← (opn_new B0 (.lst []) hp).1]
  obtain ⟨e6,B6⟩:=opn_add B0 hp (putF fl (.ref p0) fs) []
  have hg:∀ g∈gs,g.1≠p0:=fun g hg z=>by have:=B0.gso g hg; rw [z,hp] at this; cases this
  exact ⟨_,_,_,e6,B6,k .next _ (q p0 hg) σ S _ ((I.lay hp _).wobj mo e e1) (Same.refl S)⟩
 | _=>exact h.elim
theorem form_ok:∀ {xs:List Expr} {env:Env},noStars xs=true→(backTo pos (starEach xs env)).all (fun x=>!x.1)=true
 | [],_,_=>rfl
 | x :: xs,env,h=>by
  have h:=b2 (show (!isStar x && noStars xs)=true from h)
  rw [star_ok (nb h.1)]
  show (true && (backTo pos (starEach xs env)).all (fun x=>!x.1))=true
  rw [form_ok h.2]; rfl
theorem form_yes {xs:List Expr} {env:Env} (h:noStars xs=true) (hl:decide (xs.length < 30)=true):methodCallForm (xs.length + ([]:List Keyword).length) (backTo pos (starEach xs env)) (backToKw pos (keywordEach [] env))=true:=by
 unfold methodCallForm
 rw [form_ok h]
 show (true && true && decide (xs.length + 0 + 0 < 30))=true
 exact hl
theorem make_go {Q:VK} {f:Nat} {Q1:FV→FLoc→Prop} (I:Iv K c md L σ S H) {vs:List FV} {us:List V} (r:RVs K S vs us) (h:∀ dx,call f (.obj Ca dx [] [] :: vs) fun z=>z.1=.non∧Q1 z.2 L)
  (k:∀ v,Q1 v L→∀ a S' H',OwnAt K S' H' a v→Fresh c md L σ a→Iv K c md L σ S' H'→Same S S'→Q (.ref a) H'):∀ x dx,H x=none→H dx=none→dx≠x→x=dx + 1→spQ K call true false f (.ref x :: us) (upd (upd H dx (.own x)) x (.big Ca dx [] [])) (fun v H2=>v=.non∧Q (.ref x) H2) E0:=by
 intro x dx hx hd ne _
 have hx1:upd H dx (.own x) x=none:=by rw [upd_ne (Ne.symm ne)]; exact hx
 have I1:=(I.lay hd (.own x)).lay hx1 (.big Ca dx [] [])
 refine ⟨S,.obj Ca dx [] [] :: vs,_,I1.sub,⟨_,vs,x,us,rfl,rfl,⟨I.sn hx,[],[],rfl,upd_same,rfl⟩,r⟩,h dx,fun z q y S' H' kp r=>?_⟩
 obtain ⟨e1,q⟩:=q
 have r:RV K S' z.1 y:=r
 rw [e1] at r
 refine ⟨r,?_⟩
 have fx:=I.fresh hx
 have old:∀ {b u},H b=some u→b≠x∧b≠dx:=fun {b u} e=>⟨(fun z=>by rw [z,hx] at e; cases e),(fun z=>by rw [z,hd] at e; cases e)⟩
 have I2:Iv K c md L σ S' H':=I.go3 kp.same kp.sub (fun a o e=>?_) fun a o e=>?_
 ·exact k z.2 q x S' H' (kp.back x rfl) fx I2 kp.same
 ·rcases kp.grow a o e with y | y | y
  ·exact .inl y
  ·refine .inr (.inl ?_)
   by_cases z1:a=x
   ·rw [z1]; exact hx
   ·rw [upd_ne z1] at y
    by_cases z2:a=dx
    ·rw [z2]; exact hd
    ·rwa [upd_ne z2] at y
  ·exact .inr (.inr y)
 ·obtain ⟨n1,n2⟩:=old e
  exact kp.keep a o (by rw [upd_ne n1,upd_ne n2]; exact e) fun z=>n1 (by cases z; rfl)
theorem ff_make {a:Expr} {xs:List Expr} (G:Good X C n sp) (he:sp X.K (C.fns.length + k)=spQ X.K call true false (C.fns.length + k)) (hk:C.ms[k]?=some (cn,Ca,("__init__":Str))) (hg:C.gl cn=true) (hd:(cn == ("__debug__":Str))=false) (hs:noStars (a :: xs)=true) (ha:FA X C (a :: xs) as):FF X C (.Call (.Name cn p) (a :: xs) [] pos) (eMake call (C.fns.length + k) Ca as):=by
 obtain ⟨fa,fd,ps,h1,h2,h3,h4,h5,h6⟩:=G.mts k cn Ca _ hk
 have hs':=b2 (show (!isStar a && noStars xs)=true from hs)
 refine PE.imp (pe_makeB (X:=X.nox) (h3 rfl) h6 G.room (G.gl hg) h1 h5 pass0 ha hd (star_ok (nb hs'.1)) (stars_no hs'.2)) fun σ H Q ⟨c,L,S,Q0,I,h,kk⟩=>⟨c,L,S,_,I,h,fun vs L1 q us S1 H1 r1 I1 s1=>?_⟩
 rw [he]
 exact make_go I1 r1 q fun v qv a S' H' o fr I' s'=>kk v L1 qv a S' H' o fr I' (s1.trans s')
theorem ff_make0 (G:Good X C n sp) (he:sp X.K (C.fns.length + k)=spQ X.K call true false (C.fns.length + k)) (hk:C.ms[k]?=some (cn,Ca,("__init__":Str))) (hg:C.gl cn=true) (hd:(cn == ("__debug__":Str))=false):FF X C (.Call (.Name cn p) [] [] pos) (eMake call (C.fns.length + k) Ca aNil):=by
 obtain ⟨fa,fd,ps,h1,h2,h3,h4,h5,h6⟩:=G.mts k cn Ca _ hk
 refine PE.imp (pe_makeB0 (X:=X.nox) (h3 rfl) h6 G.room (G.gl hg) h1 h5 pass0 hd) fun σ H Q q1=>?_; obtain ⟨c,L,S,Q0,I,h,kk⟩:=q1
 rw [he]
 exact make_go I (vs:=[]) (us:=[]) rfl h fun v qv a S' H' o fr I' s'=>kk v L qv a S' H' o fr I' s'
end
section
variable {X:Cx}{C:CC}{n:Nat}{sp:PySem.W.Frag→Nat→Sp}{pos p:Pos}{f:Nat}{Ca:Addr}{a:Expr}{xs:List Expr}{as:AW}{call:CW}{cn:Str}
theorem ff_makeF (G:Good X C n sp) (hle:decide (C.fns.length≤f)=true) (he:sp X.K f=spQ X.K call true false f) (hk:C.ms[f - C.fns.length]?=some (cn,Ca,("__init__":Str))) (hg:C.gl cn=true) (hd:(cn == ("__debug__":Str))=false) (hs:noStars (a :: xs)=true) (ha:FA X C (a :: xs) as):FF X C (.Call (.Name cn p) (a :: xs) [] pos) (eMake call f Ca as):=by
 have e:C.fns.length + (f - C.fns.length)=f:=by have:=de hle; lia
 have:=ff_make (call:=call) (p:=p) (pos:=pos) G (k:=f - C.fns.length) (by rw [e]; exact he) hk hg hd hs ha
 rwa [e] at this
theorem ff_make0F (G:Good X C n sp) (hle:decide (C.fns.length≤f)=true) (he:sp X.K f=spQ X.K call true false f) (hk:C.ms[f - C.fns.length]?=some (cn,Ca,("__init__":Str))) (hg:C.gl cn=true) (hd:(cn == ("__debug__":Str))=false):FF X C (.Call (.Name cn p) [] [] pos) (eMake call f Ca aNil):=by
 have e:C.fns.length + (f - C.fns.length)=f:=by have:=de hle; lia
 have:=ff_make0 (call:=call) (p:=p) (pos:=pos) G (k:=f - C.fns.length) (by rw [e]; exact he) hk hg hd
 rwa [e] at this
end
def sNev:SW:=fun _ _=>False
def bFldL (i:Nat) (Ca:Addr) (f:Str):BW:=fun L Q=>wp (lk L i) fun o=>wp (lsF Ca f o) fun xs=>Q (!xs.isEmpty) L
@[scoped simp ↓] theorem sNev_eq (L:FLoc) (Q:FFl→FLoc→Prop):sNev L Q=False:=rfl
@[scoped simp ↓] theorem bFldL_eq (i:Nat) (Ca:Addr) (f:Str) (L:FLoc) (Q:Bool→FLoc→Prop):bFldL i Ca f L Q=(wp (lk L i) fun o=>wp (lsF Ca f o) fun xs=>Q (!xs.isEmpty) L):=propext Iff.rfl
section
variable {X:Cx}{C:CC}{n:Nat}{sp:PySem.W.Frag→Nat→Sp}{fr:Bool}{i:Nat}{nx fl:Str}{p pos:Pos}{Ca:Addr}{a:Expr}{ta:TE}
theorem fs_nev {st:Stmt}:FS X C fr st sNev:=fun pins s σ H D I q1=>by obtain ⟨c,L,S,Q0,_,h,_⟩:=q1; exact h.elim
theorem pt_truthB (ha:PE X a ta) (he:∀ whole,isTrue a X.env whole=(do let v ← whole; standAt a.pos; holding [v] (truthy v))) :
  PT X a (fun σ H Q=>ta σ H fun x H1=>∃ b C dx fs gs,H1 b=some (.big C dx fs gs)∧(Big H1 b C dx fs gs→∃ k,TruV X.K x (opn H1 b C dx fs gs) k∧Q k H1)):=by
 intro pins s σ H Q I h
 refine isTrue_plain (thn (ha pins s σ H _ I h) fun v s1 ⟨x,H1,I1,r1,b,C,dx,fs,gs,hb,q1⟩=>?_) (he _)
 have B:=big_of I1 hb
 obtain ⟨k,t,q⟩:=q1 B
 refine thn (tru_ok pins s1 σ _ x v (fun k' H2=>k'=k∧H2=opn H1 b C dx fs gs) (inv_opn I1 hb) r1 ⟨k,t,rfl,rfl⟩) fun k' s' q2=>?_; obtain ⟨H2,I2,e1,e2⟩:=q2; exact ⟨H1,inv_cls (e2 ▸ I2) B,e1 ▸ q⟩
theorem fb_fldL (G:Good X C n sp) (h:C.nm i nx=true) (m:mdAt C.md i=.own) (hf:decide ((Ca,fl)∈C.fl)=true):FB X C (.Attribute (.Name nx p) fl pos) (bFldL i Ca fl):=PT.imp (pt_truthB (pe_fldB (tv_name G h)) (fun _=>rfl)) fun σ H Q q1=>by
 obtain ⟨c,L,S,Q0,I,h,k⟩:=q1
 obtain ⟨o,e,h⟩:=wpx h
 obtain ⟨xs,e2,q⟩:=wpx h
 obtain ⟨dx,fs,gs,l,ys,rfl,h1,h2,h3⟩:=lsF_in e2
 obtain ⟨a,e1,hh⟩:=I.obj m e
 obtain ⟨g1,g2⟩:=G.fls _ (de hf)
 refine ⟨a,_,dx,fs,gs,.ref l,e1,hh,g1,g2,h1,a,_,dx,fs,gs,hh,fun B=>?_⟩
 have hm:=look_mem2 h2
 refine ⟨!ys.isEmpty,.inl ⟨ys,SqL.of (B.opl hm),rfl⟩,?_⟩
 have el:=mapO_len h3
 have e0:ys.isEmpty=xs.isEmpty:=by cases ys <;> cases xs <;> simp at el ⊢
 rw [e0]
 exact k _ L q S H I (Same.refl S)
end
abbrev NG:=Addr×List V×List FV
def refs (gs:List NG):List V:=gs.map fun g=>V.ref g.1
def prG (gs:List NG):List (Addr×HO):=gs.map fun g=>(g.1,HO.lst g.2.1)
def cN (c:Cn) (acc:Addr) (gs:List NG):Cn:={ c with pr:=(acc,.lst (refs gs)) :: (prG gs++c.pr) }
def eIsL (e:EW):EW:=fun L Q=>e L fun v L1=>∃ ps,v=.lst ps∧Q v L1
def nestW (tg:Tg) (ix a:EW):List FV→List (List FV)→FLoc→(List (List FV)→FLoc→Prop)→Prop
 | [],pss,L,Q=>Q pss L
 | z :: zs,pss,L,Q=>gW tg z L fun L1=>ix L1 fun i L2=>∃ (k:Nat) (ps:List FV),i=.int k∧pss[k]?=some ps∧ps.length < big∧a L2 fun v L3=>nestW tg ix a zs (pss.set k (ps++[v])) L3 Q
end Kq
end
section
namespace Kq
open PySem PySem.Spec PyProof.Rows L2 PySem.W
def Mk4 (mask:Nat):Prop:=mask=7 ∨ mask=31 ∨ mask=127 ∨ mask=511
def advN (t:SetTable):Nat→SetTable.Probe→SetTable.Probe
 | 0,p=>p
 | k + 1,p=>advN t k (t.advance p)
def pth (t:SetTable) (h:Int) (n:Nat):Nat:=(advN t n (t.probeStart h)).j
inductive Pth (t:SetTable) (occ:Nat→Prop) (h:Int) (j:Nat):Prop
 | mk (n:_) (_:pth t h n=j) (_:∀ n',n' < n→occ (pth t h n')):Pth t occ h j
structure TabT (t:SetTable) (n:Nat):Prop where
 m4:Mk4 t.mask
 dm:t.dummies = #[]
 rs:RiseA t.place
 sz:t.place.size=n
 lo:n * 5 < t.mask * 3
def hT (k:List Int):Int:=reduceHash (Builtin.Tuple.tupleHashOf (k.map hashInt))
end Kq
end
section
namespace Kq
open PySem PySem.Spec PyProof.Rows L2
def adT (acc:List (List Int)) (k:List Int):List (List Int):=if k∈acc then acc else acc++[k]
inductive RM (K:PySem.W.Frag) (c:Cn) (md:Md) (L:FLoc) (σ:L2.St) (S H:Hp):List Bool→List FV→List V→Prop
 | nil:RM K c md L σ S H [] [] []
 | imm {ms vs xs v x}:RV K S v x→RM K c md L σ S H ms vs xs→RM K c md L σ S H (false :: ms) (v :: vs) (x :: xs)
 | own {ms vs xs v a}:OwnAt K S H a v→Fresh c md L σ a→(∀ k:Nat,ms[k]?=some true→xs[k]?≠some (V.ref a))→RM K c md L σ S H ms vs xs→RM K c md L σ S H (true :: ms) (v :: vs) (V.ref a :: xs)
inductive lm (K:PySem.W.Frag) (md:Md) (ms:List Bool) (e:AW) (σ:L2.St) (H:Hp) (Q:List V→Hp→Prop):Prop
 | mk (c:_) (L:_) (S:_) (Q0:_) (_:Iv K c md L σ S H) (_:e L Q0) (_:∀ vs L',Q0 vs L'→∀ xs S' H',RM K c md L' σ S' H' ms vs xs→Iv K c md L' σ S' H'→Same S S'→Q xs H'):lm K md ms e σ H Q
def FM (X:Cx) (C:CC) (xs:List Expr) (ms:List Bool) (e:AW):Prop:=PA X.nox xs (lm X.K C.md ms e)
section
variable {X:Cx}{C:CC}{a:Expr}{xs:List Expr}{ms:List Bool}{e:EW}{as:AW}
variable {K:PySem.W.Frag}{c:Cn}{md:Md}{L:FLoc}{σ:L2.St}{S H:Hp}
theorem RM.ne {l:Addr} {o:HO} {ms:List Bool} {vs:List FV} {xs:List V} (h:RM K { c with pr:=(l,o) :: c.pr } md L σ S H ms vs xs):RM K c md L σ S H ms vs xs∧∀ k:Nat,ms[k]?=some true→xs[k]?≠some (V.ref l):=by
 induction h with
 | nil=>exact ⟨.nil,fun k h=>by cases h⟩
 | imm r _ ih =>
  refine ⟨.imm r ih.1,fun k hk=>?_⟩
  cases k with
  | zero=>cases hk
  | succ k=>exact ih.2 k hk
 | own o f d _ ih =>
  refine ⟨.own o ⟨f.1,fun p hp=>f.2.1 p (List.mem_cons_of_mem _ hp),f.2.2⟩ d ih.1,fun k hk=>?_⟩
  cases k with
  | zero =>
   intro z
   cases z
   exact f.2.1 (l,_) List.mem_cons_self rfl
  | succ k=>exact ih.2 k hk
theorem fm_nil:FM X C [] [] aNil:=PA.imp pa_nil fun σ H Q q1=>by obtain ⟨c,L,S,Q0,I,h,k⟩:=q1; exact k [] L h [] S H .nil I (Same.refl S)
theorem fm_own (hs:isStar a=false) (h1:FF X C a e) (h2:FM X C xs ms as):FM X C (a :: xs) (true :: ms) (aCons e as):=PA.imp (pa_cons h1 h2 (star_ok hs)) fun σ H Q q1=>by
 obtain ⟨c,L,S,Q0,I,h,k⟩:=q1
 refine ⟨c,L,S,_,I,h,fun v L1 q l S1 H1 o f I1 s1=>?_⟩
 obtain ⟨o1,ps,us,e9,o2,o3⟩:=o
 have I2:=I1.prot o2 o1 fun y u hy hu=>f.2.2 y u (Mo.w_imm hy) hu
 refine ⟨_,L1,S1,_,I2,q,fun vs L2 q xs S2 H2 rs I3 s2=>?_⟩
 obtain ⟨g1,g2,g3⟩:=I3.prs (l,ownH v us) List.mem_cons_self
 have I4:=I3.unprot I1.fzp
 obtain ⟨r1,r2⟩:=rs.ne
 refine k _ L2 q _ S2 H2 (.own ⟨g2,ps,us,e9,g1,o3.mono s2⟩ ⟨f.1,f.2.1,fun y u hy hu hs=>?_⟩ r2 r1) I4 (s1.trans s2)
 by_cases mo:(mdAt C.md y).w=true
 ·exact g3 y u mo hu hs
 ·have mo:mdAt C.md y=.frz:=by cases z:mdAt C.md y with | imm=>exact absurd z hy | frz=>rfl | _=>rw [z] at mo; exact absurd rfl mo
  obtain ⟨b',f1⟩:=I4.fzm y u mo hu
  obtain ⟨_,f2,_⟩:=I4.fzs _ f1
  rw [hs] at f2; cases f2
  obtain ⟨ys,f3⟩:=I1.fzp _ f1
  exact f.2.1 _ f3 rfl
def mdsOk (md:Md):List Nat→List Bool→Bool
 | [],[]=>true
 | i :: is,false :: ms=>decide (mdAt md i=.imm) && mdsOk md is ms
 | i :: is,true :: ms=>(decide (mdAt md i=.own) && decide (i≠0)) && mdsOk md is ms
 | _,_=>false
theorem RM.seti {i:Nat} {v:FV} {x:V} (hi:mdAt md i=.imm) {ms:List Bool} {vs:List FV} {xs:List V} (h:RM K c md L σ S H ms vs xs):RM K c md (L.set i (some v)) (σ.set i (some x)) S H ms vs xs:=by
 induction h with
 | nil=>exact .nil
 | imm r _ ih=>exact .imm r ih
 | own o f d _ ih =>
  refine .own o ⟨f.1,f.2.1,fun y u hy hu=>?_⟩ d ih
  have hyi:i≠y:=fun z=>hy (by rw [← z]; exact hi)
  rw [List.getElem?_set_ne hyi] at hu ⊢
  exact f.2.2 y u hy hu
theorem RM.seto {i:Nat} {v:FV} {l:Addr} {ms:List Bool} {vs:List FV} {xs:List V} (h:RM K c md L σ S H ms vs xs):(∀ k:Nat,ms[k]?=some true→xs[k]?≠some (V.ref l))→RM K c md (L.set i (some v)) (σ.set i (some (.ref l))) S H ms vs xs:=by
 induction h with
 | nil=>intro _; exact .nil
 | imm r _ ih=>intro g; exact .imm r (ih fun k=>g (k + 1))
 | own o f d _ ih =>
  intro g
  refine .own o ⟨f.1,f.2.1,fun y u hy hu=>?_⟩ d (ih fun k=>g (k + 1))
  by_cases hyi:i=y
  ·subst hyi
   intro z
   have hl:i < σ.length:=by
    have:=(List.getElem?_eq_some_iff.mp z).1
    rwa [List.length_set] at this
   rw [List.getElem?_set_self hl] at z
   cases z
   exact g 0 rfl rfl
  ·rw [List.getElem?_set_ne hyi] at hu ⊢
   exact f.2.2 y u hy hu
theorem setsM {ms:List Bool} {vs:List FV} {xs:List V}:∀ {is:List Nat} {L:FLoc} {σ:L2.St} {Q:FLoc→Prop},mdsOk md is ms=true→Iv K c md L σ S H→RM K c md L σ S H ms vs xs→wp (setsF L is vs) Q→∃ σ' L',(∀ R:L2.St→Hp→Prop,R σ' H→gTs is xs σ H R)∧Q L'∧Iv K c md L' σ' S H:=by
 induction ms generalizing vs xs with
 | nil =>
  intro is L σ Q m I r q
  cases r
  cases is with
  | nil=>exact ⟨σ,L,fun R r=>⟨rfl,r⟩,q,I⟩
  | cons=>cases m
 | cons b ms ih =>
  intro is L σ Q m I r q
  cases is with
  | nil=>cases m
  | cons i is =>
   cases r with
   | @imm _ vs xs v x r rs =>
    have m:=b2 m
    obtain ⟨σ',L',g,q,I'⟩:=ih (L:=L.set i (some v)) (σ:=σ.set i (some x)) m.2 (I.setI (de m.1) r) (rs.seti (de m.1)) q
    exact ⟨σ',L',fun R hr=>⟨x,xs,rfl,g R hr⟩,q,I'⟩
   | @own _ vs xs v l o f d rs =>
    have m:=b2 m
    have m1:=b2 m.1
    obtain ⟨σ',L',g,q,I'⟩:=ih (L:=L.set i (some v)) (σ:=σ.set i (some (.ref l))) m.2 (I.set (fun _ _=>de m1.2) (fun z=>by rw [de m1.1] at z; cases z) (.inr ⟨de m1.1,l,rfl,o,f.1,f.2.1,fun y u _ hy hu=>f.2.2 y u hy hu⟩)) (rs.seto d) q
    exact ⟨σ',L',fun R hr=>⟨.ref l,xs,rfl,g R hr⟩,q,I'⟩
theorem RM.len {ms:List Bool} {vs:List FV} {xs:List V} (h:RM K c md L σ S H ms vs xs):xs.length=ms.length∧vs.length=ms.length:=by
 induction h with
 | nil=>exact ⟨rfl,rfl⟩
 | imm r _ ih=>exact ⟨congrArg (· + 1) ih.1,congrArg (· + 1) ih.2⟩
 | own w f d _ ih=>exact ⟨congrArg (· + 1) ih.1,congrArg (· + 1) ih.2⟩
end
def lnEnd (ls:List Nat) (Q:FFl→FLoc→Prop):FFl→FLoc→Prop
 | .ret v,L=>wp (mapO (lk L) ls) fun ws=>Q (.ret (.tup (v :: ws))) L
 | .next,L=>wp (mapO (lk L) ls) fun ws=>Q (.ret (.tup (.non :: ws))) L
 | _,_=>False
def sLent (ls:List Nat) (s:SW):SW:=fun L Q=>s L (lnEnd ls Q)
structure ArgsX (K:PySem.W.Frag) (S H:Hp) (args:List FV) (vs:List V) (ls:List Nat) (ads:List Addr):Prop where
 val:∀ (i:Nat) (v:FV),i ∉ ls→args[i]?=some v→∃ x,vs[i]?=some x∧RV K S v x
 own:∀ (k i:Nat) (v:FV),ls[k]?=some i→args[i]?=some v→∃ a,ads[k]?=some a∧OwnAt K S H a v∧∀ x,vs[i]?=some x→x=V.ref a
 nd:ads.Nodup
 len:ads.length=ls.length
structure KeptX (K:PySem.W.Frag) (S H S' H':Hp) (ads:List Addr) (ws:List FV):Prop where
 same:Same S S'
 sub:Same S' H'
 grow:∀ a o,S' a=some o→S a=some o ∨ H a=none ∨ isTup o=true
 keep:∀ a o,H a=some o→a ∉ ads→H' a=some o
 back:∀ (k:Nat) (a:Addr),ads[k]?=some a→∃ w,ws[k]?=some w∧OwnAt K S' H' a w
 len:ws.length=ads.length
def unX:FV→Option (FV×List FV)
 | .tup (v :: ws)=>some (v,ws)
 | _=>none
inductive spXI (K:PySem.W.Frag) (call:CW) (ls:List Nat) (nv f:Nat) (vs:List V) (H:Hp) (Q:VK):Prop
 | mk (S:_) (args:_) (Q0:_) (ads:_) (_:Same S H) (_:ArgsX K S H args vs ls ads) (_:vs.length=nv) (_:call f args Q0) (_:∀ z,Q0 z→∀ v ws,unX z.1=some (v,ws)→∀ x S' H',KeptX K S H S' H' ads ws→RV K S' v x→Q x H'):spXI K call ls nv f vs H Q
def spX (K:PySem.W.Frag) (call:CW) (ls:List Nat) (nv f:Nat):Sp:=fun vs H Q _=>spXI K call ls nv f vs H Q
abbrev LXs:=List (Nat×List Nat×Nat)
def spL (tb:List FD) (lxs:LXs) (call:CW) (K:PySem.W.Frag) (f:Nat):Sp:=match lxs.lookup f with
 | some p=>spX K call p.1 p.2 f
 | none=>spT K tb call f
def lm0:Mo:=.gst 0 ""
def Df.okX (d:Df) (ls:List Nat) (nv np ns:Nat):Bool :=
 decide ((defScope d.st).kind=.function) && !(defScope d.st).isCoroutine && !(defScope d.st).isGenerator && decide (d.N.Nodup) && decide (d.N.take d.ps.length=d.ps) && d.ps.all (fun x=>decide ((defScope d.st).names.lookup x=some .local ∨ (defScope d.st).names.lookup x=some .cell)) &&
 (defScope d.st).names.all (fun p=>decide (p.2≠.free)) && decide (nv=d.ps.length∧nv≤np∧np≤ns∧ls.Nodup) && decide (ns=d.N.length) && (List.range np).all (fun i=>decide (mdAt d.md i=if i∈ls then lm0 else .imm)) && ls.all (fun i=>decide (i < np)) &&
 (List.range np).all (fun i=>decide (i < nv ∨ i∈ls∧((defScope d.st).names.lookup (d.N.getD i "")).isNone=true)) && d.md.all (fun m=>decide (m≠.ob))
structure OkX (d:Df) (ls:List Nat) (nv np ns:Nat):Prop where
 sc:FnScope d.N d.ps (defScope d.st)
 nvE:nv=d.ps.length
 le:nv≤np
 le2:np≤ns
 nsE:ns=d.N.length
 nd:ls.Nodup
 md:∀ i,i < np→mdAt d.md i=if i∈ls then lm0 else .imm
 lt:∀ i∈ls,i < np
 gh:∀ i,i < np→i < nv ∨ i∈ls∧(defScope d.st).names.lookup (d.N.getD i "")=none
 ob:∀ i,mdAt d.md i≠.ob
theorem md_all {md:Md} (h:md.all (fun m=>decide (m≠.ob))=true):∀ i,mdAt md i≠.ob:=by
 induction md with
 | nil=>intro i z; cases z
 | cons m md ih =>
  have h:=b2 (show (decide (m≠.ob) && md.all _)=true from h)
  intro i
  cases i with
  | zero=>exact de h.1
  | succ i=>exact ih h.2 i
theorem Df.scX {d:Df} {ls:List Nat} {nv np ns:Nat} (h:d.okX ls nv np ns=true):OkX d ls nv np ns:=by
 have h0:=b2 h; have h1:=b2 h0.1; have h2:=b2 h1.1; have h3:=b2 h2.1; have h4:=b2 h3.1; have h5:=b2 h4.1; have h6:=b2 h5.1; have h7:=b2 h6.1; have h8:=b2 h7.1; have h9:=b2 h8.1; have h10:=b2 h9.1; have h11:=b2 h10.1
 have e:=de h5.2
 exact ⟨⟨de h11.1,nb h11.2,nb h10.2,de h9.2,de h8.2,fun x hx=>de (List.all_eq_true.mp h7.2 x hx),fun y hy=>de (List.all_eq_true.mp h6.2 y hy)⟩,e.1,e.2.1,e.2.2.1,de h4.2,e.2.2.2,fun i hi=>de (List.all_eq_true.mp h3.2 i (List.mem_range.mpr hi)),fun i hi=>de (List.all_eq_true.mp h2.2 i hi),
  fun i hi=>(de (List.all_eq_true.mp h1.2 i (List.mem_range.mpr hi))).imp_right fun z=>⟨z.1,Option.isNone_iff_eq_none.mp z.2⟩,md_all h0.2⟩
theorem inv_ghost {X:Cx} {pins:List (Addr×Obj)} {σ σ':L2.St} {H:Hp} {s:Shared} (I:Inv X pins σ H s) (hl:σ'.length=σ.length) (h:∀ (i:Nat) (x:Str),X.N[i]?=some x→Vis X.env.scope x→σ'[i]?=σ[i]?):Inv X pins σ' H s:=by
 obtain ⟨m,hm,hv⟩:=I.loc
 exact ⟨I.ok,I.os,I.bare,I.base,⟨m,hm,fun i x v e1 e2 e3=>hv i x v e1 (by rw [← h i x e1 e3]; exact e2) e3⟩,I.cell,I.free,I.freeC,I.pin,I.hok,by rw [hl]; exact I.len⟩
theorem pss_ghost {X:Cx} {b:List Stmt} {t:TS} (h:PSs X b t):PSs X b (fun D σ H=>∃ σ',σ'.length=σ.length∧(∀ (i:Nat) (x:Str),X.N[i]?=some x→Vis X.env.scope x→σ'[i]?=σ[i]?)∧t D σ' H):=fun pins s σ H D I q1=>by
 obtain ⟨σ',e1,e2,q⟩:=q1
 exact h pins s σ' H D (inv_ghost I e1 e2) q
section
variable {K:PySem.W.Frag}
def adOf (ls:List Nat) (ads:List Addr) (i:Nat):Option Addr:=(ls.zip ads).lookup i
theorem look_nd2 {α β:Type} [BEq α] [LawfulBEq α] {i:α} {a:β}:∀ {l:List (α×β)},(l.map (·.1)).Nodup→(i,a)∈l→l.lookup i=some a
 | [],_,h=>absurd h List.not_mem_nil
 | (b,z) :: l,nd,h=>by
  obtain ⟨n1,n2⟩:=List.nodup_cons.mp nd
  rw [List.lookup_cons]
  rcases List.mem_cons.mp h with y | y
  ·cases y; simp
  ·have:i≠b:=fun y2=>n1 (List.mem_map.mpr ⟨_,y,y2⟩)
   rw [beq_eq_false_iff_ne.mpr this]
   exact look_nd2 n2 y
theorem look_in {α β:Type} [BEq α] [LawfulBEq α] {i:α} {a:β}:∀ {l:List (α×β)},l.lookup i=some a→(i,a)∈l
 | [],h=>by simp at h
 | (b,z) :: l,h=>by
  rw [List.lookup_cons] at h
  split at h
  ·rename_i e; cases h; rw [beq_iff_eq.mp e]; exact List.mem_cons_self
  ·exact List.mem_cons_of_mem _ (look_in h)
theorem zip_fst {α β:Type}:∀ {xs:List α} {ys:List β},ys.length=xs.length→(xs.zip ys).map (·.1)=xs
 | [],[],_=>rfl
 | x :: xs,y :: ys,h=>by rw [List.zip_cons_cons,List.map_cons,zip_fst (Nat.succ.inj h)]
 | x :: xs,[],h=>by cases h
 | [],y :: ys,h=>by cases h
theorem zip_get {α β:Type} {k:Nat} {x:α} {y:β} {xs:List α} {ys:List β} (h1:xs[k]?=some x) (h2:ys[k]?=some y):(x,y)∈xs.zip ys:=by
 refine List.mem_of_getElem? (i:=k) ?_
 rw [List.getElem?_zip_eq_some]
 exact ⟨h1,h2⟩
theorem zip_ex {α β:Type} {x:α} {y:β} {xs:List α} {ys:List β} (h:(x,y)∈xs.zip ys):∃ k:Nat,xs[k]?=some x∧ys[k]?=some y:=by
 obtain ⟨k,hk⟩:=List.getElem?_of_mem h
 rw [List.getElem?_zip_eq_some] at hk
 exact ⟨k,hk⟩
theorem get_lt {α:Type} {xs:List α} {k:Nat} (h:k < xs.length):∃ x,xs[k]?=some x:=⟨_,List.getElem?_eq_getElem h⟩
def stX (N:List Str) (vs:List V) (ls:List Nat) (ads:List Addr):L2.St:=(List.range N.length).map fun i=>match vs[i]? with
 | some x=>some x
 | none=>(adOf ls ads i).map V.ref
theorem stX_get {N:List Str} {vs:List V} {ls:List Nat} {ads:List Addr} {i:Nat} (h:i < N.length):(stX N vs ls ads)[i]?=some (match vs[i]? with
 | some x=>some x
 | none=>(adOf ls ads i).map V.ref):=by
 unfold stX
 rw [List.getElem?_map,List.getElem?_range h]; rfl
theorem iv_startX {S H:Hp} {args:List FV} {vs:List V} {ls:List Nat} {ads:List Addr} {d:Df} {nv np ns:Nat} (h:ArgsX K S H args vs ls ads) (hs:Same S H) (hn:args.length=np) (hv:vs.length=nv) (O:OkX d ls nv np ns) :
  Iv K ⟨H,S,none,[],[],ls.zip ads⟩ d.md (args.map some++List.replicate (ns - np) none) (stX d.N vs ls ads) S H:=by
 have look:∀ i v,(args.map some++List.replicate (ns - np) none)[i]?=some (some v)→args[i]?=some v∧i < np:=fun i v e=>by
  by_cases hi:i < args.length
  ·rw [List.getElem?_append_left (by rw [List.length_map]; exact hi),List.getElem?_map] at e
   cases ea:args[i]? with
   | none=>rw [ea] at e; cases e
   | some q=>rw [ea] at e; cases e; exact ⟨rfl,by lia⟩
  ·rw [List.getElem?_append_right (by rw [List.length_map]; lia),List.getElem?_replicate] at e
   split at e <;> cases e
 have nn:np≤d.N.length:=by rw [← O.nsE]; exact O.le2
 have ow:∀ i v,mdAt d.md i≠.imm→(args.map some++List.replicate (ns - np) none)[i]?=some (some v)→i∈ls∧∃ (k:Nat) (a:Addr),ls[k]?=some i∧ads[k]?=some a∧(stX d.N vs ls ads)[i]?=some (some (.ref a))∧OwnAt K S H a v:=fun i v hm e=>by
  obtain ⟨ea,hi⟩:=look i v e
  have m:=O.md i hi
  have hl:i∈ls:=by
   by_cases z:i∈ls
   ·exact z
   ·rw [if_neg z] at m; exact absurd m hm
  obtain ⟨k,hk⟩:=List.getElem?_of_mem hl
  obtain ⟨a,e1,o,e2⟩:=h.own k i v hk ea
  refine ⟨hl,k,a,hk,e1,?_,o⟩
  rw [stX_get (Nat.lt_of_lt_of_le hi nn)]
  cases q:vs[i]? with
  | some x=>rw [e2 x q]
  | none =>
   show some ((adOf ls ads i).map V.ref)=_
   unfold adOf
   rw [look_nd2 (by rw [zip_fst h.len]; exact O.nd) (zip_get hk e1)]
   rfl
 have gm:∀ i,i∈ls→mdAt d.md i=lm0:=fun i hi=>by rw [O.md i (O.lt i hi),if_pos hi]
 refine ⟨?_,fun i v hm e=>?_,fun i v hm e=>?_,fun i j v w a m1 m2 e1 e2 f1 f2=>?_,hs,fun a o e _ _=>e,Same.refl S,fun a o e=>.inl e,(fun a e=>(nomatch e)),fun p hp=>absurd hp List.not_mem_nil,fun i v hf e=>?_,fun p hp=>absurd hp List.not_mem_nil,fun p hp=>absurd hp List.not_mem_nil,fun p hp=>absurd hp List.not_mem_nil,fun q hq=>?_,fun j i x C dx fs v h1 h2 h3 h4=>absurd h2 (O.ob i)⟩
 ·unfold stX
  rw [List.length_append,List.length_map,List.length_replicate,List.length_map,List.length_range,← O.nsE,hn]
  have:=O.le2; lia
 ·obtain ⟨ea,hi⟩:=look i v e
  have hl:i ∉ ls:=fun z=>by rw [gm i z] at hm; cases hm
  obtain ⟨x,e1,r⟩:=h.val i v hl ea
  refine ⟨x,?_,r⟩
  rw [stX_get (Nat.lt_of_lt_of_le hi nn),e1]
 ·obtain ⟨hl,k,a,e1,e2,e3,o⟩:=ow i v hm e
  exact ⟨a,e3,o,.inr (.inr ⟨i,zip_get e1 e2⟩)⟩
 ·obtain ⟨hl,k,b,g1,g2,g3,_⟩:=ow i v m1 e1
  obtain ⟨hl2,k2,b2,g4,g5,g6,_⟩:=ow j w m2 e2
  rw [f1] at g3; cases g3
  rw [f2] at g6; cases g6
  have hk:k < ads.length:=(List.getElem?_eq_some_iff.mp g2).1
  have:=(List.getElem?_inj hk h.nd).mp (g2.trans g5.symm)
  subst this
  rw [g1] at g4; exact Option.some.inj g4
 ·obtain ⟨hl,_⟩:=ow i v (fun z=>by rw [z] at hf; cases hf) e
  rw [gm i hl] at hf; cases hf
 ·obtain ⟨i,a⟩:=q
  obtain ⟨k,e1,e2⟩:=zip_ex hq
  have hl:=List.mem_of_getElem? e1
  have hi:=O.lt i hl
  obtain ⟨v,ea⟩:=get_lt (xs:=args) (k:=i) (by rw [hn]; exact hi)
  have el:(args.map some++List.replicate (ns - np) none)[i]?=some (some v):=by
   rw [List.getElem?_append_left (by rw [List.length_map,hn]; exact hi),List.getElem?_map,ea]; rfl
  obtain ⟨_,k2,b,g1,g2,g3,_⟩:=ow i v (fun z=>by rw [gm i hl] at z; cases z) el
  have:k=k2:=by
   have hk:k < ls.length:=(List.getElem?_eq_some_iff.mp e1).1
   exact (List.getElem?_inj hk O.nd).mp (e1.trans g1.symm)
  subst this
  rw [e2] at g2; cases g2
  exact ⟨by rw [gm i hl]; rfl,g3,v,el⟩
end
section
variable {K:PySem.W.Frag}{c:Cn}{md:Md}{L L':FLoc}{σ:L2.St}{S H S' H':Hp}
theorem mapO_at {α β:Type} {f:α→Option β}:∀ {xs:List α} {ys:List β},mapO f xs=some ys→ys.length=xs.length∧∀ (k:Nat) (x:α),xs[k]?=some x→∃ y,ys[k]?=some y∧f x=some y
 | [],ys,h=>by cases h; exact ⟨rfl,fun k x e=>by simp at e⟩
 | x :: xs,ys,h=>by
  obtain ⟨y,e1,h⟩:=bnd (show (f x).bind (fun y=>(mapO f xs).map (y :: ·))=some ys from h)
  obtain ⟨zs,e2,rfl⟩:=mpd h
  obtain ⟨l,g⟩:=mapO_at e2
  refine ⟨congrArg (· + 1) l,fun k z e=>?_⟩
  cases k with
  | zero=>cases e; exact ⟨y,rfl,e1⟩
  | succ k=>exact g k z e
theorem setsF_get:∀ {is:List Nat} {vs:List FV} {L L':FLoc},setsF L is vs=some L'→is.Nodup→L'.length=L.length∧vs.length=is.length∧(∀ j,j ∉ is→L'[j]?=L[j]?)∧∀ (k i:Nat),is[k]?=some i→i < L.length→∃ v,vs[k]?=some v∧L'[i]?=some (some v)
 | [],[],L,L',h,_=>by cases h; exact ⟨rfl,rfl,fun _ _=>rfl,fun k i e=>by simp at e⟩
 | [],v :: vs,L,L',h,_=>by cases h
 | i :: is,[],L,L',h,_=>by cases h
 | i :: is,v :: vs,L,L',h,nd=>by
  obtain ⟨n1,n2⟩:=List.nodup_cons.mp nd
  obtain ⟨g1,g2,g3,g4⟩:=setsF_get (show setsF (L.set i (some v)) is vs=some L' from h) n2
  rw [List.length_set] at g1
  refine ⟨g1,congrArg (· + 1) g2,fun j hj=>?_,fun k j e hl=>?_⟩
  ·have hj:=not_or.mp (fun z=>hj (List.mem_cons.mpr z))
   rw [g3 j hj.2,List.getElem?_set_ne (Ne.symm hj.1)]
  ·cases k with
   | zero =>
    cases e
    exact ⟨v,rfl,by rw [g3 i n1,List.getElem?_set_self hl]⟩
   | succ k=>exact g4 k j e (by rw [List.length_set]; exact hl)
theorem Iv.backM (I:Iv K c md L σ S H) (js:List Nat) (ads:List Addr) (m:∀ j∈js,(mdAt md j).w=true) (e:∀ (k j:Nat),js[k]?=some j→∃ a v,ads[k]?=some a∧L[j]?=some (some v)∧σ[j]?=some (some (.ref a)))
  (al:ads.length=js.length) (hl:L'.length=L.length) (ho:∀ j,j ∉ js→L'[j]?=L[j]?) (hn:∀ (k j:Nat) (a:Addr),js[k]?=some j→ads[k]?=some a→∃ w,L'[j]?=some (some w)∧OwnAt K S' H' a w)
  (s:Same S S') (sub:Same S' H') (g:∀ a o,S' a=some o→S a=some o ∨ H a=none ∨ isTup o=true) (kk:∀ b o,H b=some o→b ∉ ads→H' b=some o) (ob:∀ i,mdAt md i≠.ob):Iv K c md L' σ S' H':=by
 have at_:∀ j∈js,∃ k a v,js[k]?=some j∧ads[k]?=some a∧L[j]?=some (some v)∧σ[j]?=some (some (.ref a)):=fun j hj=>by
  obtain ⟨k,hk⟩:=List.getElem?_of_mem hj
  obtain ⟨a,v,h⟩:=e k j hk
  exact ⟨k,a,v,hk,h⟩
 have adm:∀ a∈ads,∃ k j v,js[k]?=some j∧ads[k]?=some a∧L[j]?=some (some v)∧σ[j]?=some (some (.ref a))∧j∈js:=fun a ha=>by
  obtain ⟨k,hk⟩:=List.getElem?_of_mem ha
  obtain ⟨j,hj⟩:=get_lt (xs:=js) (k:=k) (by rw [← al]; exact (List.getElem?_eq_some_iff.mp hk).1)
  obtain ⟨b,v,h1,h2,h3⟩:=e k j hj
  rw [hk] at h1; cases h1
  exact ⟨k,j,v,hj,hk,h2,h3,List.mem_of_getElem? hj⟩
 have ni:∀ j∈js,mdAt md j≠.imm:=fun j hj=>Mo.w_imm (m j hj)
 have look:∀ j u,L'[j]?=some (some u)→∃ u',L[j]?=some (some u'):=fun j u z=>by
  by_cases q:j∈js
  ·obtain ⟨k,a,v,_,_,h,_⟩:=at_ j q; exact ⟨v,h⟩
  ·rw [ho j q] at z; exact ⟨u,z⟩
 have lookx:∀ j,(∃ u,L[j]?=some (some u))→∃ u,L'[j]?=some (some u):=fun j h=>by
  obtain ⟨u,z⟩:=h
  by_cases q:j∈js
  ·obtain ⟨k,a,v,h1,h2,_⟩:=at_ j q
   obtain ⟨w,h3,_⟩:=hn k j a h1 h2
   exact ⟨w,h3⟩
  ·exact ⟨u,by rw [ho j q]; exact z⟩
 have far:∀ j u b,j ∉ js→mdAt md j≠.imm→L[j]?=some (some u)→σ[j]?=some (some (.ref b))→b ∉ ads:=fun j u b hj hm z f1 hb=>by
  obtain ⟨k,i,v,_,_,h1,h2,h3⟩:=adm b hb
  exact hj (by rw [I.dis j i u v b hm (ni i h3) z h1 f1 h2]; exact h3)
 have sN:∀ {b o},S b=none→H b=some o→b ∉ ads→isTup o=false→S' b=none:=fun {b o} h1 h2 h3 h4=>by
  cases q:S' b with
  | none=>rfl
  | some o' =>
   rcases g b o' q with z | z | z
   ·rw [h1] at z; cases z
   ·rw [h2] at z; cases z
   ·have:=sub b o' q
    rw [kk b _ h2 h3] at this
    rw [← Option.some.inj this,h4] at z; cases z
 refine ⟨by rw [hl]; exact I.len,fun j u hm z=>?_,fun j u hm z=>?_,fun j k u u2 b m1 m2 z1 z2=>?_,sub,fun b o z n n1=>?_,I.s0.trans s,fun b o z=>(g b o z).elim (I.grow b o) fun z=>z.elim (fun z=>.inr (.inl (I.h0 z))) fun z=>.inr (.inr z),fun b z=>?_,fun p hp=>?_,fun j u hm z=>?_,I.fzp,fun p hp=>?_,I.ntp,fun q hq=>?_,fun j i x C dx fs u h1 h2 h3 h4=>absurd h2 (ob i)⟩
 ·by_cases q:j∈js
  ·exact absurd hm (ni j q)
  ·rw [ho j q] at z
   obtain ⟨x,f1,f2⟩:=I.imm j u hm z
   exact ⟨x,f1,f2.mono s⟩
 ·by_cases q:j∈js
  ·obtain ⟨k,a,v,h1,h2,h3,h4⟩:=at_ j q
   obtain ⟨w,h5,o⟩:=hn k j a h1 h2
   rw [h5] at z; cases z
   obtain ⟨b,f1,_,f3⟩:=I.own j v hm h3
   rw [h4] at f1; cases f1
   exact ⟨a,h4,o,f3⟩
  ·rw [ho j q] at z
   obtain ⟨b,f1,⟨g1,rs,zs,g2,g3,g4⟩,g5⟩:=I.own j u hm z
   have hb:=far j u b q hm z f1
   exact ⟨b,f1,⟨sN g1 g3 hb (ownH_nt _ _),rs,zs,g2,kk b _ g3 hb,g4.mono s⟩,g5⟩
 ·obtain ⟨w',z1⟩:=look j u z1
  obtain ⟨u',z2⟩:=look k u2 z2
  exact I.dis j k w' u' b m1 m2 z1 z2
 ·refine kk b o (I.frame b o z n n1) fun y=>?_
  obtain ⟨k,i,v,_,_,h1,h2,h3⟩:=adm b y
  obtain ⟨b',f1,_,f3⟩:=I.own i v (ni i h3) h1
  rw [h2] at f1; cases f1
  rcases f3 with f3 | f3 | ⟨j,f3⟩
  ·exact n f3
  ·rw [z] at f3; cases f3
  ·exact n1 j f3
 ·obtain ⟨g1,g2,g3⟩:=I.lent b z
  exact ⟨g1,g2,lookx 0 g3⟩
 ·obtain ⟨g1,g2,g4⟩:=I.fzs p hp
  exact ⟨g1,g2,lookx _ g4⟩
 ·by_cases q:j∈js
  ·exact absurd hm (Mo.w_frz (m j q))
  ·rw [ho j q] at z; exact I.fzm j u hm z
 ·obtain ⟨g1,g2,g3⟩:=I.prs p hp
  have hb:p.1 ∉ ads:=fun y=>by
   obtain ⟨k,i,v,_,_,h1,h2,h3⟩:=adm _ y
   exact g3 i v (m i h3) h1 h2
  exact ⟨kk _ _ g1 hb,sN g2 g1 hb (I.ntp p hp),fun j u hm z=>let ⟨u',z'⟩:=look j u z; g3 j u' hm z'⟩
 ·obtain ⟨g1,g2,g3⟩:=I.lnt1 q hq
  exact ⟨g1,g2,lookx _ g3⟩
end
def eCallX (call:CW) (f:Nat) (is:List Nat) (m:Nat) (as:AW) (gs:List Nat):EW:=fun L Q=>wp (mapO (lk L) is) fun _=>as L fun xs L1=>xs.length=m∧wp (mapO (lk L1) is) fun us=>wp (mapO (lk L1) gs) fun ws=>call f (us++xs++ws) fun z=>wp (unX z.1) fun p=>wp (setsF L1 (is++gs) p.2) fun L2=>Q p.1 L2
def refsX (σ:L2.St) (is:List Nat):Option (List V):=mapO (fun i=>(σ[i]?).join) is
inductive lax (K:PySem.W.Frag) (md:Md) (is:List Nat) (e:AW) (σ:L2.St) (H:Hp) (Q:List V→Hp→Prop):Prop
 | mk (c:_) (L:_) (S:_) (Q0:_) (_:Iv K c md L σ S H) (_:e L Q0) (_:∀ i∈is,∃ v,lk L i=some v) (_:∀ v L',Q0 v L'→∀ x S' H',RVs K S' v x→Iv K c md L' σ S' H'→Same S S'→∀ rs,refsX σ is=some rs→Q (rs++x) H'):lax K md is e σ H Q
def FAX (X:Cx) (C:CC) (xs:List Expr) (is:List Nat) (e:AW):Prop:=PA X.nox xs (lax X.K C.md is e)
def okCall (md:Md) (is gs ls:List Nat) (m nv:Nat):Bool:=(is++gs).all (fun i=>(mdAt md i).w) && decide ((is++gs).Nodup) && decide (ls=List.range is.length++(List.range gs.length).map (· + (is.length + m))) && decide (nv=is.length + m) && md.all (fun m=>decide (m≠.ob))
section
variable {X:Cx}{C:CC}{n:Nat}{sp:PySem.W.Frag→Nat→Sp}{a:Expr}{pos p:Pos}{call:CW}{f m nv:Nat}{nx:Str}{xs:List Expr}{as:AW}{is gs ls:List Nat}
theorem fax_of (h:FA X C xs as):FAX X C xs [] as:=PA.imp h fun σ H Q q1=>by
 obtain ⟨c,L,S,Q0,I,h,_,k⟩:=q1
 exact ⟨c,L,S,Q0,I,h,fun v L' q x S' H' r I' s=>k v L' q x S' H' r I' s [] rfl⟩
theorem ads_ex {K:PySem.W.Frag} {c:Cn} {md:Md} {L:FLoc} {σ:L2.St} {S H:Hp} (I:Iv K c md L σ S H):∀ {js:List Nat},(∀ j∈js,mdAt md j≠.imm)→(∀ j∈js,∃ v,lk L j=some v)→∃ ads:List Addr,ads.length=js.length∧∀ (k j:Nat),js[k]?=some j→∃ a v,ads[k]?=some a∧L[j]?=some (some v)∧σ[j]?=some (some (.ref a))∧OwnAt K S H a v
 | [],_,_=>⟨[],rfl,fun k j e=>by simp at e⟩
 | j :: js,hm,h=>by
  obtain ⟨ads,l,g⟩:=ads_ex I (js:=js) (fun j hj=>hm j (List.mem_cons_of_mem _ hj)) fun j hj=>h j (List.mem_cons_of_mem _ hj)
  obtain ⟨v,e⟩:=h j List.mem_cons_self
  obtain ⟨a,e1,o,_⟩:=I.own j v (hm j List.mem_cons_self) ((lk_eq _ _ _).mp e)
  refine ⟨a :: ads,congrArg (· + 1) l,fun k i hk=>?_⟩
  cases k with
  | zero=>cases hk; exact ⟨a,v,rfl,(lk_eq _ _ _).mp e,e1,o⟩
  | succ k=>exact g k i hk
theorem fe_callX (G:Good X C n sp) (e:sp X.K f=spX X.K call ls nv f) (hf:C.fns[f]?=some nx) (hg:C.gl nx=true) (hd:(nx == ("__debug__":Str))=false) (hs:noStars (a :: xs)=true) (hx:okCall C.md is gs ls m nv=true) (ha:FAX X C (a :: xs) is as):FE X C (.Call (.Name nx p) (a :: xs) [] pos) (eCallX call f is m as gs) :=
 PE.imp (call_go G hf hg hd hs ha) fun σ H Q q1=>by
  obtain ⟨c,L,S,Q0,I,h,k⟩:=q1
  have h0:=b2 hx; have h1:=b2 h0.1; have h2:=b2 h1.1; have h3:=b2 h2.1
  have hw:=List.all_eq_true.mp h3.1; have nd:=de h3.2; have hls:=de h2.2; have hnv:=de h1.2; have ob:=md_all h0.2
  obtain ⟨us0,e0,h⟩:=wpx h
  obtain ⟨l0,g0⟩:=mapO_at e0
  refine ⟨c,L,S,_,I,h,fun i hi=>?_,fun xs L1 hv x S1 H1 r1 I1 s1 rs hrs=>?_⟩
  ·obtain ⟨k,hk⟩:=List.getElem?_of_mem hi
   obtain ⟨v,_,e⟩:=g0 k i hk
   exact ⟨v,e⟩
  rw [e]
  obtain ⟨hm,hv⟩:=hv
  obtain ⟨us,e1,hv⟩:=wpx hv
  obtain ⟨ws,e2,hv⟩:=wpx hv
  obtain ⟨l1,g1⟩:=mapO_at e1
  obtain ⟨l2,g2⟩:=mapO_at e2
  obtain ⟨l3,g3⟩:=mapO_at hrs
  have xl:=r1.length
  have ow:∀ j∈is++gs,mdAt C.md j≠.imm:=fun j hj=>Mo.w_imm (hw j hj)
  obtain ⟨ads,l4,g4⟩:=ads_ex I1 ow fun j hj=>by
   rcases List.mem_append.mp hj with z | z
   ·obtain ⟨k,hk⟩:=List.getElem?_of_mem z
    obtain ⟨v,_,e⟩:=g1 k j hk; exact ⟨v,e⟩
   ·obtain ⟨k,hk⟩:=List.getElem?_of_mem z
    obtain ⟨v,_,e⟩:=g2 k j hk; exact ⟨v,e⟩
  rw [List.length_append] at l4
  have hlsl:ls.length=is.length + gs.length:=by rw [hls]; simp
  refine ⟨S1,us++xs++ws,_,ads,I1.sub,⟨fun i v hi hv=>?_,fun k i v hk hv=>?_,?_,by rw [l4,hlsl]⟩,by rw [List.length_append,l3,← xl,hm,hnv],hv,fun z q v ws' hz y S' H' kp r=>?_⟩
  ·have n1:¬ i < is.length:=fun z=>hi (by rw [hls]; exact List.mem_append_left _ (List.mem_range.mpr z))
   have n2:i < is.length + m:=by
    refine Classical.byContradiction fun z=>hi ?_
    rw [hls]
    refine List.mem_append_right _ (List.mem_map.mpr ⟨i - (is.length + m),List.mem_range.mpr ?_,by lia⟩)
    have:=(List.getElem?_eq_some_iff.mp hv).1
    rw [List.length_append,List.length_append,l1,l2,hm] at this
    lia
   rw [List.getElem?_append_left (by rw [List.length_append,l1,hm]; exact n2),List.getElem?_append_right (by rw [l1]; lia),l1] at hv
   obtain ⟨y,e3,r⟩:=r1.get hv
   refine ⟨y,?_,r⟩
   rw [List.getElem?_append_right (by rw [l3]; lia),l3]; exact e3
  ·have hkl:k < ls.length:=(List.getElem?_eq_some_iff.mp hk).1
   rw [hls] at hk
   by_cases hkk:k < is.length
   ·rw [List.getElem?_append_left (by rw [List.length_range]; exact hkk),List.getElem?_range hkk] at hk
    cases hk
    obtain ⟨j,hj⟩:=get_lt (xs:=is) hkk
    obtain ⟨w,e3,e4⟩:=g1 k j hj
    rw [List.append_assoc,List.getElem?_append_left (by rw [l1]; exact hkk),e3] at hv
    cases hv
    obtain ⟨b,v2,f1,f2,f3,o⟩:=g4 k j (by rw [List.getElem?_append_left hkk]; exact hj)
    rw [(lk_eq _ _ _).mp e4] at f2; cases f2
    refine ⟨b,f1,o,fun y hy=>?_⟩
    obtain ⟨y2,e5,e6⟩:=g3 k j hj
    rw [List.getElem?_append_left (by rw [l3]; exact hkk),e5] at hy
    cases hy
    rw [f3] at e6; cases e6; rfl
   ·rw [List.getElem?_append_right (by rw [List.length_range]; lia),List.length_range,List.getElem?_map] at hk
    have hg':k - is.length < gs.length:=by lia
    rw [List.getElem?_range hg'] at hk
    obtain rfl:k - is.length + (is.length + m)=i:=Option.some.inj hk
    obtain ⟨j,hj⟩:=get_lt (xs:=gs) hg'
    obtain ⟨w,e3,e4⟩:=g2 _ j hj
    rw [List.getElem?_append_right (by rw [List.length_append,l1,hm]; lia),List.length_append,l1,hm,show k - is.length + (is.length + m) - (is.length + m)=k - is.length by lia,e3] at hv
    cases hv
    obtain ⟨b,v2,f1,f2,f3,o⟩:=g4 k j (by rw [List.getElem?_append_right (by lia)]; exact hj)
    rw [(lk_eq _ _ _).mp e4] at f2; cases f2
    refine ⟨b,f1,o,fun y hy=>?_⟩
    have:=(List.getElem?_eq_some_iff.mp hy).1
    rw [List.length_append,l3,← xl,hm] at this
    lia
  ·refine List.pairwise_iff_getElem.mpr fun k1 k2 hk1 hk2 hlt z=>?_
   have z:ads[k1]?=ads[k2]?:=by rw [List.getElem?_eq_getElem hk1,List.getElem?_eq_getElem hk2,z]
   obtain ⟨j1,h1⟩:=get_lt (xs:=is++gs) (k:=k1) (by rw [List.length_append]; lia)
   obtain ⟨j2,h2⟩:=get_lt (xs:=is++gs) (k:=k2) (by rw [List.length_append]; lia)
   obtain ⟨a1,v1,f1,f2,f3,_⟩:=g4 k1 j1 h1
   obtain ⟨a2,v2,f4,f5,f6,_⟩:=g4 k2 j2 h2
   rw [f1,f4] at z; cases z
   have:=I1.dis j1 j2 v1 v2 a1 (ow _ (List.mem_of_getElem? h1)) (ow _ (List.mem_of_getElem? h2)) f2 f5 f3 f6
   subst this
   have:=(List.getElem?_inj (i:=k1) (by rw [List.length_append]; lia) nd).mp (h1.trans h2.symm)
   lia
  ·obtain ⟨pp,e5,q⟩:=wpx q
   rw [hz] at e5; cases e5
   obtain ⟨L2,e6,q⟩:=wpx q
   obtain ⟨t1,t2,t3,t4⟩:=setsF_get e6 nd
   refine k v L2 q y S' H' r (I1.backM (is++gs) ads (fun j hj=>hw j hj) (fun k j hk=>?_) (by rw [l4,List.length_append]) t1 t3 (fun k j a hk ha=>?_) kp.same kp.sub kp.grow kp.keep ob) (s1.trans kp.same)
   ·obtain ⟨b,v2,f1,f2,f3,_⟩:=g4 k j hk; exact ⟨b,v2,f1,f2,f3⟩
   ·obtain ⟨b,v2,f1,f2,f3,_⟩:=g4 k j hk
    obtain ⟨w,h1,h2⟩:=t4 k j hk (List.getElem?_eq_some_iff.mp f2).1
    obtain ⟨w2,h3,o⟩:=kp.back k a ha
    have h1:ws'[k]?=some w:=h1
    rw [h3] at h1; cases h1
    exact ⟨w,h2,o⟩
def lsOf (is:List Nat) (m:Nat) (gs:List Nat):List Nat:=List.range is.length++(List.range gs.length).map (· + (is.length + m))
def okX (md:Md) (is gs:List Nat):Bool:=(is++gs).all (fun i=>(mdAt md i).w) && decide ((is++gs).Nodup) && md.all (fun m=>decide (m≠.ob))
theorem fe_callX' (G:Good X C n sp) (e:sp X.K f=spX X.K call (lsOf is m gs) (is.length + m) f) (hf:C.fns[f]?=some nx) (hg:C.gl nx=true) (hd:(nx == ("__debug__":Str))=false) (hs:noStars (a :: xs)=true) (hx:okX C.md is gs=true) (ha:FAX X C (a :: xs) is as):FE X C (.Call (.Name nx p) (a :: xs) [] pos) (eCallX call f is m as gs) :=
 fe_callX G e hf hg hd hs (by
  have h0:=b2 hx; have h1:=b2 h0.1
  unfold okCall lsOf
  simp only [h1.1,h1.2,h0.2,decide_true,Bool.and_self]) ha
end
section
variable {P:Program}{w:World}{K:PySem.W.Frag}{mg:Str→Option Value}{base:Heap}{tb:List FD}{lxs:LXs}{fns:Fns}
theorem fn_stepG {d f:Nat} {fa:Addr} {fdd:FuncData} {df:Df} {fd:FD} {nm qu:Str} (e0:spL tb lxs (callW tb (d + 1)) K f=spQ K (callW tb (d + 1)) fd.io fd.fr f) (F:Fun K nm qu df.st fa fdd) (hf:tb[f]?=some fd) (hok:df.ok fd.np fd.ns fd.io=true)
  (hb:∀ X call n,Good X (df.cc fns) n (spL tb lxs call)→FSs X (df.cc fns) fd.fr (defBody df.st) (fd.body call))
  (fnsOk:∀ (f:Nat) (x:Str),fns.f[f]?=some x→∃ fa fd ps,mg x=some (.ref fa)∧PySem.W.keepIn K (.ref fa)=true∧Binds K fd ps []∧FnOk P w K mg base CX0 d fa fd ps (spL tb lxs (callW tb d) K f))
  (blt:∀ b∈bltNames,mg (Str.ofString b)=none) (mtsOk:∀ (k:Nat) (c:Str) (Ca:Addr) (m:Str),fns.ms[k]?=some (c,Ca,m)→MtOk P w K mg base d (spL tb lxs (callW tb d) K (fns.f.length + k)) c Ca m) (fl:∀ p∈fns.fl,Cls K p.1∧NoAttr K p.1 p.2):FnOk P w K mg base CX0 (d + 1) fa fdd df.ps (spL tb lxs (callW tb (d + 1)) K f):=by
 obtain ⟨S,hnp,hns,hmd⟩:=Df.sc hok
 have run:∀ {args:List FV} {Q:FV×FV→Prop},callW tb (d + 1) f args Q→args.length=fd.np∧fd.body (callW tb d) (args.map some++List.replicate (fd.ns - fd.np) none) (endW fd.io fd.fr Q):=fun {args Q} h=>by
  have h:(match tb[f]? with
   | none=>False
   | some fd=>args.length=fd.np∧fd.body (callW tb d) (args.map some++List.replicate (fd.ns - fd.np) none) (endW fd.io fd.fr Q)):=h
  rw [hf] at h; exact h
 rw [e0]
 refine F.ok S (fun vs H Q E h=>?_) (fun cdv A outer s H vs Q E hr h=>?_)
 ·obtain ⟨S0,args,Q0,_,ao,hc,_⟩:=h
  rw [← ao.len,(run hc).1,hnp]
 ·obtain ⟨S0,args,Q0,hs,ao,hc,k⟩:=h
  obtain ⟨hl,hc⟩:=run hc
  have G:Good (cxOf CX0 P w K mg base df.N qu (defScope df.st) fa cdv A outer s H E) (df.cc fns) d (spL tb lxs (callW tb d)) :=
   ⟨rfl,rfl,S.kind,S.nd,rfl,fun _ _=>rfl,hr,fnsOk,blt,mtsOk,fl⟩
  refine ⟨_,hb _ _ _ G,_,_,S0,_,iv_start ao hs hl hns hmd,hc,fun fl L' q σ' S' H' I s'=>?_⟩
  have kp:∀ w,(fd.io=true→lk L' 0=some w)→Kept K S0 H S' H' (lentTo vs fd.io) w:=fun w hw=>⟨s',I.sub,I.grow,fun a o e n=>I.frame a o e n (fun _=>List.not_mem_nil),fun a e=>by
   have hio:fd.io=true:=by
    cases z:fd.io with
    | true=>rfl
    | false=>rw [z] at e; cases e
   obtain ⟨m0,e1,v,e2⟩:=I.lent a e
   obtain ⟨b,e3,o,_⟩:=I.own 0 v m0 e2
   rw [e1] at e3; cases e3
   have:=(lk_eq _ _ _).mp (hw hio)
   rw [e2] at this; cases this
   exact o⟩
  have fin:∀ v x,endW fd.io fd.fr Q0 (.ret v) L'→ResOk K S' H' H v x fd.fr→Q x H':=fun v x q r=>by
   cases hio:fd.io with
   | true =>
    rw [hio] at q
    obtain ⟨w,e1,q⟩:=wpx q
    exact k _ q x S' H' (kp w fun _=>e1) r
   | false =>
    rw [hio] at q
    exact k (v,.non) q x S' H' (kp .non fun z=>by rw [hio] at z; cases z) r
  cases fl with
  | next =>
   cases hfr:fd.fr with
   | true=>rw [hfr] at q; exact q.elim
   | false=>rw [hfr] at q; exact fin .non .non (by rw [hfr]; exact q) (by rw [hfr]; exact rfl)
  | ret v =>
   intro x r
   refine fin v x q ?_
   cases hfr:fd.fr with
   | true=>rw [hfr] at r; exact r
   | false=>rw [hfr] at r; exact r
  | brk=>exact q.elim
  | cont=>exact q.elim
theorem fn_lent {d f:Nat} {fa:Addr} {fdd:FuncData} {df:Df} {fd:FD} {nm qu:Str} {ls:List Nat} {nv:Nat} {b0:CW→SW} (F:Fun K nm qu df.st fa fdd) (hf:tb[f]?=some fd) (hx:lxs.lookup f=some (ls,nv)) (hio:fd.io=false) (hfr:fd.fr=false) (hb0:fd.body=fun call=>sLent ls (b0 call)) (hok:df.okX ls nv fd.np fd.ns=true)
  (hb:∀ X call n,Good X (df.cc fns) n (spL tb lxs call)→FSs X (df.cc fns) false (defBody df.st) (b0 call))
  (fnsOk:∀ (f:Nat) (x:Str),fns.f[f]?=some x→∃ fa fd ps,mg x=some (.ref fa)∧PySem.W.keepIn K (.ref fa)=true∧Binds K fd ps []∧FnOk P w K mg base CX0 d fa fd ps (spL tb lxs (callW tb d) K f))
  (blt:∀ b∈bltNames,mg (Str.ofString b)=none) (mtsOk:∀ (k:Nat) (c:Str) (Ca:Addr) (m:Str),fns.ms[k]?=some (c,Ca,m)→MtOk P w K mg base d (spL tb lxs (callW tb d) K (fns.f.length + k)) c Ca m) (fl:∀ p∈fns.fl,Cls K p.1∧NoAttr K p.1 p.2):FnOk P w K mg base CX0 (d + 1) fa fdd df.ps (spL tb lxs (callW tb (d + 1)) K f):=by
 have O:=Df.scX hok
 have e0:spL tb lxs (callW tb (d + 1)) K f=spX K (callW tb (d + 1)) ls nv f:=by unfold spL; rw [hx]
 have run:∀ {args:List FV} {Q:FV×FV→Prop},callW tb (d + 1) f args Q→args.length=fd.np∧b0 (callW tb d) (args.map some++List.replicate (fd.ns - fd.np) none) (lnEnd ls (endW false false Q)):=fun {args Q} h=>by
  have h:(match tb[f]? with
   | none=>False
   | some fd=>args.length=fd.np∧fd.body (callW tb d) (args.map some++List.replicate (fd.ns - fd.np) none) (endW fd.io fd.fr Q)):=h
  rw [hf] at h
  have h:args.length=fd.np∧fd.body (callW tb d) (args.map some++List.replicate (fd.ns - fd.np) none) (endW fd.io fd.fr Q):=h
  rw [hio,hfr,hb0] at h; exact h
 rw [e0]
 refine F.ok O.sc (fun vs H Q E h=>?_) (fun cdv A outer s H vs Q E hr h=>?_)
 ·obtain ⟨S0,args,Q0,ads,_,ao,hv,_⟩:=h
  rw [hv,O.nvE]
 ·obtain ⟨S0,args,Q0,ads,hs,ao,hv,hc,k⟩:=h
  obtain ⟨hl,hc⟩:=run hc
  have G:Good (cxOf CX0 P w K mg base df.N qu (defScope df.st) fa cdv A outer s H E) (df.cc fns) d (spL tb lxs (callW tb d)) :=
   ⟨rfl,rfl,O.sc.kind,O.sc.nd,rfl,fun _ _=>rfl,hr,fnsOk,blt,mtsOk,fl⟩
  have nn:vs.length≤df.N.length:=by rw [hv,← O.nsE]; exact Nat.le_trans O.le O.le2
  refine ⟨_,pss_ghost (hb _ _ _ G),stX df.N vs ls ads,?_,fun i x e1 e2=>?_,_,_,S0,_,iv_startX ao hs hl hv O,hc,fun fl L' q σ' S' H' I s'=>?_⟩
  ·unfold stX L2.start
   rw [List.length_map,List.length_range,List.length_append,List.length_map,List.length_replicate]; lia
  ·have e1:df.N[i]?=some x:=e1
   have e2:Vis (defScope df.st) x:=e2
   have hi:i < df.N.length:=(List.getElem?_eq_some_iff.mp e1).1
   rw [stX_get hi]
   unfold L2.start
   by_cases hv2:i < vs.length
   ·rw [List.getElem?_append_left (by rw [List.length_map]; exact hv2),List.getElem?_map,List.getElem?_eq_getElem hv2]; rfl
   ·rw [List.getElem?_append_right (by rw [List.length_map]; lia),List.getElem?_replicate,List.length_map,if_pos (by lia),List.getElem?_eq_none (by lia)]
    show some ((adOf ls ads i).map V.ref)=some none
    have:adOf ls ads i=none:=by
     unfold adOf
     refine Option.eq_none_iff_forall_not_mem.mpr fun b hb=>?_
     obtain ⟨k2,h1,_⟩:=zip_ex (look_in hb)
     have hl2:=List.mem_of_getElem? h1
     rcases O.gh i (O.lt i hl2) with z | ⟨_,z⟩
     ·lia
     ·rw [List.getD_eq_getElem?_getD,e1] at z
      have z:(defScope df.st).names.lookup x=none:=z
      unfold Vis at e2
      rw [z] at e2
      rcases e2 with e2 | e2 | e2 <;> cases e2
    rw [this]; rfl
  ·have kp:∀ ws,mapO (lk L') ls=some ws→KeptX K S0 H S' H' ads ws:=fun ws hw=>by
    obtain ⟨w1,w2⟩:=mapO_at hw
    refine ⟨s',I.sub,I.grow,fun a o e n=>I.frame a o e (fun z=>nomatch z) (fun j hj=>?_),fun k2 a ha=>?_,by rw [w1,ao.len]⟩
    ·obtain ⟨k2,_,h2⟩:=zip_ex (show (j,a)∈ls.zip ads from hj)
     exact n (List.mem_of_getElem? h2)
    ·obtain ⟨i,hi⟩:=get_lt (xs:=ls) (k:=k2) (by rw [← ao.len]; exact (List.getElem?_eq_some_iff.mp ha).1)
     obtain ⟨g,e1,v,e2⟩:=I.lnt1 (i,a) (zip_get hi ha)
     obtain ⟨b,e3,o,_⟩:=I.own i v (fun z=>by rw [z] at g; cases g) e2
     have e1:σ'[i]?=some (some (.ref a)):=e1
     rw [e1] at e3; cases e3
     obtain ⟨w3,e4,e5⟩:=w2 k2 i hi
     rw [(lk_eq _ _ _).mp e5] at e2; cases e2
     exact ⟨_,e4,o⟩
   cases fl with
   | next =>
    obtain ⟨ws,e1,q⟩:=wpx (show wp (mapO (lk L') ls) fun ws=>Q0 (.tup (.non :: ws),.non) from q)
    exact k _ q _ _ rfl _ S' H' (kp ws e1) rfl
   | ret v =>
    intro x r
    obtain ⟨ws,e1,q⟩:=wpx (show wp (mapO (lk L') ls) fun ws=>Q0 (.tup (v :: ws),.non) from q)
    exact k _ q _ _ rfl _ S' H' (kp ws e1) r
   | brk=>exact q.elim
   | cont=>exact q.elim
inductive DOk (fns:Fns) (tb:List FD) (lxs:LXs) (f:Nat) (df:Df) (fd:FD):Prop
 | std (_:lxs.lookup f=none) (_:Df.ok df fd.np fd.ns fd.io=true) (_:∀ X call n,Good X (df.cc fns) n (spL tb lxs call)→FSs X (df.cc fns) fd.fr (defBody df.st) (fd.body call)):DOk fns tb lxs f df fd
 | lent (ls:List Nat) (nv:Nat) (b0:CW→SW) (_:lxs.lookup f=some (ls,nv)) (_:fd.io=false) (_:fd.fr=false) (_:fd.body=fun call=>sLent ls (b0 call)) (_:df.okX ls nv fd.np fd.ns=true) (_:∀ X call n,Good X (df.cc fns) n (spL tb lxs call)→FSs X (df.cc fns) false (defBody df.st) (b0 call)):DOk fns tb lxs f df fd
theorem spL_std {call:CW} {f:Nat} (h:lxs.lookup f=none):spL tb lxs call K f=spT K tb call f:=by unfold spL; rw [h]
theorem fn_any {d f:Nat} {fa:Addr} {fdd:FuncData} {df:Df} {fd:FD} {nm qu:Str} (F:Fun K nm qu df.st fa fdd) (hf:tb[f]?=some fd) (h:DOk fns tb lxs f df fd)
  (fnsOk:∀ (f:Nat) (x:Str),fns.f[f]?=some x→∃ fa fd ps,mg x=some (.ref fa)∧PySem.W.keepIn K (.ref fa)=true∧Binds K fd ps []∧FnOk P w K mg base CX0 d fa fd ps (spL tb lxs (callW tb d) K f))
  (blt:∀ b∈bltNames,mg (Str.ofString b)=none) (mtsOk:∀ (k:Nat) (c:Str) (Ca:Addr) (m:Str),fns.ms[k]?=some (c,Ca,m)→MtOk P w K mg base d (spL tb lxs (callW tb d) K (fns.f.length + k)) c Ca m) (fl:∀ p∈fns.fl,Cls K p.1∧NoAttr K p.1 p.2):FnOk P w K mg base CX0 (d + 1) fa fdd df.ps (spL tb lxs (callW tb (d + 1)) K f):=by
 cases h with
 | std h0 h1 h2=>exact fn_stepG (by rw [spL_std h0]; unfold spT; rw [hf]) F hf h1 h2 fnsOk blt mtsOk fl
 | lent ls nv b0 h0 h1 h2 h3 h4 h5=>exact fn_lent F hf h0 h1 h2 h3 h4 h5 fnsOk blt mtsOk fl
theorem all_fnsL (blt:∀ b∈bltNames,mg (Str.ofString b)=none) (fl:∀ p∈fns.fl,Cls K p.1∧NoAttr K p.1 p.2)
  (D:∀ (f:Nat) (x:Str),fns.f[f]?=some x→∃ df fd fa fdd,tb[f]?=some fd∧DOk fns tb lxs f df fd∧Fun K (Str.ofString df.name) (Str.ofString df.name) df.st fa fdd∧mg x=some (.ref fa)∧Binds K fdd df.ps [])
  (DM:∀ (k:Nat) (c:Str) (Ca:Addr) (m:Str),fns.ms[k]?=some (c,Ca,m)→∃ df fd fa fdd nm qu,tb[fns.f.length + k]?=some fd∧DOk fns tb lxs (fns.f.length + k) df fd∧Fun K nm qu df.st fa fdd∧mg c=some (.ref Ca)∧Cls K Ca∧(m=("__init__":Str)→Mk K Ca fa)∧(m≠("__init__":Str)→Meth K Ca m fa)∧Binds K fdd df.ps []) :
  ∀ d:Nat,(∀ (f:Nat) (x:Str),fns.f[f]?=some x→∃ fa fd ps,mg x=some (.ref fa)∧PySem.W.keepIn K (.ref fa)=true∧Binds K fd ps []∧FnOk P w K mg base CX0 d fa fd ps (spL tb lxs (callW tb d) K f))∧∀ (k:Nat) (c:Str) (Ca:Addr) (m:Str),fns.ms[k]?=some (c,Ca,m)→MtOk P w K mg base d (spL tb lxs (callW tb d) K (fns.f.length + k)) c Ca m
 | 0=>by
  have no:∀ {f fd} vs H Q E,tb[f]?=some fd→¬ spL tb lxs (callW tb 0) K f vs H Q E:=fun {f fd} vs H Q E h1 z=>by
   unfold spL at z
   cases q:lxs.lookup f with
   | some p =>
    rw [q] at z
    obtain ⟨_,_,_,_,_,_,_,k,_⟩:=(show spXI K (callW tb 0) p.1 p.2 f vs H Q from z)
    exact k
   | none =>
    rw [q] at z
    have z:spT K tb (callW tb 0) f vs H Q E:=z
    unfold spT at z
    rw [h1] at z
    obtain ⟨_,_,_,_,_,k,_⟩:=z
    exact k
  refine ⟨fun f x h=>?_,fun k c Ca m h=>?_⟩
  ·obtain ⟨df,fd,fa,fdd,h1,h6,h3,h4,h5⟩:=D f x h
   exact ⟨fa,fdd,df.ps,h4,h3.kp,h5,fun vs H Q E z=>absurd z (no vs H Q E h1),fun A outer s H args us vs Q E _ _ _ _ z=>absurd z (no vs H Q E h1)⟩
  ·obtain ⟨df,fd,fa,fdd,nm,qu,h1,h6,h3,h4,h5,h7,h8,h9⟩:=DM k c Ca m h
   exact ⟨fa,fdd,df.ps,h4,h5,h7,h8,h9,fun vs H Q E z=>absurd z (no vs H Q E h1),fun A outer s H args us vs Q E _ _ _ _ z=>absurd z (no vs H Q E h1)⟩
 | d + 1=>by
  obtain ⟨r1,r2⟩:=all_fnsL blt fl D DM d
  refine ⟨fun f x h=>?_,fun k c Ca m h=>?_⟩
  ·obtain ⟨df,fd,fa,fdd,h1,h6,h3,h4,h5⟩:=D f x h
   exact ⟨fa,fdd,df.ps,h4,h3.kp,h5,fn_any h3 h1 h6 r1 blt r2 fl⟩
  ·obtain ⟨df,fd,fa,fdd,nm,qu,h1,h6,h3,h4,h5,h7,h8,h9⟩:=DM k c Ca m h
   exact ⟨fa,fdd,df.ps,h4,h5,h7,h8,h9,fn_any h3 h1 h6 r1 blt r2 fl⟩
theorem law_spL {d f:Nat} {H:Hp} {a:Addr} {ns:List Int} {fd:FD} (h0:lxs.lookup f=none) (hf:tb[f]?=some fd) (hio:fd.io=false) (hfr:fd.fr=false) (hO:Only H) (hS:SqL K H a (ns.map V.int)) (h:callW tb d f [.scr ns] fun z=>z.1=.bl true) :
  spL tb lxs (callW tb d) K f [.ref a] H (fun v _=>v=.bl true) fun _ _ _=>False:=by
 rw [spL_std h0]
 exact law_sp hf hio hfr hO hS h
end
def adrF:FV→Option Addr
 | .adr dx=>some dx
 | _=>none
def findG (Ca:Addr) (m:Str) (dx:Addr) (L:FLoc):List Nat→Option Nat
 | []=>none
 | j :: js=>match lk L j with
  | some (.obj C d fs _)=>if d=dx then (if C=Ca∧fs.lookup m=none then some j else none) else findG Ca m dx L js
  | _=>none
def eMethG (call:CW) (f:Nat) (js:List Nat) (Ca:Addr) (m:Str) (b:EW) (as:AW):EW:=fun L Q=>b L fun x L0=>wp (adrF x) fun dx=>wp (findG Ca m dx L0 js) fun j=>eCallO call f j as L0 Q
def notCall:Expr→Bool
 | .Call ..=>false
 | _=>true
def okG (md:Md) (js:List Nat):Bool:=js.all (fun i=>(mdAt md i).w) && md.all (fun m=>decide (m≠.ob))
theorem att_base {b:Expr} {m:Str} {env:Env} {w:Sem Value} (h:notCall b=true):attributeBase b m env w=w:=by
 cases b <;> first | rfl | (cases h; done)
section
variable {X:Cx}{H:Hp}{a Ca:Addr}{m:Str}{b:Expr}{tb:TE}{g:Addr}{k:Nat}{fd:FuncData}{ps:List Str}{sp:Sp}{CX:CXT}{E:XK}{e:Expr}{es:List Expr}{t:TA}{pos apos:Pos}
theorem meth_evalG {env : Env} {es : List Expr} (hb : notCall b = true) (hl : (apos.endLine == pos.line) = true) (hf : methodCallForm (es.length + ([] : List Keyword).length) (backTo pos (starEach es env)) (backToKw pos (keywordEach [] env)) = true) : ∃ pl : Sem Bool, eval (.Call (.Attribute b m apos) es [] pos) env = (do
      let ov ← eval b env
      standAt apos.atName
      let (f, first) ← holding [ov] (getMethod ov m pl)
      callWith pos f first (backTo pos (starEach es env)) (backToKw pos (keywordEach [] env))) := by
  refine ⟨(do
      let x ← importBound b env
      pure (x.getD true)), ?_⟩
  rw [arm_eval_Call]
  show (do
      let ov ← attributeBase b m env (eval b env)
      standAt apos.atName
      methodCall b m apos pos env ov (es.length + ([] : List Keyword).length) (backTo pos (starEach es env)) (backToKw pos (keywordEach [] env))) = _
  rw [att_base hb]
  unfold methodCall
  rw [hf]
  unfold methodCallPos calleeOf
  rw [show (!true || apos.endLine == pos.line) = true from hl]
  rfl
inductive IsI (H:Hp) (Ca:Addr) (m:Str) (x:V) (a:Addr):Prop
 | mk (dx:_) (fs:_) (gs:_) (_:x=.ref (dx + 1)) (_:H a=some (.big Ca dx fs gs)) (_:fs.lookup m=none):IsI H Ca m x a
theorem pe_methG {pl:Sem Bool} (ho:PE X b tb) (c:Cls X.K Ca) (hm:Meth X.K Ca m g) (F:FnOk X.prog X.w X.K X.mg X.base CX k g fd ps sp) (hr:Room k X.A) (hb:Binds X.K fd ps []) (hx:Passes CX X E) (ha:PA X (e :: es) t)
  (hst:starEach (e :: es) X.env=(false,eval e X.env) :: starEach es X.env) (hpl:(backTo pos (starEach es X.env)).any (·.1)=false)
  (ht:eval (.Call (.Attribute b m apos) (e :: es) [] pos) X.env=(do
   let ov ← eval b X.env
   standAt apos.atName
   let (f,first) ← holding [ov] (getMethod ov m pl)
   callWith pos f first (backTo pos (starEach (e :: es) X.env)) (backToKw pos (keywordEach [] X.env)))) :
  PE X (.Call (.Attribute b m apos) (e :: es) [] pos) (fun σ H Q=>tb σ H fun x H1=>∃ a,IsI H1 Ca m x a∧t σ H1 fun vs H2=>sp (.ref a :: vs) H2 Q E):=by
 intro pins s σ H Q I q
 refine PySem.W.methodCall_KW (pl:=pl) (thn (ho pins s σ H _ I q) fun u s1 ⟨x,H1,I1,rx,a,⟨dx,fs,gs,e1,h,l⟩,q⟩=>?_) ht
 have B:=big_of I1 h
 rw [e1,← B.ax] at rx
 obtain rfl:u=Value.ref a:=rx
 refine getmeth_ok (inv_opn I1 h) opn_a c hm l ?_
 refine PySem.W.callWith_K (first:=[.ref a]) (h₀:=X.base) I1.ok.mod.kin hm.kp (thn (ha pos pins s1 σ H1 _ I1 q) fun us s2 ⟨vs,H2,I2,r,q2⟩=>⟨I2.kIn,?_⟩) hst hpl
 exact run_fn (us:=.ref a :: us) (vs:=.ref a :: vs) F hr hb .nil hx I2 (.cons rfl r) (by rw [List.append_nil]; exact q2)
theorem pe_methG0 {pl:Sem Bool} (ho:PE X b tb) (c:Cls X.K Ca) (hm:Meth X.K Ca m g) (F:FnOk X.prog X.w X.K X.mg X.base CX k g fd ps sp) (hr:Room k X.A) (hb:Binds X.K fd ps []) (hx:Passes CX X E)
  (ht:eval (.Call (.Attribute b m apos) [] [] pos) X.env=(do
   let ov ← eval b X.env
   standAt apos.atName
   let (f,first) ← holding [ov] (getMethod ov m pl)
   callWith pos f first (backTo pos (starEach [] X.env)) (backToKw pos (keywordEach [] X.env)))) :
  PE X (.Call (.Attribute b m apos) [] [] pos) (fun σ H Q=>tb σ H fun x H1=>∃ a,IsI H1 Ca m x a∧sp [.ref a] H1 Q E):=by
 intro pins s σ H Q I q
 refine PySem.W.methodCall_KW (pl:=pl) (thn (ho pins s σ H _ I q) fun u s1 ⟨x,H1,I1,rx,a,⟨dx,fs,gs,e1,h,l⟩,q⟩=>?_) ht
 have B:=big_of I1 h
 rw [e1,← B.ax] at rx
 obtain rfl:u=Value.ref a:=rx
 refine getmeth_ok (inv_opn I1 h) opn_a c hm l ?_
 exact PySem.W.callWith_K0 (first:=[.ref a]) I1.kIn hm.kp (run_fn (us:=[.ref a]) (vs:=[.ref a]) F hr hb .nil hx I1 (.cons rfl .nil) q)
end
section
variable {X:Cx}{C:CC}{n:Nat}{sp:PySem.W.Frag→Nat→Sp}{b:Expr}{eb:EW}{pos apos:Pos}{call:CW}{f i:Nat}{m:Str}{Ca:Addr}{as:AW}{js:List Nat}
variable {K:PySem.W.Frag}{c:Cn}{md:Md}{L:FLoc}{σ:L2.St}{S H:Hp}
theorem callW_go {Q:VK} {fr:Bool} {Q1:FV→FLoc→Prop} (I:Iv K c md L σ S H) (m:(mdAt md i).w=true) (ob:∀ i,mdAt md i≠.ob) (h:eCallO call f i as L Q1)
  (k:∀ v L' x H1 S' H',Q1 v L'→ResOk K S' H' H1 v x fr→Iv K c md L' σ S' H'→Same S S'→(∀ a,H1 a=none→Fresh c md L' σ a)→Q x H'):tCons (tVar i) (la K md as) σ H fun vs H1=>spQ K call true fr f vs H1 Q E0:=by
 obtain ⟨v0,e,h⟩:=wpx h
 have mi:mdAt md i≠.imm:=Mo.w_imm m
 obtain ⟨l,e1,_⟩:=I.own i v0 mi ((lk_eq _ _ _).mp e)
 refine ⟨_,e1,c,L,S,_,I,h,fun vs L1 hv us S1 H1 r1 I1 s1=>?_⟩
 obtain ⟨v1,e2,q⟩:=wpx hv
 have e2:=(lk_eq _ _ _).mp e2
 obtain ⟨l',f1,o,_⟩:=I1.own i v1 mi e2
 rw [e1] at f1; cases f1
 refine ⟨S1,v1 :: vs,_,I1.sub,⟨v1,vs,l,us,rfl,rfl,o,r1⟩,q,fun z q x S' H' kp r=>?_⟩
 have I2:=I1.back4 m e2 e1 kp.same kp.sub kp.grow (fun b o e n=>kp.keep b o e fun z=>n (by cases z; rfl)) (kp.back l rfl) fun _ _ _ _ _ _ _ z=>absurd z (ob i)
 refine k _ _ x H1 S' H' q r I2 (s1.trans kp.same) fun a ha=>⟨I1.h0 ha,(I1.fresh ha).2.1,fun j w mj ej z=>?_⟩
 obtain ⟨_,_,g2⟩:=I1.fresh ha
 by_cases hj:j=i
 ·subst hj; exact g2 j v1 mj e2 z
 ·rw [List.getElem?_set_ne (Ne.symm hj)] at ej; exact g2 j w mj ej z
theorem findG_in {dx:Addr} {j:Nat}:∀ {js:List Nat},findG Ca m dx L js=some j→j∈js∧∃ fs gs,lk L j=some (.obj Ca dx fs gs)∧fs.lookup m=none
 | [],h=>by cases h
 | i :: js,h=>by
  have h:(match lk L i with
   | some (.obj C d fs _)=>if d=dx then (if C=Ca∧fs.lookup m=none then some i else none) else findG Ca m dx L js
   | _=>none)=some j:=h
  split at h
  ·rename_i C d fs gs e
   split at h
   ·rename_i e2
    split at h
    ·rename_i e3; cases h; exact ⟨List.mem_cons_self,fs,gs,by rw [e,e2,e3.1],e3.2⟩
    ·cases h
   ·obtain ⟨h1,h2⟩:=findG_in h
    exact ⟨List.mem_cons_of_mem _ h1,h2⟩
  ·cases h
theorem Iv.objW (I:Iv K c md L σ S H) {j:Nat} (m:mdAt md j≠.imm) {C dx:Addr} {fs:List (Str×V)} {gs:List (Addr×List V)} (e:lk L j=some (.obj C dx fs gs)):∃ a,σ[j]?=some (some (.ref a))∧H a=some (.big C dx fs gs):=by
 obtain ⟨a,h1,⟨_,ps,xs,e0,h2,_⟩,_⟩:=I.own j _ m ((lk_eq _ _ _).mp e)
 exact ⟨a,h1,h2⟩
theorem fe_methG {a:Expr} {xs:List Expr} (G:Good X C n sp) (hle:decide (C.fns.length≤f)=true) (he:sp X.K f=spQ X.K call true false f) (hk:(C.ms[f - C.fns.length]?).map (·.2)=some (Ca,m)) (hm:(m == ("__init__":Str))=false) (ho:okG C.md js=true) (hl:(bmOk apos pos && notCall b)=true) (hs:(noStars (a :: xs) && decide ((a :: xs).length < 30))=true) (hb:FE X C b eb) (ha:FA X C (a :: xs) as):FE X C (.Call (.Attribute b m apos) (a :: xs) [] pos) (eMethG call f js Ca m eb as):=by
 have e0:C.fns.length + (f - C.fns.length)=f:=by have:=de hle; lia
 obtain ⟨⟨cn,q2⟩,hk,rfl⟩:=mpd hk
 obtain ⟨fa,fd,ps,h1,h2,_,h4,h5,h6⟩:=G.mts _ cn Ca m hk
 rw [e0] at h6
 have hs':=b2 hs; have hs1:=b2 (show (!isStar a && noStars xs)=true from hs'.1); have hl:=b2 hl; have ho:=b2 ho
 obtain ⟨pl,hev⟩:=meth_evalG (m:=m) (env:=X.env) hl.2 hl.1 (form_yes (pos:=pos) hs'.1 hs'.2)
 refine PE.imp (pe_methG (X:=X.nox) hb h2 (h4 fun z=>by rw [z] at hm; simp at hm) h6 G.room.toRoom h5 pass0 ha (star_ok (nb hs1.1)) (stars_no hs1.2) hev) fun σ H Q q1=>?_
 obtain ⟨c,L,S,Q0,I,h,kk⟩:=q1
 refine ⟨c,L,S,_,I,h,fun v L1 q x S1 H1 r1 I1 s1=>?_⟩
 obtain ⟨dx,e1,q⟩:=wpx q
 obtain ⟨j,e2,q9⟩:=wpx q
 obtain ⟨hj,fs,gs,e3,e4⟩:=findG_in e2
 cases v with
 | adr d =>
  cases e1
  have w:=List.all_eq_true.mp ho.1 j hj
  obtain ⟨l,e5,e6⟩:=I1.objW (Mo.w_imm w) e3
  refine ⟨l,⟨dx,fs,gs,r1,e6,e4⟩,?_⟩
  obtain ⟨x,e7,q⟩:=callW_go (fr:=false) (Q:=Q) I1 w (md_all ho.2) q9 fun v L' x H1 S' H' q r I' s' _=>kk v L' q x S' H' r I' (s1.trans s')
  rw [e5] at e7; cases e7
  rw [he]
  exact q
 | _=>cases e1
theorem fe_methG0 (G:Good X C n sp) (hle:decide (C.fns.length≤f)=true) (he:sp X.K f=spQ X.K call true false f) (hk:(C.ms[f - C.fns.length]?).map (·.2)=some (Ca,m)) (hm:(m == ("__init__":Str))=false) (ho:okG C.md js=true) (hl:(bmOk apos pos && notCall b)=true) (hb:FE X C b eb):FE X C (.Call (.Attribute b m apos) [] [] pos) (eMethG call f js Ca m eb aNil):=by
 have e0:C.fns.length + (f - C.fns.length)=f:=by have:=de hle; lia
 obtain ⟨⟨cn,q2⟩,hk,rfl⟩:=mpd hk
 obtain ⟨fa,fd,ps,h1,h2,_,h4,h5,h6⟩:=G.mts _ cn Ca m hk
 rw [e0] at h6
 have hl:=b2 hl; have ho:=b2 ho
 obtain ⟨pl,hev⟩:=meth_evalG (m:=m) (env:=X.env) (es:=[]) hl.2 hl.1 rfl
 refine PE.imp (pe_methG0 (X:=X.nox) hb h2 (h4 fun z=>by rw [z] at hm; simp at hm) h6 G.room.toRoom h5 pass0 hev) fun σ H Q q1=>?_
 obtain ⟨c,L,S,Q0,I,h,kk⟩:=q1
 refine ⟨c,L,S,_,I,h,fun v L1 q x S1 H1 r1 I1 s1=>?_⟩
 obtain ⟨dx,e1,q⟩:=wpx q
 obtain ⟨j,e2,q9⟩:=wpx q
 obtain ⟨hj,fs,gs,e3,e4⟩:=findG_in e2
 cases v with
 | adr d =>
  cases e1
  have w:=List.all_eq_true.mp ho.1 j hj
  obtain ⟨l,e5,e6⟩:=I1.objW (Mo.w_imm w) e3
  refine ⟨l,⟨dx,fs,gs,r1,e6,e4⟩,?_⟩
  rw [he]
  obtain ⟨x,e7,c2,L2,S2,Q2,I2,h2,k2⟩:=callW_go (fr:=false) (Q:=Q) I1 w (md_all ho.2) q9 fun v L' x H1 S' H' q r I' s' _=>kk v L' q x S' H' r I' (s1.trans s')
  rw [e5] at e7; cases e7
  exact k2 [] L2 h2 [] S2 H1 rfl I2 (Same.refl S2)
 | _=>cases e1
end
@[scoped simp ↓] theorem eMethG_eq (call:CW) (f:Nat) (js:List Nat) (Ca:Addr) (m:Str) (b:EW) (as:AW) (L:FLoc) (Q:FV→FLoc→Prop):eMethG call f js Ca m b as L Q=(b L fun x L0=>wp (adrF x) fun dx=>wp (findG Ca m dx L0 js) fun j=>eCallO call f j as L0 Q):=propext Iff.rfl
@[scoped simp ↓] theorem k_adr (dx:Addr) (Q:Addr→Prop):wp (adrF (.adr dx)) Q↔Q dx:=Iff.rfl
def dxF:FV→Option Addr
 | .obj _ d _ _=>some d
 | _=>none
def sInsts (a1 a2:AW) (i1 i2:Nat) (js:List Nat):SW:=fun L Q=>a1 L fun o1 L1=>o1.length≤big∧a2 L1 fun o2 L2=>o2.length≤big∧wp (mapO dxF o1) fun d1=>wp (mapO dxF o2) fun d2=>(d1++d2).Nodup→wp (setsF L2 (i1 :: i2 :: js) (.lst (d1.map .adr) :: .lst (d2.map .adr) :: (o1++o2))) fun L3=>Q .next L3
@[scoped simp ↓] theorem sInsts_eq (a1 a2:AW) (i1 i2:Nat) (js:List Nat) (L:FLoc) (Q:FFl→FLoc→Prop):sInsts a1 a2 i1 i2 js L Q=(a1 L fun o1 L1=>o1.length≤big∧a2 L1 fun o2 L2=>o2.length≤big∧wp (mapO dxF o1) fun d1=>wp (mapO dxF o2) fun d2=>(d1++d2).Nodup→wp (setsF L2 (i1 :: i2 :: js) (.lst (d1.map .adr) :: .lst (d2.map .adr) :: (o1++o2))) fun L3=>Q .next L3):=propext Iff.rfl
section
variable {K:PySem.W.Frag}{c:Cn}{md:Md}{L:FLoc}{σ:L2.St}{S H:Hp}
theorem RM.new {p:Addr} {o:HO} {ms:List Bool} {vs:List FV} {xs:List V} (hp:H p=none) (hs:Same S H) (h:RM K c md L σ S H ms vs xs):RM K c md L σ (upd S p o) (upd H p o) ms vs xs:=by
 have sn:S p=none:=by
  cases e:S p with
  | none=>rfl
  | some u=>rw [hs p u e] at hp; cases hp
 induction h with
 | nil=>exact .nil
 | imm r _ ih=>exact .imm (r.mono (same_upd sn)) ih
 | @own ms vs xs v a w f d _ ih =>
  obtain ⟨o1,ps,us,e9,o2,o3⟩:=w
  have ne:a≠p:=fun z=>by rw [z,hp] at o2; cases o2
  exact .own ⟨by rw [upd_ne ne]; exact o1,ps,us,e9,by rw [upd_ne ne]; exact o2,o3.mono (same_upd sn)⟩ f d ih
theorem RM.append {ms2:List Bool} {vs2:List FV} {xs2:List V} {ms:List Bool} {vs:List FV} {xs:List V} (h:RM K c md L σ S H ms vs xs) (h2:RM K c md L σ S H ms2 vs2 xs2) (n:∀ k:Nat,ms2[k]?=some true→∀ l,V.ref l∈xs→xs2[k]?≠some (V.ref l)):RM K c md L σ S H (ms++ms2) (vs++vs2) (xs++xs2):=by
 induction h with
 | nil=>exact h2
 | imm r _ ih=>exact .imm r (ih fun k hk l hl=>n k hk l (List.mem_cons_of_mem _ hl))
 | @own ms vs xs v a w f d r ih =>
  refine .own w f (fun k hk z=>?_) (ih fun k hk l hl=>n k hk l (List.mem_cons_of_mem _ hl))
  have ll:=r.len
  have hk:(ms++ms2)[k]?=some true:=hk
  have z:(xs++xs2)[k]?=some (V.ref a):=z
  by_cases hkl:k < ms.length
  ·rw [List.getElem?_append_left hkl] at hk
   rw [List.getElem?_append_left (by rw [ll.1]; exact hkl)] at z
   exact d k hk z
  ·rw [List.getElem?_append_right (by lia)] at hk
   rw [List.getElem?_append_right (by rw [ll.1]; lia),ll.1] at z
   exact n _ hk _ List.mem_cons_self z
inductive Held (K:PySem.W.Frag) (c:Cn) (md:Md) (L:FLoc) (σ:L2.St) (S H:Hp) (ms:List Bool) (vs:List FV) (xs:List V):Prop
 | mk (ps:List (Addr×HO)) (_:Iv K { c with pr:=ps++c.pr } md L σ S H)
  (_:∀ {L' S' H'},Iv K { c with pr:=ps++c.pr } md L' σ S' H'→Same S S'→Iv K c md L' σ S' H'∧RM K c md L' σ S' H' ms vs xs)
  (_:∀ {L' S' H' ms2 vs2 xs2},RM K { c with pr:=ps++c.pr } md L' σ S' H' ms2 vs2 xs2→RM K c md L' σ S' H' ms2 vs2 xs2∧∀ k:Nat,ms2[k]?=some true→∀ l,V.ref l∈xs→xs2[k]?≠some (V.ref l)):Held K c md L σ S H ms vs xs
theorem RM.hold (I:Iv K c md L σ S H) {ms:List Bool} {vs:List FV} {xs:List V} (h:RM K c md L σ S H ms vs xs):ms.all id=true→Held K c md L σ S H ms vs xs:=by
 induction h with
 | nil=>exact fun _=>⟨[],I,fun I' _=>⟨I',.nil⟩,fun r=>⟨r,fun k _ l hl=>by simp at hl⟩⟩
 | imm r _ ih=>intro hm; cases hm
 | @own ms vs xs v a w f d r ih =>
  intro hm
  obtain ⟨ps,I1,k1,k2⟩:=ih (b2 hm).2
  obtain ⟨o1,qs,us,e9,o2,o3⟩:=w
  have I2:=I1.prot o2 o1 fun y u hy hu=>f.2.2 y u (Mo.w_imm hy) hu
  refine ⟨(a,ownH v us) :: ps,I2,fun {L' S' H'} I3 s2=>?_,fun r3=>?_⟩
  ·obtain ⟨g1,g2,g3⟩:=I3.prs (a,ownH v us) List.mem_cons_self
   have I4:=I3.unprot I1.fzp
   obtain ⟨I5,r5⟩:=k1 I4 s2
   refine ⟨I5,.own ⟨g2,qs,us,e9,g1,o3.mono s2⟩ ⟨f.1,f.2.1,fun y u hy hu hs=>?_⟩ d r5⟩
   by_cases mo:(mdAt md y).w=true
   ·exact g3 y u mo hu hs
   ·have mo:mdAt md y=.frz:=by cases z:mdAt md y with | imm=>exact absurd z hy | frz=>rfl | _=>rw [z] at mo; exact absurd rfl mo
    obtain ⟨b',f1⟩:=I5.fzm y u mo hu
    obtain ⟨_,f2,_⟩:=I5.fzs _ f1
    rw [hs] at f2; cases f2
    obtain ⟨ys,f3⟩:=I5.fzp _ f1
    exact f.2.1 _ f3 rfl
  ·obtain ⟨r4,n4⟩:=RM.ne (c:={ c with pr:=ps++c.pr }) r3
   obtain ⟨r5,n5⟩:=k2 r4
   refine ⟨r5,fun k hk l hl=>?_⟩
   rcases List.mem_cons.mp hl with z | z
   ·cases z; exact n4 k hk
   ·exact n5 k hk l z
def Ax (H:Hp):Prop:=∀ a C dx fs gs,H a=some (.big C dx fs gs)→a=dx + 1
theorem RM.adr (ax:Ax H) {ms:List Bool} {vs:List FV} {xs:List V} (h:RM K c md L σ S H ms vs xs):∀ {ds:List Addr},ms.all id=true→mapO dxF vs=some ds→RVs K S (ds.map .adr) xs∧xs=ds.map (fun d=>V.ref (d + 1))∧ds.Nodup:=by
 induction h with
 | nil=>intro ds _ e; cases e; exact ⟨rfl,rfl,List.nodup_nil⟩
 | imm r _ ih=>intro ds hm; cases hm
 | @own ms vs xs v a w f d r ih =>
  intro ds hm e
  obtain ⟨dx,e1,e⟩:=bnd (show (dxF v).bind (fun y=>(mapO dxF vs).map (y :: ·))=some ds from e)
  obtain ⟨es,e2,rfl⟩:=mpd e
  obtain ⟨r1,r2,r3⟩:=ih (b2 hm).2 e2
  obtain ⟨o1,qs,us,e9,o2,o3⟩:=w
  cases v with
  | obj C dx' fs gs =>
   cases e1
   have ea:=ax a _ _ _ _ o2
   refine ⟨⟨_,_,rfl,by rw [ea]; rfl,r1⟩,by rw [ea,r2]; rfl,List.nodup_cons.mpr ⟨fun z=>?_,r3⟩⟩
   obtain ⟨k,hk⟩:=List.getElem?_of_mem z
   have hx:xs[k]?=some (V.ref a):=by rw [r2,List.getElem?_map,hk,ea]; rfl
   have hkm:k < ms.length:=by rw [← r.len.1]; exact (List.getElem?_eq_some_iff.mp hx).1
   refine d k ?_ hx
   have:=List.all_eq_true.mp (b2 hm).2 _ (List.getElem_mem hkm)
   rw [List.getElem?_eq_getElem hkm]
   exact congrArg some this
  | _=>cases e1
end
theorem pa_inv {X:Cx} {es:List Expr} {t:TA} (h:PA X es t):PA X es (fun σ H Q=>t σ H fun xs H'=>Ax H'→Q xs H'):=fun pos pins s σ H Q I q =>
 thn (h pos pins s σ H _ I q) fun us s1 q1=>by
  obtain ⟨vs,H1,I1,r,q⟩:=q1
  exact ⟨vs,H1,I1,r,q fun a C dx fs gs e=>(big_of I1 e).ax⟩
theorem ps_ghostN {X:Cx} {st:Stmt} {t:TS} (h:PS X st t):PS X st (fun D σ H=>t ⟨fun σ1 H1=>∃ σ2,σ2.length=σ1.length∧(∀ (i:Nat) (x:Str),X.N[i]?=some x→Vis X.env.scope x→σ2[i]?=σ1[i]?)∧D.nx σ2 H1,D.rt,D.bk,D.ct⟩ σ H):=fun pins s σ H D I q =>
 thn (h pins s σ H _ I q) fun fl s1 q1=>by
  cases fl with
  | next =>
   obtain ⟨σ1,H1,I1,σ2,e1,e2,q⟩:=q1
   exact ⟨σ2,H1,inv_ghost I1 e1 e2,q⟩
  | brk=>exact q1
  | cont=>exact q1
  | ret u=>exact q1
section
variable {X:Cx}{C:CC}{n:Nat}{sp:PySem.W.Frag→Nat→Sp}{fr:Bool}{es1 es2:List Expr}{ms1 ms2:List Bool}{a1 a2:AW}{pos px py pt p2 q1 q2:Pos}{i j kt k2:Nat}{nx ny:Str}{js:List Nat}
def ghOk (N:List Str) (sc:List (Str×NameKind)) (j:Nat):Bool:=match N[j]? with
 | some x=>(sc.lookup x).isNone
 | none=>false
theorem gTs_set {σ':L2.St} {H:Hp}:∀ {is:List Nat} {xs:List V} {σ:L2.St},gTs is xs σ H (fun s _=>s=σ')→σ'.length=σ.length∧∀ k,k ∉ is→σ'[k]?=σ[k]?
 | [],xs,σ,h=>by obtain ⟨_,e⟩:=h; subst e; exact ⟨rfl,fun _ _=>rfl⟩
 | i :: is,xs,σ,h=>by
  obtain ⟨v,r,e,h⟩:=h
  obtain ⟨h1,h2⟩:=gTs_set h
  rw [List.length_set] at h1
  refine ⟨h1,fun k hk=>?_⟩
  have hk:=not_or.mp fun z=>hk (List.mem_cons.mpr z)
  rw [h2 k hk.2,List.getElem?_set_ne (Ne.symm hk.1)]
theorem mapO_app {α β:Type} {f:α→Option β} {ys2:List β} {xs2:List α} (h2:mapO f xs2=some ys2):∀ {xs:List α} {ys:List β},mapO f xs=some ys→mapO f (xs++xs2)=some (ys++ys2)
 | [],ys,h=>by cases h; exact h2
 | x :: xs,ys,h=>by
  obtain ⟨y,e1,h⟩:=bnd (show (f x).bind (fun y=>(mapO f xs).map (y :: ·))=some ys from h)
  obtain ⟨zs,e2,rfl⟩:=mpd h
  show (f x).bind (fun y=>(mapO f (xs++xs2)).map (y :: ·))=_
  rw [e1]
  show (mapO f (xs++xs2)).map (y :: ·)=_
  rw [mapO_app h2 e2]; rfl
theorem fs_insts (G:Good X C n sp) (hm:mdsOk C.md (i :: j :: js) (false :: false :: (ms1++ms2))=true) (ha:(ms1.all id && ms2.all id)=true) (hg:js.all (ghOk C.N C.sc)=true) (h:parOk C i j nx ny px py (.List es1 q1) (.List es2 q2)=true) (h1:FM X C es1 ms1 a1) (h2:FM X C es2 ms2 a2):FS X C fr (.Assign [.Tuple [.Name nx px,.Name ny py] kt pt] (.Tuple [.List es1 q1,.List es2 q2] k2 p2) pos) (sInsts a1 a2 i j js):=by
 have ha:=b2 ha
 obtain ⟨sa,sb,hij⟩:=par_st h
 refine PS.imp (ps_ghostN (par_of G h (pa_inv (pa_cons (pe_lst h1) (pa_cons (pe_lst h2) pa_nil (star_ok sb)) (star_ok sa))))) fun D σ H q=>?_
 obtain ⟨c,L,S,Q0,I,h,k⟩:=q
 have bl:=big_line
 refine ⟨c,L,S,_,I,h,fun o1 L1 hv xs1 S1 H1 r1 I1 s1=>⟨?_,fun p1 hp1=>?_⟩⟩
 ·rw [r1.len.1,← r1.len.2]; exact Nat.le_trans hv.1 bl
 obtain ⟨ps,I2,k1,kk2⟩:=(r1.hold I1 ha.1)
 have I3:=I2.new hp1 (.lst xs1)
 refine ⟨_,L1,_,_,I3,hv.2,fun o2 L2 hv2 xs2 S2 H2 r2 I4 s2=>⟨?_,fun p2 hp2 ax=>?_⟩⟩
 ·rw [r2.len.1,← r2.len.2]; exact Nat.le_trans hv2.1 bl
 have I5:=I4.new hp2 (.lst xs2)
 have sn1:Same S1 (upd S1 p1 (.lst xs1)):=same_upd (I1.sn hp1)
 have sn2:Same S2 (upd S2 p2 (.lst xs2)):=same_upd (I4.sn hp2)
 obtain ⟨I6,rm1⟩:=k1 I5 ((sn1.trans s2).trans sn2)
 obtain ⟨rm2,ne⟩:=kk2 (r2.new (o:=.lst xs2) hp2 I4.sub)
 obtain ⟨d1,e1,q⟩:=wpx hv2.2
 obtain ⟨d2,e2,q⟩:=wpx q
 have rm:=rm1.append rm2 ne
 have hms:(ms1++ms2).all id=true:=by rw [List.all_append,ha.1,ha.2]; rfl
 have q:=q (rm.adr ax hms (mapO_app e2 e1)).2.2
 have v1:RV X.K (upd S2 p2 (.lst xs2)) (.lst (d1.map .adr)) (.ref p1):=⟨p1,xs1,rfl,sn2 _ _ (s2 _ _ upd_same),(rm1.adr ax ha.1 e1).1⟩
 have v2:RV X.K (upd S2 p2 (.lst xs2)) (.lst (d2.map .adr)) (.ref p2):=⟨p2,xs2,rfl,upd_same,(rm2.adr ax ha.2 e2).1⟩
 obtain ⟨σ',L',g,q,I7⟩:=setsM hm I6 (RM.imm v1 (RM.imm v2 rm)) q
 refine ⟨_,_,rfl,?_⟩
 obtain ⟨x1,y1,f1,x2,y2,f2,g⟩:=g (fun s _=>s=σ') rfl
 cases f1; cases f2
 obtain ⟨gl,gk⟩:=gTs_set g
 refine ⟨σ',gl,fun i0 x hx hv=>gk i0 fun z=>?_,k .next L' q σ' _ _ I7 (((s1.trans sn1).trans s2).trans sn2)⟩
 have hg:=List.all_eq_true.mp hg i0 z
 have hx:X.N[i0]?=some x:=hx
 unfold ghOk at hg
 rw [← G.N,hx] at hg
 have hg:=Option.isNone_iff_eq_none.mp (show (C.sc.lookup x).isNone=true from hg)
 rw [← G.sc] at hg
 have hv:Vis X.env.scope x:=hv
 unfold Vis at hv
 rw [hg] at hv
 rcases hv with hv | hv | hv <;> cases hv
def tru {α:Type} (xs:List α):List Bool:=xs.map fun _=>true
theorem tru_all {α:Type}:∀ xs:List α,(tru xs).all id=true
 | []=>rfl
 | _ :: xs=>tru_all xs
def FL (X:Cx) (C:CC) (xs:List Expr) (e:AW):Prop:=FM X C xs (tru xs) e
theorem fl_nil:FL X C [] aNil:=fm_nil
theorem fl_own {a:Expr} {xs:List Expr} {e:EW} {as:AW} (hs:isStar a=false) (h1:FF X C a e) (h2:FL X C xs as):FL X C (a :: xs) (aCons e as):=fm_own hs h1 h2
theorem fs_instsL (G:Good X C n sp) (hm:mdsOk C.md (i :: j :: js) (false :: false :: (tru es1++tru es2))=true) (hg:js.all (ghOk C.N C.sc)=true) (h:parOk C i j nx ny px py (.List es1 q1) (.List es2 q2)=true) (h1:FL X C es1 a1) (h2:FL X C es2 a2):FS X C fr (.Assign [.Tuple [.Name nx px,.Name ny py] kt pt] (.Tuple [.List es1 q1,.List es2 q2] k2 p2) pos) (sInsts a1 a2 i j js) :=
 fs_insts G hm (by rw [tru_all,tru_all]; rfl) hg h h1 h2
end
end Kq
end
set_option maxRecDepth 10000
set_option maxHeartbeats 1000000
section
namespace Kq
def bd0 (call:CW):SW:=sSeq (sAsg (eOp modF (eOp mulF (eOp addF (eOp addF (eOp modF (eVar 0) (eC (.int 2147483629))) (eOp mulF (eOp mulF (eVar 1) (eVar 1)) (eC (.int 7919)))) (eC (.int 11))) (eC (.int 48271))) (eC (.int 2147483647))) (.nm 2)) (sRet (eOp modF (eOp mulF (eVar 2) (eVar 2)) (eC (.int 1999999973))))
def bd1 (call:CW):SW:=sSeq (sAsg (eIf (bVal (eOp ltB (eVar 1) (eUn lenF (eVar 0)))) (eOp ixF (eVar 0) (eVar 1)) (eC (.int 0))) (.nm 2)) (sRet (eLst (aCons (eOp mulF (eUn absF (eVar 2)) (eUn toIntF (eOp geB (eUn absF (eVar 2)) (eOp powF (eC (.int 10)) (eC (.int 18)))))) (aCons (eOp addF (eVar 2) (eOp mulF (eC (.int 1000003)) (eVar 1))) (aCons (eC (.int 0)) aNil)))))
def bd2 (call:CW):SW:=sSeq (sSet 0 (eC (.int 2)) (eOp addF (eOpN ixF 0 (eC (.int 2))) (eC (.int 1)))) (sSeq (sIf (bVal (eOp gtB (eOpN ixF 0 (eC (.int 0))) (eC (.int 0)))) (sSeq (sAsg (eOp modF (eOpN ixF 0 (eC (.int 0))) (eVar 1)) (.nm 2)) (sSeq (sSet 0 (eC (.int 0)) (eOp fdivF (eOpN ixF 0 (eC (.int 0))) (eVar 1))) (sRet (eVar 2)))) sNil) (sRet (eOp modF (eOp fdivF (eCall call 0 (aCons (eCall call 0 (aCons (eOpN ixF 0 (eC (.int 1))) (aCons (eOpN ixF 0 (eC (.int 2))) aNil))) (aCons (eOp addF (eOpN ixF 0 (eC (.int 2))) (eC (.int 64))) aNil))) (eC (.int 64))) (eVar 1))))
def bd3 (call:CW):SW:=sSeq (sIf (bVal (eUn (isi2F .list .tuple) (eVar 1))) (sSeq (sIf (bOr (bVal (eOp neB (eUn (isiF .list) (eVar 0)) (eUn (isiF .list) (eVar 1)))) (bVal (eOp neB (eUn (isiF .tuple) (eVar 0)) (eUn (isiF .tuple) (eVar 1))))) (sRet (eC (.bl false))) sNil) (sRet (eAnd (eOp eqB (eUn lenF (eVar 0)) (eUn lenF (eVar 1))) (eUn allF (eComp 2 2 (iZip (eVar 0) (eVar 1)) (.tp [2,3]) bTrue (eCall call 3 (aCons (eVar 2) (aCons (eVar 3) aNil)))))))) sNil) (sSeq (sIf (bOr (bVal (eUn isNoneF (eVar 1))) (bVal (eUn (isiF .str) (eVar 1)))) (sRet (eAnd (eOp eqB (eVar 0) (eVar 1)) (eOp eqB (eUn (isiF .str) (eVar 0)) (eUn (isiF .str) (eVar 1))))) sNil) (sSeq (sIf (bVal (eUn (isiF .bool) (eVar 1))) (sRet (eAnd (eUn (isiF .bool) (eVar 0)) (eOp eqB (eVar 0) (eVar 1)))) sNil) (sRet (eAnd (eUn (isiF .int) (eVar 0)) (eAnd (eUn notF (eUn (isiF .bool) (eVar 0))) (eOp eqB (eVar 0) (eVar 1)))))))
def bd4 (call:CW):SW:=sSeq (sAsg (eCallO call 2 0 (aCons (eC (.int 4)) aNil)) (.nm 2)) (sSeq (sIf (bAnd (bVal (eOp eqB (eVar 2) (eC (.int 3)))) (bVal (eOp eqB (eVar 1) (eC (.int 0))))) (sRet (eOp addF (eC (.int 1)) (eCallO call 2 0 (aCons (eOp subF (eOp powF (eC (.int 10)) (eC (.int 9))) (eC (.int 20))) aNil)))) sNil) (sRet (eOp addF (eC (.int 1)) (eCallO call 2 0 (aCons (eOp ixF (eLst (aCons (eC (.int 9)) (aCons (eC (.int 9)) (aCons (eC (.int 40)) (aCons (eC (.int 3)) aNil))))) (eVar 2)) aNil)))))
def bd5 (call:CW):SW:=sSeq (sAsg (eIf (bVal (eOp gtB (eCallO call 2 0 (aCons (eC (.int 8)) aNil)) (eC (.int 0)))) (eOp addF (eC (.int 1)) (eCallO call 2 0 (aCons (eC (.int 7)) aNil))) (eOp addF (eC (.int 8)) (eCallO call 2 0 (aCons (eOp subF (eVar 1) (eC (.int 7))) aNil)))) (.nm 2)) (sSeq (sAsg (eCallO call 2 0 (aCons (eC (.int 4)) aNil)) (.nm 3)) (sSeq (sAsg (eUn tupleF (eComp 5 1 (iRng (eVar 2)) (.nm 5) bTrue (eOp addF (eCallO call 4 0 (aCons (eVar 3) aNil)) (eOp ixF (eLst (aCons (eC (.int 0)) (aCons (eC (.int 9)) aNil))) (eCallO call 2 0 (aCons (eC (.int 2)) aNil)))))) (.nm 4)) (sRet (eTup (aCons (eVar 4) (aCons (eUn tupleF (eComp 5 1 (iRng (eOp subF (eVar 2) (eC (.int 1)))) (.nm 5) bTrue (eCallO call 4 0 (aCons (eVar 3) aNil)))) aNil))))))
def bd6 (call:CW):SW:=sSeq (sAsg (eVar 0) (.tp [1,2])) (sSeq (sAsg (eTup (aCons (eLst (aCons (eC (.int 0)) aNil)) (aCons (eC (.int 0)) aNil))) (.tp [3,4])) (sSeq (sFor (iRng2 (eC (.int 1)) (eUn lenF (eVar 1))) (.nm 5) (sSeq (sAsg (eOp addF (eVar 4) (eOp ixF (eVar 2) (eOp subF (eVar 5) (eC (.int 1))))) (.nm 4)) (sIf (bVal (eOp gtB (eVar 4) (eOp ixF (eVar 1) (eVar 5)))) (sSeq (sExp (eMeth appF 3 (eVar 5))) (sAsg (eC (.int 0)) (.nm 4))) sNil))) (sRet (eUn tupleF (eVar 3)))))
def bd7 (call:CW):SW:=sSeq (sAsg (eUn lenF (eOp ixF (eVar 0) (eC (.int 0)))) (.nm 2)) (sSeq (sAsg (eComp 5 1 (iRng (eVar 2)) (.nm 5) bTrue (eIf (bAnd (bVal (eOp ltB (eOp modF (eVar 5) (eOp addF (eVar 1) (eC (.int 1)))) (eVar 1))) (bVal (eOp ltB (eOp addF (eVar 5) (eC (.int 1))) (eVar 2)))) (eOp addF (eVar 5) (eC (.int 1))) (eC .non))) (.nm 3)) (sSeq (sAsg (eComp 5 2 (iEnum (eVar 3)) (.tp [5,6]) bTrue (eIf (bVal (eUn isNoneF (eVar 6))) (eOp ixF (eOp ixF (eVar 0) (eC (.int 0))) (eVar 5)) (eOp ixF (eOp ixF (eVar 0) (eC (.int 1))) (eVar 5)))) (.nm 4)) (sRet (eLst (aCons (eUn tupleF (eVar 3)) (aCons (eUn sum2F (eVar 4)) aNil))))))
def bq8 (call:CW):SW:=sSeq (sAsg (eComp 7 1 (iSeq (eVar 0)) (.nm 7) bTrue (eLst (aCons (eMethG call 12 [2,3] 77 "row_now" (eVar 7) aNil) (aCons (eMethG call 13 [2,3] 77 "kept_now" (eVar 7) aNil) aNil)))) (.nm 6)) (sRet (eOp addF (eVar 6) (eComp 7 1 (iSeq (eVar 1)) (.nm 7) bTrue (eLst (aCons (eMethG call 16 [4,5] 119 "laying_now" (eVar 7) aNil) (aCons (eMethG call 17 [4,5] 119 "room_now" (eVar 7) aNil) aNil))))))
def bd8 (call:CW):SW:=sLent [2,3,4,5] (bq8 call)
def bd9 (call:CW):SW:=sSeq (sFor (iRng (eOp addF (eOp min2F (eC (.int 6)) (eUn lenF (eVar 0))) (eC (.int 1)))) (.nm 1) (sSeq (sAsg (eCall call 1 (aCons (eVar 0) (aCons (eVar 1) aNil))) (.nm 2)) (sSeq (sAsg (eLst (aCons (eCallO call 5 2 (aCons (eC (.int 30)) aNil)) (aCons (eCallO call 5 2 (aCons (eC (.int 30)) aNil)) aNil))) (.nm 3)) (sSeq (sAsg (eLst (aCons (eCallO call 2 2 (aCons (eC (.int 4)) aNil)) (aCons (eCallO call 2 2 (aCons (eC (.int 4)) aNil)) aNil))) (.nm 4)) (sSeq (sInsts (aCons (eMake call 10 77 aNil) (aCons (eMake call 10 77 aNil) aNil)) (aCons (eMake call 14 119 (aCons (eOp ixF (eVar 4) (eC (.int 0))) aNil)) (aCons (eMake call 14 119 (aCons (eOp ixF (eVar 4) (eC (.int 1))) aNil)) aNil)) 5 6 [15,16,17,18]) (sFor (iRng (eOp max2F (eUn lenF (eOp ixF (eOp ixF (eVar 3) (eC (.int 0))) (eC (.int 0)))) (eUn lenF (eOp ixF (eOp ixF (eVar 3) (eC (.int 1))) (eC (.int 0)))))) (.nm 7) (sSeq (sFor (iRng (eC (.int 2))) (.nm 8) (sSeq (sAsg (eOp ixF (eVar 3) (eVar 8)) (.tp [9,10])) (sIf (bVal (eOp ltB (eVar 7) (eUn lenF (eVar 9)))) (sSeq (sAsg (eIf (bVal (eOp gtB (eVar 7) (eC (.int 0)))) (eOp ixF (eVar 10) (eOp subF (eVar 7) (eC (.int 1)))) (eC (.int 5))) (.nm 11)) (sSeq (sExp (eMethG call 11 [15,16] 77 "grown" (eOp ixF (eVar 5) (eVar 8)) (aCons (eOp ixF (eVar 9) (eVar 7)) (aCons (eVar 11) aNil)))) (sExp (eMethG call 15 [17,18] 119 "grown" (eOp ixF (eVar 6) (eVar 8)) (aCons (eOp ixF (eVar 9) (eVar 7)) (aCons (eVar 11) aNil)))))) sNil))) (sSeq (sAsg (eComp 19 1 (iSeq (eVar 3)) (.nm 19) bTrue (eTup (aCons (eSl (eOp ixF (eVar 19) (eC (.int 0))) oNone (oSome (eOp addF (eVar 7) (eC (.int 1))))) (aCons (eSl (eOp ixF (eVar 19) (eC (.int 1))) oNone (oSome (eVar 7))) aNil)))) (.nm 12)) (sSeq (sAsg (eComp 19 1 (iSeq (eVar 12)) (.nm 19) bTrue (eLst (aCons (eVar 19) (aCons (eCall call 6 (aCons (eVar 19) aNil)) aNil)))) (.nm 13)) (sSeq (sAsg (eOp addF (eVar 13) (eLst (aCons (eCall call 7 (aCons (eOp ixF (eVar 12) (eC (.int 0))) (aCons (eOp ixF (eVar 4) (eC (.int 0))) aNil))) (aCons (eCall call 7 (aCons (eOp ixF (eVar 12) (eC (.int 1))) (aCons (eOp ixF (eVar 4) (eC (.int 1))) aNil))) aNil)))) (.nm 13)) (sSeq (sAsg (eCallX call 8 [] 2 (aCons (eVar 5) (aCons (eVar 6) aNil)) [15,16,17,18]) (.nm 14)) (sIf (bOr (bNot (bVal (eCall call 3 (aCons (eVar 14) (aCons (eVar 13) aNil))))) (bVal (eOp neB (eCallX call 8 [] 2 (aCons (eVar 5) (aCons (eVar 6) aNil)) [15,16,17,18]) (eVar 14)))) (sRet (eC (.bl false))) sNil)))))))))))) (sRet (eC (.bl true)))
def bd10 (call:CW):SW:=sSeq (sObjNew 0 77 "wholes") (sSeq (sObjNew 0 77 "steps") (sSeq (sObjNew 0 77 "kept") (sObjFld 0 77 "since" (eC (.int 0)))))
def bd11 (call:CW):SW:=sSeq (sAsg (eObjL 0 77 "wholes" lenF) (.nm 3)) (sSeq (sExp (eObjApp 0 77 "wholes" (eVar 1))) (sSeq (sIf (bVal (eOp gtB (eVar 3) (eC (.int 0)))) (sSeq (sExp (eObjApp 0 77 "steps" (eVar 2))) (sObjAug 0 77 "since" (fun i j=>i + j) (eVar 2))) sNil) (sSeq (sIf (bAnd (bVal (eOp gtB (eVar 3) (eC (.int 0)))) (bVal (eOp leB (eFld 0 77 "since") (eVar 1)))) (sRet (eC (.str "change"))) sNil) (sSeq (sExp (eObjApp 0 77 "kept" (eVar 3))) (sSeq (sObjFld 0 77 "since" (eC (.int 0))) (sRet (eC (.str "whole"))))))))
def bd12 (call:CW):SW:=sSeq (sIf (bNot (bFldL 0 77 "wholes")) sNev sNil) (sRet (eTup (aCons (eObjL 0 77 "wholes" tupleF) (aCons (eObjL 0 77 "steps" tupleF) aNil))))
def bd13 (call:CW):SW:=sRet (eObjL 0 77 "kept" tupleF)
def bd14 (call:CW):SW:=sSeq (sObjFld 0 119 "most" (eVar 1)) (sSeq (sObjNew 0 119 "laying") (sSeq (sObjNew 0 119 "sizes") (sObjFld 0 119 "deepest" (eC (.int 0)))))
def bd15 (call:CW):SW:=sSeq (sAsg (eObjL 0 119 "laying" lenF) (.nm 3)) (sSeq (sAsg (eTup aNil) (.nm 4)) (sSeq (sIf (bAnd (bVal (eOp gtB (eVar 3) (eC (.int 0)))) (bVal (eOp ltB (eFld 0 119 "deepest") (eFld 0 119 "most")))) (sSeq (sObjSet 0 119 "laying" (eUn negF (eC (.int 1))) (eVar 3)) (sSeq (sObjSet 0 119 "sizes" (eUn negF (eC (.int 1))) (eVar 2)) (sSeq (sObjAug 0 119 "deepest" (fun i j=>i + j) (eC (.int 1))) (sAsg (eTup (aCons (eOp subF (eVar 3) (eC (.int 1))) aNil)) (.nm 4))))) (sObjFld 0 119 "deepest" (eC (.int 0)))) (sSeq (sExp (eObjApp 0 119 "laying" (eC .non))) (sSeq (sExp (eObjApp 0 119 "sizes" (eVar 1))) (sRet (eVar 4))))))
def bd16 (call:CW):SW:=sRet (eObjL 0 119 "laying" tupleF)
def bd17 (call:CW):SW:=sRet (eObjL 0 119 "sizes" sum2F)
def fd0:FD:=⟨2,3,bd0,false,false⟩
def fd1:FD:=⟨2,3,bd1,false,true⟩
def fd2:FD:=⟨2,3,bd2,true,false⟩
def fd3:FD:=⟨2,2,bd3,false,false⟩
def fd4:FD:=⟨2,3,bd4,true,false⟩
def fd5:FD:=⟨2,5,bd5,true,false⟩
def fd6:FD:=⟨1,6,bd6,false,false⟩
def fd7:FD:=⟨2,5,bd7,false,false⟩
def fd8:FD:=⟨6,7,bd8,false,false⟩
def fd9:FD:=⟨1,19,bd9,false,false⟩
def fd10:FD:=⟨1,1,bd10,true,false⟩
def fd11:FD:=⟨3,4,bd11,true,false⟩
def fd12:FD:=⟨1,1,bd12,true,false⟩
def fd13:FD:=⟨1,1,bd13,true,false⟩
def fd14:FD:=⟨2,2,bd14,true,false⟩
def fd15:FD:=⟨3,5,bd15,true,false⟩
def fd16:FD:=⟨1,1,bd16,true,false⟩
def fd17:FD:=⟨1,1,bd17,true,false⟩
def lxs:LXs:=[(8,[2,3,4,5],2)]
def tb:List FD:=[fd0,fd1,fd2,fd3,fd4,fd5,fd6,fd7,fd8,fd9,fd10,fd11,fd12,fd13,fd14,fd15,fd16,fd17]
def mixV (a k:Int):Int:=((a % 2147483629 + k * k * 7919 + 11) * 48271 % 2147483647) * ((a % 2147483629 + k * k * 7919 + 11) * 48271 % 2147483647) % 1999999973
theorem small_mod (x:Int):small (x % 2147483647)=true:=by
 have:=Int.emod_nonneg x (show (2147483647:Int)≠0 by decide)
 have:=Int.emod_lt_of_pos x (show (0:Int) < 2147483647 by decide)
 simp only [small,decide_eq_true_eq]; lia
theorem small_of {i:Int} (h:0≤i) (h':i < 2 ^ 60):small i=true:=by
 simp only [small,decide_eq_true_eq]; lia
theorem small62_of {i:Int} (h:0≤i) (h':i < 2 ^ 60):small62 i=true:=by
 simp only [small62,decide_eq_true_eq]; lia
theorem mix_ok (d:Nat) (a k:Int) (hk:small k=true) (Q:FV×FV→Prop):callW tb (d + 1) 0 [.int a,.int k] Q↔Q (.int (mixV a k),.non):=by
 have h2:small 48271=true:=by decide
 have h3:small 7919=true:=by decide
 rw [call_iff (fd:=fd0) rfl rfl]
 simp [fd0,bd0,h2,h3,hk,small_mod,mixV]
def Lf (n:Int) (v:FV):Prop:=∃ a b c,v=.lst [.int a,.int b,.int c]∧0≤c∧c≤n
theorem Lf.mono {n m:Int} {v:FV} (h:Lf n v) (k:n≤m):Lf m v:=by
 obtain ⟨a,b,c,h,h1,h2⟩:=h
 exact ⟨a,b,c,h,h1,by lia⟩
theorem pick_wp (d:Nat) {many n:Int} {v:FV} {Q:FV×FV→Prop} (hs:Lf n v) (hn:n < 1000000) (h1:0 < many) (h2:many < 1073741824)
  (q:∀ u v',0≤u→u < many→Lf (n + 1) v'→Q (.int u,v')):callW tb (d + 2) 2 [v,.int many] Q:=by
 obtain ⟨a,b,c,rfl,h3,h4⟩:=hs
 refine call_of (fd:=fd2) rfl rfl ?_
 have s1:small (c + 1)=true:=small_of (by lia) (by lia)
 have s2:small (c + 1 + 64)=true:=small_of (by lia) (by lia)
 by_cases ha:0 < a
 ·simp [fd2,bd2,ixN,ha,h1,h2]
  exact q _ _ (Int.emod_nonneg _ (by lia)) (Int.emod_lt_of_pos _ h1) ⟨_,_,_,rfl,by lia,by lia⟩
 ·simp [fd2,bd2,ixN,ha,h1,h2,mix_ok,s1,s2]
  exact q _ _ (Int.emod_nonneg _ (by lia)) (Int.emod_lt_of_pos _ h1) ⟨_,_,_,rfl,by lia,by lia⟩
theorem left_wp (d:Nat) (ns:List Int) (k:Nat) {Q:FV×FV→Prop} (q:∀ v y,Lf 0 v→Q (v,y)):callW tb (d + 1) 1 [.scr ns,.int k] Q:=by
 refine call_of (fd:=fd1) rfl rfl ?_
 have h1:small 1000003=true:=by decide
 have h2:small 0=true:=by decide
 have h4:small 10=true:=by decide
 have h5:∀ r:Bool,small (if r=true then 1 else 0)=true:=by intro r; cases r <;> decide
 simp [fd1,bd1]
 split
 ·rename_i hk
  rw [at_nat rfl (show (ns.map FV.int)[k]?=some (.int ns[k]) by simp [hk])]
  simp [h1,h4,h5,big]
  exact ⟨.inr (by by_cases hh:1000000000000000000≤(if ns[k] < 0 then -ns[k] else ns[k]) <;> simp only [hh,if_true,if_false] <;> decide),q _ _ ⟨_,_,_,rfl,by lia,by lia⟩⟩
 ·simp [h1,h2,h4,big]
  exact q _ _ ⟨_,_,_,rfl,by lia,by lia⟩
mutual
noncomputable def dF:D→FV
 | .non=>.non
 | .bl b=>.bl b
 | .int i=>.int i
 | .str x=>.str x
 | .tup xs=>.tup (dFs xs)
 | .lst xs=>.lst (dFs xs)
noncomputable def dFs:List D→List FV
 | []=>[]
 | x :: r=>dF x :: dFs r
end
theorem dFs_map:∀ xs:List D,dFs xs=xs.map dF
 | []=>rfl
 | x :: r=>by show dF x :: dFs r=_; rw [dFs_map r]; rfl
mutual
noncomputable def dep:D→Nat
 | .tup xs=>deps xs + 1
 | .lst xs=>deps xs + 1
 | .non=>0 | .bl _=>0 | .int _=>0 | .str _=>0
noncomputable def deps:List D→Nat
 | []=>0
 | x :: r=>max (dep x) (deps r)
end
mutual
theorem fD_dF:∀ (x:D) (n:Nat),dep x < n→fD n (dF x)=some x
 | .non,0,h=>by lia
 | .non,n + 1,h=>rfl
 | .bl _,0,h=>by lia
 | .bl _,n + 1,h=>rfl
 | .int _,0,h=>by lia
 | .int _,n + 1,h=>rfl
 | .str _,0,h=>by lia
 | .str _,n + 1,h=>rfl
 | .tup xs,0,h=>by lia
 | .tup xs,n + 1,h=>by show (mapO (fD n) (dFs xs)).map _=_; rw [fDs_dF xs n (Nat.lt_of_succ_lt_succ h)]; rfl
 | .lst xs,0,h=>by lia
 | .lst xs,n + 1,h=>by show (mapO (fD n) (dFs xs)).map _=_; rw [fDs_dF xs n (Nat.lt_of_succ_lt_succ h)]; rfl
theorem fDs_dF:∀ (xs:List D) (n:Nat),deps xs < n→mapO (fD n) (dFs xs)=some xs
 | [],n,h=>rfl
 | x :: r,n,h=>by
  have h:max (dep x) (deps r) < n:=h
  show ((fD n (dF x)).bind fun y=>(mapO (fD n) (dFs r)).map (y :: ·))=_
  rw [fD_dF x n (by lia),fDs_dF r n (by lia)]; rfl
end
def Vl (k p:Nat) (x:FV):Prop:=∃ d,x=dF d∧dep d≤p∧d.fit=true∧d.wt≤k
theorem Vl.mono {k k' p p':Nat} {x:FV} (h:Vl k p x) (hk:k≤k') (hp:p≤p'):Vl k' p' x:=by
 obtain ⟨d,e,h1,h2,h3⟩:=h
 exact ⟨d,e,by lia,h2,by lia⟩
theorem Vl.all {k p:Nat}:∀ {xs:List FV},(∀ x∈xs,Vl k p x)→∃ ds:List D,xs=dFs ds∧deps ds≤p∧D.fits ds=true∧D.wts ds≤ds.length * (k + 1)∧ds.length=xs.length
 | [],_=>⟨[],rfl,Nat.zero_le _,rfl,by simp [D.wts],rfl⟩
 | x :: r,h=>by
  obtain ⟨d,e,h1,h2,h3⟩:=h x (List.mem_cons_self ..)
  obtain ⟨ds,e',h1',h2',h3',h4'⟩:=Vl.all (xs:=r) fun y hy=>h y (List.mem_cons_of_mem _ hy)
  refine ⟨d :: ds,by rw [e,e']; rfl,Nat.max_le.mpr ⟨h1,h1'⟩,by show (_ && _)=true; rw [h2,h2']; rfl,?_,by simp [h4']⟩
  simp only [D.wts,List.length_cons,Nat.add_mul,Nat.one_mul]; lia
theorem Vl.tup {k p m:Nat} {xs:List FV} (h:∀ x∈xs,Vl k p x) (hl:xs.length≤m):Vl (m * (k + 1)) (p + 1) (.tup xs):=by
 obtain ⟨ds,e,h1,h2,h3,h4⟩:=Vl.all h
 refine ⟨.tup ds,by rw [e]; rfl,Nat.succ_le_succ (by lia),h2,?_⟩
 simp only [D.wt]
 exact Nat.le_trans h3 (Nat.mul_le_mul_right _ (by lia))
theorem Vl.lst {k p m:Nat} {xs:List FV} (h:∀ x∈xs,Vl k p x) (hl:xs.length≤m):Vl (m * (k + 1)) (p + 1) (.lst xs):=by
 obtain ⟨ds,e,h1,h2,h3,h4⟩:=Vl.all h
 refine ⟨.lst ds,by rw [e]; rfl,Nat.succ_le_succ (by lia),h2,?_⟩
 simp only [D.wt]
 exact Nat.le_trans h3 (Nat.mul_le_mul_right _ (by lia))
theorem Vl.int {i:Int} (h:-(2 ^ 40) < i) (h':i < 2 ^ 40):Vl 41 0 (.int i):=⟨.int i,rfl,Nat.le_refl _,decide_eq_true (by lia),by simp only [D.wt]; rw [if_pos ⟨h,h'⟩]; exact Nat.le_refl _⟩
theorem Vl.non:Vl 0 0 .non:=⟨.non,rfl,Nat.le_refl _,rfl,Nat.le_refl _⟩
theorem eq_dF {a b:D} (ha:dep a < 40) (hb:dep b < 40):eqF (dF a) (dF b)=some (D.eqv a b):=by
 have go:(fD deepest (dF a)).bind (fun x=>(fD deepest (dF b)).bind fun y=>some (D.eqv x y))=some (D.eqv a b):=by
  rw [fD_dF a deepest ha,fD_dF b deepest hb]; rfl
 unfold eqF
 split
 ·rename_i x y e1 e2; cases a <;> cases e1
 ·exact go
theorem cut_to {α:Type} (xs:List α) (n:Nat):cutF xs none (some (n:Int))=xs.take n:=by
 have h:sIx xs.length xs.length (some (n:Int))=min n xs.length:=by simp only [sIx]; rw [if_neg (by lia)]; simp
 unfold cutF
 rw [h]
 show (xs.drop 0).take (min n xs.length - 0)=_
 rw [List.drop_zero,Nat.sub_zero,List.take_eq_take_iff]; lia
theorem wts_len:∀ xs:List D,xs.length≤D.wts xs
 | []=>Nat.le_refl _
 | x :: r=>by have:=wts_len r; simp only [D.wts,List.length_cons]; lia
theorem deps_mem {x:D}:∀ {xs:List D},x∈xs→dep x≤deps xs
 | [],h=>by cases h
 | y :: r,h=>by
  simp only [deps]
  rcases List.mem_cons.mp h with rfl | h
  ·lia
  ·have:=deps_mem h; lia
theorem wts_mem {x:D}:∀ {xs:List D},x∈xs→x.wt≤D.wts xs
 | [],h=>by cases h
 | y :: r,h=>by
  simp only [D.wts]
  rcases List.mem_cons.mp h with rfl | h
  ·lia
  ·have:=wts_mem h; lia
mutual
theorem eqv_refl:∀ x:D,D.eqv x x=true
 | .non=>rfl
 | .bl b=>beq_self_eq_true b
 | .int i=>beq_self_eq_true i
 | .str s=>beq_self_eq_true s
 | .tup xs=>eqvs_refl xs
 | .lst xs=>eqvs_refl xs
theorem eqvs_refl:∀ xs:List D,D.eqvs xs xs=true
 | []=>rfl
 | x :: r=>by show (_ && _)=true; rw [eqv_refl x,eqvs_refl r]; rfl
end
theorem eq_same {k p:Nat} {x:FV} (h:Vl k p x) (hp:p < 40) (R:Bool→Prop):wp (eqF x x) R↔R true:=by
 obtain ⟨d,rfl,h1,-⟩:=h
 rw [eq_dF (by lia) (by lia),eqv_refl]; exact Iff.rfl
theorem pair_self:∀ xs:List FV,pairF xs xs=xs.map fun x=>.tup [x,x]
 | []=>rfl
 | x :: r=>by rw [List.map_cons,← pair_self r]; rfl
theorem same_wp:∀ (p d:Nat) {x:D} {Q:FV×FV→Prop},dep x≤p→p < 39→x.wt≤big→Q (.bl true,.non)→callW tb (d + p + 1) 3 [dF x,dF x] Q:=by
 intro p
 induction p with
 | zero =>
  intro d x Q hx hp hw q
  refine call_of (fd:=fd3) rfl rfl ?_
  cases x with
  | tup xs=>simp [dep] at hx
  | lst xs=>simp [dep] at hx
  | _=>simp [fd3,bd3,dF]; exact q
 | succ p ih =>
  intro d x Q hx hp hw q
  refine call_of (fd:=fd3) rfl rfl ?_
  cases x with
  | tup xs =>
   simp only [dep] at hx
   simp only [D.wt] at hw
   have hl:=wts_len xs
   simp [fd3,bd3,dF]
   rw [pair_self,dFs_map,List.map_map]
   refine ⟨by simp; lia,?_⟩
   refine comp_map (g:=fun _=>.bl true) xs [] (fun x hx' K k=>?_) ?_
   ·have:=deps_mem hx'
    have:=wts_mem hx'
    simp
    exact ih d (by lia) (by lia) (by lia) (by simpa using k)
   ·rw [List.nil_append,show (xs.map fun _=>FV.bl true)=xs.map fun x=>FV.bl ((fun _=>true) x) from rfl,bools_map]
    simp
    rw [show (xs.all fun _=>true)=true by simp]; exact q
  | lst xs =>
   simp only [dep] at hx
   simp only [D.wt] at hw
   have hl:=wts_len xs
   simp [fd3,bd3,dF]
   rw [pair_self,dFs_map,List.map_map]
   refine ⟨by simp; lia,?_⟩
   refine comp_map (g:=fun _=>.bl true) xs [] (fun x hx' K k=>?_) ?_
   ·have:=deps_mem hx'
    have:=wts_mem hx'
    simp
    exact ih d (by lia) (by lia) (by lia) (by simpa using k)
   ·rw [List.nil_append,show (xs.map fun _=>FV.bl true)=xs.map fun x=>FV.bl ((fun _=>true) x) from rfl,bools_map]
    simp
    rw [show (xs.all fun _=>true)=true by simp]; exact q
  | _=>simp [fd3,bd3,dF]; exact q
theorem same_vl (d:Nat) {k p:Nat} {x:FV} {Q:FV×FV→Prop} (h:Vl k p x) (hp:p < 39) (hk:k≤big) (q:Q (.bl true,.non)):callW tb (d + p + 1) 3 [x,x] Q:=by
 obtain ⟨e,rfl,h1,h2,h3⟩:=h
 exact same_wp p d h1 hp (by lia) q
def encL:Option Nat→FV | none=>.non | some a=>.int a
def encR (ws ss:List Int):FV:=.tup [.tup (ws.map .int),.tup (ss.map .int)]
def encK (ks:List Nat):FV:=.tup (ks.map fun i:Nat=>.int i)
theorem at_ints {xs:List Int} {i:Nat} (h:i < xs.length) (Q:FV→Prop):wp (atF (xs.map .int) (i:Int)) Q↔Q (.int (xs.getD i 0)) :=
 at_nat rfl (by rw [List.getElem?_map,List.getElem?_eq_getElem h]; simp [List.getD,h])
theorem lsize_wp (d:Nat) {n g:Int} {v:FV} {Q:FV×FV→Prop} (hs:Lf n v) (h0:0≤n) (hn:n < 100000) (q:∀ s v',1≤s→s < 1000000000→Lf (n + 2) v'→Q (.int s,v')):callW tb (d + 3) 4 [v,.int g] Q:=by
 refine call_of (fd:=fd4) rfl rfl ?_
 simp [fd4,bd4,big]
 refine pick_wp d hs (by lia) (by decide) (by decide) fun u v1 u0 u1 l1=>?_
 simp
 have fin:wp (atF [FV.int 9,FV.int 9,FV.int 40,FV.int 3] u) fun z=>callW tb (d + 2) 2 [v1,z] fun z=>wp (addF (FV.int 1) z.fst) fun z_1=>Q (z_1,z.snd):=by
  refine at_any u0 u1 ?_
  intro f hf
  obtain ⟨k,rfl,k0,k1⟩:∃ k:Int,f=.int k∧0 < k∧k≤40:=by
   simp at hf
   rcases hf with rfl | rfl | rfl | rfl <;> exact ⟨_,rfl,by decide,by decide⟩
  refine pick_wp d l1 (by lia) k0 (by lia) fun w v2 w0 w1 l2=>?_
  simp
  exact q _ _ (by lia) (by lia) (l2.mono (by lia))
 refine ite2 (fun h=>?_) (fun h=>fin)
 refine ite2 (fun h=>?_) (fun h=>fin)
 refine ⟨by decide,pick_wp d l1 (by lia) (by decide) (by decide) fun w v2 w0 w1 l2=>?_⟩
 simp
 exact q _ _ (by lia) (by lia) (l2.mono (by lia))
def Szs (xs:List Int):Prop:=∀ x∈xs,1≤x∧x < 2000000000
theorem row_wp (d : Nat) {n M : Int} {v : FV} {Q : FV × FV → Prop} (hs : Lf n v) (h0 : 0 ≤ n) (hn : n < 10000) (hM : 8 ≤ M) (hM2 : M ≤ 30) (q : ∀ (ws ss : List Int) v', 1 ≤ ws.length → ws.length ≤ 30 → ss.length + 1 = ws.length → Szs ws → Szs ss → Lf (n + 200) v' → Q (.tup [.tup (ws.map .int), .tup (ss.map .int)], v')) : callW tb (d + 4) 5 [v, .int M] Q := by
  refine call_of (fd := fd5) rfl rfl ?_
  simp [fd5, bd5, big]
  refine pick_wp (d + 1) hs (by lia) (by decide) (by decide) fun u v1 u0 u1 l1 => ?_
  simp
  have tail : ∀ (m : Nat) (v2 : FV), 1 ≤ m → m ≤ 30 → Lf (n + 2) v2 → callW tb (d + 3) 2 [v2, FV.int 4] fun z =>
      small62 (m : Int) = true ∧ (upF 0 (m : Int).toNat).length ≤ 100000 ∧
        compW 5 1 (Tg.nm 5) bTrue
          (eOp addF (eCallO (callW tb (d + 3)) 4 0 (aCons (eVar 3) aNil))
            (eOp ixF (eLst (aCons (eC (FV.int 0)) (aCons (eC (FV.int 9)) aNil)))
              (eCallO (callW tb (d + 3)) 2 0 (aCons (eC (FV.int 2)) aNil))))
          (upF 0 (m : Int).toNat) [] [some z.snd, some (FV.int M), some (FV.int m), some z.fst, none] fun ys L2 =>
          wp (lk (List.set L2 4 (some (FV.tup ys))) 4) fun x =>
            wp (lk (List.set L2 4 (some (FV.tup ys))) 2) fun x_1 =>
              wp (subF x_1 (FV.int 1)) fun z =>
                wp (intF z) fun j =>
                  small62 j = true ∧ List.length L2 = 5 ∧ (upF 0 j.toNat).length ≤ 100000 ∧
                        compW 5 1 (Tg.nm 5) bTrue (eCallO (callW tb (d + 3)) 4 0 (aCons (eVar 3) aNil)) (upF 0 j.toNat)
                          [] (List.set L2 4 (some (FV.tup ys))) fun ys L2 =>
                          wp (lk L2 0) fun x_2 => Q (FV.tup [x, FV.tup ys], x_2) := by
    intro m v2 m1 m2 l2
    refine pick_wp (d + 1) l2 (by lia) (by decide) (by decide) fun g v3 g0 g1 l3 => ?_
    refine ⟨small62_of (by lia) (by lia), ?_⟩
    rw [Int.toNat_natCast, up_range]
    refine ⟨by simp; lia, ?_⟩
    refine comp_each (f := fun i : Nat => FV.int i) (I := fun ds acc L => ∃ v' xs, L = [some v', some (.int M), some (.int m), some (.int g), none] ∧ acc = xs.map .int ∧ xs.length = ds.length ∧ Szs xs ∧ Lf (n + 3 + 3 * ds.length) v') (List.range m) (List.range m) [] [] _ rfl ⟨v3, [], rfl, rfl, rfl, by simp [Szs], by simpa [Int.add_assoc] using l3⟩ ?_ ?_
    · rintro ds x r acc L K e ⟨v', xs, rfl, rfl, hl, hx, lf⟩ k
      have hd : ds.length < 30 := by have := congrArg List.length e; simp at this; lia
      simp
      refine lsize_wp d lf (by lia) (by lia) fun s v4 s0 s1 l4 => ?_
      simp [big]
      refine pick_wp (d + 1) l4 (by lia) (by decide) (by decide) fun w v5 w0 w1 l5 => ?_
      simp
      refine at_any w0 w1 ?_
      intro f hf
      obtain ⟨p, rfl, p0, p1⟩ : ∃ p : Int, f = .int p ∧ 0 ≤ p ∧ p ≤ 9 := by
        simp at hf
        rcases hf with rfl | rfl <;> exact ⟨_, rfl, by decide, by decide⟩
      simp
      refine k _ _ ⟨v5, xs ++ [s + p], rfl, by simp, by simp [hl], ?_, l5.mono (by simp; lia)⟩
      intro y hy
      rcases List.mem_append.mp hy with hy | hy
      · exact hx y hy
      · simp at hy; subst hy; lia
    · rintro ys L ⟨v', ws, rfl, rfl, hl, hx, lf⟩
      simp only [List.length_range] at hl lf
      simp
      refine ⟨small62_of (by lia) (by lia), ?_⟩
      rw [up_range]
      refine ⟨by simp; lia, ?_⟩
      refine comp_each (f := fun i : Nat => FV.int i) (I := fun ds acc L => ∃ v' xs, L = [some v', some (.int M), some (.int m), some (.int g), some (.tup (ws.map .int))] ∧ acc = xs.map .int ∧ xs.length = ds.length ∧ Szs xs ∧ Lf (n + 93 + 3 * ds.length) v') (List.range (m - 1)) (List.range (m - 1)) [] [] _ rfl ⟨v', [], rfl, rfl, rfl, by simp [Szs], lf.mono (by simp; lia)⟩ ?_ ?_
      · rintro ds x r acc L K e ⟨v', xs, rfl, rfl, hl, hx, lf⟩ k
        have hd : ds.length < 30 := by have := congrArg List.length e; simp at this; lia
        simp
        refine lsize_wp d lf (by lia) (by lia) fun s v4 s0 s1 l4 => ?_
        simp
        refine k _ _ ⟨v4, xs ++ [s], rfl, by simp, by simp [hl], ?_, l4.mono (by simp; lia)⟩
        intro y hy
        rcases List.mem_append.mp hy with hy | hy
        · exact hx y hy
        · simp at hy; subst hy; lia
      · rintro ys L ⟨v', ss, rfl, rfl, hl2, hx2, lf⟩
        simp only [List.length_range] at hl2 lf
        simp
        exact q ws ss v' (by lia) (by lia) (by lia) hx hx2 (lf.mono (by lia))
  refine ite2 (fun h => ?_) (fun h => ?_)
  · refine pick_wp (d + 1) l1 (by lia) (by decide) (by decide) fun w v2 w0 w1 l2 => ?_
    obtain ⟨m, hm⟩ : ∃ m : Nat, 1 + w = m := ⟨(1 + w).toNat, by lia⟩
    simp
    rw [hm]
    exact tail m v2 (by lia) (by lia) (l2.mono (by lia))
  · refine pick_wp (d + 1) l1 (by lia) (by lia) (by lia) fun w v2 w0 w1 l2 => ?_
    obtain ⟨m, hm⟩ : ∃ m : Nat, 8 + w = m := ⟨(8 + w).toNat, by lia⟩
    simp
    rw [hm]
    exact tail m v2 (by lia) (by lia) (l2.mono (by lia))
theorem sz_vl {ws:List Int} {m:Nat} (h:Szs ws) (hl:ws.length≤m):Vl (m * 42) 1 (.tup (ws.map .int)):=by
 refine Vl.tup (k:=41) (p:=0) ?_ (by simpa using hl)
 intro x hx
 obtain ⟨i,hi,rfl⟩:=List.mem_map.mp hx
 have:=h i hi
 exact Vl.int (by lia) (by lia)
theorem sum_wp2 {xs:List Int} (hl:xs.length≤1000) (h:∀ x∈xs,0≤x∧x≤100000000000) {Q:Int→Prop} (q:Q xs.sum):wp (sumI (xs.map .int)) Q:=by
 simp only [sumI,wp_bind,ints_map,wp_some]
 rw [wp_ite]
 refine ⟨⟨by simp only [big]; lia,?_⟩,q⟩
 rw [List.all_eq_true]
 intro x hx
 have:=h x hx
 simp only [small40,decide_eq_true_eq]; lia
theorem sum_bd:∀ {xs:List Int},(∀ x∈xs,0≤x∧x≤2000000000)→0≤xs.sum∧xs.sum≤2000000000 * xs.length
 | [],_=>by simp
 | x :: r,h=>by
  have:=sum_bd fun y hy=>h y (List.mem_cons_of_mem _ hy)
  have:=h x (by simp)
  simp only [List.sum_cons,List.length_cons,Int.natCast_add]
  lia
theorem two_v {k p:Nat} {x y:FV} (hx:Vl k p x) (hy:Vl k p y):Vl (2 * (k + 1)) (p + 1) (.lst [x,y]):=Vl.lst (fun z hz=>by
 simp only [List.mem_cons,List.not_mem_nil,or_false] at hz
 rcases hz with rfl | rfl
 ·exact hx
 ·exact hy) (Nat.le_refl 2)
open PySem (Addr Str)
open L2 (V putF)
theorem mapO_vI:∀ zs:List Int,mapO vF (zs.map V.int)=some (zs.map FV.int)
 | []=>rfl
 | a :: r=>by simp only [List.map_cons,mapO,mapO_vI r]; rfl
def obG (dx l1 l2 l3:Addr) (ws ss ks:List Int) (z:Int):FV:=.obj 77 dx [("wholes",.ref l1),("steps",.ref l2),("kept",.ref l3),("since",.int z)] [(l3,ks.map V.int),(l2,ss.map V.int),(l1,ws.map V.int)]
section
variable {dx l1 l2 l3:Addr}{ws ss ks:List Int}{z:Int}
theorem gW1 (a:l1≠l2) (b:l1≠l3):lsA [("wholes",.ref l1),("steps",.ref l2),("kept",.ref l3),("since",.int z)] [(l3,ks.map V.int),(l2,ss.map V.int),(l1,ws.map V.int)] "wholes" = some (l1,ws.map V.int):=by
 show (List.lookup l1 [(l3,ks.map V.int),(l2,ss.map V.int),(l1,ws.map V.int)]).map _=_
 rw [List.lookup_cons,beq_eq_false_iff_ne.mpr b,List.lookup_cons,beq_eq_false_iff_ne.mpr a,List.lookup_cons,beq_self_eq_true]; rfl
theorem gS1 (c:l2≠l3):lsA [("wholes",.ref l1),("steps",.ref l2),("kept",.ref l3),("since",.int z)] [(l3,ks.map V.int),(l2,ss.map V.int),(l1,ws.map V.int)] "steps" = some (l2,ss.map V.int):=by
 show (List.lookup l2 [(l3,ks.map V.int),(l2,ss.map V.int),(l1,ws.map V.int)]).map _=_
 rw [List.lookup_cons,beq_eq_false_iff_ne.mpr c,List.lookup_cons,beq_self_eq_true]; rfl
theorem gK1:lsA [("wholes",.ref l1),("steps",.ref l2),("kept",.ref l3),("since",.int z)] [(l3,ks.map V.int),(l2,ss.map V.int),(l1,ws.map V.int)] "kept" = some (l3,ks.map V.int):=by
 show (List.lookup l3 [(l3,ks.map V.int),(l2,ss.map V.int),(l1,ws.map V.int)]).map _=_
 rw [List.lookup_cons,beq_self_eq_true]; rfl
theorem glW (a:l1≠l2) (b:l1≠l3):lsF 77 "wholes" (obG dx l1 l2 l3 ws ss ks z)=some (ws.map FV.int):=by
 show (if (77:Nat)=77 then _ else none)=_
 rw [if_pos rfl,gW1 a b]
 exact mapO_vI ws
theorem glS (c:l2≠l3):lsF 77 "steps" (obG dx l1 l2 l3 ws ss ks z)=some (ss.map FV.int):=by
 show (if (77:Nat)=77 then _ else none)=_
 rw [if_pos rfl,gS1 c]
 exact mapO_vI ss
theorem glK:lsF 77 "kept" (obG dx l1 l2 l3 ws ss ks z)=some (ks.map FV.int):=by
 show (if (77:Nat)=77 then _ else none)=_
 rw [if_pos rfl,gK1]
 exact mapO_vI ks
theorem gfZ:fldF 77 "since" (obG dx l1 l2 l3 ws ss ks z)=some (.int z):=rfl
theorem gpZ (v:Int):putO 77 "since" (.int v) (obG dx l1 l2 l3 ws ss ks z)=some (obG dx l1 l2 l3 ws ss ks v):=by
 show (if (77:Nat)=77∧4 < 1000 then _ else none)=_
 rw [if_pos ⟨rfl,by decide⟩]
 rfl
theorem gaW (a:l1≠l2) (b:l1≠l3) (hl:ws.length < big) (i:Int):appO 77 "wholes" (.int i) (obG dx l1 l2 l3 ws ss ks z)=some (obG dx l1 l2 l3 (ws++[i]) ss ks z):=by
 show (if (77:Nat)=77 then _ else none)=_
 rw [if_pos rfl,gW1 a b]
 show (if (ws.map V.int).length < big then _ else none)=_
 rw [if_pos (by simpa using hl)]
 simp [obG,putG,Ne.symm a,Ne.symm b]
theorem gaS (a:l1≠l2) (c:l2≠l3) (hl:ss.length < big) (i:Int):appO 77 "steps" (.int i) (obG dx l1 l2 l3 ws ss ks z)=some (obG dx l1 l2 l3 ws (ss++[i]) ks z):=by
 show (if (77:Nat)=77 then _ else none)=_
 rw [if_pos rfl,gS1 c]
 show (if (ss.map V.int).length < big then _ else none)=_
 rw [if_pos (by simpa using hl)]
 simp [obG,putG,a,Ne.symm c]
theorem gaK (b:l1≠l3) (c:l2≠l3) (hl:ks.length < big) (i:Int):appO 77 "kept" (.int i) (obG dx l1 l2 l3 ws ss ks z)=some (obG dx l1 l2 l3 ws ss (ks++[i]) z):=by
 show (if (77:Nat)=77 then _ else none)=_
 rw [if_pos rfl,gK1]
 show (if (ks.map V.int).length < big then _ else none)=_
 rw [if_pos (by simpa using hl)]
 simp [obG,putG,b,c]
theorem ginit_wp (d:Nat) {Q:FV×FV→Prop} (q:∀ l1 l2 l3,l1≠l2→l1≠l3→l2≠l3→Q (.non,obG dx l1 l2 l3 [] [] [] 0)):callW tb (d + 1) 10 [.obj 77 dx [] []] Q:=by
 refine call_of (fd:=fd10) rfl rfl ?_
 simp [fd10,bd10]
 have n1:(Str.ofString "wholes" = Str.ofString "steps")=False:=eq_false (by decide)
 have n2:(Str.ofString "wholes" = Str.ofString "kept")=False:=eq_false (by decide)
 have n3:(Str.ofString "wholes" = Str.ofString "since")=False:=eq_false (by decide)
 have n4:(Str.ofString "steps" = Str.ofString "kept")=False:=eq_false (by decide)
 have n5:(Str.ofString "steps" = Str.ofString "since")=False:=eq_false (by decide)
 have n6:(Str.ofString "kept" = Str.ofString "since")=False:=eq_false (by decide)
 simp [vI,putO,newO,putF,n1,n2,n3,n4,n5,n6]
 exact fun p p1 a p2 b c=>q p p1 p2 a c b
theorem grow_wp (d:Nat) (a:l1≠l2) (b:l1≠l3) (c:l2≠l3) (hl:ws.length < 1000) (hs:ss.length < 1000) (hk:ks.length < 1000) (w s:Int) {Q:FV×FV→Prop}
  (q0:ws.length=0→Q (.str "whole",obG dx l1 l2 l3 (ws++[w]) ss (ks++[0]) 0))
  (q1:0 < ws.length→z + s≤w→Q (.str "change",obG dx l1 l2 l3 (ws++[w]) (ss++[s]) ks (z + s)))
  (q2:0 < ws.length→w < z + s→Q (.str "whole",obG dx l1 l2 l3 (ws++[w]) (ss++[s]) (ks++[(ws.length:Int)]) 0)):callW tb (d + 1) 11 [obG dx l1 l2 l3 ws ss ks z,.int w,.int s] Q:=by
 refine call_of (fd:=fd11) rfl rfl ?_
 simp [fd11,bd11]
 have v0:vI (FV.int 0)=some (V.int 0):=rfl
 have hb:ws.length < big:=by simp only [big]; lia
 have hb2:ss.length < big:=by simp only [big]; lia
 have hb3:ks.length < big:=by simp only [big]; lia
 rw [glW a b,wp_some,wp_some,show vI (FV.int w)=some (V.int w) from rfl,wp_some,gaW a b hb,wp_some]
 simp only [List.length_map]
 rcases Nat.eq_zero_or_pos ws.length with h0 | h0
 ·rw [if_neg (by lia),if_neg (by lia),glK,wp_some,show vI (FV.int (ws.length:Int))=some (V.int (ws.length:Int)) from rfl,wp_some,gaK b c hb3,wp_some,v0,wp_some,gpZ,wp_some,h0]
  exact q0 h0
 ·rw [if_pos h0,glS c,wp_some,show vI (FV.int s)=some (V.int s) from rfl,wp_some,gaS a c hb2,wp_some,gfZ,wp_some]
  simp
  rw [gpZ,wp_some,if_pos h0,gfZ,wp_some]
  simp
  refine ite2 (fun g=>q1 h0 g) fun g=>?_
  rw [glK,wp_some,show vI (FV.int (ws.length:Int))=some (V.int (ws.length:Int)) from rfl,wp_some,gaK b c hb3,wp_some,v0,wp_some,gpZ,wp_some]
  exact q2 h0 (by lia)
theorem rnow_wp (d:Nat) (a:l1≠l2) (b:l1≠l3) (c:l2≠l3) (hl:ws≠[]) {Q:FV×FV→Prop} (q:Q (encR ws ss,obG dx l1 l2 l3 ws ss ks z)):callW tb (d + 1) 12 [obG dx l1 l2 l3 ws ss ks z] Q:=by
 refine call_of (fd:=fd12) rfl rfl ?_
 simp [fd12,bd12]
 rw [glW a b,wp_some]
 refine ⟨by simpa using hl,?_⟩
 rw [wp_some,glS c,wp_some]
 exact ⟨by decide,q⟩
theorem know_wp (d:Nat) {Q:FV×FV→Prop} (q:Q (.tup (ks.map .int),obG dx l1 l2 l3 ws ss ks z)):callW tb (d + 1) 13 [obG dx l1 l2 l3 ws ss ks z] Q:=by
 refine call_of (fd:=fd13) rfl rfl ?_
 simp [fd13,bd13]
 rw [glK,wp_some]
 simpa using q
end
def pl (ws ss:List Int):Nat→List Nat×Int
 | 0=>([0],0)
 | m + 1=>if ws.getD (m + 1) 0 < (pl ws ss m).2 + ss.getD m 0 then ((pl ws ss m).1++[m + 1],0) else ((pl ws ss m).1,(pl ws ss m).2 + ss.getD m 0)
theorem pl_s (ws ss:List Int) (m:Nat):pl ws ss (m + 1)=if ws.getD (m + 1) 0 < (pl ws ss m).2 + ss.getD m 0 then ((pl ws ss m).1++[m + 1],0) else ((pl ws ss m).1,(pl ws ss m).2 + ss.getD m 0):=rfl
theorem pl_ok (ws ss:List Int):∀ m,0∈(pl ws ss m).1∧(pl ws ss m).1.Pairwise (· < ·)∧(∀ k∈(pl ws ss m).1,k≤m)∧(pl ws ss m).1.length≤m + 1
 | 0=>by simp [pl]
 | m + 1=>by
  obtain ⟨h1,h2,h3,h4⟩:=pl_ok ws ss m
  unfold pl
  split
  ·refine ⟨List.mem_append_left _ h1,List.pairwise_append.mpr ⟨h2,by simp,fun a ha b hb=>?_⟩,fun k hk=>?_,by simp; lia⟩
   ·have:=h3 a ha
    simp at hb; lia
   ·rcases List.mem_append.mp hk with z | z
    ·have:=h3 k z; lia
    ·simp at z; lia
  ·exact ⟨h1,h2,fun k hk=>Nat.le_succ_of_le (h3 k hk),Nat.le_succ_of_le h4⟩
theorem pl_in (ws ss:List Int) (m:Nat):(m + 1∈(pl ws ss (m + 1)).1)=(ws.getD (m + 1) 0 < (pl ws ss m).2 + ss.getD m 0):=by
 have h3:=(pl_ok ws ss m).2.2.1
 rw [pl]
 split
 ·rename_i h; simp only [h,List.mem_append,List.mem_singleton,or_true]
 ·rename_i h
  simp only [h,eq_iff_iff,iff_false]
  exact fun z=>by have:=h3 _ z; lia
theorem getD_take {xs:List Int} {n m:Nat} (h:m < n):(xs.take n).getD m 0=xs.getD m 0:=by simp [List.getD,List.getElem?_take,h]
theorem pl_take (ws ss:List Int) (n:Nat):∀ m,m≤n→pl (ws.take (n + 1)) (ss.take n) m=pl ws ss m
 | 0,_=>rfl
 | m + 1,h=>by
  unfold pl
  rw [pl_take ws ss n m (by lia),getD_take (by lia),getD_take (by lia)]
noncomputable abbrev iN (ks:List Nat):List Int:=ks.map fun i:Nat=>(i:Int)
theorem iN_enc (ks:List Nat):FV.tup ((iN ks).map FV.int)=encK ks:=by simp [iN,encK,Function.comp_def]
theorem played_wp (d:Nat) {ws ss:List Int} (h1:1≤ws.length) (hn:ws.length≤60) (hl:ss.length + 1=ws.length) {Q:FV×FV→Prop} (q:Q (encK (pl ws ss (ws.length - 1)).1,.non)):callW tb (d + 1) 6 [encR ws ss] Q:=by
 refine call_of (fd:=fd6) rfl rfl ?_
 simp [fd6,bd6,big,encR]
 refine ⟨⟨by decide,small62_of (by lia) (by lia)⟩,?_⟩
 refine for_upto (I:=fun j L=>∃ a,L=[some (encR ws ss),some (.tup (ws.map .int)),some (.tup (ss.map .int)),some (.lst ((pl ws ss (j - 1)).1.map fun i:Nat=>.int i)),some (.int (pl ws ss (j - 1)).2),a]) (ws.length - 1) 1 _ ⟨none,rfl⟩ ?_ ?_
 ·rintro j L K h1 h2 ⟨a,rfl⟩ k
  obtain ⟨t,rfl⟩:∃ t,j=t + 1:=⟨j - 1,by lia⟩
  simp only [Nat.add_sub_cancel] at k ⊢
  simp
  have h4:=(pl_ok ws ss t).2.2.2
  rw [at_ints (by lia)]
  simp
  rw [show ((t:Int) + 1)=((t + 1:Nat):Int) by simp,at_ints (by lia)]
  simp
  have e:=pl_s ws ss t
  refine ite2 (fun g=>⟨by simp only [big]; lia,k _ ⟨some (.int ((t:Int) + 1)),?_⟩⟩) (fun g=>k _ ⟨some (.int ((t:Int) + 1)),?_⟩)
  ·rw [e,if_pos (by simpa [List.getD] using g)]
   simp
  ·rw [e,if_neg (by simpa [List.getD] using g)]
   simp [List.getD]
 ·rintro L ⟨a,rfl⟩
  rw [show 1 + (ws.length - 1) - 1=ws.length - 1 by lia]
  simp
  exact q
section
variable {dx l1 l2 l3:Addr}
theorem grow0_wp (d:Nat) (a:l1≠l2) (b:l1≠l3) (c:l2≠l3) (w:Int) (v:FV) {Q:FV×FV→Prop} (q:Q (.str "whole",obG dx l1 l2 l3 [w] [] [0] 0)):callW tb (d + 1) 11 [obG dx l1 l2 l3 [] [] [] 0,.int w,v] Q:=by
 refine call_of (fd:=fd11) rfl rfl ?_
 simp [fd11,bd11]
 have v0:vI (FV.int 0)=some (V.int 0):=rfl
 rw [glW a b,wp_some,wp_some,show vI (FV.int w)=some (V.int w) from rfl,wp_some,gaW a b (by simp [big]),wp_some]
 simp
 rw [glK,wp_some,v0,wp_some,gaK b c (by simp [big]),wp_some,wp_some,gpZ,wp_some]
 exact q
end
def stG (dx l1 l2 l3:Addr) (ws ss:List Int):Nat→FV
 | 0=>obG dx l1 l2 l3 [] [] [] 0
 | m + 1=>obG dx l1 l2 l3 (ws.take (m + 1)) (ss.take m) (iN (pl ws ss m).1) (pl ws ss m).2
def wordG (ws ss:List Int) (m:Nat):String:=if m∈(pl ws ss m).1 then "whole" else "change"
section
variable {dx l1 l2 l3:Addr}{ws ss:List Int}
theorem take_app {xs:List Int} {m:Nat} (h:m < xs.length):xs.take m++[xs.getD m 0]=xs.take (m + 1):=by
 rw [List.take_succ,List.getElem?_eq_getElem h]
 simp [List.getD,List.getElem?_eq_getElem h]
theorem ggrown_wp (d:Nat) (a:l1≠l2) (b:l1≠l3) (c:l2≠l3) (hn:ws.length≤60) (hl:ss.length + 1=ws.length) {m:Nat} (hm:m < ws.length) {v:FV} (hv:∀ t,m=t + 1→v=.int (ss.getD t 0)) {Q:FV×FV→Prop} (q:Q (.str (wordG ws ss m),stG dx l1 l2 l3 ws ss (m + 1))) :
  callW tb (d + 1) 11 [stG dx l1 l2 l3 ws ss m,.int (ws.getD m 0),v] Q:=by
 cases m with
 | zero =>
  refine grow0_wp d a b c _ v ?_
  have e:ws.take 1=[ws.getD 0 0]:=by rw [← take_app hm]; rfl
  simpa [wordG,stG,pl,iN,e] using q
 | succ t =>
  obtain ⟨h1,h2,h3,h4⟩:=pl_ok ws ss t
  have lw:(ws.take (t + 1)).length=t + 1:=by rw [List.length_take]; lia
  have e:=pl_s ws ss t
  rw [hv t rfl]
  refine grow_wp d a b c (by lia) (by rw [List.length_take]; lia) (by simp [iN]; lia) _ _ (fun h=>by lia) (fun _ g=>?_) (fun _ g=>?_)
  ·rw [wordG,if_neg (by rw [pl_in]; lia)] at q
   rw [stG,e,if_neg (by lia)] at q
   rw [take_app hm,take_app (by lia)]
   exact q
  ·rw [wordG,if_pos (by rw [pl_in]; lia)] at q
   rw [stG,e,if_pos (by lia)] at q
   rw [take_app hm,take_app (by lia),lw]
   simpa [iN] using q
theorem rowS_wp (d:Nat) (a:l1≠l2) (b:l1≠l3) (c:l2≠l3) (hw:1≤ws.length) {m:Nat} {Q:FV×FV→Prop} (q:Q (encR (ws.take (m + 1)) (ss.take m),stG dx l1 l2 l3 ws ss (m + 1))):callW tb (d + 1) 12 [stG dx l1 l2 l3 ws ss (m + 1)] Q :=
 rnow_wp d a b c (fun z=>by have:=congrArg List.length z; rw [List.length_take,List.length_nil] at this; lia) q
theorem keptS_wp (d:Nat) {m:Nat} {Q:FV×FV→Prop} (q:Q (encK (pl ws ss m).1,stG dx l1 l2 l3 ws ss (m + 1))):callW tb (d + 1) 13 [stG dx l1 l2 l3 ws ss (m + 1)] Q :=
 know_wp d (by rw [iN_enc]; exact q)
end
open PySem (Addr Str)
open L2 (V putF)
def vL:Option Nat→V
 | none=>.non
 | some a=>.int a
def obN (dx l1 l2:Addr) (M dp:Int) (ls:List (Option Nat)) (zs:List Int):FV:=.obj 119 dx [("most",.int M),("laying",.ref l1),("sizes",.ref l2),("deepest",.int dp)] [(l2,zs.map V.int),(l1,ls.map vL)]
theorem mapO_vL:∀ ls:List (Option Nat),mapO vF (ls.map vL)=some (ls.map encL)
 | []=>rfl
 | a :: r=>by
  simp only [List.map_cons,mapO,mapO_vL r]
  cases a <;> rfl
theorem ixN_last {n:Nat} (h:0 < n):L2.ixN n (-1)=some (n - 1):=by
 unfold L2.ixN
 rw [if_neg (by lia),if_pos (by lia)]
 congr 1; lia
theorem set_last {α:Type} {xs:List α} (h:xs≠[]) (y:α):xs.set (xs.length - 1) y=xs.dropLast++[y]:=by
 induction xs with
 | nil=>exact absurd rfl h
 | cons a r ih =>
  cases r with
  | nil=>rfl
  | cons b q=>simpa using ih (by simp)
section
variable {dx l1 l2:Addr}{M dp:Int}{ls:List (Option Nat)}{zs:List Int}
theorem lsL (h:l1≠l2):lsF 119 "laying" (obN dx l1 l2 M dp ls zs)=some (ls.map encL):=by
 have e:lsA [("most",.int M),("laying",.ref l1),("sizes",.ref l2),("deepest",.int dp)] [(l2,zs.map V.int),(l1,ls.map vL)] "laying" = some (l1,ls.map vL):=by
  show (List.lookup l1 [(l2,zs.map V.int),(l1,ls.map vL)]).map _=_
  rw [List.lookup_cons,beq_eq_false_iff_ne.mpr h,List.lookup_cons,beq_self_eq_true]; rfl
 show (if (119:Nat)=119 then _ else none)=_
 rw [if_pos rfl,e]
 exact mapO_vL ls
theorem lsS:lsF 119 "sizes" (obN dx l1 l2 M dp ls zs)=some (zs.map FV.int):=by
 have e:lsA [("most",.int M),("laying",.ref l1),("sizes",.ref l2),("deepest",.int dp)] [(l2,zs.map V.int),(l1,ls.map vL)] "sizes" = some (l2,zs.map V.int):=by
  show (List.lookup l2 [(l2,zs.map V.int),(l1,ls.map vL)]).map _=_
  rw [List.lookup_cons,beq_self_eq_true]; rfl
 show (if (119:Nat)=119 then _ else none)=_
 rw [if_pos rfl,e]
 exact mapO_vI zs
theorem fdM:fldF 119 "most" (obN dx l1 l2 M dp ls zs)=some (.int M):=rfl
theorem fdD:fldF 119 "deepest" (obN dx l1 l2 M dp ls zs)=some (.int dp):=rfl
theorem ptD (v:Int):putO 119 "deepest" (.int v) (obN dx l1 l2 M dp ls zs)=some (obN dx l1 l2 M v ls zs):=by
 show (if (119:Nat)=119∧4 < 1000 then _ else none)=_
 rw [if_pos ⟨rfl,by decide⟩]
 rfl
theorem apL (h:l1≠l2) (hl:ls.length < big) (o:Option Nat):appO 119 "laying" (vL o) (obN dx l1 l2 M dp ls zs)=some (obN dx l1 l2 M dp (ls++[o]) zs):=by
 have e:lsA [("most",.int M),("laying",.ref l1),("sizes",.ref l2),("deepest",.int dp)] [(l2,zs.map V.int),(l1,ls.map vL)] "laying" = some (l1,ls.map vL):=by
  show (List.lookup l1 [(l2,zs.map V.int),(l1,ls.map vL)]).map _=_
  rw [List.lookup_cons,beq_eq_false_iff_ne.mpr h,List.lookup_cons,beq_self_eq_true]; rfl
 show (if (119:Nat)=119 then _ else none)=_
 rw [if_pos rfl,e]
 show (if (ls.map vL).length < big then _ else none)=_
 rw [if_pos (by simpa using hl)]
 simp [obN,putG,Ne.symm h]
theorem apS (h:l1≠l2) (hl:zs.length < big) (i:Int):appO 119 "sizes" (.int i) (obN dx l1 l2 M dp ls zs)=some (obN dx l1 l2 M dp ls (zs++[i])):=by
 have e:lsA [("most",.int M),("laying",.ref l1),("sizes",.ref l2),("deepest",.int dp)] [(l2,zs.map V.int),(l1,ls.map vL)] "sizes" = some (l2,zs.map V.int):=by
  show (List.lookup l2 [(l2,zs.map V.int),(l1,ls.map vL)]).map _=_
  rw [List.lookup_cons,beq_self_eq_true]; rfl
 show (if (119:Nat)=119 then _ else none)=_
 rw [if_pos rfl,e]
 show (if (zs.map V.int).length < big then _ else none)=_
 rw [if_pos (by simpa using hl)]
 simp [obN,putG,h]
theorem stL (h:l1≠l2) (hl:ls≠[]) (o:Option Nat):setO 119 "laying" (-1) (vL o) (obN dx l1 l2 M dp ls zs)=some (obN dx l1 l2 M dp (ls.dropLast++[o]) zs):=by
 have e:lsA [("most",.int M),("laying",.ref l1),("sizes",.ref l2),("deepest",.int dp)] [(l2,zs.map V.int),(l1,ls.map vL)] "laying" = some (l1,ls.map vL):=by
  show (List.lookup l1 [(l2,zs.map V.int),(l1,ls.map vL)]).map _=_
  rw [List.lookup_cons,beq_eq_false_iff_ne.mpr h,List.lookup_cons,beq_self_eq_true]; rfl
 show (if (119:Nat)=119 then _ else none)=_
 rw [if_pos rfl,e]
 show (L2.ixN (ls.map vL).length (-1)).map _=_
 rw [List.length_map,ixN_last (by cases ls with | nil=>exact absurd rfl hl | cons a r=>simp)]
 simp only [Option.map_some]
 have e2:=set_last (xs:=ls.map vL) (by simpa using hl) (vL o)
 rw [List.length_map] at e2
 rw [e2]
 simp [obN,putG,Ne.symm h]
theorem stS (h:l1≠l2) (hl:zs≠[]) (i:Int):setO 119 "sizes" (-1) (.int i) (obN dx l1 l2 M dp ls zs)=some (obN dx l1 l2 M dp ls (zs.dropLast++[i])):=by
 have e:lsA [("most",.int M),("laying",.ref l1),("sizes",.ref l2),("deepest",.int dp)] [(l2,zs.map V.int),(l1,ls.map vL)] "sizes" = some (l2,zs.map V.int):=by
  show (List.lookup l2 [(l2,zs.map V.int),(l1,ls.map vL)]).map _=_
  rw [List.lookup_cons,beq_self_eq_true]; rfl
 show (if (119:Nat)=119 then _ else none)=_
 rw [if_pos rfl,e]
 show (L2.ixN (zs.map V.int).length (-1)).map _=_
 rw [List.length_map,ixN_last (by cases zs with | nil=>exact absurd rfl hl | cons a r=>simp)]
 simp only [Option.map_some]
 have e2:=set_last (xs:=zs.map V.int) (by simpa using hl) (V.int i)
 rw [List.length_map] at e2
 rw [e2]
 simp [obN,putG,h]
theorem init_wp (d:Nat) {Q:FV×FV→Prop} (q:∀ l1 l2,l1≠l2→Q (.non,obN dx l1 l2 M 0 [] [])):callW tb (d + 1) 14 [.obj 119 dx [] [],.int M] Q:=by
 refine call_of (fd:=fd14) rfl rfl ?_
 simp [fd14,bd14]
 have n1:(Str.ofString "most" = Str.ofString "laying")=False:=eq_false (by decide)
 have n2:(Str.ofString "most" = Str.ofString "sizes")=False:=eq_false (by decide)
 have n3:(Str.ofString "laying" = Str.ofString "sizes")=False:=eq_false (by decide)
 have n4:(Str.ofString "most" = Str.ofString "deepest")=False:=eq_false (by decide)
 have n5:(Str.ofString "laying" = Str.ofString "deepest")=False:=eq_false (by decide)
 have n6:(Str.ofString "sizes" = Str.ofString "deepest")=False:=eq_false (by decide)
 simp [vI,putO,newO,putF,n1,n2,n3,n4,n5,n6]
 exact fun l1 l2 h=>q l1 l2 h
theorem nlay_wp (d:Nat) (h:l1≠l2) {Q:FV×FV→Prop} (q:Q (.tup (ls.map encL),obN dx l1 l2 M dp ls zs)):callW tb (d + 1) 16 [obN dx l1 l2 M dp ls zs] Q:=by
 refine call_of (fd:=fd16) rfl rfl ?_
 simp [fd16,bd16]
 rw [lsL h,wp_some]
 exact q
theorem nroom_wp (d:Nat) (hz:zs.length≤1000) (hb:∀ x∈zs,0≤x∧x≤100000000000) {Q:FV×FV→Prop} (q:Q (.int zs.sum,obN dx l1 l2 M dp ls zs)):callW tb (d + 1) 17 [obN dx l1 l2 M dp ls zs] Q:=by
 refine call_of (fd:=fd17) rfl rfl ?_
 simp [fd17,bd17]
 rw [lsS,wp_some]
 exact sum_wp2 hz hb q
theorem grown_wp (d:Nat) (h:l1≠l2) (hl:ls.length < 1000) (hzl:zs.length=ls.length) (w:Int) (b:FV) {Q:FV×FV→Prop}
  (q1:0 < ls.length→dp < M→∃ i,b=.int i∧Q (.tup [.int ((ls.length:Int) - 1)],obN dx l1 l2 M (dp + 1) (ls.dropLast++[some ls.length]++[none]) (zs.dropLast++[i]++[w])))
  (q2:¬ (0 < ls.length∧dp < M)→Q (.tup [],obN dx l1 l2 M 0 (ls++[none]) (zs++[w]))):callW tb (d + 1) 15 [obN dx l1 l2 M dp ls zs,.int w,b] Q:=by
 refine call_of (fd:=fd15) rfl rfl ?_
 simp [fd15,bd15]
 rw [lsL h,wp_some]
 simp
 have v0:vI (FV.int 0)=some (V.int 0):=rfl
 have vn:vI FV.non=some (vL none):=rfl
 have vw:vI (FV.int w)=some (V.int w):=rfl
 have hb:ls.length < big:=by simp only [big]; lia
 have hb2:zs.length < big:=by simp only [big]; lia
 have tail:¬ (0 < ls.length∧dp < M)→wp (vI (FV.int 0)) fun u=>wp (putO 119 (Str.ofString "deepest") u (obN dx l1 l2 M dp ls zs)) fun o1=>wp (lsF 119 (Str.ofString "laying") o1) fun x=>wp (vI FV.non) fun u=>wp (appO 119 (Str.ofString "laying") u o1) fun o2=>wp (lsF 119 (Str.ofString "sizes") o2) fun x=>wp (vI (FV.int w)) fun u=>wp (appO 119 (Str.ofString "sizes") u o2) fun o2=>Q (FV.tup [],o2):=fun hn=>by
  rw [v0,wp_some,ptD,wp_some,lsL h,wp_some,vn,wp_some,apL h hb,wp_some,lsS,wp_some,vw,wp_some,apS h hb2,wp_some]
  exact q2 hn
 refine ite2 (fun g1=>?_) fun g1=>tail fun z=>g1 z.1
 rw [fdD,wp_some,fdM,wp_some]
 simp
 refine ite2 (fun g2=>?_) fun g2=>tail fun z=>g2 z.2
 obtain ⟨i,rfl,q⟩:=q1 g1 g2
 have hne:ls≠[]:=fun z=>by rw [z] at g1; simp at g1
 have hnz:zs≠[]:=fun z=>by rw [z] at hzl; simp at hzl; lia
 have hb3:(ls.dropLast++[some ls.length]).length < big:=by simp; lia
 have hb4:(zs.dropLast++[i]).length < big:=by simp; lia
 rw [show vI (FV.int (ls.length:Int))=some (vL (some ls.length)) from rfl,wp_some,stL h hne,wp_some,show vI (FV.int i)=some (V.int i) from rfl,wp_some,lsS,wp_some,stS h hnz,wp_some,fdD,wp_some]
 simp
 rw [ptD,wp_some]
 refine ⟨by decide,?_⟩
 rw [lsL h,wp_some,vn,wp_some,apL h hb3,wp_some,lsS,wp_some,vw,wp_some,apS h hb4,wp_some]
 exact q
end
def lyN (M n:Nat):List (Option Nat):=(List.range n).map fun i=>if (i + 1) % (M + 1)=0 ∨ i + 1=n then none else some (i + 1)
theorem lyN_at (M n i:Nat) (h:i < n):(lyN M n).getD i none=if (i + 1) % (M + 1)=0 ∨ i + 1=n then none else some (i + 1):=by
 unfold lyN
 rw [List.getD_eq_getElem?_getD,List.getElem?_map,List.getElem?_range h]
 rfl
theorem lyN_len (M n:Nat):(lyN M n).length=n:=by simp [lyN]
theorem lyN_0 (M n:Nat) (h:n % (M + 1)=0):lyN M n++[none]=lyN M (n + 1):=by
 apply List.ext_getElem
 ·simp [lyN]
 ·intro i h1 h2
  rw [List.getElem_append]
  simp only [lyN_len] at h2 ⊢
  split
  ·rename_i h3
   simp only [lyN,List.getElem_map,List.getElem_range]
   by_cases z:i + 1=n
   ·subst z
    rw [if_pos (.inl h),if_pos (.inl h)]
   ·by_cases y:(i + 1) % (M + 1)=0
    ·rw [if_pos (.inl y),if_pos (.inl y)]
    ·rw [if_neg (by lia),if_neg (by lia)]
  ·simp only [lyN,List.getElem_map,List.getElem_range,List.getElem_singleton]
   rw [if_pos (.inr (by lia))]
theorem lyN_1 (M n:Nat) (h0:0 < n) (h:n % (M + 1)≠0):(lyN M n).dropLast++[some n]++[none]=lyN M (n + 1):=by
 rw [List.append_assoc]
 apply List.ext_getElem
 ·simp [lyN]; lia
 ·intro i h1 h2
  rw [List.getElem_append]
  simp only [lyN_len,List.length_dropLast] at h2 ⊢
  split
  ·rename_i h3
   simp only [lyN,List.getElem_dropLast,List.getElem_map,List.getElem_range]
   by_cases y:(i + 1) % (M + 1)=0
   ·rw [if_pos (.inl y),if_pos (.inl y)]
   ·rw [if_neg (by lia),if_neg (by lia)]
  ·rename_i h3
   simp only [lyN,List.getElem_map,List.getElem_range]
   obtain z | z:i=n - 1 ∨ i=n:=by lia
   ·subst z
    rw [if_neg (by rw [show n - 1 + 1=n by lia]; lia)]
    simp
    lia
   ·subst z
    rw [if_pos (.inr rfl)]
    simp [show i - (i - 1)=1 by lia]
theorem dp_step (M n:Nat) (h0:0 < n):(((n - 1) % (M + 1):Nat):Int) < M↔n % (M + 1)≠0:=by
 have e:=Nat.div_add_mod (n - 1) (M + 1)
 have hr:=Nat.mod_lt (n - 1) (show 0 < M + 1 by lia)
 generalize (n - 1) / (M + 1)=q at e
 generalize (n - 1) % (M + 1)=r at e hr ⊢
 by_cases z:r=M
 ·have:n=(M + 1) * (q + 1):=by rw [Nat.mul_add]; lia
  rw [this,Nat.mul_mod_right]
  constructor <;> intro h <;> lia
 ·have:n=(M + 1) * q + (r + 1):=by lia
  rw [this,Nat.mul_add_mod,Nat.mod_eq_of_lt (by lia)]
  constructor <;> intro h <;> lia
theorem dp_next (M n:Nat) (h0:0 < n) (h:n % (M + 1)≠0):(n - 1) % (M + 1) + 1=n % (M + 1):=by
 have e:=Nat.div_add_mod (n - 1) (M + 1)
 have hr:=Nat.mod_lt (n - 1) (show 0 < M + 1 by lia)
 generalize (n - 1) / (M + 1)=q at e
 generalize (n - 1) % (M + 1)=r at e hr ⊢
 by_cases z:r=M
 ·have e2:n=(M + 1) * (q + 1):=by rw [Nat.mul_add]; lia
  exact absurd (by rw [e2,Nat.mul_mod_right]) h
 ·have:n=(M + 1) * q + (r + 1):=by lia
  rw [this,Nat.mul_add_mod,Nat.mod_eq_of_lt (by lia)]
theorem zip_lsN (ls:List (Option Nat)):pairF (upF 0 (ls.map encL).length) (ls.map encL)=(List.range ls.length).map fun m:Nat=>FV.tup [.int (m:Int),encL (ls.getD m none)]:=by
 rw [up_range]
 apply List.ext_getElem
 ·simp [pairF]
 ·intro i g1 g2
  simp [pairF] at g2 ⊢
  rw [List.getElem?_eq_getElem g2]; rfl
def kN (ws ss:List Int) (ls:List (Option Nat)) (i:Nat):Int:=if ls.getD i none=none then ws.getD i 0 else ss.getD i 0
theorem ly_near (M n i:Nat) (h:i + 1 < n):(lyN M (n + 1)).getD i none=(lyN M n).getD i none:=by
 rw [lyN_at M (n + 1) i (by lia),lyN_at M n i (by lia)]
 by_cases y:(i + 1) % (M + 1)=0
 ·rw [if_pos (.inl y),if_pos (.inl y)]
 ·rw [if_neg (by lia),if_neg (by lia)]
theorem ly_last (M n:Nat):(lyN M (n + 1)).getD n none=none:=by
 rw [lyN_at M (n + 1) n (by lia),if_pos (.inr rfl)]
def zN (ws ss:List Int) (M n:Nat):List Int:=(List.range n).map (kN ws ss (lyN M n))
theorem zN_len (ws ss:List Int) (M n:Nat):(zN ws ss M n).length=n:=by simp [zN]
theorem zN_0 {ws ss:List Int} {M n:Nat} (h:n % (M + 1)=0):zN ws ss M n++[ws.getD n 0]=zN ws ss M (n + 1):=by
 unfold zN
 rw [List.range_succ,List.map_append]
 congr 1
 ·refine List.map_congr_left fun i hi=>?_
  have hi:=List.mem_range.mp hi
  have e:(lyN M (n + 1)).getD i none=(lyN M n).getD i none:=by
   rw [lyN_at M (n + 1) i (by lia),lyN_at M n i hi]
   by_cases y:(i + 1) % (M + 1)=0
   ·rw [if_pos (.inl y),if_pos (.inl y)]
   ·have:i + 1≠n:=fun e=>y (e ▸ h)
    rw [if_neg (by lia),if_neg (by lia)]
  unfold kN
  rw [e]
 ·simp only [List.map_cons,List.map_nil]
  rw [kN,if_pos (ly_last M n)]
theorem zN_1 {ws ss:List Int} {M n:Nat} (h0:0 < n) (h:n % (M + 1)≠0):(zN ws ss M n).dropLast++[ss.getD (n - 1) 0]++[ws.getD n 0]=zN ws ss M (n + 1):=by
 obtain ⟨m,rfl⟩:∃ m,n=m + 1:=⟨n - 1,by lia⟩
 unfold zN
 rw [List.range_succ (n:=m + 1),List.map_append,List.range_succ (n:=m),List.map_append,List.map_append]
 simp only [List.map_cons,List.map_nil,List.dropLast_concat,Nat.add_sub_cancel]
 congr 1
 ·congr 1
  ·refine List.map_congr_left fun i hi=>?_
   have hi:=List.mem_range.mp hi
   unfold kN
   rw [ly_near M (m + 1) i (by lia)]
  ·have e:(lyN M (m + 1 + 1)).getD m none=some (m + 1):=by
    rw [lyN_at M (m + 1 + 1) m (by lia),if_neg fun y=>y.elim h (by lia)]
   rw [kN,e,if_neg (by simp)]
 ·rw [kN,if_pos (ly_last M (m + 1))]
theorem zN_take {ws ss:List Int} {M n:Nat} (hl:ss.length + 1=ws.length) (hn:n < ws.length):(List.range (n + 1)).map (kN (ws.take (n + 1)) (ss.take n) (lyN M (n + 1)))=zN ws ss M (n + 1):=by
 refine List.map_congr_left fun i hi=>?_
 have hi:=List.mem_range.mp hi
 unfold kN
 split
 ·simp [List.getD,List.getElem?_take,show i < n + 1 by lia]
 ·rename_i y
  have:i < n:=Nat.lt_of_le_of_ne (by lia) fun z=>y (by rw [z]; exact ly_last M n)
  simp [List.getD,List.getElem?_take,this]
theorem szs_take {ws:List Int} (h:Szs ws) (n:Nat):Szs (ws.take n):=fun x hx=>h x (List.mem_of_mem_take hx)
theorem szs_at {ws:List Int} (h:Szs ws) {n:Nat} (hn:n < ws.length):1≤ws.getD n 0∧ws.getD n 0 < 2000000000:=by
 rw [List.getD_eq_getElem?_getD,List.getElem?_eq_getElem hn]; exact h _ (List.getElem_mem hn)
theorem told_v {ws ss:List Int} {t:Nat} (hw:Szs ws) (hs:Szs ss) (h1:ws.length≤60) (h2:ss.length≤60) (ht:t < 60):Vl 20000 3 (.lst [encR ws ss,encK (pl ws ss t).1]):=by
 obtain ⟨_,_,h3,h4⟩:=pl_ok ws ss t
 refine (two_v (k:=6000) (p:=2) ?_ ?_).mono (by decide) (by decide)
 ·refine (Vl.tup (k:=2520) (p:=1) (m:=2) (fun x hx=>?_) (by simp)).mono (by decide) (by decide)
  simp only [List.mem_cons,List.not_mem_nil,or_false] at hx
  rcases hx with rfl | rfl
  ·exact sz_vl hw h1
  ·exact sz_vl hs h2
 ·refine (Vl.tup (k:=41) (p:=0) (m:=60) (fun x hx=>?_) (by simp; lia)).mono (by decide) (by decide)
  obtain ⟨i,hi,rfl⟩:=List.mem_map.mp hx
  have:=h3 i hi
  exact Vl.int (by lia) (by lia)
theorem zN_b {ws ss:List Int} {M n:Nat} (hw:Szs ws) (hs:Szs ss) (hl:ss.length + 1=ws.length) (hn:n≤ws.length):∀ x∈zN ws ss M n,1≤x∧x < 2000000000:=fun x hx=>by
 obtain ⟨i,hi,rfl⟩:=List.mem_map.mp hx
 have hi:=List.mem_range.mp hi
 unfold kN
 split
 ·exact szs_at hw (by lia)
 ·rename_i y
  have e:=lyN_at M n i hi
  have:i + 1≠n:=fun z=>by rw [if_pos (.inr z)] at e; exact y e
  exact szs_at hs (by lia)
theorem due_wp (d:Nat) {ws ss:List Int} {M:Nat} (hM:M < 100) (hw:Szs ws) (hs:Szs ss) (hl:ss.length + 1=ws.length) (h30:ws.length≤30) {Q:FV×FV→Prop} (q:Q (.lst [.tup ((lyN M ws.length).map encL),.int (zN ws ss M ws.length).sum],.non)):callW tb (d + 1) 7 [encR ws ss,.int M] Q:=by
 refine call_of (fd:=fd7) rfl rfl ?_
 simp [fd7,bd7,encR]
 refine ⟨small62_of (by lia) (by lia),?_⟩
 rw [up_range]
 refine ⟨by simp [big]; lia,?_⟩
 refine comp_map (f:=fun i:Nat=>FV.int i) (g:=fun i=>encL ((lyN M ws.length).getD i none)) (List.range ws.length) [] (fun i hi K k=>?_) ?_
 ·have hi:=List.mem_range.mp hi
  rw [lyN_at M _ i hi] at k
  simp
  have h:=dp_step M (i + 1) (by lia)
  rw [Nat.add_sub_cancel,show ((i % (M + 1):Nat):Int)=(i:Int) % ((M:Int) + 1) by simp] at h
  refine ite2 (fun g=>ite2 (fun g2=>?_) fun g2=>?_) fun g=>?_
  ·rw [if_neg (fun z=>z.elim (h.mp g) (by lia))] at k
   simpa [encL] using k
  ·rw [if_pos (.inr (by lia))] at k
   exact k
  ·rw [if_pos (.inl (Classical.byContradiction fun z=>g (h.mpr z)))] at k
   exact k
 ·rw [List.nil_append,show (List.range ws.length).map (fun i=>encL ((lyN M ws.length).getD i none))=(lyN M ws.length).map encL by
   unfold lyN
   rw [List.map_map]
   refine List.map_congr_left fun i hi=>?_
   have:=lyN_at M ws.length i (List.mem_range.mp hi)
   unfold lyN at this
   rw [this]; rfl]
  simp only [lk_3,sq_l,List.set,wp_some,List.length]
  have zl:=zip_lsN (lyN M ws.length)
  simp
  rw [List.length_map] at zl
  rw [zl,lyN_len]
  refine ⟨by simp [big]; lia,?_⟩
  refine comp_map (g:=fun m=>.int (kN ws ss (lyN M ws.length) m)) (List.range ws.length) [] (fun m hm K k=>?_) ?_
  ·have hm:=List.mem_range.mp hm
   have e:=lyN_at M ws.length m hm
   unfold kN at k
   by_cases y:(m + 1) % (M + 1)=0 ∨ m + 1=ws.length
   ·rw [if_pos y] at e
    rw [e] at k ⊢
    simp [encL]
    rw [at_ints hm]
    exact k
   ·rw [if_neg y] at e
    rw [e] at k ⊢
    simp [encL]
    rw [at_ints (by lia)]
    exact k
  ·rw [List.nil_append,show (List.range ws.length).map (fun m=>FV.int (kN ws ss (lyN M ws.length) m))=(zN ws ss M ws.length).map .int by simp [zN]]
   simp
   refine sum_wp2 (by rw [zN_len]; lia) (fun x hx=>?_) ?_
   ·have:=zN_b hw hs hl (Nat.le_refl _) x hx
    lia
   ·refine ⟨by decide,?_⟩
    simpa using q
@[scoped simp ↓] theorem sLent_eq (ls:List Nat) (s:SW) (L:FLoc) (Q:FFl→FLoc→Prop):sLent ls s L Q=s L (lnEnd ls Q):=propext Iff.rfl
@[scoped simp ↓] theorem ln_ret (ls:List Nat) (Q:FFl→FLoc→Prop) (v:FV) (L:FLoc):lnEnd ls Q (.ret v) L=wp (mapO (lk L) ls) fun ws=>Q (.ret (.tup (v :: ws))) L:=propext Iff.rfl
@[scoped simp ↓] theorem mo_nil (L:FLoc) (Q:List FV→Prop):wp (mapO (lk L) []) Q=Q []:=propext Iff.rfl
@[scoped simp ↓] theorem mo_cons (L:FLoc) (i:Nat) (is:List Nat) (Q:List FV→Prop):wp (mapO (lk L) (i :: is)) Q=wp (lk L i) fun v=>wp (mapO (lk L) is) fun vs=>Q (v :: vs):=by
 show wp ((lk L i).bind fun y=>(mapO (lk L) is).map (y :: ·)) Q=_
 rw [wp_bind]
 congr 1
 funext v
 rw [wp_map]
@[scoped simp ↓] theorem un_x (v:FV) (ws:List FV) (Q:FV×List FV→Prop):wp (unX (.tup (v :: ws))) Q=Q (v,ws):=propext Iff.rfl
@[scoped simp ↓] theorem eCallX_eq (call:CW) (f:Nat) (is:List Nat) (m:Nat) (as:AW) (gs:List Nat) (L:FLoc) (Q:FV→FLoc→Prop):eCallX call f is m as gs L Q=(wp (mapO (lk L) is) fun _=>as L fun xs L1=>xs.length=m∧wp (mapO (lk L1) is) fun us=>wp (mapO (lk L1) gs) fun ws=>call f (us++xs++ws) fun z=>wp (unX z.1) fun p=>wp (setsF L1 (is++gs) p.2) fun L2=>Q p.1 L2):=propext Iff.rfl
theorem fg_hit {Ca dx:Addr} {m:Str} {L:FLoc} {j:Nat} {js:List Nat} {fs:List (Str×V)} {gs:List (Addr×List V)} (h:lk L j=some (.obj Ca dx fs gs)) (hm:fs.lookup m=none) (Q:Nat→Prop):wp (findG Ca m dx L (j :: js)) Q=Q j:=by
 show wp (match lk L j with
  | some (.obj C d fs _)=>if d=dx then (if C=Ca∧fs.lookup m=none then some j else none) else findG Ca m dx L js
  | _=>none) Q=_
 rw [h]
 show wp (if dx=dx then (if Ca=Ca∧fs.lookup m=none then some j else none) else _) Q=_
 rw [if_pos rfl,if_pos ⟨rfl,hm⟩]; rfl
theorem fg_miss {Ca C d dx:Addr} {m:Str} {L:FLoc} {j:Nat} {js:List Nat} {fs:List (Str×V)} {gs:List (Addr×List V)} (h:lk L j=some (.obj C d fs gs)) (n:d≠dx):findG Ca m dx L (j :: js)=findG Ca m dx L js:=by
 show (match lk L j with
  | some (.obj C d fs _)=>if d=dx then (if C=Ca∧fs.lookup m=none then some j else none) else findG Ca m dx L js
  | _=>none)=_
 rw [h]
 show (if d=dx then _ else _)=_
 rw [if_neg n]
theorem cw_nil (n m:Nat) (tg:Tg) (t:BW) (e:EW) (acc:List FV) (L:FLoc) (Q:List FV→FLoc→Prop):compW n m tg t e [] acc L Q=Q acc L:=propext Iff.rfl
theorem cw_cons (n m:Nat) (tg:Tg) (e:EW) (x:FV) (xs acc:List FV) (L:FLoc) (Q:List FV→FLoc→Prop):compW n m tg bTrue e (x :: xs) acc L Q=gW tg x (L++List.replicate m none) fun L1=>e L1 fun v L3=>compW n m tg bTrue e xs (acc++[v]) (L3.take n) Q:=propext Iff.rfl
def stN (dy j1 j2:Addr) (M:Nat) (ws ss:List Int) (n:Nat):FV:=obN dy j1 j2 M (((n - 1) % (M + 1):Nat):Int) (lyN M n) (zN ws ss M n)
theorem stN_0 (dy j1 j2:Addr) (M:Nat) (ws ss:List Int):obN dy j1 j2 M 0 [] []=stN dy j1 j2 M ws ss 0:=by simp [stN,lyN,zN]
theorem nstep_wp (d:Nat) {dy j1 j2:Addr} {M n:Nat} {ws ss:List Int} (nj:j1≠j2) (hl:ss.length + 1=ws.length) (h30:ws.length≤30) (hn:n < ws.length) {s:FV} (hv:∀ t,n=t + 1→s=.int (ss.getD t 0)) {Q:FV×FV→Prop} (q:∀ v,Q (v,stN dy j1 j2 M ws ss (n + 1))) :
  callW tb (d + 1) 15 [stN dy j1 j2 M ws ss n,.int (ws.getD n 0),s] Q:=by
 have hst:=dp_step M n
 have hnx:=dp_next M n
 unfold stN at q ⊢
 rw [Nat.add_sub_cancel] at q
 refine grown_wp d nj (by rw [lyN_len]; lia) (by rw [lyN_len,zN_len]) _ s (fun a1 a2=>?_) fun a1=>?_
 ·rw [lyN_len] at a1 ⊢
  obtain ⟨t,rfl⟩:∃ t,n=t + 1:=⟨n - 1,by lia⟩
  refine ⟨ss.getD t 0,hv t rfl,?_⟩
  have y:=(hst a1).mp a2
  rw [lyN_1 M _ a1 y]
  have e:=zN_1 (ws:=ws) (ss:=ss) a1 y
  rw [Nat.add_sub_cancel] at e
  rw [e]
  have:=hnx a1 y
  rw [← this] at q
  simpa using q _
 ·rw [lyN_len] at a1
  have y:n % (M + 1)=0:=Classical.byContradiction fun y=>by
   rcases Nat.eq_zero_or_pos n with e | e
   ·rw [e] at y; simp at y
   ·exact a1 ⟨e,(hst e).mpr y⟩
  rw [lyN_0 M n y,zN_0 y]
  rw [y] at q
  exact q _
theorem nlayS_wp (d:Nat) {dy j1 j2:Addr} {M n:Nat} {ws ss:List Int} (nj:j1≠j2) {Q:FV×FV→Prop} (q:Q (.tup ((lyN M n).map encL),stN dy j1 j2 M ws ss n)):callW tb (d + 1) 16 [stN dy j1 j2 M ws ss n] Q:=nlay_wp d nj q
theorem nroomS_wp (d:Nat) {dy j1 j2:Addr} {M n:Nat} {ws ss:List Int} (hw:Szs ws) (hs:Szs ss) (hl:ss.length + 1=ws.length) (h30:ws.length≤30) (hn:n≤ws.length) {Q:FV×FV→Prop} (q:Q (.int (zN ws ss M n).sum,stN dy j1 j2 M ws ss n)):callW tb (d + 1) 17 [stN dy j1 j2 M ws ss n] Q :=
 nroom_wp d (by rw [zN_len]; lia) (fun x hx=>by have:=zN_b hw hs hl hn x hx; lia) q
def toldV (M0 M1:Nat) (w0 s0 w1 s1:List Int) (m0 m1:Nat):FV:=.lst [.lst [encR (w0.take (m0 + 1)) (s0.take m0),encK (pl w0 s0 m0).1],.lst [encR (w1.take (m1 + 1)) (s1.take m1),encK (pl w1 s1 m1).1],.lst [.tup ((lyN M0 (m0 + 1)).map encL),.int (zN w0 s0 M0 (m0 + 1)).sum],.lst [.tup ((lyN M1 (m1 + 1)).map encL),.int (zN w1 s1 M1 (m1 + 1)).sum]]
section
variable {x0 a0 b0 c0 x1 a1 b1 c1 y0 i0 j0 y1 i1 j1:Addr}{M0 M1:Nat}{w0 s0 w1 s1:List Int}
theorem told_wp (d:Nat) (hx:x0≠x1) (hy:y0≠y1) (ha0:a0≠b0) (hb0:a0≠c0) (hc0:b0≠c0) (ha1:a1≠b1) (hb1:a1≠c1) (hc1:b1≠c1) (hi0:i0≠j0) (hi1:i1≠j1)
  (h0:s0.length + 1=w0.length) (h1:s1.length + 1=w1.length) (hw0:Szs w0) (hs0:Szs s0) (hw1:Szs w1) (hs1:Szs s1) (k0:w0.length≤30) (k1:w1.length≤30) {m0 m1:Nat} (hm0:m0 < w0.length) (hm1:m1 < w1.length) {Q:FV×FV→Prop}
  (q:Q (.tup [toldV M0 M1 w0 s0 w1 s1 m0 m1,stG x0 a0 b0 c0 w0 s0 (m0 + 1),stG x1 a1 b1 c1 w1 s1 (m1 + 1),stN y0 i0 j0 M0 w0 s0 (m0 + 1),stN y1 i1 j1 M1 w1 s1 (m1 + 1)],.non)) :
  callW tb (d + 2) 8 [.lst [.adr x0,.adr x1],.lst [.adr y0,.adr y1],stG x0 a0 b0 c0 w0 s0 (m0 + 1),stG x1 a1 b1 c1 w1 s1 (m1 + 1),stN y0 i0 j0 M0 w0 s0 (m0 + 1),stN y1 i1 j1 M1 w1 s1 (m1 + 1)] Q:=by
 refine call_of (fd:=fd8) rfl rfl ?_
 simp [fd8,bd8,bq8]
 refine ⟨by decide,?_⟩
 rw [cw_cons]
 simp
 rw [fg_hit (fs:=_) (gs:=_) rfl rfl]
 simp
 refine rowS_wp d ha0 hb0 hc0 (by lia) ?_
 rw [fg_hit (fs:=_) (gs:=_) rfl rfl]
 simp
 refine keptS_wp d ⟨by decide,?_⟩
 rw [cw_cons]
 simp
 rw [fg_miss (fs:=_) (gs:=_) rfl hx,fg_hit (fs:=_) (gs:=_) rfl rfl]
 simp
 refine rowS_wp d ha1 hb1 hc1 (by lia) ?_
 rw [fg_miss (fs:=_) (gs:=_) rfl hx,fg_hit (fs:=_) (gs:=_) rfl rfl]
 simp
 refine keptS_wp d ⟨by decide,?_⟩
 rw [cw_nil]
 simp
 refine ⟨by decide,?_⟩
 rw [cw_cons]
 simp
 rw [fg_hit (fs:=_) (gs:=_) rfl rfl]
 simp
 refine nlayS_wp d hi0 ?_
 rw [fg_hit (fs:=_) (gs:=_) rfl rfl]
 simp
 refine nroomS_wp d hw0 hs0 h0 k0 (by lia) ⟨by decide,?_⟩
 rw [cw_cons]
 simp
 rw [fg_miss (fs:=_) (gs:=_) rfl hy,fg_hit (fs:=_) (gs:=_) rfl rfl]
 simp
 refine nlayS_wp d hi1 ?_
 rw [fg_miss (fs:=_) (gs:=_) rfl hy,fg_hit (fs:=_) (gs:=_) rfl rfl]
 simp
 refine nroomS_wp d hw1 hs1 h1 k1 (by lia) ⟨by decide,?_⟩
 rw [cw_nil]
 simp
 exact ⟨by decide,q⟩
end
theorem fw_nil (tg:Tg) (b:SW) (L:FLoc) (Q:FFl→FLoc→Prop):forW tg b [] L Q=Q .next L:=propext Iff.rfl
theorem fw_cons (tg:Tg) (b:SW) (x:FV) (xs:List FV) (L:FLoc) (Q:FFl→FLoc→Prop):forW tg b (x :: xs) L Q=gW tg x L fun L1=>b L1 (turnW (fun L2=>forW tg b xs L2 Q) Q):=propext Iff.rfl
theorem encR_tup (ws ss:List Int) (Q:List FV→Prop):wp (tupF (encR ws ss)) Q=Q [.tup (ws.map .int),.tup (ss.map .int)]:=rfl
theorem stG_o (x a b c:Addr) (w s:List Int) (n:Nat):∃ fs gs,stG x a b c w s n=.obj 77 x fs gs∧fs.lookup (Str.ofString "grown")=none:=by cases n <;> exact ⟨_,_,rfl,rfl⟩
theorem fgG_hit {x a b c:Addr} {w s:List Int} {n j:Nat} {js:List Nat} {L:FLoc} (h:lk L j=some (stG x a b c w s n)) (Q:Nat→Prop):wp (findG 77 (Str.ofString "grown") x L (j :: js)) Q=Q j:=by
 obtain ⟨fs,gs,e,hm⟩:=stG_o x a b c w s n
 rw [e] at h
 exact fg_hit h hm Q
theorem fgG_miss {x y a b c:Addr} {w s:List Int} {n j:Nat} {js:List Nat} {L:FLoc} (h:lk L j=some (stG x a b c w s n)) (hn:x≠y):findG 77 (Str.ofString "grown") y L (j :: js)=findG 77 (Str.ofString "grown") y L js:=by
 obtain ⟨fs,gs,e,hm⟩:=stG_o x a b c w s n
 rw [e] at h
 exact fg_miss h hn
def bdW (call:CW):SW:=(sSeq (sAsg (eOp ixF (eVar 3) (eVar 8)) (.tp [9,10])) (sIf (bVal (eOp ltB (eVar 7) (eUn lenF (eVar 9)))) (sSeq (sAsg (eIf (bVal (eOp gtB (eVar 7) (eC (.int 0)))) (eOp ixF (eVar 10) (eOp subF (eVar 7) (eC (.int 1)))) (eC (.int 5))) (.nm 11)) (sSeq (sExp (eMethG call 11 [15,16] 77 "grown" (eOp ixF (eVar 5) (eVar 8)) (aCons (eOp ixF (eVar 9) (eVar 7)) (aCons (eVar 11) aNil)))) (sExp (eMethG call 15 [17,18] 119 "grown" (eOp ixF (eVar 6) (eVar 8)) (aCons (eOp ixF (eVar 9) (eVar 7)) (aCons (eVar 11) aNil)))))) sNil))
section
variable {x0 a0 b0 c0 x1 a1 b1 c1 y0 i0 j0 y1 i1 j1:Addr}{M0 M1:Nat}{w0 s0 w1 s1:List Int}
theorem turn0 (hx:x0≠x1) (hy:y0≠y1) (ha:a0≠b0) (hb:a0≠c0) (hc:b0≠c0) (hi:i0≠j0) (hl:s0.length + 1=w0.length) (k30:w0.length≤30) {n p:Nat} {S T U V t9 t10 t11 t12 t13 t14:Option FV} {K:FLoc→Prop} {Q:FFl→FLoc→Prop}
  (q:∀ t9 t10 t11,K [S,T,U,some (.lst [encR w0 s0,encR w1 s1]),V,some (.lst [.adr x0,.adr x1]),some (.lst [.adr y0,.adr y1]),some (.int n),some (.int 0),t9,t10,t11,t12,t13,t14,some (stG x0 a0 b0 c0 w0 s0 (min (n + 1) w0.length)),some (stG x1 a1 b1 c1 w1 s1 p),some (stN y0 i0 j0 M0 w0 s0 (min (n + 1) w0.length)),some (stN y1 i1 j1 M1 w1 s1 p)]):bdW (callW tb 13) [S,T,U,some (.lst [encR w0 s0,encR w1 s1]),V,some (.lst [.adr x0,.adr x1]),some (.lst [.adr y0,.adr y1]),some (.int n),some (.int 0),t9,t10,t11,t12,t13,t14,some (stG x0 a0 b0 c0 w0 s0 (min n w0.length)),some (stG x1 a1 b1 c1 w1 s1 p),some (stN y0 i0 j0 M0 w0 s0 (min n w0.length)),some (stN y1 i1 j1 M1 w1 s1 p)] (turnW K Q):=by
 simp [bdW]
 rw [encR_tup]
 simp
 refine ite2 (fun g=>?_) fun g=>?_
 ·rw [Nat.min_eq_left (show n≤w0.length by lia)]
  rw [Nat.min_eq_left (show n + 1≤w0.length by lia)] at q
  refine ite2 (fun g2=>?_) fun g2=>?_
  ·obtain ⟨t,ht⟩:∃ t,n=t + 1:=⟨n - 1,by lia⟩
   rw [show (n:Int) - 1=((n - 1:Nat):Int) by lia,at_ints (by lia)]
   rw [fgG_hit rfl]
   simp
   rw [at_ints g]
   refine ggrown_wp 12 ha hb hc (by lia) hl g (fun t e=>?_) ?_
   ·rw [e,Nat.add_sub_cancel]; simp [List.getD]
   rw [fg_hit (fs:=_) (gs:=_) rfl rfl]
   simp
   rw [at_ints g]
   refine nstep_wp 12 hi hl k30 g (fun t e=>?_) fun v=>?_
   ·rw [e,Nat.add_sub_cancel]; simp [List.getD]
   exact q _ _ _
  ·skip
   rw [fgG_hit rfl]
   simp
   rw [at_ints g]
   refine ggrown_wp 12 ha hb hc (by lia) hl g (fun t e=>?_) ?_
   ·lia
   rw [fg_hit (fs:=_) (gs:=_) rfl rfl]
   simp
   rw [at_ints g]
   refine nstep_wp 12 hi hl k30 g (fun t e=>?_) fun v=>?_
   ·lia
   exact q _ _ _
 ·rw [Nat.min_eq_right (show w0.length≤n by lia)]
  rw [Nat.min_eq_right (show w0.length≤n + 1 by lia)] at q
  exact q _ _ _
theorem turn1 (hx:x0≠x1) (hy:y0≠y1) (ha:a1≠b1) (hb:a1≠c1) (hc:b1≠c1) (hi:i1≠j1) (hl:s1.length + 1=w1.length) (k30:w1.length≤30) {n p:Nat} {S T U V t9 t10 t11 t12 t13 t14:Option FV} {K:FLoc→Prop} {Q:FFl→FLoc→Prop}
  (q:∀ t9 t10 t11,K [S,T,U,some (.lst [encR w0 s0,encR w1 s1]),V,some (.lst [.adr x0,.adr x1]),some (.lst [.adr y0,.adr y1]),some (.int n),some (.int 1),t9,t10,t11,t12,t13,t14,some (stG x0 a0 b0 c0 w0 s0 p),some (stG x1 a1 b1 c1 w1 s1 (min (n + 1) w1.length)),some (stN y0 i0 j0 M0 w0 s0 p),some (stN y1 i1 j1 M1 w1 s1 (min (n + 1) w1.length))]):bdW (callW tb 13) [S,T,U,some (.lst [encR w0 s0,encR w1 s1]),V,some (.lst [.adr x0,.adr x1]),some (.lst [.adr y0,.adr y1]),some (.int n),some (.int 1),t9,t10,t11,t12,t13,t14,some (stG x0 a0 b0 c0 w0 s0 p),some (stG x1 a1 b1 c1 w1 s1 (min n w1.length)),some (stN y0 i0 j0 M0 w0 s0 p),some (stN y1 i1 j1 M1 w1 s1 (min n w1.length))] (turnW K Q):=by
 simp [bdW]
 rw [encR_tup]
 simp
 refine ite2 (fun g=>?_) fun g=>?_
 ·rw [Nat.min_eq_left (show n≤w1.length by lia)]
  rw [Nat.min_eq_left (show n + 1≤w1.length by lia)] at q
  refine ite2 (fun g2=>?_) fun g2=>?_
  ·obtain ⟨t,ht⟩:∃ t,n=t + 1:=⟨n - 1,by lia⟩
   rw [show (n:Int) - 1=((n - 1:Nat):Int) by lia,at_ints (by lia)]
   rw [fgG_miss rfl hx,fgG_hit rfl]
   simp
   rw [at_ints g]
   refine ggrown_wp 12 ha hb hc (by lia) hl g (fun t e=>?_) ?_
   ·rw [e,Nat.add_sub_cancel]; simp [List.getD]
   rw [fg_miss (fs:=_) (gs:=_) rfl hy,fg_hit (fs:=_) (gs:=_) rfl rfl]
   simp
   rw [at_ints g]
   refine nstep_wp 12 hi hl k30 g (fun t e=>?_) fun v=>?_
   ·rw [e,Nat.add_sub_cancel]; simp [List.getD]
   exact q _ _ _
  ·skip
   rw [fgG_miss rfl hx,fgG_hit rfl]
   simp
   rw [at_ints g]
   refine ggrown_wp 12 ha hb hc (by lia) hl g (fun t e=>?_) ?_
   ·lia
   rw [fg_miss (fs:=_) (gs:=_) rfl hy,fg_hit (fs:=_) (gs:=_) rfl rfl]
   simp
   rw [at_ints g]
   refine nstep_wp 12 hi hl k30 g (fun t e=>?_) fun v=>?_
   ·lia
   exact q _ _ _
 ·rw [Nat.min_eq_right (show w1.length≤n by lia)]
  rw [Nat.min_eq_right (show w1.length≤n + 1 by lia)] at q
  exact q _ _ _
end
theorem min_at {ws ss:List Int} (n:Nat) (h:1≤ws.length) (hl:ss.length + 1=ws.length):∃ m,min (n + 1) ws.length=m + 1∧m < ws.length∧ws.take (n + 1)=ws.take (m + 1)∧ss.take n=ss.take m:=by
 refine ⟨min (n + 1) ws.length - 1,by lia,by lia,?_,?_⟩
 ·rw [List.take_eq_take_iff]; lia
 ·rw [List.take_eq_take_iff]; lia
theorem newest_v {ws ss:List Int} {M n:Nat} (hw:Szs ws) (hs:Szs ss) (hl:ss.length + 1=ws.length) (h30:ws.length≤30) (hn:n≤ws.length):Vl 20000 3 (.lst [.tup ((lyN M n).map encL),.int (zN ws ss M n).sum]):=by
 refine (two_v (k:=6000) (p:=1) ?_ ?_).mono (by decide) (by decide)
 ·refine (Vl.tup (k:=41) (p:=0) (m:=30) (fun x hx=>?_) (by simp [lyN]; lia)).mono (by decide) (by decide)
  obtain ⟨o,ho,rfl⟩:=List.mem_map.mp hx
  obtain ⟨i,hi,rfl⟩:=List.mem_map.mp ho
  have hi:=List.mem_range.mp hi
  split
  ·exact Vl.non.mono (by decide) (by decide)
  ·exact Vl.int (by lia) (by lia)
 ·have hb:=zN_b (M:=M) hw hs hl hn
  have:=sum_bd (xs:=zN ws ss M n) fun x hx=>by have:=hb x hx; lia
  rw [zN_len] at this
  exact (Vl.int (by lia) (by lia)).mono (by decide) (by decide)
theorem law_val (ns:List Int):callW tb 14 9 [.scr ns] fun z=>z.1=.bl true:=by
 refine call_of (fd:=fd9) rfl rfl ?_
 simp [fd9,bd9]
 refine ⟨by simp [small62]; split <;> lia,?_⟩
 refine for_upto (I:=fun _ L=>∃ t0 t1 t2 t3 t4 t5 t6 t7 t8 t9 t10 t11 t12 t13 t14 t15 t16 t17,L=[some (.scr ns),t0,t1,t2,t3,t4,t5,t6,t7,t8,t9,t10,t11,t12,t13,t14,t15,t16,t17]) _ 0 _ ⟨_,_,_,_,_,_,_,_,_,_,_,_,_,_,_,_,_,_,rfl⟩ ?_ ?_
 ·rintro k L K - - ⟨t0,t1,t2,t3,t4,t5,t6,t7,t8,t9,t10,t11,t12,t13,t14,t15,t16,t17,rfl⟩ kk
  simp
  refine left_wp 12 ns k fun v1 y l1=>?_
  simp
  refine row_wp 9 l1 (by lia) (by lia) (by lia) (by lia) fun w0 s0 v2 h1 h2 h3 hw0 hs0 l2=>?_
  simp
  refine row_wp 9 l2 (by lia) (by lia) (by lia) (by lia) fun w1 s1 v3 h4 h5 h6 hw1 hs1 l3=>?_
  refine ⟨by decide,?_⟩
  refine pick_wp 11 l3 (by lia) (by decide) (by decide) fun p0 v4 p1 p2 l4=>?_
  obtain ⟨M0,rfl⟩:=Int.eq_ofNat_of_zero_le p1
  simp
  refine pick_wp 11 l4 (by lia) (by decide) (by decide) fun p0 v5 p3 p4 l5=>?_
  obtain ⟨M1,rfl⟩:=Int.eq_ofNat_of_zero_le p3
  simp
  refine ⟨by decide,fun x0=>ginit_wp 12 fun a0 b0 c0 ha0 hb0 hc0=>⟨rfl,fun x1=>ginit_wp 12 fun a1 b1 c1 ha1 hb1 hc1=>⟨rfl,by decide,fun y0=>init_wp 12 fun i0 j0 hi0=>⟨rfl,fun y1=>init_wp 12 fun i1 j1 hi1=>⟨rfl,by decide,?_⟩⟩⟩⟩⟩
  show ([x0,x1]++[y0,y1]).Nodup→_
  intro hnd
  have hx:x0≠x1:=fun z=>by rw [z] at hnd; simp at hnd
  have hy:y0≠y1:=fun z=>by rw [z] at hnd; simp at hnd
  clear hnd
  obtain ⟨N,hN,hN0,hN1⟩:∃ N:Nat,(if w0.length < w1.length then (w1.length:Int) else (w0.length:Int))=N∧w0.length≤N∧w1.length≤N∧N≤30:=by
   by_cases g:w0.length < w1.length
   ·exact ⟨w1.length,by rw [if_pos g],by lia,by lia,h5⟩
   ·exact ⟨w0.length,by rw [if_neg g],by lia,by lia,h2⟩
  rw [hN,Int.toNat_natCast,stN_0 y0 i0 j0 M0 w0 s0,stN_0 y1 i1 j1 M1 w1 s1]
  refine ⟨small62_of (by lia) (by lia),?_⟩
  refine for_upto (I:=fun n L=>∃ t7 t8 t9 t10 t11 t12 t13 t14,L=[some (.scr ns),some (.int k),some v5,some (.lst [encR w0 s0,encR w1 s1]),some (.lst [.int M0,.int M1]),some (.lst [.adr x0,.adr x1]),some (.lst [.adr y0,.adr y1]),t7,t8,t9,t10,t11,t12,t13,t14,some (stG x0 a0 b0 c0 w0 s0 (min n w0.length)),some (stG x1 a1 b1 c1 w1 s1 (min n w1.length)),some (stN y0 i0 j0 M0 w0 s0 (min n w0.length)),some (stN y1 i1 j1 M1 w1 s1 (min n w1.length))]) N 0 _ ⟨_,_,_,_,_,_,_,_,by rw [Nat.zero_min,Nat.zero_min]; rfl⟩ ?_ ?_
  ·rintro n L K2 - hn ⟨t7,t8,t9,t10,t11,t12,t13,t14,rfl⟩ kL
   rw [Nat.zero_add] at hn
   simp
   refine ⟨by decide,?_⟩
   rw [show upF 0 2=[.int 0,.int 1] from rfl,fw_cons]
   simp only [gw_nm,List.set]
   refine turn0 hx hy ha0 hb0 hc0 hi0 h3 h2 fun u9 u10 u11=>?_
   rw [fw_cons]
   simp only [gw_nm,List.set]
   refine turn1 hx hy ha1 hb1 hc1 hi1 h6 h5 fun u9 u10 u11=>?_
   rw [fw_nil]
   simp
   obtain ⟨m0,e0,g0,f0,f1⟩:=min_at n h1 h3
   obtain ⟨m1,e1,g1,f2,f3⟩:=min_at n h4 h6
   rw [e0,e1] at kL ⊢
   refine ⟨by decide,?_⟩
   rw [cw_cons]
   simp [encR]
   have ct:∀ {xs W:List Int},xs.take (n + 1)=W→cutF (xs.map FV.int) none (some ((n:Int) + 1))=W.map FV.int:=fun {xs W} e=>by
    rw [show ((n:Int) + 1)=((n + 1:Nat):Int) by simp,cut_to,← List.map_take,e]
   have cs:∀ {xs W:List Int},xs.take n=W→cutF (xs.map FV.int) none (some (n:Int))=W.map FV.int:=fun {xs W} e=>by
    rw [cut_to,← List.map_take,e]
   obtain ⟨W0,hW0⟩:∃ W,w0.take (m0 + 1)=W:=⟨_,rfl⟩
   obtain ⟨S0,hS0⟩:∃ W,s0.take m0=W:=⟨_,rfl⟩
   obtain ⟨W1,hW1⟩:∃ W,w1.take (m1 + 1)=W:=⟨_,rfl⟩
   obtain ⟨S1,hS1⟩:∃ W,s1.take m1=W:=⟨_,rfl⟩
   rw [ct (f0.trans hW0),cs (f1.trans hS0)]
   refine ⟨by decide,?_⟩
   rw [cw_cons]
   simp
   rw [ct (f2.trans hW1),cs (f3.trans hS1)]
   refine ⟨by decide,?_⟩
   rw [cw_nil]
   simp
   refine ⟨by decide,?_⟩
   rw [cw_cons]
   simp
   have lw0:W0.length=m0 + 1:=by rw [← hW0,List.length_take]; lia
   have ls0:S0.length=m0:=by rw [← hS0,List.length_take]; lia
   have lw1:W1.length=m1 + 1:=by rw [← hW1,List.length_take]; lia
   have ls1:S1.length=m1:=by rw [← hS1,List.length_take]; lia
   have p0:(pl W0 S0 m0).1=(pl w0 s0 m0).1:=by rw [← hW0,← hS0,pl_take w0 s0 m0 m0 (Nat.le_refl _)]
   have p1:(pl W1 S1 m1).1=(pl w1 s1 m1).1:=by rw [← hW1,← hS1,pl_take w1 s1 m1 m1 (Nat.le_refl _)]
   have z0:zN W0 S0 M0 (m0 + 1)=zN w0 s0 M0 (m0 + 1):=by rw [← hW0,← hS0]; exact zN_take h3 g0
   have z1:zN W1 S1 M1 (m1 + 1)=zN w1 s1 M1 (m1 + 1):=by rw [← hW1,← hS1]; exact zN_take h6 g1
   have qW0:Szs W0:=by rw [← hW0]; exact szs_take hw0 _
   have qS0:Szs S0:=by rw [← hS0]; exact szs_take hs0 _
   have qW1:Szs W1:=by rw [← hW1]; exact szs_take hw1 _
   have qS1:Szs S1:=by rw [← hS1]; exact szs_take hs1 _
   refine played_wp 12 (ws:=W0) (ss:=S0) (by lia) (by lia) (by lia) ⟨by decide,?_⟩
   rw [lw0,Nat.add_sub_cancel,p0,cw_cons]
   simp
   refine played_wp 12 (ws:=W1) (ss:=S1) (by lia) (by lia) (by lia) ⟨by decide,?_⟩
   rw [lw1,Nat.add_sub_cancel,p1,cw_nil]
   simp
   refine due_wp 12 (ws:=W0) (ss:=S0) (by lia) qW0 qS0 (by lia) (by lia) ?_
   refine due_wp 12 (ws:=W1) (ss:=S1) (by lia) qW1 qS1 (by lia) (by lia) ?_
   refine ⟨by decide,?_⟩
   rw [lw0,lw1,z0,z1]
   simp
   have et:toldV M0 M1 w0 s0 w1 s1 m0 m1=.lst [.lst [.tup [.tup (W0.map .int),.tup (S0.map .int)],encK (pl w0 s0 m0).1],.lst [.tup [.tup (W1.map .int),.tup (S1.map .int)],encK (pl w1 s1 m1).1],.lst [.tup ((lyN M0 (m0 + 1)).map encL),.int (zN w0 s0 M0 (m0 + 1)).sum],.lst [.tup ((lyN M1 (m1 + 1)).map encL),.int (zN w1 s1 M1 (m1 + 1)).sum]]:=by
    unfold toldV encR
    rw [hW0,hS0,hW1,hS1]
   have tv:Vl 81000 4 (toldV M0 M1 w0 s0 w1 s1 m0 m1):=by
    have r0:=told_v (ws:=W0) (ss:=S0) (t:=m0) qW0 qS0 (by lia) (by lia) (by lia)
    have r1:=told_v (ws:=W1) (ss:=S1) (t:=m1) qW1 qS1 (by lia) (by lia) (by lia)
    rw [p0] at r0
    rw [p1] at r1
    have r2:=newest_v (M:=M0) hw0 hs0 h3 h2 (n:=m0 + 1) (by lia)
    have r3:=newest_v (M:=M1) hw1 hs1 h6 h5 (n:=m1 + 1) (by lia)
    rw [et]
    refine (Vl.lst (k:=20000) (p:=3) (m:=4) (fun x hx=>?_) (by simp)).mono (by decide) (by decide)
    simp only [List.mem_cons,List.not_mem_nil,or_false] at hx
    rcases hx with rfl | rfl | rfl | rfl
    ·exact r0
    ·exact r1
    ·exact r2
    ·exact r3
   rw [et] at tv
   revert tv et
   generalize FV.lst [.lst [.tup [.tup (W0.map .int),.tup (S0.map .int)],encK (pl w0 s0 m0).1],.lst [.tup [.tup (W1.map .int),.tup (S1.map .int)],encK (pl w1 s1 m1).1],.lst [.tup ((lyN M0 (m0 + 1)).map encL),.int (zN w0 s0 M0 (m0 + 1)).sum],.lst [.tup ((lyN M1 (m1 + 1)).map encL),.int (zN w1 s1 M1 (m1 + 1)).sum]]=T
   intro et tv
   refine ⟨by decide,told_wp 11 hx hy ha0 hb0 hc0 ha1 hb1 hc1 hi0 hi1 h3 h6 hw0 hs0 hw1 hs1 h2 h5 g0 g1 ?_⟩
   rw [et]
   simp
   refine same_vl 8 (p:=4) (k:=81000) tv (by decide) (by decide) ?_
   refine ⟨rfl,told_wp 11 hx hy ha0 hb0 hc0 ha1 hb1 hc1 hi0 hi1 h3 h6 hw0 hs0 hw1 hs1 h2 h5 g0 g1 ?_⟩
   rw [et]
   simp
   rw [eq_same tv (by decide)]
   exact ⟨rfl,kL _ ⟨_,_,_,_,_,_,_,_,rfl⟩⟩
  ·rintro L ⟨t7,t8,t9,t10,t11,t12,t13,t14,rfl⟩
   simp
   exact kk _ ⟨_,_,_,_,_,_,_,_,_,_,_,_,_,_,_,_,_,_,rfl⟩
 ·rintro L ⟨t0,t1,t2,t3,t4,t5,t6,t7,t8,t9,t10,t11,t12,t13,t14,t15,t16,t17,rfl⟩
  simp
end Kq
end
set_option maxRecDepth 100000
set_option maxHeartbeats 4000000
section
namespace Kq
open PySem PySem.Spec PyProof.Rows L2 PySem.W
def d0:Df:=⟨"_law_mix",top 7,["_law_cell","_law_k"],["_law_cell","_law_k","_law_m"],[]⟩
def d1:Df:=⟨"_law_left",top 8,["_law_script","_law_k"],["_law_script","_law_k","_law_cell"],[]⟩
def d2:Df:=⟨"_law_pick",top 9,["_law_left_here","_law_many"],["_law_left_here","_law_many","_law_digit"],[.own]⟩
def d3:Df:=⟨"_law_same",top 10,["_law_found","_law_due"],["_law_found","_law_due"],[]⟩
def d4:Df:=⟨"_law_size",top 11,["_law_left_here","_law_great"],["_law_left_here","_law_great","_law_way_drawn"],[.own]⟩
def d5:Df:=⟨"_law_row",top 12,["_law_left_here","_law_most"],["_law_left_here","_law_most","_law_many","_law_great","_law_wholes"],[.own]⟩
def d6:Df:=⟨"_law_played_row",top 13,["_law_row_here"],["_law_row_here","_law_wholes","_law_steps","_law_kept","_law_since","_law_make"],[.imm,.imm,.imm,.own]⟩
def d7:Df:=⟨"_law_newest_due",top 14,["_law_row_here","_law_most"],["_law_row_here","_law_most","_law_many","_law_laid","_law_sizes"],[]⟩
def d8:Df:=⟨"_law_told",top 15,["_law_growings","_law_newests"],["_law_growings","_law_newests","#g0","#g1","#g2","#g3","_law_told_here"],[.imm,.imm,.gst 0 "",.gst 0 "",.gst 0 "",.gst 0 ""]⟩
def d9:Df:=⟨"law",top 16,["_law_script"],["_law_script","_law_k","_law_left_here","_law_rows","_law_mosts","_law_growings","_law_newests","_law_at","_law_which","_law_wholes","_law_steps","_law_step","_law_now","_law_due","_law_told_here","#g0","#g1","#g2","#g3"],[.imm,.imm,.own,.imm,.imm,.imm,.imm,.imm,.imm,.imm,.imm,.imm,.imm,.imm,.imm,.own,.own,.own,.own]⟩
def d10:Df:=⟨"__init__",mth 4 0,["self"],["self"],[.own]⟩
def d11:Df:=⟨"grown",mth 4 1,["self","whole","step"],["self","whole","step","make"],[.own]⟩
def d12:Df:=⟨"row_now",mth 4 2,["self"],["self"],[.own]⟩
def d13:Df:=⟨"kept_now",mth 4 3,["self"],["self"],[.own]⟩
def d14:Df:=⟨"__init__",mth 5 0,["self","most"],["self","most"],[.own]⟩
def d15:Df:=⟨"grown",mth 5 1,["self","whole","back"],["self","whole","back","make","anew"],[.own]⟩
def d16:Df:=⟨"laying_now",mth 5 2,["self"],["self"],[.own]⟩
def d17:Df:=⟨"room_now",mth 5 3,["self"],["self"],[.own]⟩
def fns:Fns:=⟨[Str.ofString "_law_mix",Str.ofString "_law_left",Str.ofString "_law_pick",Str.ofString "_law_same",Str.ofString "_law_size",Str.ofString "_law_row",Str.ofString "_law_played_row",Str.ofString "_law_newest_due",Str.ofString "_law_told",Str.ofString "law"],[(Str.ofString "Growing",77,Str.ofString "__init__"),(Str.ofString "Growing",77,Str.ofString "grown"),(Str.ofString "Growing",77,Str.ofString "row_now"),(Str.ofString "Growing",77,Str.ofString "kept_now"),(Str.ofString "Newest",119,Str.ofString "__init__"),(Str.ofString "Newest",119,Str.ofString "grown"),(Str.ofString "Newest",119,Str.ofString "laying_now"),(Str.ofString "Newest",119,Str.ofString "room_now")],[(77,Str.ofString "wholes"),(77,Str.ofString "steps"),(77,Str.ofString "kept"),(77,Str.ofString "since"),(119,Str.ofString "most"),(119,Str.ofString "laying"),(119,Str.ofString "sizes"),(119,Str.ofString "deepest")]⟩
abbrev DB (d:Df) (fr:Bool) (b:CW→SW):Prop:=∀ (X:Cx) (call:CW) (n:Nat),Good X (d.cc fns) n (spL tb lxs call)→FSs X (d.cc fns) fr (defBody d.st) (b call)
local macro_rules | `(tactic| ac_rfl)=>do
 let g:=Lean.mkIdent `G
 let mut ts:Array (Lean.TSyntax ``Lean.Parser.Tactic.tacticSeq):=#[]
 for r in ("§fe_var 12210;fe_int 00010;fa_cons 03110;fs_cons 02010;fr_var 11110;fa_nil 00010;fs_one 01010;fe_ix 03110;fs_ret 01010;fs_set 14310;fe_add 02010;fe_callO 18710;fs_if 03010;fs_nil 00010;fe_isi 15410;fg_nm 11110;fgs_cons 12110;fe_len 13210;fts_nil 00010;CompOk.mk 05110;fe_lst 01010;fs_expr 02110;fe_ixN 13210;fb_gt 02010;fe_call 16510;fe_mul 02010;fe_mod 02010;fe_sub 02010;fb_lt 12010;fe_if 03010;fgs_nil 00010;fe_eq 12010;fe_and 02010;fe_tup 01010;fs_objNew 13310;fs_objFld 15410;fe_objApp 16510;fe_one 01010;fw_and1 01010;fw_and 02010;fe_tuple 13210;fe_methG0 17610;fl_own 03110;fe_objTup 14410;fb_ne 12010;fw_or1 01010;fw_or 02010;fe_bl 00010;fe_fld 13310;fe_pow 02010;fe_abs 13210;ff_lst 01010;fs_ix 15310;fe_fdiv 02010;fg_tp 11010;fb_isN 01010;fb_eq 12010;fe_non 00010;fl_nil 00010;ff_make0F 15510;ff_makeF 17610;fe_methG 19710;fo_none 00010;fo_some 01010;fe_sl 03010;fax_of 01010;fe_callX' 17610;fb_not 01010;fe_objLen 14410;fs_objAdd 14310;fe_str 00010;fe_neg 01010;fs_objSet 16410;fe_ge 02010;fe_toint 13210;fe_isi2 16510;fe_all 13210;fe_not 01010;fs_parI 14210;fe_app 15410;fe_sum2 13210;fe_min2 15310;ff_call 16510;fs_setF 14310;fs_instsL 15310;fe_max2 15310;fb_le 12010;fb_fldL 13310;fs_nev 00010;fe_objSum 14410;fs_tup 14210;fs_retF 01010;fr_of 01010;fb_val 02110;fb_w 01010;fi_rng 13200;fi_seq 01000;fi_zip 15300;fi_rng2 15300;fi_enum 13200;fe_int 00000;fe_str 00000;fe_bl 00000;fe_non 00000".drop 1).toString.splitOn ";" do
  let [n,c]:=r.splitOn " " | continue
  let [a,k,s,w,e]:=c.toList.map fun x=>x.toNat - 48 | continue
  let f:=Lean.mkIdent n.toName
  let mut as:Array Lean.Term:=if a=1 then #[g] else #[]
  for _ in [0:k] do as:=as.push (← `(?_))
  let mut t ← if as.isEmpty then `(tactic| exact $f) else `(tactic| refine $f $as*)
  if w=1 then t ← `(tactic| with_reducible $t:tactic)
  if e=1 then t ← `(tactic| ((with_reducible refine fe_ff ?_); $t:tactic))
  for _ in [0:s] do t ← `(tactic| (($t:tactic); first | decide +kernel | rfl))
  ts:=ts.push (← `(Lean.Parser.Tactic.tacticSeq| $t:tactic))
 ts:=ts.push (← `(Lean.Parser.Tactic.tacticSeq| first | decide +kernel))
 `(tactic| repeat' first $[| $ts]*)
local macro_rules | `(tactic| ac_nf)=>do
 let g:=Lean.mkIdent `G
 `(tactic| (intro _ $g:ident; ac_rfl))
local macro_rules | `(tactic| eq_refl)=>do
 let g:=Lean.mkIdent `G
 `(tactic| (intro $g:ident; ac_rfl))
local macro_rules | `(tactic| exists $e)=>`(tactic| (refine $e; ac_rfl))
local macro_rules | `(tactic| exists $e,$g:ident)=>`(tactic| (intro X call n $g:ident; refine $e; ac_rfl))
theorem db0:DB d0 false bd0:=by
 exists fs_cons ?_ ?_,G
theorem db1:DB d1 true bd1:=by
 exists fs_cons ?_ ?_,G
theorem db2:DB d2 false bd2:=by
 exists fs_cons ?_ ?_,G
theorem db3:DB d3 false bd3:=by
 exists fs_cons ?_ ?_,G
 exists fe_ff (ff_comp G (own:=["_law_one","_law_other"]) (md':=[]) ?_)
 ac_nf
 ac_nf
 ac_nf
theorem db4:DB d4 false bd4:=by
 exists fs_cons ?_ ?_,G
theorem db5:DB d5 false bd5:=by
 exists fs_cons ?_ ?_,G
 exists fe_ff (ff_comp G (own:=["_law_k"]) (md':=[.own]) ?_)
 ac_nf
 ac_nf
 ac_nf
 exists fe_ff (ff_comp G (own:=["_law_k"]) (md':=[.own]) ?_)
 ac_nf
 ac_nf
 ac_nf
theorem db6:DB d6 false bd6:=by
 exists fs_cons ?_ ?_,G
 exists fs_for G (md':=[.imm,.imm,.imm,.own]) ?_ ?_ ?_ ?_
 eq_refl
theorem db7:DB d7 false bd7:=by
 exists fs_cons ?_ ?_,G
 exists fs_setC G (own:=["_law_make"]) (md':=[]) ?_ ?_ ?_
 ac_nf
 ac_nf
 ac_nf
 exists fs_setC G (own:=["_law_make","_law_on"]) (md':=[]) ?_ ?_ ?_
 ac_nf
 ac_nf
 ac_nf
theorem db8:DB d8 false bq8:=by
 exists fs_cons ?_ ?_,G
 exists fs_setC G (own:=["_law_one"]) (md':=[.imm,.imm,.gst 0 "",.gst 0 "",.gst 0 "",.gst 0 ""]) ?_ ?_ ?_
 ac_nf
 ac_nf
 ac_nf
 exists fe_ff (ff_comp G (own:=["_law_one"]) (md':=[.imm,.imm,.gst 0 "",.gst 0 "",.gst 0 "",.gst 0 ""]) ?_)
 ac_nf
 ac_nf
 ac_nf
theorem db9:DB d9 false bd9:=by
 exists fs_cons ?_ ?_,G
 exists fs_for G (md':=[.imm,.imm,.own,.imm,.imm,.imm,.imm,.imm,.imm,.imm,.imm,.imm,.imm,.imm,.imm,.own,.own,.own,.own]) ?_ ?_ ?_ ?_
 eq_refl
 exists fs_for G (md':=[.imm,.imm,.own,.imm,.imm,.imm,.imm,.imm,.imm,.imm,.imm,.imm,.imm,.imm,.imm,.own,.own,.own,.own]) ?_ ?_ ?_ ?_
 eq_refl
 exists fs_for G (md':=[.imm,.imm,.own,.imm,.imm,.imm,.imm,.imm,.imm,.imm,.imm,.imm,.imm,.imm,.imm,.own,.own,.own,.own]) ?_ ?_ ?_ ?_
 eq_refl
 exists fs_setC G (own:=["_law_row_here"]) (md':=[.imm,.imm,.own,.imm,.imm,.imm,.imm,.imm,.imm,.imm,.imm,.imm,.imm,.imm,.imm,.own,.own,.own,.own]) ?_ ?_ ?_
 ac_nf
 ac_nf
 ac_nf
 exists fs_setC G (own:=["_law_row_here"]) (md':=[.imm,.imm,.own,.imm,.imm,.imm,.imm,.imm,.imm,.imm,.imm,.imm,.imm,.imm,.imm,.own,.own,.own,.own]) ?_ ?_ ?_
 ac_nf
 ac_nf
 ac_nf
theorem db10:DB d10 false bd10:=by
 exists fs_cons ?_ ?_,G
theorem db11:DB d11 false bd11:=by
 exists fs_cons ?_ ?_,G
theorem db12:DB d12 false bd12:=by
 exists fs_cons ?_ ?_,G
theorem db13:DB d13 false bd13:=by
 delta bd13
 exists fs_one ?_,G
theorem db14:DB d14 false bd14:=by
 exists fs_cons ?_ ?_,G
theorem db15:DB d15 false bd15:=by
 exists fs_cons ?_ ?_,G
theorem db16:DB d16 false bd16:=by
 delta bd16
 exists fs_one ?_,G
theorem db17:DB d17 false bd17:=by
 delta bd17
 exists fs_one ?_,G
def rc (d:Df):DefRec:=⟨Str.ofString d.name,defArgs d.st,defBody d.st,defScope d.st,defPos d.st⟩
def recs:List DefRec:=[rc d0,rc d1,rc d2,rc d3,rc d4,rc d5,rc d6,rc d7,rc d8,rc d9]
theorem recs_eq:recs=recsOf view:=by kernel_rfl!
def PD (K:Frag) (mg:Str→Option Value) (i:Nat) (x:Str):Prop:=∃ df fd fa fdd,tb[i]?=some fd∧DOk fns tb lxs i df fd∧Fun K (Str.ofString df.name) (Str.ofString df.name) df.st fa fdd∧mg x=some (.ref fa)∧Binds K fdd df.ps []
local macro_rules | `(tactic| exists $d,$b,$j,$u)=>`(tactic| (refine And.intro (have ⟨fa,fd,m,F⟩:=DIn.fn (by assumption) ((by assumption:∀ d∈recs,DIn _ _ d) (rc $d) (List.mem_of_getElem? (i:=$j) rfl)); ⟨$d,_,fa,fd,rfl,$b,F,m,F.binds fun _ _ _ _ _ _ us hl=>$u (P:=fun us=>bindArgs _ ⟨us,[]⟩=pure (List.zip _ us)) hl (by intros; first | kernel_rfl! | rfl)⟩) ?_))
theorem e_all {K:Frag} {h:Heap} {mg:Str→Option Value} (A:AllIn K h) (D:∀ d∈recs,DIn K mg d):EachI (PD K mg) 0 fns.f:=by
 exists d0,(.std rfl (by nofun) db0),0,us2
 exists d1,(.std rfl (by nofun) db1),1,us2
 exists d2,(.std rfl (by nofun) db2),2,us2
 exists d3,(.std rfl (by nofun) db3),3,us2
 exists d4,(.std rfl (by nofun) db4),4,us2
 exists d5,(.std rfl (by nofun) db5),5,us2
 exists d6,(.std rfl (by nofun) db6),6,us1
 exists d7,(.std rfl (by nofun) db7),7,us2
 exists d8,(.lent _ _ bq8 rfl rfl rfl rfl (by nofun) db8),8,us2
 exists d9,(.std rfl (by nofun) db9),9,us1
 trivial
def PM (K:Frag) (mg:Str→Option Value) (i:Nat) (x:Str×Addr×Str):Prop:=∃ df fd fa fdd nm qu,tb[fns.f.length + i]?=some fd∧DOk fns tb lxs (fns.f.length + i) df fd∧Fun K nm qu df.st fa fdd∧mg x.1=some (.ref x.2.1)∧Cls K x.2.1∧(x.2.2=("__init__":Str)→Mk K x.2.1 fa)∧(x.2.2≠("__init__":Str)→Meth K x.2.1 x.2.2 fa)∧Binds K fdd df.ps []
theorem e_ms {K:Frag} {mg:Str→Option Value} (CS:∀ c∈css,CF K mg c) (VS:∀ p∈vws,VF K p):EachI (PM K mg) 0 fns.ms:=by
 refine And.intro (have ⟨fdd,F⟩:=VS _ (List.mem_of_getElem? (i:=0) rfl); have T:=CS _ (List.mem_of_getElem? (i:=0) rfl); have M:=T.ms _ (List.mem_of_getElem? (i:=0) rfl); ⟨d10,_,_,fdd,_,_,rfl,.std rfl (by decide +kernel) db10,F,T.mg,T.cl,fun _=>⟨T.mks,M.1,M.2.1,T.kp⟩,fun z=>absurd rfl z,F.binds fun _ _ _ _ _ _ us hl=>us1 (P:=fun us=>bindArgs _ ⟨us,[]⟩=pure (List.zip _ us)) hl (by intros; first | kernel_rfl! | rfl)⟩) ?_
 refine And.intro (have ⟨fdd,F⟩:=VS _ (List.mem_of_getElem? (i:=1) rfl); have T:=CS _ (List.mem_of_getElem? (i:=0) rfl); have M:=T.ms _ (List.mem_of_getElem? (i:=1) rfl); ⟨d11,_,_,fdd,_,_,rfl,.std rfl (by decide +kernel) db11,F,T.mg,T.cl,fun z=>absurd z (by decide +kernel),fun _=>⟨M.1,M.2.1,M.2.2.1⟩,F.binds fun _ _ _ _ _ _ us hl=>us3 (P:=fun us=>bindArgs _ ⟨us,[]⟩=pure (List.zip _ us)) hl (by intros; first | kernel_rfl! | rfl)⟩) ?_
 refine And.intro (have ⟨fdd,F⟩:=VS _ (List.mem_of_getElem? (i:=2) rfl); have T:=CS _ (List.mem_of_getElem? (i:=0) rfl); have M:=T.ms _ (List.mem_of_getElem? (i:=2) rfl); ⟨d12,_,_,fdd,_,_,rfl,.std rfl (by decide +kernel) db12,F,T.mg,T.cl,fun z=>absurd z (by decide +kernel),fun _=>⟨M.1,M.2.1,M.2.2.1⟩,F.binds fun _ _ _ _ _ _ us hl=>us1 (P:=fun us=>bindArgs _ ⟨us,[]⟩=pure (List.zip _ us)) hl (by intros; first | kernel_rfl! | rfl)⟩) ?_
 refine And.intro (have ⟨fdd,F⟩:=VS _ (List.mem_of_getElem? (i:=3) rfl); have T:=CS _ (List.mem_of_getElem? (i:=0) rfl); have M:=T.ms _ (List.mem_of_getElem? (i:=3) rfl); ⟨d13,_,_,fdd,_,_,rfl,.std rfl (by decide +kernel) db13,F,T.mg,T.cl,fun z=>absurd z (by decide +kernel),fun _=>⟨M.1,M.2.1,M.2.2.1⟩,F.binds fun _ _ _ _ _ _ us hl=>us1 (P:=fun us=>bindArgs _ ⟨us,[]⟩=pure (List.zip _ us)) hl (by intros; first | kernel_rfl! | rfl)⟩) ?_
 refine And.intro (have ⟨fdd,F⟩:=VS _ (List.mem_of_getElem? (i:=4) rfl); have T:=CS _ (List.mem_of_getElem? (i:=1) rfl); have M:=T.ms _ (List.mem_of_getElem? (i:=0) rfl); ⟨d14,_,_,fdd,_,_,rfl,.std rfl (by decide +kernel) db14,F,T.mg,T.cl,fun _=>⟨T.mks,M.1,M.2.1,T.kp⟩,fun z=>absurd rfl z,F.binds fun _ _ _ _ _ _ us hl=>us2 (P:=fun us=>bindArgs _ ⟨us,[]⟩=pure (List.zip _ us)) hl (by intros; first | kernel_rfl! | rfl)⟩) ?_
 refine And.intro (have ⟨fdd,F⟩:=VS _ (List.mem_of_getElem? (i:=5) rfl); have T:=CS _ (List.mem_of_getElem? (i:=1) rfl); have M:=T.ms _ (List.mem_of_getElem? (i:=1) rfl); ⟨d15,_,_,fdd,_,_,rfl,.std rfl (by decide +kernel) db15,F,T.mg,T.cl,fun z=>absurd z (by decide +kernel),fun _=>⟨M.1,M.2.1,M.2.2.1⟩,F.binds fun _ _ _ _ _ _ us hl=>us3 (P:=fun us=>bindArgs _ ⟨us,[]⟩=pure (List.zip _ us)) hl (by intros; first | kernel_rfl! | rfl)⟩) ?_
 refine And.intro (have ⟨fdd,F⟩:=VS _ (List.mem_of_getElem? (i:=6) rfl); have T:=CS _ (List.mem_of_getElem? (i:=1) rfl); have M:=T.ms _ (List.mem_of_getElem? (i:=2) rfl); ⟨d16,_,_,fdd,_,_,rfl,.std rfl (by decide +kernel) db16,F,T.mg,T.cl,fun z=>absurd z (by decide +kernel),fun _=>⟨M.1,M.2.1,M.2.2.1⟩,F.binds fun _ _ _ _ _ _ us hl=>us1 (P:=fun us=>bindArgs _ ⟨us,[]⟩=pure (List.zip _ us)) hl (by intros; first | kernel_rfl! | rfl)⟩) ?_
 refine And.intro (have ⟨fdd,F⟩:=VS _ (List.mem_of_getElem? (i:=7) rfl); have T:=CS _ (List.mem_of_getElem? (i:=1) rfl); have M:=T.ms _ (List.mem_of_getElem? (i:=3) rfl); ⟨d17,_,_,fdd,_,_,rfl,.std rfl (by decide +kernel) db17,F,T.mg,T.cl,fun z=>absurd z (by decide +kernel),fun _=>⟨M.1,M.2.1,M.2.2.1⟩,F.binds fun _ _ _ _ _ _ us hl=>us1 (P:=fun us=>bindArgs _ ⟨us,[]⟩=pure (List.zip _ us)) hl (by intros; first | kernel_rfl! | rfl)⟩) ?_
 trivial
theorem e_fl {K:Frag} {mg:Str→Option Value} (CS:∀ c∈css,CF K mg c):∀ p∈fns.fl,Cls K p.1∧NoAttr K p.1 p.2:=by
 have h:∀ p∈fns.fl,∃ c∈css,c.a=p.1∧p.2∈c.fl:=by nofun
 intro p hp
 obtain ⟨c,hc,e,hf⟩:=h p hp
 have T:=CS c hc
 exact ⟨e ▸ T.cl,e ▸ T.fl _ hf⟩
theorem law_fn (w:World) (K:Frag) (mg:Str→Option Value) (fa:Addr) (h:Heap) (A:AllIn K h) (D:∀ d∈recs,DIn K mg d) (CS:∀ c∈css,CF K mg c) (VS:∀ p∈vws,VF K p) (blt:∀ b∈bltNames,mg (Str.ofString b)=none) (hm:mg (Str.ofString "law")=some (.ref fa)) :
  ∃ fd:FuncData,(∀ (s:Shared) (u:Value),BindsTo s fd ⟨[u],[]⟩ [(Str.ofString "_law_script",u)])∧∀ base:Heap,FnOk PySem.Challenge.pw_keepwhole_k42_rows_that_grow_apart w K mg base CX0 14 fa fd [Str.ofString "_law_script"] (spL tb lxs (callW tb 14) K 9):=by
 obtain ⟨fa2,fd,m,F⟩:=DIn.fn A (D (rc d9) (List.mem_of_getElem? (i:=9) rfl))
 have e:=hm.symm.trans m
 cases e
 have E:∀ (f:Nat) (x:Str),fns.f[f]?=some x→PD K mg f x:=fun f x hx=>by
  have:=EachI.get (e_all A D) f x hx
  rwa [Nat.zero_add] at this
 have EM:∀ (k:Nat) (c:Str) (Ca:Addr) (m:Str),fns.ms[k]?=some (c,Ca,m)→PM K mg k (c,Ca,m):=fun k c Ca m hx=>by
  have:=EachI.get (e_ms CS VS) k _ hx
  rwa [Nat.zero_add] at this
 have FL:=e_fl CS
 refine ⟨fd,?_,fun base=>?_⟩
 ·obtain ⟨oc,od,kV,doc,pm,an,cdv,ct,osl,rfl,lk,hcd⟩:=F.ex
  exact fun s v=>.of_eq rfl
 ·obtain ⟨R1,R2⟩:=all_fnsL (lxs:=lxs) (P:=PySem.Challenge.pw_keepwhole_k42_rows_that_grow_apart) (w:=w) (base:=base) blt FL E EM 13
  exact fn_any (df:=d9) F rfl (.std rfl (by nofun) db9) R1 blt R2 FL
end Kq
end
set_option maxHeartbeats 0
section
open PySem PySem.W PyProof.Rows





theorem Kq.hdef : defOf Kq.view PySem.Challenge.rw_keepwhole_k42_rows_that_grow_apart.name = some (Kq.rc Kq.d9, []) := by kernel_rfl!
theorem Kq.hp : PySem.Challenge.rw_keepwhole_k42_rows_that_grow_apart.prog.theDef PySem.Challenge.rw_keepwhole_k42_rows_that_grow_apart.name = some ((Kq.rc Kq.d9).params, (Kq.rc Kq.d9).body, (Kq.rc Kq.d9).scope) := by kernel_rfl!
theorem Kq.okq : (chainsOk Kq.view && opensWell PySem.Challenge.rw_keepwhole_k42_rows_that_grow_apart.prog && (frees PySem.Challenge.rw_keepwhole_k42_rows_that_grow_apart.row.toRowW && PySem.Challenge.rw_keepwhole_k42_rows_that_grow_apart.row.within.isEmpty)) = true := by nofun
theorem Kq.prom : PySem.Challenge.rw_keepwhole_k42_rows_that_grow_apart.row.toRowW.promised := ⟨[.list []], by nofun, by nofun⟩
theorem PySem.Challenge.cw_keepwhole_k42_rows_that_grow_apart_holds : PySem.Challenge.rw_keepwhole_k42_rows_that_grow_apart.Holds :=
  Kq.row_holdsC Kq.said Kq.left Kq.hdef Kq.hp rfl rfl Kq.okq ⟨rfl, rfl, rfl, rfl, rfl, by nofun⟩ Kq.prom (Kq.walkC (n := 63) (k := 14) (ds := Kq.recs) (x := Str.ofString "_law_script") (sp := fun K => Kq.spL Kq.tb Kq.lxs (Kq.callW Kq.tb 14) K 9) rfl (by decide) rfl ⟨rfl, by decide, by decide, rfl⟩ Kq.recs_eq Kq.freeAll (by nofun) Kq.law_fn fun _ _ a ns hl hO hS => Kq.law_spL rfl rfl rfl rfl hO hS (Kq.law_val ns))
end
