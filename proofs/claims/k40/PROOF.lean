import PyProof.Rows.All
import Wide.All
import OpenK.AllK
import Wide.FinOn
import Lean
import PyProof.EqAt
import PyProof.EqKinds
import PyProof.TupleCall
import PyProof.DictCompW
import PyProof.Rows.Range3
import KE.KRevIter
import PyProof.AutoRange
import PyProof.FactsAll.range_2
import PyProof.Rows.CallKwBuiltin
import PyProof.ListRange
import PyProof.TupleOfGen
import PyProof.P3Eq
import PyProof.Rows.RowHeap
import PyProof.CollectIter
import PyProof.WalksMore
import PyProof.AutoSeq1
import KE.KListMore
import PyProof.AttrMissHeap
import KE.KDictOf
import KE.KSortTup
import PyProof.Rows.SortWalk
import PyProof.SumWalkG
import PyProof.DictWalks
import KE.KDictSum
import PyProof.SetKind
import PyProof.SetRoads
import PyProof.Rows.SetFrom
import PyProof.TupleKey
import KE.KTryMore
import PyProof.ExcArgs
import PyProof.ExcBaseAll.ValueError
import OpenK.KOwn
import PySem.Challenge.RW_keepwhole_k40_rows_that_grow
open PySem renaming wpAny_bind→Γa
open PySem renaming wpAny_pure→Γb
open PySem.Heap renaming get?_push_of_some→Γc
open PySem.W renaming Frag→Γd
open PySem.Str renaming ofString→Γe
open PySem.Heap renaming get?_update_other→Γf
open PySem renaming wpAny_holding→Γg
open List renaming mem_cons_of_mem→Γh
open Nat renaming le_refl→Γi
open List renaming replicate→Γj
open Bool renaming false_ne_true→Γk
open PySem.Heap renaming lt_size→Γl
open PySem.Heap renaming get?_push_size→Γm
open List renaming mem_cons_self→Γn
open Nat renaming ne_of_lt→Γo
open Bool renaming false_eq_true→Γp
local macro_rules | `(command| $m:declModifiers def $i:declId $s:optDeclSig $v:declVal) => if m.raw.getArgs.all (·.getNumArgs == 0) then `(command| noncomputable def $i:declId $s:optDeclSig $v:declVal) else Lean.Macro.throwUnsupported
local macro_rules | `(command| $m:declModifiers abbrev $i:declId $s:optDeclSig $v:declVal) => if m.raw.getArgs.all (·.getNumArgs == 0) then `(command| noncomputable abbrev $i:declId $s:optDeclSig $v:declVal) else Lean.Macro.throwUnsupported
local macro_rules | `(tactic| nofun) => `(tactic| decide +kernel)
set_option Elab.async false
set_option linter.all false
set_option maxRecDepth 100000
section
open PySem PySem.Spec PyProof.Rows
open PySem PySem.Spec PyProof.Rows
open PySem PySem.Spec PyProof.Rows
open PySem PySem.Spec PyProof.Rows
open PySem PySem.Spec PyProof.Rows
open PySem PySem.Spec PyProof.Rows
open PySem PySem.Spec PyProof.Rows
open PySem PySem.Spec PyProof.Rows
open PySem PySem.Spec PyProof.Rows
open PySem PySem.Spec PyProof.Rows
open PySem PyProof.Rows
open PySem.SeqAt
open PySem.AutoSeq1 (wpAny_loadPart')
open PySem.MeetsSeq PySem.MeetsSeq2 PySem.MeetsSeq3
open PySem PySem.Spec PyProof.Rows
open PySem PySem.Spec PyProof.Rows
open PySem PySem.Spec PyProof.Rows
open PySem PySem.W PySem.Calls PyProof.Rows
open PySem PySem.Spec PyProof.Rows
open PySem PySem.Spec PyProof.Rows
namespace L2
open PySem PySem.Spec PyProof.Rows
def a4c (s:Stmt):Arguments:=match s with
 | .FunctionDef _ a _ _ _ _ _ _ _ _=>a
 | _=>{ posonlyargs:=[],args:=[],vararg:=none,kwonlyargs:=[],kw_defaults:=[],kwarg:=none,defaults:=[] }
def a1i (s:Stmt):List Stmt:=match s with
 | .FunctionDef _ _ b _ _ _ _ _ _ _=>b
 | _=>[]
def a0o (s:Stmt):Scope:=match s with
 | .FunctionDef _ _ _ _ _ _ sc _ _ _=>sc
 | _=>{ kind:=.function,names:=[],isGenerator:=false,isCoroutine:=false }
end L2
end
set_option maxHeartbeats 4000000
section
namespace Kq
open PySem PySem.Spec PySem.Calls PyProof.Rows L2 PySem.W
def a3d (h:Heap):Frag:=(List.range h.objs.size).filterMap λa=>(h.get? a).map λo=>(a,o)
structure CSp where
 c:Str
 a:Addr
 fl:List Str
 ms:List (Str×Addr)
 x:Frag→(Str→Option Value)→Bool
def isR (r:Option (Option Value))(f:Addr):Bool:=match r with
 | some (some (.ref g))=>g == f
 | _=>false
def d5b (r:Option (Option Value)):Bool:=match r with
 | some none=>true
 | _=>false
def d2u (r:Option (Option Value))(x:String):Bool:=match r with
 | some (some (.builtin y))=>y == x
 | _=>false
def mgR (r:Option Value)(f:Addr):Bool:=match r with
 | some (.ref g)=>g == f
 | _=>false
def fnB (K:Frag)(f:Addr):Bool:=match K.lookup f with
 | some ⟨_,_,.func fd,_⟩=>codeIn K fd.code fd.qualname
 | _=>false
def dB (K:Frag)(mg:Str→Option Value)(x:Str):Bool:=match mg x with
 | some (.ref a)=>match K.lookup a with
  | some ⟨_,_,.func fd,_⟩=>match fd.code with
   | .ref c=>(K.lookup c).isSome
   | _=>false
  | _=>false
 | _=>false
def cB (K:Frag)(mg:Str→Option Value)(c:CSp):Bool:=mgR (mg c.c) c.a && (plainGet K c.a Str.empty && (hasDictIn K c.a && (plainOver K c.a && (d2u (findIn K (.ref c.a) "__setattr__") "object.__setattr__" && (c.fl.all (λf=>d5b (findIn K (.ref c.a) f)) && (c.ms.all (λm=>isR (findIn K (.ref c.a) m.1) m.2 && (isFn K (.ref m.2) && (keepIn K (.ref m.2) && fnB K m.2))) && (makesIn K c.a && (keepIn K (.ref c.a) && c.x K mg))))))))
def c1l (fd:FuncData):=(fd.name,fd.qualname,fd.params,fd.body,fd.scope,fd.globals,fd.closure,fd.defaults,fd.builtins)
structure Vw where
 f:Addr
 m:Str
 q:Str
 st:Stmt
def Vw.due (p:Vw):=c1l (fnOf p.m p.q (a4c p.st) (a1i p.st) (a0o p.st) .none .none .none .none none .none .none)
def d0b (o:Obj):=match o.data with
 | .func fd=>some (c1l fd)
 | _=>none
def YfC (vw:List Vw)(s:Shared):=vw.map λp=>(s.heap.get? p.f).bind d0b
def YaC (vw:List Vw):=vw.map λp=>some p.due
def allB (cs:List CSp)(xs:List Str)(K:Frag)(mg:Str→Option Value):Bool:=xs.all (dB K mg) && cs.all (cB K mg)
def XtC (q:Program)(cs:List CSp)(s:Shared):Bool:=xlAt q [] s && allB cs ((recsOf q).map (·.name)) (a3d s.heap) (s.heap.nsMap mainGlobals)
end Kq
end
section
namespace Kq
open PySem PySem.Spec PyProof.Rows L2
def isDC:Stmt→Bool
 | .FunctionDef ..=>true
 | .ClassDef ..=>true
 | _=>false
def d6p (p:Program):Program:={ p with main:={ p.main with body:=p.main.body.filter isDC } }
def e2j:Stmt→List Stmt
 | .ClassDef _ _ _ b ..=>b
 | _=>[]
end Kq
end
section
namespace Kq
open PySem PySem.Spec PySem.Calls PyProof.Rows L2
abbrev bmV:List Value:=[.type "ValueError",.type "Exception",.type "BaseException",.type "object"]
end Kq
end
section
open PySem PySem.Spec PyProof.Rows L2
namespace Kq
open PySem PySem.Spec PyProof.Rows L2
def c9v (x:Option Bool)(b:Bool):Bool:=match x with
 | some c=>c == b
 | none=>false
def d0a (K:Γd)(D:Addr):Bool:=(PySem.W.clsIn K D).isSome && (d2u (PySem.W.findIn K (.ref D) "__getattribute__") "BaseException.__getattribute__" && (d5b (PySem.W.findIn K (.ref D) "__getattr__") && (d2u (PySem.W.findIn K (.ref D) "__class__") "object.__class__" && (c9v (PySem.W.mroIn K D (.type "object")) true && c9v (PySem.W.mroIn K D (.type "BaseException")) true))))
def tryB (Ck Cn Cb Cl:Addr)(kx n1 n2 n3 n4:Str)(T:String)(K:Γd)(mg:Str→Option Value):Bool:=mgR (mg kx) Ck && (mgR (mg n1) Cn && ((mg n2).isNone && (mgR (mg n3) Cb && (mgR (mg n4) Cl && (c9v (PySem.W.exmOne K (.ref Cn) (.ref Ck)) true && (c9v (PySem.W.kitOne K (.ref Cn) (.type T)) true && (c9v (PySem.W.kitAny K (.ref Cn) [.ref Cb,.ref Cl]) false && (PySem.W.excIn K Cn bmV "ValueError.__new__" && d0a K Cn))))))))
end Kq
end
section
namespace Kq
open PySem PySem.Spec PyProof.Rows L2 PySem.W
def top (i:Nat):Stmt:=PySem.Challenge.pw_keepwhole_k40_rows_that_grow.main.body.getD i (.Pass ⟨0,0,0,0⟩)
def mth (i j:Nat):Stmt:=(e2j (top i)).getD j (.Pass ⟨0,0,0,0⟩)
def view:Program:=d6p PySem.Challenge.pw_keepwhole_k40_rows_that_grow
def css:List CSp:=[⟨"Growing",108,["wholes","steps","kept","since"],[("__init__",84),("grown",91),("row_now",98),("kept_now",105)],tryB 24 37 68 49 "KeepError" "NoMake" "ValueError" "BadRow" "Loop" "ValueError"⟩]
def vws:List Vw:=[⟨84,"__init__","Growing.__init__",mth 6 0⟩,⟨91,"grown","Growing.grown",mth 6 1⟩,⟨98,"row_now","Growing.row_now",mth 6 2⟩,⟨105,"kept_now","Growing.kept_now",mth 6 3⟩]
end Kq
end
set_option maxHeartbeats 0
section
open PySem PySem.W PyProof.Rows
theorem Kq.left:LeftO PySem.Challenge.rw_keepwhole_k40_rows_that_grow.prog Kq.view [] (λs=>Kq.XtC Kq.view Kq.css s && recOk (RowW.records PySem.Challenge.rw_keepwhole_k40_rows_that_grow.row.toRowW) s) (Kq.YfC Kq.vws) (λ_=>Kq.YaC Kq.vws) 3000:=by
  intro w
  kernel_rfl!
end
section
namespace L2
open PySem PySem.Spec PyProof.Rows
abbrev Key:=Sum Int (Option Str)
def b5f:Key→Value→Bool
 | .inl k,v=>Value.isInt k v
 | .inr (some x),v=>Value.isStrOf x v
 | .inr none,v=>match v with
  | .none=>true
  | _=>false
def keyH (w:World):Key→Int
 | .inl k=>hashInt k
 | .inr (some x)=>hashStr w x
 | .inr none=>4238894112
theorem b9h {prog:Program}{w:World}{A:Around}{E:Value→Shared→Prop}{s:Shared}{Q:Int→Shared→Prop}(h:Q 4238894112 { s with toks:=s.toks+1 }):wpAny (model prog w) A (pyHash .none) Q E s:=by
 have hT:s.TypeIs .none "NoneType":=rfl
 show wpAny _ _ (pyHashByItsType .none) Q E s
 unfold pyHashByItsType
 have hv:[Value.none].any Value.onHeap=false:=rfl
 refine Γa ?_
 rw[cRoomFor,if_neg (by rw[hv];exact Γk)];refine Γb ?_
 refine Γa (wpAny_specialOf hT PySem.F.slot_NoneType_hash.lookup ?_)
 show wpAny _ _ (if (some (Value.builtin "NoneType.__hash__") == some Value.none)=true then _ else _) Q E s
 rw[if_neg (by decide)]
 refine Γa (wpAny_specialOf hT PySem.F.slot_NoneType_hash.lookup ?_)
 show wpAny _ _ (callSpecialIfBoundUnlessNone? .none "__hash__" _ >>= _) Q E s
 refine Γa (wpAny_callSpecialIfBoundUnlessNone?_slot hT PySem.F.slot_NoneType_hash
  (wpAny_call_entry PySem.F.slot_NoneType_hash hT PySem.F.entry_NoneType_hash
   (show wpAny _ _ (do ret (← mkInt 4238894112)) _ _ s from wpAny_ret_mkInt ?_) (PySem.F.args_NoneType_hash_1 _)))
 show wpAny _ _ (if (decide (-(2:Int) ^ 63≤4238894112) && decide ((4238894112:Int)<2 ^ 63))=true then _ else _) Q E _
 rw[if_pos (by decide)]
 exact Γb h
theorem a0z:∀ {k:Key}{v:Value},b5f k v=true→(∃ i t,k=Sum.inl i∧v=Value.int i t) ∨ (∃ x t,k=Sum.inr (some x)∧v=Value.str x t) ∨ (k=Sum.inr none∧v=Value.none)
 | .inl i,v,h=>by
  obtain⟨t,e⟩:=Value.isInt_shape (k:=i) (v:=v) h
  exact .inl ⟨i,t,rfl,e⟩
 | .inr (some x),v,h=>by
  obtain⟨t,e⟩:=Value.isStrOf_shape (x:=x) (v:=v) h
  exact .inr (.inl ⟨x,t,rfl,e⟩)
 | .inr none,v,h=>by
  cases v with
  | none=>exact .inr (.inr ⟨rfl,rfl⟩)
  | _=>cases h
theorem b8y (i:Int)(t:Tok):b5f (.inl i) (.int i t)=true:=by simp[b5f,Value.isInt]
theorem b8x (x:Str)(t:Tok):b5f (.inr (some x)) (.str x t)=true:=by simp[b5f,Value.isStrOf]
theorem d2o (a b:Int):decide ((Sum.inl a:Key)=Sum.inl b)=(a == b):=by
 by_cases e:a=b
 ·subst e;simp
 ·have h:¬ (Sum.inl a:Key)=Sum.inl b:=λq=>e (Sum.inl.inj q)
  rw[decide_eq_false h]
  exact (beq_eq_false_iff_ne.mpr e).symm
theorem d2n (a b:Str):decide ((Sum.inr (some a):Key)=Sum.inr (some b))=decide (a=b):=by
 by_cases e:a=b
 ·subst e;simp
 ·have h:¬ (Sum.inr (some a):Key)=Sum.inr (some b):=λq=>e (Option.some.inj (Sum.inr.inj q))
  rw[decide_eq_false h,decide_eq_false e]
def a0w (prog:Program)(w:World):PySem.KeyKind prog w Key where
 is:=b5f
 hash:=keyH w
 inj:=λv a b ha hb=>by
  rcases a0z ha with⟨i,t,rfl,rfl⟩|⟨x,t,rfl,rfl⟩|⟨rfl,rfl⟩<;>rcases a0z hb with⟨j,u,rfl,e⟩|⟨y,u,rfl,e⟩|⟨rfl,e⟩<;>first|rfl|(injection e with e1 _;rw[e1])|cases e
 byValue:=λk v h=>by
  rcases a0z h with⟨i,t,rfl,rfl⟩|⟨x,t,rfl,rfl⟩|⟨rfl,rfl⟩<;>rfl
 pyHash:=λhv h=>by
  rcases a0z hv with⟨i,t,rfl,rfl⟩|⟨x,t,rfl,rfl⟩|⟨rfl,rfl⟩
  ·exact wpAny_pyHash_int h
  ·exact wpAny_pyHash_str h
  ·exact b9h h
 eqBool:=λhu hv h=>by
  rcases a0z hu with⟨i,t,rfl,rfl⟩|⟨x,t,rfl,rfl⟩|⟨rfl,rfl⟩
  ·rcases a0z hv with⟨j,u,rfl,rfl⟩|⟨y,u,rfl,rfl⟩|⟨rfl,rfl⟩
   ·rw[d2o] at h;exact wpAny_eqBool_int h
   ·rw[decide_eq_false (show ¬ (Sum.inl i:Key)=Sum.inr (some y) from λq=>nomatch q)] at h;exact SeqAt.EqAt.int_str i t y u _ _ _ _ h
   ·rw[decide_eq_false (show ¬ (Sum.inl i:Key)=Sum.inr none from λq=>nomatch q)] at h;exact SeqAt.EqAt.int_none i t _ _ _ _ h
  ·rcases a0z hv with⟨j,u,rfl,rfl⟩|⟨y,u,rfl,rfl⟩|⟨rfl,rfl⟩
   ·rw[decide_eq_false (show ¬ (Sum.inr (some x):Key)=Sum.inl j from λq=>nomatch q)] at h;exact SeqAt.EqAt.str_int x t j u _ _ _ _ h
   ·rw[d2n] at h;exact wpAny_eqBool_str h
   ·rw[decide_eq_false (show ¬ (Sum.inr (some x):Key)=Sum.inr none from λq=>nomatch q)] at h;exact SeqAt.EqAt.str_none x t _ _ _ _ h
  ·rcases a0z hv with⟨j,u,rfl,rfl⟩|⟨y,u,rfl,rfl⟩|⟨rfl,rfl⟩
   ·rw[decide_eq_false (show ¬ (Sum.inr none:Key)=Sum.inl j from λq=>nomatch q)] at h;exact SeqAt.EqAt.none_int j u _ _ _ _ h
   ·rw[decide_eq_false (show ¬ (Sum.inr none:Key)=Sum.inr (some y) from λq=>nomatch q)] at h;exact SeqAt.EqAt.none_str y u _ _ _ _ h
   ·rw[decide_eq_true rfl] at h;exact SeqAt.EqAt.same .none _ _ _ _ h
 «strs»:=λk x t v h=>by
  rcases a0z h with⟨i,u,rfl,e⟩|⟨y,u,rfl,e⟩|⟨rfl,e⟩
  ·exact nomatch e
  ·injection e with e1 _
   subst e1
   cases v<;>rfl
  ·exact nomatch e
theorem b2l (prog:Program)(w:World) (i:Int)(t:Tok):(a0w prog w).is (.inl i) (.int i t)=true:=b8y i t
theorem b0p (prog:Program)(w:World):(a0w prog w).is (.inr none) .none=true:=rfl
theorem b2k (prog:Program)(w:World)(x:Str)(t:Tok):(a0w prog w).is (.inr (some x)) (.str x t)=true:=b8x x t
end L2
namespace L2
open PySem PySem.Spec PyProof.Rows
inductive V where
 | non|bl (b:Bool)|int (i:Int)|str (x:Str)|byt (b:Array UInt8)|flt (b:UInt64)|ref (a:Addr)|ty (n:String)
 deriving DecidableEq
def RelV:V→Value→Prop
 | .non,u=>u=Value.none
 | .bl b,u=>u=Value.bool b
 | .int i,u=>∃ t,u=Value.int i t
 | .str x,u=>∃ t,u=Value.str x t
 | .byt b,u=>∃ t,u=Value.bytes b t
 | .flt b,u=>∃ t,u=Value.float b t
 | .ref a,u=>u=Value.ref a
 | .ty n,u=>u=Value.type n
abbrev Vals:List V→List Value→Prop:=Paired RelV
theorem Vals.length {xs:List V}{us:List Value}(r:Vals xs us):xs.length=us.length:=Paired.length r
theorem Vals.get:∀ {xs:List V}{us:List Value}{i:Nat}{x:V},Vals xs us→xs[i]?=some x→∃ u,us[i]?=some u∧RelV x u
 | _,_,_,_,.nil,e=>by simp at e
 | _,_,0,_,.cons r _,e=>by simp at e;subst e;exact⟨_,rfl,r⟩
 | _,_,i+1,x,.cons _ t,e=>by
  obtain⟨u,h1,h2⟩:=Vals.get (i:=i) (x:=x) t (by simpa using e)
  exact⟨u,by simpa using h1,h2⟩
theorem Vals.set {x:V}{u:Value}(r:RelV x u):∀ {xs:List V}{us:List Value} (i:Nat),Vals xs us→Vals (xs.set i x) (us.set i u)
 | _,_,_,.nil=>.nil
 | _,_,0,.cons _ t=>.cons r t
 | _,_,i+1,.cons q t=>.cons q (Vals.set r i t)
theorem Vals.append:∀ {xs ys:List V}{us ws:List Value},Vals xs us→Vals ys ws→Vals (xs++ys) (us++ws)
 | _,_,_,_,.nil,s=>s
 | _,_,_,_,.cons r t,s=>.cons r (Vals.append t s)
theorem Vals.take:∀ {xs:List V}{us:List Value} (n:Nat),Vals xs us→Vals (xs.take n) (us.take n)
 | _,_,0,_=>.nil
 | _,_,_+1,.nil=>.nil
 | _,_,n+1,.cons r t=>.cons r (Vals.take n t)
theorem Vals.drop:∀ {xs:List V}{us:List Value} (n:Nat),Vals xs us→Vals (xs.drop n) (us.drop n)
 | _,_,0,r=>r
 | _,_,_+1,.nil=>.nil
 | _,_,n+1,.cons _ t=>Vals.drop n t
def RelO:Option V→Option Value→Prop
 | some v,some u=>RelV v u
 | none,none=>True
 | _,_=>False
def KV {κ:Type}:List (κ×V)→List (κ×Value)→Prop:=Paired λ(p:κ×V)(q:κ×Value)=>p.1=q.1∧RelV p.2 q.2
def kV:Key→V
 | .inl i=>.int i
 | .inr (some x)=>.str x
 | .inr none=>.non
inductive HO where
 | lst (xs:List V)
 | tup (xs:List V)
 | dK (kvs:List (Key×V))|dT (kvs:List (List Key×V))
 | set (S:Int→Bool) (n:Nat)
 | ins (C dx:Addr)(fs:List (Str×V))
 | big (C dx:Addr)(fs:List (Str×V))(gs:List (Addr×List V))
 | own (x:Addr)
 | xd (fs:List (Str×V))
 | met (f x:Addr)
 | rng (lo hi:Int)
 | frz (o:Obj)(u:HO)
 | tbl (ps:Array Value)
 | ext (φ:Heap→Prop)
abbrev Hp:=Addr→Option HO
def upd (H:Hp)(a:Addr)(o:HO):Hp:=λb=>if b=a then some o else H b
theorem a0e {H:Hp}{a:Addr}{o:HO}:upd H a o a=some o:=by unfold upd;rw[if_pos rfl]
theorem a0c {H:Hp}{a b:Addr}{o:HO}(h:b≠a):upd H a o b=H b:=by unfold upd;rw[if_neg h]
theorem d2g {H:Hp}{a b:Addr}{o u:HO}(h:H a=some o)(h':H b=some u)(d:o≠u):a≠b:=by
 intro e;subst e;rw[h] at h';exact d (Option.some.inj h')
theorem a0v {H:Hp}{a b:Addr}{o:HO}(h:H a=some o)(h':H b=none):a≠b:=by
 intro e;subst e;rw[h] at h';cases h'
section
variable (P:Program)(w:World)
def ObjOk (H:Hp)(h:Heap)(a:Addr):HO→Prop
 | .lst xs=>xs.length≤sizeLine∧∃ (its:List Value) (n:Nat),Vals xs its∧h.get? a=some { cls:=.type "list",data:=.seq its.toArray n }
 | .tup xs=>xs.length≤sizeLine∧∃ its:List Value,Vals xs its∧IsTup h a its.toArray
 | .dK kvs=>kvs.length≤sizeLine∧(a == sysModules)=false∧∃ vs,KV kvs vs∧h.DictOf (a0w P w) a vs
 | .dT kvs=>kvs.length≤sizeLine∧(a == sysModules)=false∧∃ xs:List (List Key×Addr×Value),
   Paired (λ(p:List Key×V)(q:List Key×Addr×Value)=>p.1=q.1∧H q.2.1=some (.tup (p.1.map kV))∧RelV p.2 q.2.2) kvs xs ∧
   ∃ o es ep,h.get? a=some o∧o.ExactDict∧o.data=.dict es ep∧es.toList=xs.map (entryOfKey (tupleKind (a0w P w)))∧(xs.map (·.1)).Nodup
 | .set S n=>h.SetOf (intKind P w) a S n
 | .ins C dx fs=>H dx=some (.own a)∧fs.length≤1000∧dx≠a∧h.get? a=some (PySem.W.instObj C dx) ∧
   ∃ mA,h.Ns1 dx mA∧(∀ f,RelO (fs.lookup f) (mA f))∧PySem.Within mA (fs.map (·.1))
 | .big C dx fs gs=>H dx=some (.own a)∧(∀ g∈gs,H g.1=some (.own a))∧(a :: dx :: gs.map (·.1)).Nodup∧fs.length≤1000∧h.get? a=some (PySem.W.instObj C dx) ∧
   (∃ mA,h.Ns1 dx mA∧(∀ f,RelO (fs.lookup f) (mA f))∧PySem.Within mA (fs.map (·.1))) ∧
   ∀ g∈gs,g.2.length≤sizeLine∧∃ (its:List Value) (n:Nat),Vals g.2 its∧h.get? g.1=some { cls:=.type "list",data:=.seq its.toArray n }
 | .own _=>∃ o,h.get? a=some o
 | .xd fs=>∃ mA,h.Ns1 a mA∧∀ f,RelO (fs.lookup f) (mA f)
 | .rng lo hi=>∃ t u v,h.get? a=some { cls:=.type "range",data:=.fields #[.int lo t,.int hi u,.int 1 v] }
 | .frz o u=>h.get? a=some o∧ObjOk H h a u
 | .tbl ps=>h.get? a=some { cls:=.none,data:=.fields ps }
 | .met f x=>h.get? a=some (PySem.W.methodObj (.ref f) (.ref x))
 | .ext φ=>φ h∧(∃ o,h.get? a=some o)∧∀ h1 h2:Heap,φ h1→(∀ o,h1.get? a=some o→h2.get? a=some o)→φ h2
def HOk (H:Hp)(h:Heap):Prop:=∀ a o,H a=some o→ObjOk P w H h a o
end
section
variable {P:Program}{w:World}{H H':Hp}{h h':Heap}{a:Addr}{o:HO}
theorem ObjOk.lt (x:ObjOk P w H h a o):a<h.objs.size:=by
 cases o with
 | lst xs=>obtain⟨_,_,_,_,e⟩:=x;exact Γl e
 | tup xs=>obtain⟨_,_,_,p⟩:=x;exact p.lt
 | dK kvs=>obtain⟨_,_,_,_,o,_,_,e,_⟩:=x;exact Γl e
 | dT kvs=>obtain⟨_,_,_,_,o,_,_,e,_⟩:=x;exact Γl e
 | set S n=>obtain⟨o,_,_,_,e,_⟩:=x;exact Γl e
 | ins C dx fs=>obtain⟨_,_,_,e,_⟩:=x;exact Γl e
 | big C dx fs gs=>obtain⟨_,_,_,_,e,_⟩:=x;exact Γl e
 | own y=>obtain⟨_,e⟩:=x;exact Γl e
 | xd fs=>obtain⟨_,⟨_,_,_,e,_⟩,_⟩:=x;exact Γl e
 | rng lo hi=>obtain⟨_,_,_,e⟩:=x;exact Γl e
 | frz ob u=>obtain⟨e,_⟩:=x;exact Γl e
 | tbl ps=>exact Γl (show h.get? a=some _ from x)
 | met f y=>exact Γl (show h.get? a=some _ from x)
 | ext φ=>obtain⟨_,⟨_,e⟩,_⟩:=x;exact Γl e
theorem Paired.mapP {α β:Type}{F G:α→β→Prop}:∀ {l₁:List α}{l₂:List β},Paired F l₁ l₂→(∀ a b,F a b→G a b)→Paired G l₁ l₂
 | _,_,.nil,_=>.nil
 | _,_,.cons r t,f=>.cons (f _ _ r) (Paired.mapP t f)
theorem ObjOk.stay (x:ObjOk P w H h a o)(k:∀ b u,(b=a ∨ H b=some (.own a))→h.get? b=some u→h'.get? b=some u)
  (ho:∀ b,H b=some (.own a)→H' b=some (.own a))(ht:∀ b xs,H b=some (.tup xs)→H' b=some (.tup xs)):ObjOk P w H' h' a o:=by
 induction o with
 | lst xs=>obtain⟨z,its,n,r,e⟩:=x;exact⟨z,its,n,r,k _ _ (.inl rfl) e⟩
 | tup xs=>obtain⟨z,its,r,ob,e,c⟩:=x;exact⟨z,its,r,ob,k _ _ (.inl rfl) e,c⟩
 | dK kvs=>obtain⟨z,y,vs,r,ob,es,ep,e,c⟩:=x;exact⟨z,y,vs,r,ob,es,ep,k _ _ (.inl rfl) e,c⟩
 | dT kvs =>
  obtain⟨z,y,xs,r,ob,es,ep,e,c⟩:=x
  exact⟨z,y,xs,Paired.mapP r λp q z=>⟨z.1,ht _ _ z.2.1,z.2.2⟩,ob,es,ep,k _ _ (.inl rfl) e,c⟩
 | set S n=>obtain⟨ob,es,ep,t,e,c⟩:=x;exact⟨ob,es,ep,t,k _ _ (.inl rfl) e,c⟩
 | ins C dx fs =>
  obtain⟨d,z,ne,e,mA,⟨od,es,ep,e2,c⟩,r⟩:=x
  exact⟨ho _ d,z,ne,k _ _ (.inl rfl) e,mA,⟨od,es,ep,k _ _ (.inr d) e2,c⟩,r⟩
 | big C dx fs gs =>
  obtain⟨d,gg,nd,z,e,⟨mA,⟨od,es,ep,e2,c⟩,r⟩,ls⟩:=x
  exact⟨ho _ d,λg m=>ho _ (gg g m),nd,z,k _ _ (.inl rfl) e,⟨mA,⟨od,es,ep,k _ _ (.inr d) e2,c⟩,r⟩,λg m=>let ⟨l1,its,n,l2,l3⟩:=ls g m;⟨l1,its,n,l2,k _ _ (.inr (gg g m)) l3⟩⟩
 | own y=>obtain⟨ob,e⟩:=x;exact⟨ob,k _ _ (.inl rfl) e⟩
 | xd fs=>obtain⟨mA,⟨od,es,ep,e,c⟩,r⟩:=x;exact⟨mA,⟨od,es,ep,k _ _ (.inl rfl) e,c⟩,r⟩
 | rng lo hi=>obtain⟨t,u,v,e⟩:=x;exact⟨t,u,v,k _ _ (.inl rfl) e⟩
 | frz ob u ih=>obtain⟨e,q⟩:=x;exact⟨k _ _ (.inl rfl) e,ih q⟩
 | tbl ps =>
  have e:h.get? a=some { cls:=.none,data:=.fields ps }:=x
  show h'.get? a=some { cls:=.none,data:=.fields ps }
  exact k a _ (.inl rfl) e
 | met f y =>
  have e:h.get? a=some (PySem.W.methodObj (.ref f) (.ref y)):=x
  show h'.get? a=some (PySem.W.methodObj (.ref f) (.ref y))
  exact k a _ (.inl rfl) e
 | ext φ=>obtain⟨p,⟨o,e⟩,st⟩:=x;exact⟨st _ _ p λo q=>k _ _ (.inl rfl) q,⟨o,k _ _ (.inl rfl) e⟩,st⟩
theorem HOk.lt (x:HOk P w H h)(e:H a=some o):a<h.objs.size:=(x a o e).lt
theorem HOk.fresh (x:HOk P w H h)(e:h.objs.size≤a):H a=none:=by
 cases q:H a with
 | none=>rfl
 | some u=>exact absurd (Nat.lt_of_lt_of_le (x.lt q) e) (Nat.lt_irrefl _)
theorem HOk.kept (x:HOk P w H h)(k:∀ b u,h.get? b=some u→h'.get? b=some u):HOk P w H h':=λa o e =>
 (x a o e).stay (λb u _ q=>k b u q) (λ_ q=>q) λ_ _ q=>q
theorem HOk.laid (x:HOk P w H h)(k:∀ b u,h.get? b=some u→h'.get? b=some u)(hp:h.objs.size≤a)(new:ObjOk P w (upd H a o) h' a o):HOk P w (upd H a o) h':=λb u e=>by
 have hn:=x.fresh hp
 by_cases hb:b=a
 ·subst hb;rw[a0e] at e;cases e;exact new
 ·rw[a0c hb] at e
  exact (x b u e).stay (λc v _ q=>k c v q) (λc q=>by rw[a0c (a0v q hn)];exact q) λc xs q=>by rw[a0c (a0v q hn)];exact q
end
def Rd (H:Hp)(a:Addr)(u:HO):Prop:=H a=some u ∨ ∃ o,H a=some (.frz o u)
theorem Rd.ok {P:Program}{w:World}{H:Hp}{h:Heap}{a:Addr}{u:HO}(r:Rd H a u)(x:HOk P w H h):ObjOk P w H h a u:=by
 rcases r with r|⟨o,r⟩
 ·exact x a u r
 ·obtain⟨_,q⟩:=x a _ r
  exact q
def Mut:Option HO→Prop
 | some (.lst _)=>True
 | some (.dK _)=>True
 | some (.dT _)=>True
 | some (.set _ _)=>True
 | some (.ins _ _ _)=>True
 | some (.ext _)=>True
 | _=>False
section
variable {P:Program}{w:World}{H:Hp}{h h':Heap}{x e:Addr}{o':HO}
theorem HOk.write (ok:HOk P w H h)(mu:Mut (H x))(he:e=x ∨ H e=some (.own x))(k:∀ b u,b≠e→h.get? b=some u→h'.get? b=some u)(heo:∃ u,h'.get? e=some u)
  (new:ObjOk P w (upd H x o') h' x o'):HOk P w (upd H x o') h':=λb u q=>by
 have nown:∀ c y,H c=some (.own y)→c≠x:=λc y r z=>by subst z;rw[r] at mu;exact mu
 have ntup:∀ c xs,H c=some (.tup xs)→c≠x:=λc xs r z=>by subst z;rw[r] at mu;exact mu
 by_cases hb:b=x
 ·subst hb;rw[a0e] at q;cases q;exact new
 ·rw[a0c hb] at q
  by_cases hbe:b=e
  ·have q':H b=some (.own x):=by
    rcases he with z|z
    ·exact absurd (hbe.trans z) hb
    ·rw[hbe];exact z
   rw[q] at q';cases q'
   obtain⟨v,hv⟩:=heo
   exact⟨v,by rw[hbe];exact hv⟩
  ·refine (ok b u q).stay (λc v hc r=>k c v ?_ r) (λc r=>by rw[a0c (nown c b r)];exact r) λc xs r=>by rw[a0c (ntup c xs r)];exact r
   rcases hc with rfl|hc
   ·exact hbe
   ·rintro rfl
    rcases he with z|z
    ·exact nown c b hc z
    ·rw[hc] at z;cases z;exact hb rfl
end
structure Un (fs ex:List Addr)(H H':Hp)(h h':Heap):Prop where
 keep:∀ b o,h.get? b=some o→H b=none→b ∉ fs→b ∉ ex→h'.get? b=some o
 slot:∀ b o,h.get? b=some o→H b=none→b∈fs→b ∉ ex→∃ sl,h'.get? b=some { o with slots:=sl }
 free:∀ b o,h.get? b=some o→H b=none→b ∉ ex→H' b=none
 there:∀ b o,h.get? b=some o→b ∉ ex→∃ o',h'.get? b=some o'
 tups:∀ b xs,H b=some (.tup xs)→H' b=some (.tup xs)
 frzs:∀ b o u,H b=some (.frz o u)→H' b=some (.frz o u)
 tbls:∀ b ps,H b=some (.tbl ps)→∃ more,H' b=some (.tbl (ps++more))
section
variable {fs fs' ex ex':List Addr}{H H1 H2:Hp}{h h1 h2 h':Heap}{a x e:Addr}{o:HO}
theorem Un.any (u:Un fs ex H H1 h h1){b:Addr}{ob:Obj}(q:h.get? b=some ob)(n:H b=none)(hx:b ∉ ex):∃ sl,h1.get? b=some { ob with slots:=sl }:=by
 by_cases hb:b∈fs
 ·exact u.slot b ob q n hb hx
 ·exact⟨ob.slots,u.keep b ob q n hb hx⟩
theorem Un.kept (k:∀ b u,h.get? b=some u→h'.get? b=some u):Un fs ex H H h h' :=
 ⟨λb ob q _ _ _=>k b ob q,λb ob q _ _ _=>⟨ob.slots,k b ob q⟩,λ_ _ _ n _=>n,λb ob q _=>⟨ob,k b ob q⟩,λ_ _ q=>q,λ_ _ _ q=>q,λ_ ps q=>⟨#[],by rw[q];simp⟩⟩
theorem Un.refl:Un fs ex H H h h:=Un.kept λ_ _ q=>q
theorem Un.laid (k:∀ b u,h.get? b=some u→h'.get? b=some u)(hp:h.objs.size≤a)(hn:H a=none):Un fs ex H (upd H a o) h h' where
 keep:=λb u q _ _ _=>k b u q
 slot:=λb u q _ _ _=>⟨u.slots,k b u q⟩
 free:=λb u q n _=>by rw[a0c (Γo (Nat.lt_of_lt_of_le (Γl q) hp))];exact n
 there:=λb u q _=>⟨u,k b u q⟩
 tups:=λb xs q=>by rw[a0c (a0v q hn)];exact q
 frzs:=λb u xs q=>by rw[a0c (a0v q hn)];exact q
 tbls:=λb ps q=>⟨#[],by rw[a0c (a0v q hn),q];simp⟩
theorem Un.write (mu:Mut (H x))(he:e=x ∨ H e=some (.own x))(k:∀ b u,b≠e→h.get? b=some u→h'.get? b=some u)(heo:∃ u,h'.get? e=some u):Un fs ex H (upd H x o) h h':=by
 have hx:∀ b,H b=none→b≠x:=λb n z=>by subst z;rw[n] at mu;exact mu
 have hb:∀ b,H b=none→b≠e:=λb n z=>by
  subst z
  rcases he with r|r
  ·exact hx b n r
  ·rw[n] at r;cases r
 have hm:∀ b u,H b=some u→¬ Mut (some u)→b≠x:=λb u q nm z=>by subst z;rw[q] at mu;exact nm mu
 refine⟨λb u q n _ _=>k b u (hb b n) q,λb u q n _ _=>⟨u.slots,k b u (hb b n) q⟩,λb u q n _=>by rw[a0c (hx b n)];exact n,λb u q _=>?_,
  λb xs q=>by rw[a0c (hm b _ q λz=>z)];exact q,λb u xs q=>by rw[a0c (hm b _ q λz=>z)];exact q,λb ps q=>⟨#[],by rw[a0c (hm b _ q λz=>z),q];simp⟩⟩
 by_cases hbe:b=e
 ·subst hbe;exact heo
 ·exact⟨u,k b u hbe q⟩
end
def trk (h:Heap)(H:Hp):List Addr:=(List.range h.objs.size).filter λa=>(H a).isSome
def c3j (h:Heap)(H:Hp):Heap:=PySem.W.hideAll h (trk h H)
theorem b9g (h:Heap)(H:Hp):(c3j h H).objs.size=h.objs.size:=PySem.W.hideAll_size _ _
theorem c3i {h:Heap}{H:Hp}{b:Addr}{o:Obj}(e:h.get? b=some o)(n:H b=none):(c3j h H).get? b=some o :=
 PySem.W.hideAll_get _ e λhm=>by
  have q:(H b).isSome=true:=(List.mem_filter.mp hm).2
  rw[n] at q;simp at q
theorem c7t {h:Heap}{H:Hp}{b:Addr}{o:Obj}(e:(c3j h H).get? b=some o):h.get? b=some o∧H b=none:=by
 have e':h.get? b=some o:=PySem.W.of_hideAll (trk h H) e
 refine⟨e',?_⟩
 cases q:H b with
 | none=>rfl
 | some x =>
  have hm:b∈trk h H:=List.mem_filter.mpr ⟨List.mem_range.mpr (Γl e'),by simp[q]⟩
  have z:(c3j h H).get? b=none:=PySem.W.hideAll_none (trk h H) hm
  rw[z] at e;cases e
end L2
namespace L2
open PySem PySem.Spec PyProof.Rows
structure Mod (K:Γd)(mg:Str→Option Value)(base:Heap):Prop where
 kin:K.In base
 glob:base.Ns mainGlobals mg
 blt:∃ mb,base.Ns builtinsNs mb∧∀ x:Str,x≠"__name__"→mb x=bootBuiltins x
 nolimit:base.NoLimit
structure Cx where
 prog:Program
 w:World
 K:Γd
 mg:Str→Option Value
 base:Heap
 A:Around
 N:List Str
 s₀:Shared
 H₀:Hp
 env:Env
 outer:List Env
 stack:List Env
 ex:List Addr
 fn:Str→Bool
 calm:Bool
 pn:List (Addr×Obj)
 xe:Value→Shared→Prop
def frs (l:List Env):List Addr:=l.filterMap (·.frame)
abbrev Cx.fs (X:Cx):List Addr:=frs X.outer
def Vis (sc:Scope)(x:Str):Prop:=sc.names.lookup x=some .local ∨ sc.names.lookup x=some .cell ∨ sc.names.lookup x=some .free
def Loc (sc:Scope)(x:Str):Prop:=sc.names.lookup x=some .local ∨ sc.names.lookup x=some .cell
def Look (env:Env)(h:Heap)(m:Str→Option Value)(x:Str)(u:Value):Prop :=
 (env.kindOf x=some .local∧m x=some u) ∨ ((env.kindOf x=some .cell ∨ env.kindOf x=some .free)∧∃ c,env.cells.lookup x=some c∧h.IsCell c (some u))
structure Cx.Ok (X:Cx):Prop where
 mod:Mod X.K X.mg X.base
 kind:X.env.scope.kind=.function
 glob:X.env.globals=mainGlobals
 blt:X.env.builtins=builtinsNs
 above:X.s₀.heap.objs.size≤X.env.locals
 inj:∀ x y c,X.env.cells.lookup x=some c→X.env.cells.lookup y=some c→x=y
 has:∀ x,(X.env.kindOf x=some .cell ∨ X.env.kindOf x=some .free)→∃ c,X.env.cells.lookup x=some c
 cab:∀ x c,X.fn x=true→X.env.cells.lookup x=some c→X.s₀.heap.objs.size≤c
 hd:X.calm=true→X.A.handled=none
 frames:X.A.frames=some X.stack
 stk:X.stack=X.outer ∨ (X.stack=X.env :: X.outer∧X.env.frame=some X.env.locals)
 exf:∀ b∈X.ex,b≠X.env.locals∧∀ x c,X.env.cells.lookup x=some c→c≠b
 bs:∀ b o,X.base.get? b=some o→X.s₀.heap.get? b=some o∧X.H₀ b=none
 bsz:X.base.objs.size≤X.s₀.heap.objs.size
 noex:∀ b o,X.base.get? b=some o→b ∉ X.ex
 exfs:∀ b∈X.ex,b ∉ X.fs
 funs:X.s₀.heap.FunFrames X.base X.outer
 frf:∀ b∈X.fs,X.H₀ b=none
structure Inv (X:Cx)(pins:List (Addr×Obj))(σ:List (Option V))(H:Hp)(s:Shared):Prop where
 ok:X.Ok
 os:s.os=X.s₀.os
 bare:AllBare s.gens
 base:Un X.fs X.ex X.H₀ H X.s₀.heap s.heap
 loc:∃ m,s.heap.Ns X.env.locals m∧∀ (i:Nat)(x:Str)(v:V),X.N[i]?=some x→σ[i]?=some (some v)→Vis X.env.scope x→∃ u,RelV v u∧Look X.env s.heap m x u
 cell:∀ x c,X.env.cells.lookup x=some c→∃ v,s.heap.IsCell c v
 free:H X.env.locals=none
 freeC:∀ x c,X.env.cells.lookup x=some c→H c=none
 pin:∀ p∈X.pn++pins,s.heap.get? p.1=some p.2∧H p.1=none∧p.1≠X.env.locals∧p.1 ∉ X.fs∧∀ v,p.2.data≠.cell v
 hok:HOk X.prog X.w H s.heap
 len:σ.length=X.N.length
section
variable {X:Cx}{pins:List (Addr×Obj)}{σ:List (Option V)}{H H':Hp}{s:Shared}{h':Heap}
theorem Cx.Ok.nofr (ok:X.Ok){b:Addr}{o:Obj}(e:X.base.get? b=some o):b ∉ X.fs:=λhb=>by
 have:=(ok.funs.mem hb).1
 rw[e] at this;cases this
theorem Inv.bs (I:Inv X pins σ H s):∀ b o,X.base.get? b=some o→s.heap.get? b=some o∧H b=none:=λb o e =>
 ⟨I.base.keep b o (I.ok.bs b o e).1 (I.ok.bs b o e).2 (I.ok.nofr e) (I.ok.noex b o e),I.base.free b o (I.ok.bs b o e).1 (I.ok.bs b o e).2 (I.ok.noex b o e)⟩
theorem Inv.bk (I:Inv X pins σ H s):∀ b o,X.base.get? b=some o→s.heap.get? b=some o:=λb o e=>(I.bs b o e).1
theorem Inv.mod (I:Inv X pins σ H s):Mod X.K X.mg X.base:=I.ok.mod
theorem Inv.kIn (I:Inv X pins σ H s):X.K.In s.heap:=I.ok.mod.kin.keeps I.bk
theorem Inv.lt (I:Inv X pins σ H s):X.env.locals<s.heap.objs.size:=let ⟨_,hn,_⟩:=I.loc;hn.lt
theorem Inv.sz (I:Inv X pins σ H s):X.s₀.heap.objs.size≤s.heap.objs.size:=Nat.le_trans I.ok.above (Nat.le_of_lt I.lt)
theorem Inv.nofs (I:Inv X pins σ H s){a:Addr}(h:s.heap.objs.size≤a):a ∉ X.fs:=λhb=>by
 obtain⟨_,o,ho,_⟩:=I.ok.funs.mem hb
 exact absurd (Nat.lt_of_lt_of_le (Γl ho) (Nat.le_trans I.sz h)) (Nat.lt_irrefl _)
theorem Inv.cne (I:Inv X pins σ H s):∀ x c,X.env.cells.lookup x=some c→c≠X.env.locals:=λx c e z=>by
 obtain⟨v,o,ho,hd⟩:=I.cell x c e
 obtain⟨m,⟨o',es,ep,ho',hd',_⟩,_⟩:=I.loc
 rw[z,ho'] at ho;cases ho;rw[hd'] at hd;cases hd
theorem Inv.funs (I:Inv X pins σ H s):s.heap.FunFrames X.base X.outer:=by
 have all:∀ (l:List Env),(∀ b∈frs l,b∈X.fs)→X.s₀.heap.FunFrames X.base l→s.heap.FunFrames X.base l:=by
  intro l
  induction l with
  | nil=>intro _ _;trivial
  | cons env r ih =>
   intro hs hl
   obtain⟨hk,⟨L,o,hf,hn,ho,hd⟩,hr⟩:=hl
   have hL:L∈X.fs:=hs L (by unfold frs;rw[List.filterMap_cons,hf];exact Γn)
   obtain⟨sl,e⟩:=I.base.slot L o ho (I.ok.frf L hL) hL λz=>I.ok.exfs L z hL
   exact⟨hk,⟨L,_,hf,hn,e,hd⟩,ih (λb hb=>hs b (by unfold frs;rw[List.filterMap_cons,hf];exact Γh _ hb)) hr⟩
 exact all X.outer (λ_ hb=>hb) I.ok.funs
theorem Inv.stack (I:Inv X pins σ H s):s.heap.FunFrames X.base X.stack:=by
 rcases I.ok.stk with e|⟨e,hf⟩
 ·rw[e];exact I.funs
 ·rw[e]
  obtain⟨m,hn,_⟩:=I.loc
  refine .cons (by rw[I.ok.kind];decide) hf hn ?_ I.funs
  exact Heap.get?_none_of_le (Nat.le_trans I.ok.bsz I.ok.above)
theorem Inv.stkSub (I:Inv X pins σ H s):∀ b∈frs X.stack,b∈X.env.locals :: X.fs:=λb hb=>by
 rcases I.ok.stk with e|⟨e,hf⟩
 ·rw[e] at hb;exact Γh _ hb
 ·rw[e] at hb
  unfold frs at hb
  rw[List.filterMap_cons,hf] at hb
  exact hb
theorem Inv.stkFree (I:Inv X pins σ H s):∀ b∈frs X.stack,H b=none:=λb hb=>by
 rcases List.mem_cons.mp (I.stkSub b hb) with e|hb
 ·rw[e];exact I.free
 ·obtain⟨_,o,ho,_⟩:=I.ok.funs.mem hb
  exact I.base.free b o ho (I.ok.frf b hb) λz=>I.ok.exfs b z hb
theorem Inv.step {g':Array GenState}{t':Nat}{d':Drawn}{ch:List Addr}(I:Inv X pins σ H s)
  (hch:∀ b∈ch,(b∈X.ex ∨ X.s₀.heap.objs.size≤b)∧b≠X.env.locals∧(∀ x c,X.env.cells.lookup x=some c→c≠b)∧∀ p∈X.pn++pins,p.1≠b)
  (keep:∀ b o,b≠X.env.locals→b ∉ X.fs→b ∉ ch→s.heap.get? b=some o→H b=none→h'.get? b=some o)
  (slot:∀ b o,b≠X.env.locals→b∈X.fs→b ∉ ch→s.heap.get? b=some o→H b=none→∃ sl,h'.get? b=some { o with slots:=sl })(free:∀ b o,b ∉ ch→s.heap.get? b=some o→H b=none→H' b=none)
  (there:∀ b o,b ∉ ch→s.heap.get? b=some o→∃ o',h'.get? b=some o')
  (tups:∀ b xs,H b=some (.tup xs)→H' b=some (.tup xs))(frzs:∀ b o u,H b=some (.frz o u)→H' b=some (.frz o u))(tbls:∀ b ps,H b=some (.tbl ps)→∃ more,H' b=some (.tbl (ps++more)))
  (ns:∀ m,s.heap.Ns X.env.locals m→h'.Ns X.env.locals m)(hok:HOk X.prog X.w H' h')(hg:AllBare g') :
  Inv X pins σ H' { s with heap:=h',gens:=g',drawn:=d',toks:=t' }:=by
 have neL:∀ b o,X.s₀.heap.get? b=some o→b≠X.env.locals:=λb o e=>Γo (Nat.lt_of_lt_of_le (Γl e) I.ok.above)
 have neC:∀ b o,X.s₀.heap.get? b=some o→b ∉ X.ex→b ∉ ch:=λb o e hx hb=>by
  rcases (hch b hb).1 with z|z
  ·exact hx z
  ·exact absurd (Nat.lt_of_lt_of_le (Γl e) z) (Nat.lt_irrefl _)
 have cellK:∀ x c,X.env.cells.lookup x=some c→∀ v,s.heap.IsCell c v→h'.IsCell c v:=λx c e v ⟨o,ho,hd⟩=>by
  have nch:c ∉ ch:=λz=>(hch c z).2.2.1 x c e rfl
  by_cases hc:c∈X.fs
  ·obtain⟨sl,q⟩:=slot c o (I.cne x c e) hc nch ho (I.freeC x c e)
   exact⟨_,q,hd⟩
  ·exact⟨o,keep c o (I.cne x c e) hc nch ho (I.freeC x c e),hd⟩
 refine⟨I.ok,I.os,hg,⟨λb o e n hb hx=>?_,λb o e n hb hx=>?_,λb o e n hx=>?_,λb o e hx=>?_,λb xs e=>tups b xs (I.base.tups b xs e),λb o xs e=>frzs b o xs (I.base.frzs b o xs e),λb ps e=>?_⟩,?_,λx c e=>?_,?_,λx c e=>?_,λp hp=>?_,hok,I.len⟩
 ·exact keep b o (neL b o e) hb (neC b o e hx) (I.base.keep b o e n hb hx) (I.base.free b o e n hx)
 ·obtain⟨sl,e1⟩:=I.base.slot b o e n hb hx
  obtain⟨sl',e2⟩:=slot b _ (neL b o e) hb (neC b o e hx) e1 (I.base.free b o e n hx)
  exact⟨sl',e2⟩
 ·obtain⟨o',e1⟩:=I.base.there b o e hx
  exact free b o' (neC b o e hx) e1 (I.base.free b o e n hx)
 ·obtain⟨o',e1⟩:=I.base.there b o e hx
  exact there b o' (neC b o e hx) e1
 ·obtain⟨m1,e1⟩:=I.base.tbls b ps e
  obtain⟨m2,e2⟩:=tbls b _ e1
  exact⟨m1++m2,by rw[e2,Array.append_assoc]⟩
 ·obtain⟨m,hn,hl⟩:=I.loc
  refine⟨m,ns m hn,λi x v e1 e2 e3=>?_⟩
  obtain⟨u,r,l⟩:=hl i x v e1 e2 e3
  refine⟨u,r,?_⟩
  rcases l with l|⟨k,c,e,z⟩
  ·exact .inl l
  ·exact .inr ⟨k,c,e,cellK x c e _ z⟩
 ·obtain⟨v,z⟩:=I.cell x c e
  exact⟨v,cellK x c e v z⟩
 ·obtain⟨m,⟨o,_,_,ho,_⟩,_⟩:=I.loc
  exact free _ o (λz=>(hch _ z).2.1 rfl) ho I.free
 ·obtain⟨v,o,ho,hd⟩:=I.cell x c e
  exact free c o (λz=>(hch c z).2.2.1 x c e rfl) ho (I.freeC x c e)
 ·obtain⟨e,n,ne,nf,d⟩:=I.pin p hp
  have nch:p.1 ∉ ch:=λz=>(hch p.1 z).2.2.2 p hp rfl
  exact⟨keep p.1 p.2 ne nf nch e n,free p.1 p.2 nch e n,ne,nf,d⟩
theorem Inv.un {t':Nat}(I:Inv X pins σ H s)(u:Un X.fs [] H H' s.heap h')(hok:HOk X.prog X.w H' h'):Inv X pins σ H' { s with heap:=h',toks:=t' }:=by
 obtain⟨m,⟨o,es,ep,ho,r⟩,_⟩:=id I.loc
 obtain⟨sl,hL⟩:=u.any ho I.free (by simp)
 exact I.step (g':=s.gens) (d':=s.drawn) (ch:=[]) (λ_ z=>nomatch z) (λb o _ hb _ e n=>u.keep b o e n hb (by simp)) (λb o _ hb _ e n=>u.slot b o e n hb (by simp)) (λb o _ e n=>u.free b o e n (by simp)) (λb o _ e=>u.there b o e (by simp)) u.tups u.frzs u.tbls (λm' hm=>by
  obtain⟨o',es',ep',ho',r'⟩:=hm
  rw[ho] at ho';cases ho'
  exact⟨_,es',ep',hL,r'⟩) hok I.bare
theorem Inv.call {g':Array GenState}{t':Nat}{d':Drawn}{ch:List Addr}(I:Inv X pins σ H s)(u:Un (frs X.stack) ch H H' s.heap h')(hok:HOk X.prog X.w H' h')(hg:AllBare g')
  (hch:∀ b∈ch,(b∈X.ex ∨ X.s₀.heap.objs.size≤b)∧b≠X.env.locals∧(∀ x c,X.env.cells.lookup x=some c→c≠b)∧∀ p∈X.pn++pins,p.1≠b) :
  Inv X pins σ H' { s with heap:=h',gens:=g',drawn:=d',toks:=t' }:=by
 obtain⟨m,⟨o,es,ep,ho,r⟩,_⟩:=id I.loc
 obtain⟨sl,hL⟩:=u.any ho I.free λz=>(hch _ z).2.1 rfl
 exact I.step (ch:=ch) hch (λb o hL hb hc e n=>u.keep b o e n (λz=>(List.mem_cons.mp (I.stkSub b z)).elim hL hb) hc) (λb o _ _ hc e n=>u.any e n hc) (λb o hc e n=>u.free b o e n hc) (λb o hc e=>u.there b o e hc) u.tups u.frzs u.tbls (λm' hm=>by
  obtain⟨o',es',ep',ho',r'⟩:=hm
  rw[ho] at ho';cases ho'
  exact⟨_,es',ep',hL,r'⟩) hok hg
theorem Inv.turned {t':Nat}{it:Addr}(I:Inv X pins σ H s)(k:∀ b o,b≠it→s.heap.get? b=some o→h'.get? b=some o)(hn:H it=none)(hL:it≠X.env.locals)
  (h1:it∈X.ex ∨ X.s₀.heap.objs.size≤it)(h2:∀ x c,X.env.cells.lookup x=some c→c≠it)(h3:∀ p∈X.pn++pins,p.1≠it):Inv X pins σ H { s with heap:=h',toks:=t' }:=by
 have nit:∀ b u,H b=some u→b≠it:=λb u e z=>by rw[z,hn] at e;cases e
 refine I.step (g':=s.gens) (d':=s.drawn) (ch:=[it]) (λb hb=>?_) (λb o _ _ hc e _=>k b o (λz=>hc (by simp[z])) e) (λb o _ _ hc e _=>⟨o.slots,k b o (λz=>hc (by simp[z])) e⟩) (λ_ _ _ _ n=>n)
  (λb o hc e=>⟨o,k b o (λz=>hc (by simp[z])) e⟩) (λ_ _ e=>e) (λ_ _ _ e=>e) (λb ps e=>⟨#[],by rw[e];simp⟩) (λm hm=>?_) (λb u e=>?_) I.bare
 ·have e:b=it:=by simpa using hb
  subst e
  exact⟨h1,hL,h2,h3⟩
 ·obtain⟨o,es,ep,ho,r⟩:=hm
  exact⟨o,es,ep,k _ o (Ne.symm hL) ho,r⟩
 ·refine (I.hok b u e).stay (λc v hc q=>k c v ?_ q) (λ_ q=>q) λ_ _ q=>q
  rcases hc with z|z
  ·rw[z];exact nit b u e
  ·exact nit c _ z
theorem Inv.tok (I:Inv X pins σ H s) (t:Nat):Inv X pins σ H { s with toks:=t }:=I.un (h':=s.heap) (t':=t) Un.refl I.hok
theorem Inv.kept {t':Nat}(I:Inv X pins σ H s)(k:∀ b u,s.heap.get? b=some u→h'.get? b=some u):Inv X pins σ H { s with heap:=h',toks:=t' }:=I.un (Un.kept k) (I.hok.kept k)
theorem Inv.laid {a:Addr}{o:HO}{t':Nat}(I:Inv X pins σ H s)(k:∀ b u,s.heap.get? b=some u→h'.get? b=some u)(hp:s.heap.objs.size≤a)(new:ObjOk X.prog X.w (upd H a o) h' a o) :
  Inv X pins σ (upd H a o) { s with heap:=h',toks:=t' }:=I.un (Un.laid k hp (I.hok.fresh hp)) (I.hok.laid k hp new)
theorem Inv.write {x e:Addr}{o:HO}{t':Nat}(I:Inv X pins σ H s)(mu:Mut (H x))(he:e=x ∨ H e=some (.own x))(k:∀ b u,b≠e→s.heap.get? b=some u→h'.get? b=some u)(heo:∃ u,h'.get? e=some u)
  (new:ObjOk X.prog X.w (upd H x o) h' x o):Inv X pins σ (upd H x o) { s with heap:=h',toks:=t' }:=I.un (Un.write mu he k heo) (I.hok.write mu he k heo new)
theorem Inv.weak {σ':List (Option V)}(I:Inv X pins σ H s)(hl:σ'.length=σ.length)(w:∀ (i:Nat) v,σ'[i]?=some (some v)→σ[i]?=some (some v)):Inv X pins σ' H s :=
 ⟨I.ok,I.os,I.bare,I.base,let ⟨m,hn,hl'⟩:=I.loc;⟨m,hn,λi x v e1 e2 e3=>hl' i x v e1 (w i v e2) e3⟩,I.cell,I.free,I.freeC,I.pin,I.hok,hl.trans I.len⟩
theorem Inv.pins_of {pins':List (Addr×Obj)}(I:Inv X pins σ H s)(h:∀ p∈pins',s.heap.get? p.1=some p.2∧H p.1=none∧p.1≠X.env.locals∧p.1 ∉ X.fs∧∀ v,p.2.data≠.cell v):Inv X pins' σ H s :=
 ⟨I.ok,I.os,I.bare,I.base,I.loc,I.cell,I.free,I.freeC,λp hp=>(List.mem_append.mp hp).elim (λz=>I.pin p (List.mem_append_left _ z)) (h p),I.hok,I.len⟩
theorem a9a {N:List Str}(hN:N.Nodup){i j:Nat}{x:Str}(a:N[i]?=some x)(b:N[j]?=some x):i=j:=by
 obtain⟨h1,e1⟩:=List.getElem?_eq_some_iff.mp a
 obtain⟨h2,e2⟩:=List.getElem?_eq_some_iff.mp b
 exact (List.getElem_inj hN).mp (e1.trans e2.symm)
theorem b0b {M:Model}{A:Around}{E:Value→Shared→Prop}{i:Nat}{x:Str}{v:V}{u:Value}{Q:Unit→Shared→Prop}(I:Inv X pins σ H s)(hN:X.N.Nodup)(hi:X.N[i]?=some x)(hx:Loc X.env.scope x)(r:RelV v u)
  (h:∀ s',Inv X pins (σ.set i (some v)) H s'→(∃ a,Heap.SameBut a s.heap s'.heap∧(a=X.env.locals ∨ X.env.cells.lookup x=some a))→Q () s')(hf:X.fn x=true ∨ X.env.scope.names.lookup x=some .local:=by first|exact .inl rfl|exact .inr rfl|assumption):wpAny M A (storeName X.env x u) Q E s:=by
 obtain⟨m,hn,hl⟩:=id I.loc
 have hcls:(X.env.scope.kind == .class || (X.env.scope.kind == .module && X.env.locals != X.env.globals))=false:=by rw[I.ok.kind];rfl
 have hiσ:i<σ.length:=by rw[I.len];exact (List.getElem?_eq_some_iff.mp hi).1
 have cne:=I.cne
 have tracked:∀ {a:Addr}{h':Heap},(∃ o,s.heap.get? a=some o∧H a=none)→Heap.SameBut a s.heap h'→HOk X.prog X.w H h':=λ{a h'} ha hs b ob e=>by
  obtain⟨_,_,hfree⟩:=ha
  refine (I.hok b ob e).stay (λc w' hc q=>(hs.2 c ?_).trans q) (λ_ q=>q) λ_ _ q=>q
  rintro rfl
  rcases hc with rfl|hc
  ·rw[hfree] at e;cases e
  ·rw[hfree] at hc;cases hc
 rcases hx with hk|hk
 ·refine wpAny_storeName_local hk hn (λh' hn' hs=>?_) hcls
  obtain⟨oL,_,_,hoL,_⟩:=id hn
  refine h _ ⟨I.ok,I.os,I.bare,⟨λb o e n hb hx=>?_,λb o e n hb hx=>?_,I.base.free,λb o e hx=>?_,I.base.tups,I.base.frzs,I.base.tbls⟩,⟨_,hn',λj y v' e1 e2 e3=>?_⟩,λy c e=>?_,I.free,I.freeC,λp hp=>?_,tracked ⟨oL,hoL,I.free⟩ hs,by simpa using I.len⟩ ⟨_,hs,.inl rfl⟩
  ·exact (hs.2 b (Γo (Nat.lt_of_lt_of_le (Γl e) I.ok.above))).trans (I.base.keep b o e n hb hx)
  ·obtain⟨sl,e1⟩:=I.base.slot b o e n hb hx
   exact⟨sl,(hs.2 b (Γo (Nat.lt_of_lt_of_le (Γl e) I.ok.above))).trans e1⟩
  ·obtain⟨o',e1⟩:=I.base.there b o e hx
   exact⟨o',(hs.2 b (Γo (Nat.lt_of_lt_of_le (Γl e) I.ok.above))).trans e1⟩
  ·by_cases hj:j=i
   ·subst hj
    rw[hi] at e1;cases e1
    rw[List.getElem?_set_self hiσ] at e2
    cases e2
    exact⟨u,r,.inl ⟨hk,by simp⟩⟩
   ·rw[List.getElem?_set_ne (Ne.symm hj)] at e2
    obtain⟨u',r',q⟩:=hl j y v' e1 e2 e3
    refine⟨u',r',?_⟩
    rcases q with⟨k,e⟩|⟨k,c,e,z⟩
    ·refine .inl ⟨k,?_⟩
     have:y≠x:=λe=>hj (a9a hN e1 (e ▸ hi))
     simp[this,e]
    ·exact .inr ⟨k,c,e,z.sameBut hs (cne y c e)⟩
  ·obtain⟨w',z⟩:=I.cell y c e
   exact⟨w',z.sameBut hs (cne y c e)⟩
  ·obtain⟨e,n,ne,nf,d⟩:=I.pin p hp
   exact⟨(hs.2 p.1 ne).trans e,n,ne,nf,d⟩
 ·have hfn:X.fn x=true:=by
   rcases hf with z|z
   ·exact z
   ·rw[z] at hk;cases hk
  obtain⟨c,hc⟩:=I.ok.has x (.inl hk)
  obtain⟨w',z⟩:=I.cell x c hc
  refine wpAny_storeName_cell I.ok.kind hk hc z (λh' hc' hs=>?_)
  obtain⟨oc,hoc,hocd⟩:=id z
  refine h { s with heap:=h' } ⟨I.ok,I.os,I.bare,⟨λb o e n hb hx=>?_,λb o e n hb hx=>?_,I.base.free,λb o e hx=>?_,I.base.tups,I.base.frzs,I.base.tbls⟩,⟨m,hn.sameBut hs (Ne.symm (cne x c hc)),λj y v' e1 e2 e3=>?_⟩,λy c' e=>?_,I.free,I.freeC,λp hp=>?_,tracked ⟨oc,hoc,I.freeC x c hc⟩ hs,by simpa using I.len⟩ ⟨c,hs,.inr hc⟩
  ·exact (hs.2 b (Γo (Nat.lt_of_lt_of_le (Γl e) (I.ok.cab x c hfn hc)))).trans (I.base.keep b o e n hb hx)
  ·obtain⟨sl,e1⟩:=I.base.slot b o e n hb hx
   exact⟨sl,(hs.2 b (Γo (Nat.lt_of_lt_of_le (Γl e) (I.ok.cab x c hfn hc)))).trans e1⟩
  ·obtain⟨o',e1⟩:=I.base.there b o e hx
   exact⟨o',(hs.2 b (Γo (Nat.lt_of_lt_of_le (Γl e) (I.ok.cab x c hfn hc)))).trans e1⟩
  ·by_cases hj:j=i
   ·subst hj
    rw[hi] at e1;cases e1
    rw[List.getElem?_set_self hiσ] at e2
    cases e2
    exact⟨u,r,.inr ⟨.inl hk,c,hc,hc'⟩⟩
   ·rw[List.getElem?_set_ne (Ne.symm hj)] at e2
    obtain⟨u',r',q⟩:=hl j y v' e1 e2 e3
    refine⟨u',r',?_⟩
    rcases q with q|⟨k,c',e,z'⟩
    ·exact .inl q
    ·refine .inr ⟨k,c',e,z'.sameBut hs ?_⟩
     rintro rfl
     exact hj (a9a hN e1 (I.ok.inj _ _ _ e hc ▸ hi))
  ·by_cases hcc:c'=c
   ·subst hcc;exact⟨_,hc'⟩
   ·obtain⟨w2,z2⟩:=I.cell y c' e
    exact⟨w2,z2.sameBut hs hcc⟩
  ·obtain⟨e,n,ne,nf,d⟩:=I.pin p hp
   refine⟨(hs.2 p.1 ?_).trans e,n,ne,nf,d⟩
   intro q
   rw[q,hoc] at e
   have q':oc=p.2:=Option.some.inj e
   exact d w' (by rw[← q'];exact hocd)
theorem a4i {M:Model}{A:Around}{E:Value→Shared→Prop}{i:Nat}{x:Str}{v:V}{u:Value}{Q:Unit→Shared→Prop}(I:Inv X pins σ H s)(hN:X.N.Nodup)(hi:X.N[i]?=some x)(hx:Loc X.env.scope x)(r:RelV v u)
  (h:∀ s',Inv X pins (σ.set i (some v)) H s'→Q () s')(hf:X.fn x=true ∨ X.env.scope.names.lookup x=some .local:=by first|exact .inl rfl|exact .inr rfl|assumption):wpAny M A (storeName X.env x u) Q E s :=
 b0b I hN hi hx r (λs' I' _=>h s' I') hf
theorem Inv.call' {s':Shared}{ch:List Addr}(I:Inv X pins σ H s)(ho:s'.os=s.os)(u:Un (frs X.stack) ch H H' s.heap s'.heap)(hok:HOk X.prog X.w H' s'.heap)(hg:AllBare s'.gens)
  (hch:∀ b∈ch,(b∈X.ex ∨ X.s₀.heap.objs.size≤b)∧b≠X.env.locals∧(∀ x c,X.env.cells.lookup x=some c→c≠b)∧∀ p∈X.pn++pins,p.1≠b):Inv X pins σ H' s':=by
 obtain⟨h',g',d',t',o'⟩:=s'
 have e:o'=s.os:=ho
 subst e
 exact I.call (g':=g') (t':=t') (d':=d') u hok hg hch
end
abbrev XK:=Value→Option Addr→Hp→Prop
abbrev St:=List (Option V)
abbrev VK:=V→Hp→Prop
abbrev TE:=St→Hp→VK→Prop
abbrev TT:=St→Hp→(Bool→Hp→Prop)→Prop
abbrev TA:=St→Hp→(List V→Hp→Prop)→Prop
structure Ends where
 nx:St→Hp→Prop
 rt:VK
 bk:St→Hp→Prop:=λ_ _=>False
 ct:St→Hp→Prop:=λ_ _=>False
abbrev TS:=Ends→St→Hp→Prop
def EP (X:Cx)(pins:List (Addr×Obj))(σ:St)(Q:VK)(u:Value)(s':Shared):Prop:=∃ v H',Inv X pins σ H' s'∧RelV v u∧Q v H'
def TP (X:Cx)(pins:List (Addr×Obj))(σ:St)(Q:Bool→Hp→Prop)(b:Bool)(s':Shared):Prop:=∃ H',Inv X pins σ H' s'∧Q b H'
def AP (X:Cx)(pins:List (Addr×Obj))(σ:St)(Q:List V→Hp→Prop)(us:List Value)(s':Shared):Prop:=∃ vs H',Inv X pins σ H' s'∧Vals vs us∧Q vs H'
def SP (X:Cx)(pins:List (Addr×Obj))(D:Ends)(f:Flow)(s':Shared):Prop :=
 match f with
 | .next=>∃ σ' H',Inv X pins σ' H' s'∧D.nx σ' H'
 | .brk=>∃ σ' H',Inv X pins σ' H' s'∧D.bk σ' H'
 | .cont=>∃ σ' H',Inv X pins σ' H' s'∧D.ct σ' H'
 | .ret u=>∃ v σ' H',Inv X pins σ' H' s'∧RelV v u∧D.rt v H'
def PE (X:Cx)(e:Expr)(t:TE):Prop :=
 ∀ (pins:List (Addr×Obj))(s:Shared)(σ:St)(H:Hp)(Q:VK),Inv X pins σ H s→t σ H Q→wpAny (model X.prog X.w) X.A (eval e X.env) (EP X pins σ Q) X.xe s
def PT (X:Cx)(e:Expr)(t:TT):Prop :=
 ∀ (pins:List (Addr×Obj))(s:Shared)(σ:St)(H:Hp)(Q:Bool→Hp→Prop),Inv X pins σ H s→t σ H Q→wpAny (model X.prog X.w) X.A (isTrue e X.env (eval e X.env)) (TP X pins σ Q) X.xe s
def PW (X:Cx)(e:Expr)(t:TT):Prop :=
 ∀ (a3d:Sem Value)(pins:List (Addr×Obj))(s:Shared)(σ:St)(H:Hp)(Q:Bool→Hp→Prop),Inv X pins σ H s→t σ H Q→wpAny (model X.prog X.w) X.A (isTrue e X.env a3d) (TP X pins σ Q) X.xe s
theorem PW.pt {X:Cx}{e:Expr}{t:TT}(h:PW X e t):PT X e t:=h _
def PA (X:Cx)(es:List Expr)(t:TA):Prop :=
 ∀ (pos:Pos)(pins:List (Addr×Obj))(s:Shared)(σ:St)(H:Hp)(Q:List V→Hp→Prop),Inv X pins σ H s→t σ H Q→wpAny (model X.prog X.w) X.A (spliced (backTo pos (starEach es X.env))) (AP X pins σ Q) X.xe s
def PS (X:Cx)(st:Stmt)(t:TS):Prop :=
 ∀ (pins:List (Addr×Obj))(s:Shared)(σ:St)(H:Hp)(D:Ends),Inv X pins σ H s→t D σ H→wpAny (model X.prog X.w) X.A (exec st X.env) (SP X pins D) X.xe s
def PSs (X:Cx)(st:List Stmt)(t:TS):Prop :=
 ∀ (pins:List (Addr×Obj))(s:Shared)(σ:St)(H:Hp)(D:Ends),Inv X pins σ H s→t D σ H→wpAny (model X.prog X.w) X.A (execs st X.env) (SP X pins D) X.xe s
theorem thn {α:Type}{t:Sem α}{Q Q':α→Shared→Prop}{M:Model}{A:Around}{E:Value→Shared→Prop}{s:Shared}(h:wpAny M A t Q E s)(hQ:∀ a s,Q a s→Q' a s):wpAny M A t Q' E s:=wpAny_mono h hQ λ_ _ x=>x
end L2
namespace L2
open PySem PySem.Spec PyProof.Rows
section
variable {X:Cx}
def b6a (i:Nat):TE:=λσ H Q=>∃ v,σ[i]?=some (some v)∧Q v H
def tC (v:V):TE:=λ_ H Q=>Q v H
theorem a7r {i:Nat}{x:Str}{pos:Pos}(hN:X.N[i]?=some x)(hv:Vis X.env.scope x)(hd:(x == ("__debug__":Str))=false:=by decide)(hcd:(x == ("__classdict__":Str))=false:=by decide):PE X (.Name x pos) (b6a i):=by
 intro pins s σ H Q I h
 obtain⟨v,e,h⟩:=h
 obtain⟨m,hn,hl⟩:=I.loc
 obtain⟨u,r,l⟩:=hl i x v hN e hv
 have fin:EP X pins σ Q u s:=⟨v,H,I,r,h⟩
 rcases l with⟨hk,hm⟩|⟨hk,c,hc,hcell⟩
 ·exact wpAny_Name (wpAny_loadName_local I.ok.kind hk hn hm fin) hd
 ·rcases hk with hk|hk
  ·exact wpAny_Name (wpAny_loadName_cell I.ok.kind hk hc hcell fin) hd
  ·exact wpAny_Name (wpAny_loadName_free I.ok.kind hk hc hcell fin hcd) hd
theorem d1p {i j pos}:PE X (.Constant (.int i) j pos) (tC (.int i)):=λ_ _ _ H _ I h=>wpAny_Constant_int ⟨.int i,H,I.tok _,⟨_,rfl⟩,h⟩
theorem d8o {b j pos}:PE X (.Constant (.bool b) j pos) (tC (.bl b)):=λ_ _ _ H _ I h=>Constant_bool ⟨.bl b,H,I,rfl,h⟩
theorem d1n {j pos}:PE X (.Constant .none j pos) (tC .non):=λ_ _ _ H _ I h=>Constant_none ⟨.non,H,I,rfl,h⟩
theorem c4y {x j pos}:PE X (.Constant (.str x) j pos) (tC (.str x)):=λ_ _ _ H _ I h=>Calls.Constant_str ⟨.str x,H,I.tok _,⟨_,rfl⟩,h⟩
def Gl (X:Cx)(x:Str):Prop:=X.env.kindOf x=some .globalImplicit
theorem a4w {E:Value→Shared→Prop}{pins:List (Addr×Obj)}{s:Shared}{σ:St}{H:Hp}{x:Str}{u:Value}{pos:Pos}{Q:Value→Shared→Prop}(I:Inv X pins σ H s)(hg:Gl X x)(hm:X.mg x=some u)(h:Q u s)
  (hd:(x == ("__debug__":Str))=false:=by decide):wpAny (model X.prog X.w) X.A (eval (.Name x pos) X.env) Q E s :=
 Calls.Name_function_global I.ok.kind hg (Calls.loadGlobal_global (by rw[I.ok.glob];exact I.mod.glob.keeps I.bk) hm h) hd
theorem a3j {E:Value→Shared→Prop}{pins:List (Addr×Obj)}{s:Shared}{σ:St}{H:Hp}{x:Str}{u:Value}{pos:Pos}{Q:Value→Shared→Prop}(I:Inv X pins σ H s)(hg:Gl X x)(hm:X.mg x=none)(hv:bootBuiltins x=some u)(h:Q u s)
  (hn:x≠"__name__":=by decide)(hd:(x == ("__debug__":Str))=false:=by decide):wpAny (model X.prog X.w) X.A (eval (.Name x pos) X.env) Q E s:=by
 obtain⟨mb,h1,h2⟩:=I.mod.blt
 exact Calls.Name_function_global I.ok.kind hg (Calls.loadGlobal_builtin (by rw[I.ok.glob];exact I.mod.glob.keeps I.bk) hm (by rw[I.ok.blt];exact h1.keeps I.bk) ((h2 x hn).trans hv) h) hd
theorem b2f {x:Str}{v:V}{u:Value}{pos:Pos}(hg:Gl X x)(hm:X.mg x=some u)(r:RelV v u)(hd:(x == ("__debug__":Str))=false:=by decide):PE X (.Name x pos) (tC v) :=
 λ_ _ _ H _ I h=>a4w I hg hm ⟨v,H,I,r,h⟩ hd
theorem b2g {x:Str}{v:V}{u:Value}{pos:Pos}(hg:Gl X x)(hm:X.mg x=none)(hv:bootBuiltins x=some u)(r:RelV v u)(hn:x≠"__name__":=by decide)(hd:(x == ("__debug__":Str))=false:=by decide):PE X (.Name x pos) (tC v) :=
 λ_ _ _ H _ I h=>a3j I hg hm hv ⟨v,H,I,r,h⟩ hn hd
variable {a b:Expr}{ta tb:TE}{pos:Pos}
def PC (X:Cx)(op:CmpOp)(a b:Expr)(t:TE):Prop :=
 ∀ (pins:List (Addr×Obj))(s:Shared)(σ:St)(H:Hp)(Q:VK),Inv X pins σ H s→t σ H Q →
  wpAny (model X.prog X.w) X.A (eval a X.env) (λv s₁=>wpAny (model X.prog X.w) X.A (eval b X.env) (λu s₂=>wpAny (model X.prog X.w) X.A (compareOp op v u) (EP X pins σ Q) X.xe s₂) X.xe s₁) X.xe s
theorem a1w (b:Expr){op:CmpOp}(h:op≠.In)(h2:op≠.NotIn):behindInMarks op b=false:=by
 have e1:(op == CmpOp.In)=false:=by cases op<;>first|rfl|exact absurd rfl h
 have e2:(op == CmpOp.NotIn)=false:=by cases op<;>first|rfl|exact absurd rfl h2
 cases b<;>simp[behindInMarks,e1,e2]
def tIsN (ta:TE):TE:=λσ H Q=>ta σ H λx H1=>Q (.bl (decide (x=.non))) H1
def d6v (ta:TE):TE:=λσ H Q=>ta σ H λx H1=>Q (.bl (!decide (x=.non))) H1
theorem RelV.none_iff {x:V}{v:Value}(r:RelV x v):(v == Value.none)=decide (x=.non):=by
 cases x with
 | non=>cases r;rfl
 | bl _=>cases r;rfl
 | int _=>obtain⟨t,rfl⟩:=r;rfl
 | str _=>obtain⟨t,rfl⟩:=r;rfl
 | byt _=>obtain⟨t,rfl⟩:=r;rfl
 | flt _=>obtain⟨t,rfl⟩:=r;rfl
 | ref _=>cases r;rfl
 | ty _=>cases r;rfl
theorem d1r {j pos'}(ha:PE X a ta):PC X .Is a (.Constant .none j pos') (tIsN ta):=by
 intro pins s σ H Q I h
 refine thn (ha pins s σ H _ I h) λv s1 ⟨x,H1,I1,r1,q1⟩=>?_
 exact Constant_none (is_none_gen ⟨.bl _,H1,I1,by rw[r1.none_iff];rfl,q1⟩)
theorem c7l {j pos'}(ha:PE X a ta):PC X .IsNot a (.Constant .none j pos') (d6v ta):=by
 intro pins s σ H Q I h
 refine thn (ha pins s σ H _ I h) λv s1 ⟨x,H1,I1,r1,q1⟩=>?_
 exact Constant_none (isnot_none_gen ⟨.bl _,H1,I1,by rw[r1.none_iff];rfl,q1⟩)
def tB (t:TE):TT:=λσ H Q=>t σ H λx H1=>∃ c,x=.bl c∧Q c H1
theorem b7q {op:CmpOp}{t:TE}(h:PC X op a b t)(h1:behindInMarks op b=false:=by first|exact a1w _ (by decide) (by decide)|rfl):PT X (.Compare a [op] [b] pos) (tB t):=by
 intro pins s σ H Q I hw
 refine wpAny_isTrue_Compare1 (thn (h pins s σ H _ I hw) λv s1 h1=>thn h1 λu s2 h2=>thn h2 λc s3 ⟨x,H1,I1,r1,q1⟩=>?_) h1
 obtain⟨d,rfl,q⟩:=q1
 cases r1
 exact wpAny_truthy_bool ⟨H1,I1,q⟩
theorem b7p {e:Expr}{t:TE}(h:PE X e t)(he:∀ a3d,isTrue e X.env a3d=(do let v ← a3d;standAt e.pos;holding [v] (truthy v)):=by intro _;rfl):PT X e (tB t):=by
 intro pins s σ H Q I hw
 refine isTrue_plain (thn (h pins s σ H _ I hw) λv s1 ⟨x,H1,I1,r1,q1⟩=>?_) (he _)
 obtain⟨d,rfl,q⟩:=q1
 cases r1
 exact wpAny_truthy_bool ⟨H1,I1,q⟩
variable {tA tB':TT}{rest:List Expr}
def tAnd (t u:TT):TT:=λσ H Q=>t σ H λc H1=>if c=true then u σ H1 Q else Q false H1
def tOr (t u:TT):TT:=λσ H Q=>t σ H λc H1=>if c=true then Q true H1 else u σ H1 Q
def tNot (t:TT):TT:=λσ H Q=>t σ H λc H1=>Q (!c) H1
theorem c6s (ha:PT X a tA):PW X (.BoolOp .And [a] pos) tA:=by
 intro wh pins s σ H Q I h
 refine isTrue_and (thn (ha pins s σ H Q I h) λc s1 e=>?_)
 cases c with
 | true=>exact isTrue_and_nil e
 | false=>exact e
theorem c4u (ha:PT X a tA):PW X (.BoolOp .Or [a] pos) tA:=by
 intro wh pins s σ H Q I h
 refine isTrue_or (thn (ha pins s σ H Q I h) λc s1 e=>?_)
 cases c with
 | false=>exact isTrue_or_nil e
 | true=>exact e
theorem d1d (ha:PT X a tA)(hb:PW X (.BoolOp .And (b :: rest) pos) tB'):PW X (.BoolOp .And (a :: b :: rest) pos) (tAnd tA tB'):=by
 intro wh pins s σ H Q I h
 refine isTrue_and (thn (ha pins s σ H _ I h) λc s1 ⟨H1,I1,q1⟩=>?_)
 cases c with
 | true=>exact hb wh pins s1 σ H1 Q I1 q1
 | false=>exact⟨H1,I1,q1⟩
theorem c6r (ha:PT X a tA)(hb:PW X (.BoolOp .Or (b :: rest) pos) tB'):PW X (.BoolOp .Or (a :: b :: rest) pos) (tOr tA tB'):=by
 intro wh pins s σ H Q I h
 refine isTrue_or (thn (ha pins s σ H _ I h) λc s1 ⟨H1,I1,q1⟩=>?_)
 cases c with
 | true=>exact⟨H1,I1,q1⟩
 | false=>exact hb wh pins s1 σ H1 Q I1 q1
theorem b3k (ha:PT X a tA):PT X (.UnaryOp .Not a pos) (tNot tA):=by
 intro pins s σ H Q I h
 exact isTrue_not (ha pins s σ H (λc H1=>Q (!c) H1) I h)
def d6u (ta:TE):TE:=λσ H Q=>ta σ H λx H1=>∃ c,x=.bl c∧Q (.bl (!c)) H1
theorem d1l {op}{t:TE}(h:PE X a t):PE X (.BoolOp op [a] pos) t:=λpins s σ H Q I hw=>BoolOp_one (h pins s σ H Q I hw)
theorem d1m (ha:PE X a ta):PE X (.UnaryOp .Not a pos) (d6u ta):=by
 intro pins s σ H Q I h
 refine UnaryOp_ (thn (ha pins s σ H _ I h) λv s1 ⟨x,H1,I1,r1,q1⟩=>?_)
 obtain⟨c,rfl,q1⟩:=q1
 cases r1
 exact not_of (wpAny_truthy_bool ⟨.bl (!c),H1,I1,rfl,q1⟩)
def tIf (t:TT)(ta tb:TE):TE:=λσ H Q=>t σ H λc H1=>if c=true then ta σ H1 Q else tb σ H1 Q
theorem c2m {c:Expr}(hc:PT X c tA)(ha:PE X a ta)(hb:PE X b tb):PE X (.IfExp c a b pos) (tIf tA ta tb):=by
 intro pins s σ H Q I h
 refine wpAny_IfExp (thn (hc pins s σ H _ I h) λd s1 ⟨H1,I1,q1⟩=>?_)
 cases d with
 | true=>exact ha pins s1 σ H1 Q I1 q1
 | false=>exact hb pins s1 σ H1 Q I1 q1
end
end L2
namespace L2
open PySem PySem.Spec PyProof.Rows
def SqL (K:Γd)(H:Hp)(a:Addr)(xs:List V):Prop :=
 Rd H a (.lst xs) ∨
  ∃ (o:Obj)(its:Array Value) (n:Nat),K.lookup a=some o∧o.cls=.type "list"∧o.dict=none∧o.data=.seq its n∧its.size≤sizeLine∧Vals xs its.toList
def SqT (K:Γd)(H:Hp)(a:Addr)(xs:List V):Prop :=
 Rd H a (.tup xs) ∨
  ∃ (o:Obj)(its:Array Value) (n:Nat),K.lookup a=some o∧o.cls=.type "tuple"∧o.data=.seq its n∧its.size≤sizeLine∧Vals xs its.toList
def absV:Value→Option V
 | .none=>some .non
 | .bool b=>some (.bl b)
 | .int i _=>some (.int i)
 | .str x _=>some (.str x)
 | .bytes b _=>some (.byt b)
 | .float b _=>some (.flt b)
 | .ref a=>some (.ref a)
 | .type n=>some (.ty n)
 | _=>none
theorem RelV.abs {x:V}{u:Value}(r:RelV x u):absV u=some x:=by
 cases x with
 | non=>cases r;rfl
 | bl _=>cases r;rfl
 | int _=>obtain⟨t,rfl⟩:=r;rfl
 | str _=>obtain⟨t,rfl⟩:=r;rfl
 | byt _=>obtain⟨t,rfl⟩:=r;rfl
 | flt _=>obtain⟨t,rfl⟩:=r;rfl
 | ref _=>cases r;rfl
 | ty _=>cases r;rfl
theorem RelV.inj {x y:V}{u:Value}(r:RelV x u)(q:RelV y u):x=y:=Option.some.inj (r.abs.symm.trans q.abs)
theorem Vals.inj:∀ {xs ys:List V}{us:List Value},Vals xs us→Vals ys us→xs=ys
 | _,_,_,.nil,.nil=>rfl
 | _,_,_,.cons r t,.cons r' t'=>by rw[r.inj r',Vals.inj t t']
section
variable {X:Cx}{pins:List (Addr×Obj)}{σ:St}{H:Hp}{s:Shared}{a:Addr}{xs ys:List V}
theorem SqL.of {K:Γd}(h:H a=some (.lst xs)):SqL K H a xs:=.inl (.inl h)
theorem SqT.of {K:Γd}(h:H a=some (.tup xs)):SqT K H a xs:=.inl (.inl h)
theorem Inv.list (I:Inv X pins σ H s)(h:SqL X.K H a xs):∃ its:List Value,Vals xs its∧PlainL s.heap a its.toArray∧xs.length≤sizeLine:=by
 rcases h with h|⟨o,its,n,hk,hc,hd,hs,hz,r⟩
 ·obtain⟨z,its,n,r,e⟩:=h.ok I.hok
  exact⟨its,r,⟨_,n,e,rfl,rfl,rfl⟩,z⟩
 ·refine⟨its.toList,r,⟨o,n,I.kIn a o hk,hc,hd,by simpa using hs⟩,?_⟩
  have e:=r.length
  simp only[Array.length_toList] at e
  lia
theorem Inv.tuple (I:Inv X pins σ H s)(h:SqT X.K H a xs):∃ its:List Value,Vals xs its∧IsTup s.heap a its.toArray∧xs.length≤sizeLine:=by
 rcases h with h|⟨o,its,n,hk,hc,hs,hz,r⟩
 ·obtain⟨z,its,r,p⟩:=h.ok I.hok
  exact⟨its,r,p,z⟩
 ·refine⟨its.toList,r,⟨o,I.kIn a o hk,hc,n,by simpa using hs⟩,?_⟩
  have e:=r.length
  simp only[Array.length_toList] at e
  lia
theorem Inv.list_inj (I:Inv X pins σ H s)(h:SqL X.K H a xs)(h':SqL X.K H a ys):xs=ys:=by
 obtain⟨its,r,⟨o,n,e,_,_,d⟩,_⟩:=I.list h
 obtain⟨its',r',⟨o',n',e',_,_,d'⟩,_⟩:=I.list h'
 rw[e] at e';cases e'
 rw[d] at d'
 injection d' with d1 _
 have:its=its':=by simpa using congrArg Array.toList d1
 subst this
 exact r.inj r'
theorem Inv.tuple_inj (I:Inv X pins σ H s)(h:SqT X.K H a xs)(h':SqT X.K H a ys):xs=ys:=by
 obtain⟨its,r,⟨o,e,_,n,d⟩,_⟩:=I.tuple h
 obtain⟨its',r',⟨o',e',_,n',d'⟩,_⟩:=I.tuple h'
 rw[e] at e';cases e'
 rw[d] at d'
 injection d' with d1 _
 have:its=its':=by simpa using congrArg Array.toList d1
 subst this
 exact r.inj r'
end
abbrev Cx.wish (X:Cx)(E:Value→Shared→Prop):Cx:={ X with xe:=E }
abbrev Cx.nox (X:Cx):Cx:=X.wish λ_ _=>False
theorem Cx.Ok.wish {X:Cx}(ok:X.Ok)(E:Value→Shared→Prop):(X.wish E).Ok :=
 ⟨ok.mod,ok.kind,ok.glob,ok.blt,ok.above,ok.inj,ok.has,ok.cab,ok.hd,ok.frames,ok.stk,ok.exf,ok.bs,ok.bsz,ok.noex,ok.exfs,ok.funs,ok.frf⟩
theorem Cx.Ok.unwish {X:Cx}{E:Value→Shared→Prop}(ok:(X.wish E).Ok):X.Ok :=
 ⟨ok.mod,ok.kind,ok.glob,ok.blt,ok.above,ok.inj,ok.has,ok.cab,ok.hd,ok.frames,ok.stk,ok.exf,ok.bs,ok.bsz,ok.noex,ok.exfs,ok.funs,ok.frf⟩
section
variable {X:Cx}{pins:List (Addr×Obj)}{σ:St}{H:Hp}{s:Shared}{E:Value→Shared→Prop}
theorem Inv.wish (I:Inv X pins σ H s)(E:Value→Shared→Prop):Inv (X.wish E) pins σ H s:=⟨I.ok.wish E,I.os,I.bare,I.base,I.loc,I.cell,I.free,I.freeC,I.pin,I.hok,I.len⟩
theorem Inv.unwish (I:Inv (X.wish E) pins σ H s):Inv X pins σ H s:=⟨I.ok.unwish,I.os,I.bare,I.base,I.loc,I.cell,I.free,I.freeC,I.pin,I.hok,I.len⟩
theorem SP.unwish {D:Ends}{f:Flow}{s':Shared}(h:SP (X.wish E) pins D f s'):SP X pins D f s':=by
 cases f with
 | next=>obtain⟨σ',H',I,q⟩:=h;exact⟨σ',H',I.unwish,q⟩
 | brk=>obtain⟨σ',H',I,q⟩:=h;exact⟨σ',H',I.unwish,q⟩
 | cont=>obtain⟨σ',H',I,q⟩:=h;exact⟨σ',H',I.unwish,q⟩
 | ret u=>obtain⟨v,σ',H',I,r,q⟩:=h;exact⟨v,σ',H',I.unwish,r,q⟩
theorem PSs.nox {st:List Stmt}{t:TS}(h:PSs X.nox st t):PSs X st t:=λpins s σ H D I hw =>
 wpAny_mono (h pins s σ H D (I.wish _) hw) (λ_ _ q=>q.unwish) λ_ _ z=>False.elim z
end
section
variable {X:Cx}{st:Stmt}{rest:List Stmt}{t u:TS}{e:Expr}{te:TE}{pos:Pos}
def d6x:TS:=λD σ H=>D.nx σ H
def tSeq (t u:TS):TS:=λD σ H=>t { D with nx:=u D } σ H
theorem b7r:PSs X [] d6x:=λ_ _ σ H _ I h=>wpAny_execs_nil ⟨σ,H,I,h⟩
theorem b3l (h1:PS X st t)(h2:PSs X rest u):PSs X (st :: rest) (tSeq t u):=by
 intro pins s σ H D I h
 refine wpAny_execs_cons (thn (h1 pins s σ H { D with nx:=u D } I h) λf s1 q=>?_)
 cases f with
 | next =>
  obtain⟨σ',H',I',q⟩:=q
  exact h2 pins s1 σ' H' D I' q
 | ret v=>exact q
 | brk=>exact q
 | cont=>exact q
theorem b2c (h1:PS X st t):PSs X [st] t:=by
 intro pins s σ H D I h
 refine wpAny_execs_cons (thn (h1 pins s σ H D I h) λf s1 q=>?_)
 cases f with
 | next=>exact wpAny_execs_nil q
 | ret v=>exact q
 | brk=>exact q
 | cont=>exact q
theorem Inv.quiet {pins:List (Addr×Obj)}{σ:St}{H:Hp}{s:Shared}(I:Inv X pins σ H s):interactive X.env=false:=by simp[interactive,I.ok.kind]
def d6y (te:TE):TS:=λD σ H=>te σ H λ_ H1=>D.nx σ H1
theorem c6x (he:PE X e te)(hs:swapsWith e none pos.line X.env=pure false:=by rfl):PS X (.Expr e pos) (d6y te):=by
 intro pins s σ H D I h
 exact wpAny_Expr_any (thn (he pins s σ H _ I h) λv s1 ⟨x,H1,I1,r1,q1⟩=>⟨σ,H1,I1,q1⟩) I.quiet hs
def tRet (te:TE):TS:=λD σ H=>te σ H D.rt
theorem c4w (he:PE X e te):PS X (.Return (some e) pos) (tRet te):=by
 intro pins s σ H D I h
 exact wpAny_Return_some (thn (he pins s σ H _ I h) λv s1 ⟨x,H1,I1,r1,q1⟩=>⟨x,σ,H1,I1,r1,q1⟩)
def tIfS (c:TT)(t u:TS):TS:=λD σ H=>c σ H λb H1=>if b=true then t D σ H1 else u D σ H1
theorem d1f {c:Expr}{a b:List Stmt}{tc:TT}(hc:PT X c tc)(ha:PSs X a t)(hb:PSs X b u):PS X (.If c a b pos) (tIfS tc t u):=by
 intro pins s σ H D I h
 refine wpAny_If (thn (hc pins s σ H _ I h) λd s1 ⟨H1,I1,q1⟩=>?_)
 cases d with
 | true=>exact ha pins s1 σ H1 D I1 q1
 | false=>exact hb pins s1 σ H1 D I1 q1
def d0j:TS:=λ_ _ _=>False
theorem b7s {sts:List Stmt}:PSs X sts d0j:=λ_ _ _ _ _ _ h=>h.elim
end
abbrev TG:=V→St→Hp→(St→Hp→Prop)→Prop
abbrev TGs:=List V→St→Hp→(St→Hp→Prop)→Prop
def PG (X:Cx)(target:Expr)(t:TG):Prop :=
 ∀ (pins:List (Addr×Obj))(s:Shared)(σ:St)(H:Hp)(v:V)(u:Value)(Q:St→Hp→Prop),Inv X pins σ H s→RelV v u→t v σ H Q →
  wpAny (model X.prog X.w) X.A (assign target X.env u) (λ_ s'=>∃ σ' H',Inv X pins σ' H' s'∧Q σ' H') X.xe s
def PGs (X:Cx)(ts:List Expr)(t:TGs):Prop :=
 ∀ (pins:List (Addr×Obj))(s:Shared)(σ:St)(H:Hp)(vs:List V)(us:List Value)(Q:St→Hp→Prop),Inv X pins σ H s→Vals vs us→t vs σ H Q →
  wpAny (model X.prog X.w) X.A (assignInOrder ((assignEach ts X.env).map (·.2)) us) (λ_ s'=>∃ σ' H',Inv X pins σ' H' s'∧Q σ' H') X.xe s
abbrev e3n:=V→V→V→Hp→(Hp→Prop)→Prop
def PSet (X:Cx)(t:e3n):Prop :=
 ∀ (pins:List (Addr×Obj))(s:Shared)(σ:St)(H:Hp)(o i v:V)(ov iv u:Value)(Q:Hp→Prop),Inv X pins σ H s→RelV o ov→RelV i iv→RelV v u→t o i v H Q →
  wpAny (model X.prog X.w) X.A (setItem ov iv u) (λ_ s'=>∃ H',Inv X pins σ H' s'∧Q H') X.xe s
abbrev TIp:=V→V→Hp→VK→Prop
def PIp (X:Cx)(op:Operator)(t:TIp):Prop :=
 ∀ (pins:List (Addr×Obj))(s:Shared)(σ:St)(H:Hp)(x y:V)(v u:Value)(Q:VK),Inv X pins σ H s→RelV x v→RelV y u→t x y H Q →
  wpAny (model X.prog X.w) X.A (inplaceOp op v u) (EP X pins σ Q) X.xe s
section
variable {X:Cx}{pos:Pos}
def a5j (i:Nat):TG:=λv σ H Q=>Q (σ.set i (some v)) H
theorem c7f {i:Nat}{x:Str}(hN:X.N.Nodup)(hi:X.N[i]?=some x)(hx:Loc X.env.scope x)(hf:X.fn x=true ∨ X.env.scope.names.lookup x=some .local:=by first|exact .inl rfl|exact .inr rfl|assumption):PG X (.Name x pos) (a5j i):=by
 intro pins s σ H v u Q I r h
 exact wpAny_assign_Name (a4i I hN hi hx r (λs' I'=>⟨_,H,I',h⟩) hf)
def d9k:TGs:=λvs σ H Q=>vs=[]∧Q σ H
def c3o (t:TG)(u:TGs):TGs:=λvs σ H Q=>∃ v r,vs=v :: r∧t v σ H λσ' H'=>u r σ' H' Q
theorem c7e:PGs X [] d9k:=by
 intro pins s σ H vs us Q I r h
 obtain⟨e,h⟩:=h
 subst e
 cases r
 exact assignInOrder_nil ⟨σ,H,I,h⟩
theorem c2i {e:Expr}{es:List Expr}{t:TG}{u:TGs}(h1:PG X e t)(h2:PGs X es u)
  (hs:(assignEach (e :: es) X.env).map (·.2)=assign e X.env :: (assignEach es X.env).map (·.2):=by rfl):PGs X (e :: es) (c3o t u):=by
 intro pins s σ H vs us Q I r h
 obtain⟨v,vr,e1,h⟩:=h
 subst e1
 cases r with
 | cons r rr =>
  rw[hs]
  refine assignInOrder_cons (thn (h1 pins s σ H _ _ _ I r h) λ_ s1 ⟨σ1,H1,I1,q1⟩=>?_)
  exact h2 pins s1 σ1 H1 _ _ Q I1 rr q1
def d5i (K:Γd) (n:Nat)(t:TGs):TG:=λv σ H Q=>∃ a xs,v=.ref a∧SqT K H a xs∧xs.length=n∧t xs σ H Q
theorem d1j {es:List Expr}{k:Nat}{t:TGs}{n:Nat}(hc:X.calm=true)(h:PGs X es t)
  (hn:(assignEach es X.env).length=n:=by rfl)(hst:(assignEach es X.env).findIdx? (·.1)=none:=by rfl):PG X (.Tuple es k pos) (d5i X.K n t):=by
 intro pins s σ H v u Q I r hw
 obtain⟨a,xs,e1,hq,hl,hw⟩:=hw
 subst e1
 cases r
 obtain⟨its,rv,ht,hz⟩:=I.tuple hq
 refine assign_Tuple_tuple (I.ok.hd hc) ht (by simp[hn,← hl,rv.length]) hst λh' hx=>?_
 have I1:Inv X pins σ H { s with heap:=h' }:=I.kept (t':=s.toks) λb o e=>hx b o (Γo (Γl e)) e
 exact h pins _ σ H xs _ Q I1 (by simpa using rv) hw
def gSub (to ti:TE)(t:e3n):TG:=λv σ H Q=>to σ H λo H1=>ti σ H1 λi H2=>t o i v H2 λH3=>Q σ H3
theorem d1k {o i:Expr}{to ti:TE}{t:e3n}(ho:PE X o to)(hi:PE X i ti)(hs:PSet X t)
  (ha:∀ v,assign (.Subscript o i pos) X.env v=(do
   let ov ← holding [v] (eval o X.env)
   let iv ← holding [v,ov] (eval i X.env)
   standAt pos
   holding [v,ov,iv] (setItem ov iv v)
   release [v,ov,iv] []):=by intro _;rfl):PG X (.Subscript o i pos) (gSub to ti t):=by
 intro pins s σ H v u Q I r h
 rw[ha]
 refine Γa (Γg (thn (ho pins s σ H _ I h) λov s1 ⟨x,H1,I1,r1,q1⟩=>?_))
 refine Γa (Γg (thn (hi pins s1 σ H1 _ I1 q1) λiv s2 ⟨y,H2,I2,r2,q2⟩=>?_))
 refine Γa (wpAny_standAt (Γa (Γg (thn (hs pins s2 σ H2 x y v ov iv u _ I2 r1 r2 r q2) λ_ s3 ⟨H3,I3,q3⟩=>?_))))
 exact wpAny_release ⟨σ,H3,I3,q3⟩
def c1g (te:TE)(g:TG):TS:=λD σ H=>te σ H λx H1=>g x σ H1 D.nx
theorem b7u {tg e:Expr}{te:TE}{g:TG}(he:PE X e te)(hg:PG X tg g)(hs:swapsWithSole [tg] e pos.line X.env=pure false:=by rfl)(hw:swappedStores [tg] e X.env=pure none:=by rfl)
  (h1:(assignEach [tg] X.env).map (·.2)=[assign tg X.env]:=by rfl):PS X (.Assign [tg] e pos) (c1g te g):=by
 intro pins s σ H D I h
 refine wpAny_Assign_stores (thn (he pins s σ H _ I h) λv s1 ⟨x,H1,I1,r1,q1⟩=>?_) hs hw
 rw[h1]
 exact thn (hg pins s1 σ H1 x v _ I1 r1 q1) λ_ s2 q=>q
theorem c4v {i:Nat}{x:Str}{e:Expr}{te:TE}{pos':Pos}(hN:X.N.Nodup)(hi:X.N[i]?=some x)(hx:Loc X.env.scope x)(he:PE X e te)(hs:swapsWith e (some (.Name x pos')) pos.line X.env=pure false:=by rfl)(hf:X.fn x=true ∨ X.env.scope.names.lookup x=some .local:=by first|exact .inl rfl|exact .inr rfl|assumption) :
  PS X (.Assign [.Name x pos'] e pos) (c1g te (a5j i)):=by
 intro pins s σ H D I h
 refine wpAny_Assign_Name (thn (he pins s σ H _ I h) λv s1 ⟨y,H1,I1,r1,q1⟩=>?_) hs
 exact a4i I1 hN hi hx r1 (λs2 I2=>⟨_,H1,I2,q1⟩) hf
def tPar (i j:Nat)(ta:TA):TS:=λD σ H=>ta σ H λvs H1=>∃ v w,vs=[v,w]∧D.nx ((σ.set i (some v)).set j (some w)) H1
theorem d1e {i j:Nat}{x y:Str}{a b:Expr}{ta:TA}{px py pt:Pos} {kt k2 pt2}(hc:X.calm=true)(hN:X.N.Nodup)(hi:X.N[i]?=some x)(hj:X.N[j]?=some y)(hij:i≠j)
  (hx:X.env.scope.names.lookup x=some .local)(hy:X.env.scope.names.lookup y=some .local)(ha:PA X [a,b] ta)
  (hw:swappedStores [.Tuple [.Name x px,.Name y py] kt pt] (.Tuple [a,b] k2 pt2) X.env=pure (some [x,y]))
  (hs:swapsWithSole [.Tuple [.Name x px,.Name y py] kt pt] (.Tuple [a,b] k2 pt2) pos.line X.env=pure false:=by rfl) :
  PS X (.Assign [.Tuple [.Name x px,.Name y py] kt pt] (.Tuple [a,b] k2 pt2) pos) (tPar i j ta):=by
 intro pins s σ H D I h
 rw[exec_Assign_arm]
 refine Γa (wpAny_standAt ?_)
 rw[hs]
 refine Γa (Γb ?_)
 rw[if_neg (by decide)]
 refine Γa (Tuple_ (thn (ha _ pins s σ H _ I h) λus s1 ⟨vs,H1,I1,r1,q1⟩=>?_))
 obtain⟨v,w,e1,q1⟩:=q1
 subst e1
 obtain⟨u1,u2,rfl,rv,rw'⟩:∃ u1 u2,us=[u1,u2]∧RelV v u1∧RelV w u2:=by
  cases r1 with
  | cons p q =>
   cases q with
   | cons p' q' =>
    cases q'
    exact⟨_,_,rfl,p,p'⟩
 refine wpAny_newObj_type ?_ (by show 2≤sizeLine;decide)
 have I2:Inv X pins σ H1 { s1 with heap:=s1.heap.push { cls:=.type "tuple",data:=.seq [u1,u2].toArray } }:=I1.kept (t':=s1.toks) λb o e=>Γc _ e
 rw[hw]
 refine Γa (Γb ?_)
 show wpAny (model X.prog X.w) X.A (do rule "assign.swapped-stores";let items ← unpackItems (.ref s1.heap.objs.size) 2 none;assignInOrder [λv=>bindName X.env y v,λv=>bindName X.env x v] items.reverse;pure Flow.next) _ _ _
 refine Γa (wpAny_rule (Γa (unpackItems_tuple (items:=#[u1,u2]) (I.ok.hd hc) (IsTup.new s1.heap _) λh' hx'=>?_)))
 have I3:=I2.kept (h':=h') (t':=s1.toks) λb o e=>hx' b o (Γo (Γl e)) e
 show wpAny _ _ (assignInOrder [λv=>bindName X.env y v,λv=>bindName X.env x v] [u2,u1] >>= λ_=>pure Flow.next) _ _ _
 refine Γa (assignInOrder_cons (wpAny_bindName (a4i I3 hN hj (.inl hy) rw' (λs2 I4=>?_) (.inr hy))))
 refine assignInOrder_cons (wpAny_bindName (a4i I4 hN hi (.inl hx) rv (λs3 I5=>assignInOrder_nil (Γb ?_)) (.inr hx)))
 rw[List.set_comm _ _ (Ne.symm hij)] at I5
 exact⟨_,H1,I5,q1⟩
def ipI (f:Int→Int→Int):TIp:=λx y H Q=>∃ i j,x=.int i∧y=.int j∧Q (.int (f i j)) H
theorem d2v:PIp X .Add (ipI λi j=>i+j):=by
 intro pins s σ H x y v u Q I r1 r2 h
 obtain⟨i,j,e1,e2,q⟩:=h
 subst e1;subst e2
 obtain⟨t,rfl⟩:=r1
 obtain⟨t',rfl⟩:=r2
 exact iadd_int ⟨.int _,H,I.tok _,⟨_,rfl⟩,q⟩
end
section
variable {X:Cx}{pos:Pos}
def d0i (c:TT)(tb:TS):TS:=λD σ H=>∃ W:Nat→St→Hp→Prop,(∃ m,W m σ H)∧∀ m σ H,W m σ H →
 c σ H λb H1=>if b=true then ∃ N:St→Hp→Prop,(∀ σ' H',N σ' H'→∃ m',m'<m∧W m' σ' H')∧tb { D with nx:=N,ct:=N,bk:=D.nx } σ H1 else D.nx σ H1
theorem c2d {c:Expr}{body:List Stmt}{tc:TT}{tb:TS}(hp:PassesOwn (model X.prog X.w) X.A X.env X.xe)(hc:PT X c tc)(hb:PSs X body tb):PS X (.While c body [] pos) (d0i tc tb):=by
 intro pins s σ H D I h
 obtain⟨W,⟨m0,w0⟩,turn⟩:=h
 refine wpAny_While (codeAny_whileLoop (λn s'=>∃ σ' H',Inv X pins σ' H' s'∧W n σ' H') ?_ m0 ⟨σ,H,I,w0⟩)
 rintro n s1 ⟨σ1,H1,I1,w1⟩
 refine wpAny_passesOwn hp (thn (hc pins s1 σ1 H1 _ I1 (turn n σ1 H1 w1)) λb s2 ⟨H2,I2,q2⟩=>?_)
 cases b with
 | true =>
  obtain⟨N,hN,q2⟩:=q2
  rw[if_pos rfl]
  refine wpAny_passesOwn hp (thn (hb pins s2 σ1 H2 _ I2 q2) λf s3 q3=>?_)
  cases f with
  | next =>
   obtain⟨σ3,H3,I3,n3⟩:=q3
   obtain⟨m',hm,w3⟩:=hN σ3 H3 n3
   exact⟨m',hm,σ3,H3,I3,w3⟩
  | cont =>
   obtain⟨σ3,H3,I3,n3⟩:=q3
   obtain⟨m',hm,w3⟩:=hN σ3 H3 n3
   exact⟨m',hm,σ3,H3,I3,w3⟩
  | brk=>exact q3
  | ret v=>exact q3
 | false =>
  rw[if_neg Γk]
  exact wpAny_execs_nil ⟨σ1,H2,I2,q2⟩
end
structure It where
 go:Nat→Hp→Prop
 yld:Nat→Hp→V→Hp→Prop
 stop:Nat→Hp→Prop
def b6d (X:Cx)(pins:List (Addr×Obj))(H:Hp)(b:Addr):Prop :=
 H b=none∧b≠X.env.locals∧b ∉ X.fs∧(b∈X.ex ∨ X.s₀.heap.objs.size≤b)∧(∀ x c,X.env.cells.lookup x=some c→c≠b)∧∀ p∈X.pn++pins,p.1≠b
theorem Inv.fpOk {X:Cx}{pins:List (Addr×Obj)}{σ:St}{H H':Hp}{s:Shared}{b:Addr}(I:Inv X pins σ H s)(hb:s.heap.objs.size≤b)(hn:H' b=none):b6d X pins H' b:=by
 refine⟨hn,Nat.ne_of_gt (Nat.lt_of_lt_of_le I.lt hb),I.nofs hb,.inr (Nat.le_trans I.sz hb),λx c e z=>?_,λp hp z=>?_⟩
 ·obtain⟨v,q⟩:=I.cell x c e
  exact absurd (Nat.lt_of_lt_of_le q.lt (by rw[z];exact hb)) (Nat.lt_irrefl _)
 ·exact absurd (Nat.lt_of_lt_of_le (Γl (I.pin p hp).1) (by rw[z];exact hb)) (Nat.lt_irrefl _)
structure Turn (P:Program)(w:World)(K:Γd)(tg:Expr)(J:It)(fp:List Addr)(it:Addr)(tn:Nat→Heap→Prop):Prop where
 mem:it∈fp
 obj:∀ i h,tn i h→∀ b∈fp,∃ o,h.get? b=some o∧∀ v,o.data≠.cell v
 keep:∀ i h h',tn i h→(∀ b∈fp,∀ o,h.get? b=some o→h'.get? b=some o)→tn i h'
 item:∀ (X:Cx),X.prog=P→X.w=w→X.K=K→X.calm=true→∀ (i:Nat)(pins:List (Addr×Obj))(s:Shared)(σ:St)(H:Hp)(E:Value→Shared→Prop),Inv X pins σ H s→(∀ b∈fp,b6d X pins H b)→tn i s.heap→J.go i H →
  wpAny (model P w) X.A (pyNext (.ref it)) (λr s1=>∃ u,r=some u ∧
   wpAny (model P w) X.A (letOwnedTupleGo tg (.ref it) u) (λ_ s2=>∃ x H',Inv X pins σ H' s2∧RelV x u∧J.yld i H x H'∧tn (i+1) s2.heap∧∀ b∈fp,H' b=none) E s1) E s
 done:∀ (X:Cx),X.prog=P→X.w=w→X.K=K→X.calm=true→∀ (i:Nat)(pins:List (Addr×Obj))(s:Shared)(σ:St)(H:Hp)(E:Value→Shared→Prop),Inv X pins σ H s→(∀ b∈fp,b6d X pins H b)→tn i s.heap→J.stop i H →
  wpAny (model P w) X.A (pyNext (.ref it)) (λr s1=>r=none∧Inv X pins σ H s1) E s
 self:∀ (A:Around) (i:Nat)(s:Shared)(Q:Value→Shared→Prop)(E:Value→Shared→Prop),tn i s.heap→Q (.ref it) s→wpAny (model P w) A (pyIter (.ref it)) Q E s
abbrev TI:=St→Hp→(It→Hp→Prop)→Prop
def PIE (X:Cx)(pins:List (Addr×Obj))(σ:St)(tg:Expr)(R:It→Hp→Prop)(itv:Value)(s2:Shared):Prop :=
 ∃ (it:Addr)(fp:List Addr)(tn:Nat→Heap→Prop)(J:It)(H':Hp),itv=.ref it∧Inv X pins σ H' s2∧Turn X.prog X.w X.K tg J fp it tn∧tn 0 s2.heap∧(∀ b∈fp,b6d X pins H' b)∧R J H'
def PI (X:Cx)(tg iter:Expr)(wi:TI):Prop :=
 ∀ (pins:List (Addr×Obj))(s:Shared)(σ:St)(H:Hp)(R:It→Hp→Prop),Inv X pins σ H s→wi σ H R →
  wpAny (model X.prog X.w) X.A (eval iter X.env) (λv s1=>wpAny (model X.prog X.w) X.A (pyIter v) (PIE X pins σ tg R) X.xe s1) X.xe s
theorem c3l {M : Model} {A : Around} {E : Value → Shared → Prop} {s : Shared} {tg : Expr} {it : Addr} {u : Value} {o : Obj} {n : String} {vs : Array Value} {Q : Unit → Shared → Prop} (ho : s.heap.get? it = some o) (hc : o.cls = .type n) (hd : o.data = .fields vs)
    (hn:["enumerate","zip","dict_itemiterator","dict_reverseitemiterator","odict_iterator","itertools.zip_longest","itertools.pairwise"].contains n=false) (hQ:Q () s):wpAny M A (letOwnedTupleGo tg (.ref it) u) Q E s:=by
  unfold letOwnedTupleGo
  cases tg<;>first
    | exact Γb hQ
    | (cases u <;> first
        | exact Γb hQ
        | (refine Γa (wpAny_load ho ?_)
           rw [hc, hd]
           show wpAny M A (if (["enumerate", "zip", "dict_itemiterator", "dict_reverseitemiterator", "odict_iterator", "itertools.zip_longest", "itertools.pairwise"].contains n && vs[0]? == some (rawInt _)) = true then _ else _) Q E s
           rw [if_neg (by intro h; rw [hn, Bool.false_and] at h; cases h)]
           exact Γb hQ))
def Itl (K:Γd)(a:Addr):It :=
 ⟨λi H=>∃ xs x,SqL K H a xs∧xs[i]?=some x,λi H x H'=>H'=H∧∀ xs,SqL K H a xs→xs[i]?=some x,λi H=>∃ xs,SqL K H a xs∧xs.length≤i⟩
def Itt (K:Γd)(a:Addr):It :=
 ⟨λi H=>∃ xs x,SqT K H a xs∧xs[i]?=some x,λi H x H'=>H'=H∧∀ xs,SqT K H a xs→xs[i]?=some x,λi H=>∃ xs,SqT K H a xs∧xs.length≤i⟩
def Itr (lo:Int) (n:Nat):It:=⟨λi _=>i<n,λi H x H'=>H'=H∧x=.int (lo+i),λi _=>n≤i⟩
theorem b6k {P:Program}{w:World}{K:Γd}{tg:Expr}(a it:Addr):Turn P w K tg (Itl K a) [it] it (λi h=>h.IsListIter it a i) where
 mem:=by simp
 obj:=λi h st b hb=>by
  have e:b=it:=by simpa using hb
  subst e
  obtain⟨o,e,c,d⟩:=st
  exact⟨o,e,λv z=>by rw[d] at z;cases z⟩
 keep:=λi h h' st k=>st.at λo e=>k it (by simp) o e
 item:=by
  intro X hP hw hK hc i pins s σ H E I hf st hg
  subst hP hw hK
  obtain⟨xs,x,hq,hx⟩:=hg
  obtain⟨its,rv,p,hz⟩:=I.list hq
  obtain⟨u,hu,ru⟩:=rv.get hx
  obtain⟨f0,f1,f2,f3,f4,f5⟩:=hf it (by simp)
  refine wpAny_pyNext_list_item st p.isList (x:=u) (by simpa using hu) λh' st' sb=>?_
  have I1:Inv X pins σ H { s with heap:=h' }:=I.turned (t':=s.toks) (λb o hb e=>(sb.2 b hb).trans e) f0 f1 f3 f4 f5
  obtain⟨o,e,c,d⟩:=id st'
  exact⟨u,rfl,c3l (s:={ s with heap:=h' }) e c d (by decide) ⟨x,H,I1,ru,⟨rfl,λys hy=>by rw[I.list_inj hy hq];exact hx⟩,st',λb hb=>(hf b hb).1⟩⟩
 done:=by
  intro X hP hw hK hc i pins s σ H E I hf st hg
  subst hP hw hK
  obtain⟨xs,hq,hx⟩:=hg
  obtain⟨its,rv,p,hz⟩:=I.list hq
  obtain⟨f0,f1,f2,f3,f4,f5⟩:=hf it (by simp)
  have hl:=rv.length
  exact wpAny_pyNext_list_end (I.ok.hd hc) st p.isList (by simp;lia) λh' eb=>⟨rfl,I.turned (t':=s.toks) (λb o hb e=>eb b o hb e) f0 f1 f3 f4 f5⟩
 self:=λ_ _ _ _ _ st h=>wpAny_pyIter_listiter st h
theorem b4r {P:Program}{w:World}{K:Γd}{tg:Expr}(a it:Addr):Turn P w K tg (Itt K a) [it] it (λi h=>h.IsTupleIter it a i) where
 mem:=by simp
 obj:=λi h st b hb=>by
  have e:b=it:=by simpa using hb
  subst e
  obtain⟨o,e,c,d⟩:=st
  exact⟨o,e,λv z=>by rw[d] at z;cases z⟩
 keep:=λi h h' st k=>st.at λo e=>k it (by simp) o e
 item:=by
  intro X hP hw hK hc i pins s σ H E I hf st hg
  subst hP hw hK
  obtain⟨xs,x,hq,hx⟩:=hg
  obtain⟨its,rv,p,hz⟩:=I.tuple hq
  obtain⟨u,hu,ru⟩:=rv.get hx
  obtain⟨f0,f1,f2,f3,f4,f5⟩:=hf it (by simp)
  refine wpAny_pyNext_tuple_item st (show s.heap.IsTuple a its.toArray from p) (x:=u) (by simpa using hu) λh' st' sb=>?_
  have I1:Inv X pins σ H { s with heap:=h' }:=I.turned (t':=s.toks) (λb o hb e=>(sb.2 b hb).trans e) f0 f1 f3 f4 f5
  obtain⟨o,e,c,d⟩:=id st'
  exact⟨u,rfl,c3l (s:={ s with heap:=h' }) e c d (by decide) ⟨x,H,I1,ru,⟨rfl,λys hy=>by rw[I.tuple_inj hy hq];exact hx⟩,st',λb hb=>(hf b hb).1⟩⟩
 done:=by
  intro X hP hw hK hc i pins s σ H E I hf st hg
  subst hP hw hK
  obtain⟨xs,hq,hx⟩:=hg
  obtain⟨its,rv,p,hz⟩:=I.tuple hq
  obtain⟨f0,f1,f2,f3,f4,f5⟩:=hf it (by simp)
  have hl:=rv.length
  exact wpAny_pyNext_tuple_end (I.ok.hd hc) st (show s.heap.IsTuple a its.toArray from p) (by simp;lia) λh' eb=>⟨rfl,I.turned (t':=s.toks) (λb o hb e=>eb b o hb e) f0 f1 f3 f4 f5⟩
 self:=λ_ _ _ _ _ st h=>wpAny_pyIter_tupleiter st h
theorem b4s {P:Program}{w:World}{K:Γd}{tg:Expr}(it:Addr) (lo:Int) (n:Nat):Turn P w K tg (Itr lo n) [it] it (λi h=>IsRangeIter h it (lo+(i:Nat)*1) ((n:Int)-(i:Nat)) 1) where
 mem:=by simp
 obj:=λi h st b hb=>by
  have e:b=it:=by simpa using hb
  subst e
  exact⟨_,st,λv z=>by
   have z':Data.fields _=Data.cell v:=z
   cases z'⟩
 keep:=λi h h' st k=>k it (by simp) _ st
 item:=by
  intro X hP hw hK hc i pins s σ H E I hf st hg
  subst hP hw hK
  obtain⟨f0,f1,f2,f3,f4,f5⟩:=hf it (by simp)
  have W:=Walks.range (prog:=X.prog) (w:=X.w) (I.ok.hd hc) it lo 1 n
  refine W.item i s _ _ hg st λv h' tk hv st' kk=>?_
  obtain⟨t,rfl⟩:=hv
  have I1:Inv X pins σ H { s with heap:=h',toks:=tk }:=I.turned (λb o hb e=>kk b o (by simpa using hb) e) f0 f1 f3 f4 f5
  refine⟨_,rfl,c3l (s:={ s with heap:=h',toks:=tk }) (n:="range_iterator") st' rfl rfl (by decide) ⟨.int (lo+i),H,I1,⟨t,?_⟩,⟨rfl,rfl⟩,st',λb hb=>(hf b hb).1⟩⟩
  rw[Int.mul_one]
 done:=by
  intro X hP hw hK hc i pins s σ H E I hf st hg
  subst hP hw hK
  obtain⟨f0,f1,f2,f3,f4,f5⟩:=hf it (by simp)
  exact wpAny_pyNext_range_end (I.ok.hd hc) st (by have:n≤i:=hg;lia) λh' eb=>⟨rfl,I.turned (t':=s.toks) (λb o hb e=>eb b o hb e) f0 f1 f3 f4 f5⟩
 self:=λ_ _ _ _ _ st h=>wpAny_pyIter_rangeiter st h
end L2
namespace L2
open PySem PySem.Spec PyProof.Rows
section
variable {X:Cx}{tg:Expr}
theorem b3j {pins:List (Addr×Obj)}{σ:St}{H:Hp}{s:Shared}{R:It→Hp→Prop}{E:Value→Shared→Prop}{lo hi:Int}{t u v:Tok}{tk:Nat}(I:Inv X pins σ H s)(h1:-(2 ^ 62)≤lo)(h2:lo<2 ^ 62)(h3:-(2 ^ 62)≤hi)(h4:hi<2 ^ 62)
  (q:R (Itr lo (hi-lo).toNat) H):wpAny (model X.prog X.w) X.A (pyIter (.ref s.heap.objs.size)) (PIE X pins σ tg R) E { s with heap:=s.heap.push { cls:=.type "range",data:=.fields #[.int lo t,.int hi u,.int 1 v] },toks:=tk }:=by
 refine wpAny_pyIter_range (IsRange.new ..) (small_one h1 h2 h3 h4) ?_
 have I1:Inv X pins σ H { s with heap:=s.heap.push { cls:=.type "range",data:=.fields #[.int lo t,.int hi u,.int 1 v] },toks:=tk }:=I.kept λb o e=>Γc _ e
 refine⟨(s.heap.push { cls:=.type "range",data:=.fields #[.int lo t,.int hi u,.int 1 v] }).objs.size,[(s.heap.push { cls:=.type "range",data:=.fields #[.int lo t,.int hi u,.int 1 v] }).objs.size],_,_,H,rfl,
  I1.kept (t':=tk) λb o e=>Γc _ e,b4s _ lo (hi-lo).toNat,?_,λb hb=>?_,q⟩
 ·have e1:lo+((0:Nat):Int)*1=lo:=by simp
  have e2:(((hi-lo).toNat:Nat):Int)-((0:Nat):Int)=Builtin.Range.rangeSize lo hi 1:=by rw[rangeSize_one];split<;>lia
  show IsRangeIter _ _ (lo+((0:Nat):Int)*1) ((((hi-lo).toNat:Nat):Int)-((0:Nat):Int)) 1
  rw[e1,e2]
  exact Γm _ rfl
 ·have e:b=(s.heap.push { cls:=.type "range",data:=.fields #[.int lo t,.int hi u,.int 1 v] }).objs.size:=by simpa using hb
  subst e
  exact I1.fpOk (Γi _) (I1.hok.fresh (Γi _))
def d9j (ta:TA):TI:=λσ H R=>ta σ H λvs H1=>∃ j:Int,vs=[.int j]∧-(2 ^ 62)≤j∧j<2 ^ 62∧R (Itr 0 j.toNat) H1
def iRng2 (ta:TA):TI:=λσ H R=>ta σ H λvs H1=>∃ i j:Int,vs=[.int i,.int j]∧(-(2 ^ 62)≤i∧i<2 ^ 62∧-(2 ^ 62)≤j∧j<2 ^ 62)∧R (Itr i (j-i).toNat) H1
theorem b7x {a:Expr}{ta:TA}{p pos:Pos}(hg:Gl X "range")(hm:X.mg "range" = none)(ha:PA X [a] ta)(hs:starEach [a] X.env=[(false,eval a X.env)]:=by rfl):PI X tg (.Call (.Name "range" p) [a] [] pos) (d9j ta):=by
 intro pins s σ H R I h
 refine Call_ (a3j I hg hm boot_range (PyProof.Rows.callWith_type1 (thn (ha pos pins s σ H _ I h) λus s1 ⟨vs,H1,I1,r1,q1⟩=>?_) hs rfl))
 obtain⟨j,e,q1,q2,q⟩:=q1
 subst e
 cases r1 with
 | cons r rr =>
  cases rr
  obtain⟨t,rfl⟩:=r
  exact call_range_1 (b3j I1 (by lia) (by lia) q1 q2 (by simpa using q))
theorem b7w {a b:Expr}{ta:TA}{p pos:Pos}(hg:Gl X "range")(hm:X.mg "range" = none)(ha:PA X [a,b] ta)(hs:starEach [a,b] X.env=[(false,eval a X.env),(false,eval b X.env)]:=by rfl)(hs2:starEach [b] X.env=[(false,eval b X.env)]:=by rfl) :
  PI X tg (.Call (.Name "range" p) [a,b] [] pos) (iRng2 ta):=by
 intro pins s σ H R I h
 refine Call_ (a3j I hg hm boot_range (PyProof.Rows.callWith_type1 (thn (ha pos pins s σ H _ I h) λus s1 ⟨vs,H1,I1,r1,q1⟩=>?_) (by rw[hs,hs2]) (by rw[hs2];rfl)))
 obtain⟨i,j,e,⟨q1,q2,q3,q4⟩,q⟩:=q1
 subst e
 cases r1 with
 | cons r rr =>
  cases rr with
  | cons r' rr =>
   cases rr
   obtain⟨t,rfl⟩:=r
   obtain⟨t',rfl⟩:=r'
   exact call_range_2 (b3j I1 q1 q2 q3 q4 q)
def tFor (wi:TI)(g:TG)(tb:TS):TS:=λD σ H=>wi σ H λJ H1=>∃ W:Nat→Nat→St→Hp→Prop,(∃ m,W 0 m σ H1)∧∀ i m σ H,W i m σ H →
 (J.stop i H∧D.nx σ H) ∨ (J.go i H∧∃ N:St→Hp→Prop,(∀ σ' H',N σ' H'→∃ m',m'<m∧W (i+1) m' σ' H')∧∀ x H',J.yld i H x H'→g x σ H' λσ2 H2=>tb { D with nx:=N,ct:=N,bk:=D.nx } σ2 H2)
def b0j (fp:List Addr)(h:Heap):List (Addr×Obj):=fp.filterMap λb=>(h.get? b).map λo=>(b,o)
theorem a3r {fp:List Addr}{h:Heap}{b:Addr}{o:Obj}(hb:b∈fp)(e:h.get? b=some o):(b,o)∈b0j fp h:=List.mem_filterMap.mpr ⟨b,hb,by rw[e];rfl⟩
theorem b8j {fp:List Addr}{h:Heap}{p:Addr×Obj}(hp:p∈b0j fp h):p.1∈fp∧h.get? p.1=some p.2:=by
 obtain⟨b,hb,e⟩:=List.mem_filterMap.mp hp
 cases q:h.get? b with
 | none=>rw[q] at e;cases e
 | some o =>
  rw[q] at e
  have e':(b,o)=p:=Option.some.inj e
  subst e'
  exact⟨hb,q⟩
theorem Inv.pinned {pins:List (Addr×Obj)}{σ:St}{H:Hp}{s:Shared}{fp:List Addr}(I:Inv X pins σ H s)(hf:∀ b∈fp,b6d X pins H b)(ho:∀ b∈fp,∃ o,s.heap.get? b=some o∧∀ v,o.data≠.cell v):Inv X (pins++b0j fp s.heap) σ H s :=
 I.pins_of λp hp=>(List.mem_append.mp hp).elim (λz=>I.pin p (List.mem_append_right _ z)) λz=>by
  obtain⟨hb,e⟩:=b8j z
  obtain⟨f0,f1,f2,_⟩:=hf p.1 hb
  obtain⟨o,e',d⟩:=ho p.1 hb
  rw[e] at e';cases e'
  exact⟨e,f0,f1,f2,d⟩
theorem Inv.unpinned {pins pl:List (Addr×Obj)}{σ:St}{H:Hp}{s:Shared}(I:Inv X (pins++pl) σ H s):Inv X pins σ H s:=I.pins_of λp hp=>I.pin p (List.mem_append_right _ (List.mem_append_left _ hp))
theorem d1g {iter:Expr}{body:List Stmt}{wi:TI}{g:TG}{tb:TS}{pos:Pos}(hp:PassesOwn (model X.prog X.w) X.A X.env X.xe)(hc:X.calm=true)(hi:PI X tg iter wi)(hg:PG X tg g)(hb:PSs X body tb)
  (hs:∀ x,foldedSetIterable iter X.env x=pure x:=by intro _;rfl):PS X (.For tg iter body [] pos) (tFor wi g tb):=by
 intro pins s σ H D I h
 refine wpAny_For (thn (hi pins s σ H _ I h) λv s1 h1=>thn h1 λitv s2 h2=>?_) hs
 obtain⟨it,fp,tn,J,H2,e,I2,T,st2,f2,W,⟨m0,w0⟩,turn⟩:=h2
 subst e
 -- what stays true of the iterator's objects through the loop
 have stat:∀ {H':Hp},(∀ b∈fp,H' b=none)→∀ b∈fp,b6d X pins H' b:=λhn b hb=>⟨hn b hb,(f2 b hb).2⟩
 refine codeAny_forLoop_any (λn s'=>∃ i σ' H',Inv X pins σ' H' s'∧tn i s'.heap∧(∀ b∈fp,H' b=none)∧W i n σ' H') ?_ m0 ⟨0,σ,H2,I2,st2,λb hb=>(f2 b hb).1,w0⟩
 rintro n s3 ⟨i,σ3,H3,I3,st3,fr3,w3⟩
 rcases turn i n σ3 H3 w3 with⟨stop,qn⟩|⟨go,N,hN,step⟩
 ·refine wpAny_passesOwn hp (thn (T.done X rfl rfl rfl hc i pins s3 σ3 H3 X.xe I3 (stat fr3) st3 stop) λr s4 ⟨hr,I4⟩=>?_)
  subst hr
  exact wpAny_execs_nil ⟨σ3,H3,I4,qn⟩
 ·refine wpAny_passesOwn hp (thn (T.item X rfl rfl rfl hc i pins s3 σ3 H3 X.xe I3 (stat fr3) st3 go) λr s4 ⟨u,hr,h4⟩=>?_)
  subst hr
  refine wpAny_passesOwn hp (thn h4 λ_ s5 ⟨x,H5,I5,r5,y5,st5,fr5⟩=>?_)
  have I5':=I5.pinned (stat fr5) (T.obj _ _ st5)
  refine wpAny_passesOwn hp (thn (hg _ s5 σ3 H5 x u _ I5' r5 (step x H5 y5)) λ_ s6 ⟨σ6,H6,I6,q6⟩=>?_)
  refine wpAny_passesOwn hp (thn (hb _ s6 σ6 H6 _ I6 q6) λf s7 q7=>?_)
  have again:∀ {σ7:St}{H7:Hp},Inv X (pins++b0j fp s5.heap) σ7 H7 s7→N σ7 H7→∃ m,m<n∧∃ i σ' H',Inv X pins σ' H' s7∧tn i s7.heap∧(∀ b∈fp,H' b=none)∧W i m σ' H':=λ{σ7 H7} I7 n7=>by
   obtain⟨m',hm,w7⟩:=hN σ7 H7 n7
   refine⟨m',hm,i+1,σ7,H7,I7.unpinned,T.keep _ _ _ st5 λb hb o e=>(I7.pin (b,o) (List.mem_append_right _ (List.mem_append_right _ (a3r hb e)))).1,λb hb=>?_,w7⟩
   obtain⟨o,e,d⟩:=T.obj _ _ st5 b hb
   exact (I7.pin (b,o) (List.mem_append_right _ (List.mem_append_right _ (a3r hb e)))).2.1
  cases f with
  | next=>obtain⟨σ7,H7,I7,n7⟩:=q7;exact again I7 n7
  | cont=>obtain⟨σ7,H7,I7,n7⟩:=q7;exact again I7 n7
  | brk=>obtain⟨σ7,H7,I7,q7⟩:=q7;exact⟨σ7,H7,I7.unpinned,q7⟩
  | ret v=>obtain⟨x7,σ7,H7,I7,r7,q7⟩:=q7;exact⟨x7,σ7,H7,I7.unpinned,r7,q7⟩
end
end L2
namespace L2
open PySem PySem.Spec PyProof.Rows
abbrev R2:=V→V→Hp→VK→Prop
def OpR (X:Cx)(f:Value→Value→Sem Value)(r:R2):Prop :=
 ∀ (pins:List (Addr×Obj))(s:Shared)(σ:St)(H:Hp)(x y:V)(v u:Value)(Q:VK),Inv X pins σ H s→RelV x v→RelV y u→r x y H Q →
  wpAny (model X.prog X.w) X.A (f v u) (EP X pins σ Q) X.xe s
def UnR (X:Cx)(f:Value→Sem Value)(r:V→Hp→VK→Prop):Prop :=
 ∀ (pins:List (Addr×Obj))(s:Shared)(σ:St)(H:Hp)(x:V)(v:Value)(Q:VK),Inv X pins σ H s→RelV x v→r x H Q →
  wpAny (model X.prog X.w) X.A (f v) (EP X pins σ Q) X.xe s
def a1k (X:Cx)(f:Value)(r:List V→Hp→VK→Prop):Prop :=
 ∀ (pins:List (Addr×Obj))(s:Shared)(σ:St)(H:Hp)(xs:List V)(us:List Value)(Q:VK),Inv X pins σ H s→Vals xs us→r xs H Q →
  wpAny (model X.prog X.w) X.A (call f us) (EP X pins σ Q) X.xe s
def TruR (X:Cx)(r:V→Hp→(Bool→Hp→Prop)→Prop):Prop :=
 ∀ (pins:List (Addr×Obj))(s:Shared)(σ:St)(H:Hp)(x:V)(v:Value)(Q:Bool→Hp→Prop),Inv X pins σ H s→RelV x v→r x H Q →
  wpAny (model X.prog X.w) X.A (truthy v) (TP X pins σ Q) X.xe s
def tOp (r:R2)(ta tb:TE):TE:=λσ H Q=>ta σ H λx H1=>tb σ H1 λy H2=>r x y H2 Q
def tUn (r:V→Hp→VK→Prop)(ta:TE):TE:=λσ H Q=>ta σ H λx H1=>r x H1 Q
def rI (C:Int→Int→Prop)(g:Int→Int→V):R2:=λx y H Q=>∃ i j,x=.int i∧y=.int j∧C i j∧Q (g i j) H
def rI0 (g:Int→Int→V):R2:=λx y H Q=>∃ i j,x=.int i∧y=.int j∧Q (g i j) H
def rU (g:Int→V):V→Hp→VK→Prop:=λx H Q=>∃ i,x=.int i∧Q (g i) H
section
variable {X:Cx}{a b c:Expr}{ta tb tc:TE}{pos:Pos}
theorem e2o (ha:PE X a ta)(hb:PE X b tb){pins:List (Addr×Obj)}{s:Shared}{σ:St}{H:Hp}{R:V→V→Hp→Prop}(I:Inv X pins σ H s)
  (h:ta σ H λx H1=>tb σ H1 λy H2=>R x y H2){Q:Value→Shared→Prop}{f:Value→Value→Sem Value}
  (hf:∀ v u s2 x y H2,Inv X pins σ H2 s2→RelV x v→RelV y u→R x y H2→wpAny (model X.prog X.w) X.A (f v u) Q X.xe s2) :
  wpAny (model X.prog X.w) X.A (eval a X.env) (λv s₁=>wpAny (model X.prog X.w) X.A (eval b X.env) (λu s₂=>wpAny (model X.prog X.w) X.A (f v u) Q X.xe s₂) X.xe s₁) X.xe s:=by
 refine thn (ha pins s σ H _ I h) λv s1 ⟨x,H1,I1,r1,q1⟩=>?_
 refine thn (hb pins s1 σ H1 _ I1 q1) λu s2 ⟨y,H2,I2,r2,q2⟩=>?_
 exact hf v u s2 x y H2 I2 r1 r2 q2
theorem d8m {op:Operator}{r:R2}(ho:OpR X (binaryOp op) r)(ha:PE X a ta)(hb:PE X b tb):PE X (.BinOp a op b pos) (tOp r ta tb):=by
 intro pins s σ H Q I h
 exact wpAny_BinOp (e2o ha hb I h λv u s2 x y H2 I2 rx ry q=>ho pins s2 σ H2 x y v u Q I2 rx ry q)
theorem d8l {op:UnaryOp}{r:V→Hp→VK→Prop}(ho:UnR X (unaryOp op) r)(ha:PE X a ta):PE X (.UnaryOp op a pos) (tUn r ta):=by
 intro pins s σ H Q I h
 exact UnaryOp_ (thn (ha pins s σ H _ I h) λv s1 ⟨x,H1,I1,r1,q1⟩=>ho pins s1 σ H1 x v Q I1 r1 q1)
theorem opI {f:Value→Value→Sem Value}{C:Int→Int→Prop}{g:Int→Int→Int}
  (rule:∀ (i j:Int)(t u:Tok)(s:Shared)(Q:Value→Shared→Prop)(E:Value→Shared→Prop),C i j→Q (.int (g i j) s.toks) { s with toks:=s.toks+1 }→wpAny (model X.prog X.w) X.A (f (.int i t) (.int j u)) Q E s) :
  OpR X f (rI C λi j=>.int (g i j)):=by
 intro pins s σ H x y v u Q I rx ry h
 obtain⟨i,j,rfl,rfl,hc,q⟩:=h
 obtain⟨t,rfl⟩:=rx
 obtain⟨t',rfl⟩:=ry
 exact rule i j t t' s _ _ hc ⟨.int (g i j),H,I.tok _,⟨_,rfl⟩,q⟩
theorem opI0 {f:Value→Value→Sem Value}{g:Int→Int→Int}
  (rule:∀ (i j:Int)(t u:Tok)(s:Shared)(Q:Value→Shared→Prop)(E:Value→Shared→Prop),Q (.int (g i j) s.toks) { s with toks:=s.toks+1 }→wpAny (model X.prog X.w) X.A (f (.int i t) (.int j u)) Q E s) :
  OpR X f (rI0 λi j=>.int (g i j)):=by
 intro pins s σ H x y v u Q I rx ry h
 obtain⟨i,j,rfl,rfl,q⟩:=h
 obtain⟨t,rfl⟩:=rx
 obtain⟨t',rfl⟩:=ry
 exact rule i j t t' s _ _ ⟨.int (g i j),H,I.tok _,⟨_,rfl⟩,q⟩
theorem d4v {f:Value→Value→Sem Value}{g:Int→Int→Bool}
  (rule:∀ (i j:Int)(t u:Tok)(s:Shared)(Q:Value→Shared→Prop)(E:Value→Shared→Prop),Q (.bool (g i j)) s→wpAny (model X.prog X.w) X.A (f (.int i t) (.int j u)) Q E s) :
  OpR X f (rI0 λi j=>.bl (g i j)):=by
 intro pins s σ H x y v u Q I rx ry h
 obtain⟨i,j,rfl,rfl,q⟩:=h
 obtain⟨t,rfl⟩:=rx
 obtain⟨t',rfl⟩:=ry
 exact rule i j t t' s _ _ ⟨.bl (g i j),H,I,rfl,q⟩
def CDiv (i j:Int):Prop:=0<j∧j<1073741824
def CPow (i j:Int):Prop:=0≤j∧j≤1000000∧i.natAbs<2 ^ 64
def CMul (i j:Int):Prop:=(-(2 ^ 64)<i∧i<2 ^ 64) ∨ (-(2 ^ 64)<j∧j<2 ^ 64)
theorem CMul.ok {i j:Int}(h:CMul i j):IntMulOk i j:=by
 rcases h with⟨h1,h2⟩|⟨h1,h2⟩
 ·exact .of_left (intBits_le_64 h1 h2)
 ·exact .of_right (intBits_le_64 h1 h2)
theorem d2b:OpR X (binaryOp .Add) (rI0 λi j=>.int (i+j)):=opI0 λ_ _ _ _ _ _ _ q=>add_int q
theorem d1t:OpR X (binaryOp .Sub) (rI0 λi j=>.int (i-j)):=opI0 λ_ _ _ _ _ _ _ q=>sub_int q
theorem d1w:OpR X (binaryOp .Mult) (rI CMul λi j=>.int (i*j)):=opI λ_ _ _ _ _ _ _ hc q=>mul_int q hc.ok
theorem c7r:OpR X (binaryOp .FloorDiv) (rI CDiv λi j=>.int (i / j)):=opI λi j _ _ _ _ _ hc q=>by
 have h1:(0:Int)<j:=hc.1
 have h2:j<1073741824:=hc.2
 exact floordiv_int (by lia) (by rw[Int.fdiv_eq_ediv_of_nonneg i (by lia)];exact q) (.inl (PyProof.noPylong_small (by lia)))
theorem d1x:OpR X (binaryOp .Mod) (rI (λ_ j=>0<j) λi j=>.int (i % j)):=opI λi j _ _ _ _ _ hc q=>by
 have h1:(0:Int)<j:=hc
 exact mod_int' (by lia) (by rw[Int.fmod_eq_emod_of_nonneg i (by lia)];exact q)
theorem d1v:OpR X (binaryOp .Pow) (rI CPow λi j=>.int (i ^ j.toNat)):=opI λ_ _ _ _ _ _ _ hc q=>pow_int_small hc.1 hc.2.1 hc.2.2 q
theorem unI {f:Value→Sem Value}{g:Int→Int}
  (rule:∀ (i:Int)(t:Tok)(s:Shared)(Q:Value→Shared→Prop)(E:Value→Shared→Prop),Q (.int (g i) s.toks) { s with toks:=s.toks+1 }→wpAny (model X.prog X.w) X.A (f (.int i t)) Q E s) :
  UnR X f (rU λi=>.int (g i)):=by
 intro pins s σ H x v Q I rx h
 obtain⟨i,rfl,q⟩:=h
 obtain⟨t,rfl⟩:=rx
 exact rule i t s _ _ ⟨.int (g i),H,I.tok _,⟨_,rfl⟩,q⟩
theorem d0c:UnR X (unaryOp .USub) (rU λi=>.int (-i)):=unI λ_ _ _ _ _ q=>neg_int q
end
def scal:V→V→Bool
 | .non,.non=>true|.non,.int _=>true|.int _,.non=>true|.non,.bl _=>true|.bl _,.non=>true|.non,.str _=>true|.str _,.non=>true
 | .int _,.int _=>true|.bl _,.bl _=>true|.str _,.str _=>true|.byt _,.byt _=>true
 | .int _,.str _=>true|.str _,.int _=>true|.bl _,.str _=>true|.str _,.bl _=>true
 | _,_=>false
def rEq:R2:=λx y H Q=>scal x y=true∧Q (.bl (decide (x=y))) H
def rNe:R2:=λx y H Q=>scal x y=true∧Q (.bl (!decide (x=y))) H
theorem c0f {i j:Int}:decide (V.int i=V.int j)=(i == j):=by
 rw[Bool.eq_iff_iff]
 simp
theorem c5q {i j:Bool}:decide (V.bl i=V.bl j)=(i == j):=by
 rw[Bool.eq_iff_iff]
 simp
theorem c0e {i j:Str}:decide (V.str i=V.str j)=(i == j):=by
 rw[Bool.eq_iff_iff]
 simp
theorem c0g {i j:Array UInt8}:decide (V.byt i=V.byt j)=(i.toList == j.toList):=by
 rw[Bool.eq_iff_iff]
 cases i
 cases j
 simp
section
variable {X:Cx}{a b c:Expr}{ta tb tc:TE}{pos:Pos}
theorem a0s {pins:List (Addr×Obj)}{σ:St}{H:Hp}{s:Shared}{Q:VK}{k k':Bool}(I:Inv X pins σ H s)(q:Q (.bl k) H)(e:k=k'):EP X pins σ Q (.bool k') s:=by
 subst e
 exact⟨.bl k,H,I,rfl,q⟩
theorem d8y:OpR X (compareOp .Eq) rEq:=by
 intro pins s σ H x y v u Q I rx ry h
 obtain⟨hs,q⟩:=h
 cases x with
 | non =>
  cases rx
  cases y with
  | non=>cases ry;exact PySem.EqNone.eq_none_none (a0s I q (by simp))
  | bl j=>cases ry;exact PySem.EqNone.eq_none_bool (a0s I q (by simp))
  | int j=>obtain⟨t',rfl⟩:=ry;exact PySem.EqNone.eq_none_int (a0s I q (by simp))
  | str j=>obtain⟨t',rfl⟩:=ry;exact PySem.EqNone.eq_none_str (a0s I q (by simp))
  | _=>exact absurd (show false=true from hs) Γk
 | bl i =>
  cases rx
  cases y with
  | non=>cases ry;exact PySem.EqNone.eq_bool_none (a0s I q (by simp))
  | bl j=>cases ry;exact eq_bool (a0s I q c5q)
  | str j=>obtain⟨t',rfl⟩:=ry;exact PySem.EqMixed.eq_bool_str (a0s I q (by simp))
  | _=>exact absurd (show false=true from hs) Γk
 | int i =>
  obtain⟨t,rfl⟩:=rx
  cases y with
  | non=>cases ry;exact PySem.EqNone.eq_int_none (a0s I q (by simp))
  | int j=>obtain⟨t',rfl⟩:=ry;exact eq_int (a0s I q c0f)
  | str j=>obtain⟨t',rfl⟩:=ry;exact PySem.EqMixed.eq_int_str (a0s I q (by simp))
  | _=>exact absurd (show false=true from hs) Γk
 | str i =>
  obtain⟨t,rfl⟩:=rx
  cases y with
  | non=>cases ry;exact PySem.EqNone.eq_str_none (a0s I q (by simp))
  | bl j=>cases ry;exact PySem.EqMixed.eq_str_bool (a0s I q (by simp))
  | int j=>obtain⟨t',rfl⟩:=ry;exact PySem.EqMixed.eq_str_int (a0s I q (by simp))
  | str j=>obtain⟨t',rfl⟩:=ry;exact eq_str (a0s I q c0e)
  | _=>exact absurd (show false=true from hs) Γk
 | byt i =>
  obtain⟨t,rfl⟩:=rx
  cases y with
  | byt j=>obtain⟨t',rfl⟩:=ry;exact PySem.W.eq_bytes (a0s I q c0g)
  | _=>exact absurd (show false=true from hs) Γk
 | _=>cases y<;>exact absurd (show false=true from hs) Γk
theorem d8t:OpR X (compareOp .NotEq) rNe:=by
 intro pins s σ H x y v u Q I rx ry h
 obtain⟨hs,q⟩:=h
 cases x with
 | non =>
  cases rx
  cases y with
  | non=>cases ry;exact PySem.EqNone.ne_none_none (a0s I q (by simp))
  | bl j=>cases ry;exact PySem.EqNone.ne_none_bool (a0s I q (by simp))
  | int j=>obtain⟨t',rfl⟩:=ry;exact PySem.EqNone.ne_none_int (a0s I q (by simp))
  | str j=>obtain⟨t',rfl⟩:=ry;exact PySem.EqNone.ne_none_str (a0s I q (by simp))
  | _=>exact absurd (show false=true from hs) Γk
 | bl i =>
  cases rx
  cases y with
  | non=>cases ry;exact PySem.EqNone.ne_bool_none (a0s I q (by simp))
  | bl j=>cases ry;exact ne_bool (a0s I q (congrArg not c5q))
  | str j=>obtain⟨t',rfl⟩:=ry;exact PySem.EqMixed.ne_bool_str (a0s I q (by simp))
  | _=>exact absurd (show false=true from hs) Γk
 | int i =>
  obtain⟨t,rfl⟩:=rx
  cases y with
  | non=>cases ry;exact PySem.EqNone.ne_int_none (a0s I q (by simp))
  | int j=>obtain⟨t',rfl⟩:=ry;exact ne_int (a0s I q (congrArg not c0f))
  | str j=>obtain⟨t',rfl⟩:=ry;exact PySem.EqMixed.ne_int_str (a0s I q (by simp))
  | _=>exact absurd (show false=true from hs) Γk
 | str i =>
  obtain⟨t,rfl⟩:=rx
  cases y with
  | non=>cases ry;exact PySem.EqNone.ne_str_none (a0s I q (by simp))
  | bl j=>cases ry;exact PySem.EqMixed.ne_str_bool (a0s I q (by simp))
  | int j=>obtain⟨t',rfl⟩:=ry;exact PySem.EqMixed.ne_str_int (a0s I q (by simp))
  | str j=>obtain⟨t',rfl⟩:=ry;exact ne_str (a0s I q (congrArg not c0e))
  | _=>exact absurd (show false=true from hs) Γk
 | byt i =>
  obtain⟨t,rfl⟩:=rx
  cases y with
  | byt j=>obtain⟨t',rfl⟩:=ry;exact PySem.W.ne_bytes (a0s I q (congrArg not c0g))
  | _=>exact absurd (show false=true from hs) Γk
 | _=>cases y<;>exact absurd (show false=true from hs) Γk
theorem d8u:OpR X (compareOp .Lt) (rI0 λi j=>.bl (decide (i<j))):=d4v λ_ _ _ _ _ _ _ q=>lt_int q
theorem d8v:OpR X (compareOp .LtE) (rI0 λi j=>.bl (decide (i≤j))):=d4v λ_ _ _ _ _ _ _ q=>le_int q
theorem d8w:OpR X (compareOp .Gt) (rI0 λi j=>.bl (decide (j<i))):=d4v λ_ _ _ _ _ _ _ q=>gt_int q
theorem d8x:OpR X (compareOp .GtE) (rI0 λi j=>.bl (decide (j≤i))):=d4v λ_ _ _ _ _ _ _ q=>ge_int q
theorem c7i {op:CmpOp}{r:R2}(ho:OpR X (compareOp op) r)(ha:PE X a ta)(hb:PE X b tb)(hm:behindInMarks op b=false):PE X (.Compare a [op] [b] pos) (tOp r ta tb):=by
 intro pins s σ H Q I h
 exact wpAny_Compare1 (e2o ha hb I h λv u s2 x y H2 I2 rx ry q=>ho pins s2 σ H2 x y v u Q I2 rx ry q) hm
def d6s (t:TE):TT:=λσ H Q=>t σ H λx H'=>∃ k,x=.bl k∧Q k H'
theorem c6v {op:CmpOp}{r:R2}(ho:OpR X (compareOp op) r)(ha:PE X a ta)(hb:PE X b tb)(hm:behindInMarks op b=false):PT X (.Compare a [op] [b] pos) (d6s (tOp r ta tb)):=by
 intro pins s σ H Q I h
 refine wpAny_isTrue_Compare1 (thn (ha pins s σ H _ I h) λv s1 ⟨x,H1,I1,r1,q1⟩=>thn (hb pins s1 σ H1 _ I1 q1) λu s2 ⟨y,H2,I2,r2,q2⟩ =>
  thn (ho pins s2 σ H2 x y v u _ I2 r1 r2 q2) λc s3 ⟨z,H3,I3,r3,k,e,q3⟩=>?_) hm
 subst e
 cases r3
 exact wpAny_truthy_bool ⟨H3,I3,q3⟩
def c4s (r r':R2)(ta tb tc:TE):TE:=λσ H Q=>ta σ H λx H1=>tb σ H1 λy H2=>r x y H2 λz H3=>∃ k,z=.bl k ∧
 (if k=true then tc σ H3 λw' H4=>r' y w' H4 Q else Q (.bl false) H3)
theorem c2p {op op':CmpOp}{r r':R2}(ho:OpR X (compareOp op) r)(ho':OpR X (compareOp op') r')(ha:PE X a ta)(hb:PE X b tb)(hc:PE X c tc)
  (hm:lastMarks [op,op'] [b,c]=false:=by with_unfolding_all rfl):PE X (.Compare a [op,op'] [b,c] pos) (c4s r r' ta tb tc):=by
 intro pins s σ H Q I h
 refine Compare_chain (thn (ha pins s σ H _ I h) λv s1 ⟨x,H1,I1,r1,q1⟩=>chain_link (thn (hb pins s1 σ H1 _ I1 q1) λu s2 ⟨y,H2,I2,r2,q2⟩ =>
  thn (ho pins s2 σ H2 x y v u _ I2 r1 r2 q2) λd s3 ⟨z,H3,I3,r3,k,e,q3⟩=>?_)) hm
 subst e
 cases r3
 refine wpAny_truthy_bool ?_
 cases k with
 | false=>exact ite_ff ⟨.bl false,H3,I3,rfl,q3⟩
 | true=>exact ite_tt (chain_last (thn (hc pins s3 σ H3 _ I3 q3) λw' s4 ⟨z',H4,I4,r4,q4⟩=>ho' pins s4 σ H4 y z' u w' Q I4 r2 r4 q4))
def d4p (K:Γd)(x:V)(H:Hp)(k:Bool):Prop :=
 match x with
 | .non=>k=false
 | .bl b=>k=b
 | .int i=>k=(i != 0)
 | .str y=>y.length≤sizeLine∧k=((y.length:Int) != 0)
 | .byt y=>y.size≤sizeLine∧k=((y.size:Int) != 0)
 | .ref p=>(∃ xs,SqL K H p xs∧k = !xs.isEmpty) ∨ (∃ xs,SqT K H p xs∧k = !xs.isEmpty) ∨ ∃ kvs,H p=some (.dK kvs)∧k = !kvs.isEmpty
 | _=>False
theorem b5i {κ:Type}{kvs:List (κ×V)}{vs:List (κ×Value)}(r:KV kvs vs):(!vs.isEmpty) = !kvs.isEmpty:=by
 cases r<;>rfl
theorem a8a {xs:List V}{its:List Value}(r:Vals xs its):(!its.toArray.isEmpty) = !xs.isEmpty:=by
 cases r<;>simp
theorem b0u:(sizeLine:Nat)<2 ^ 63:=by rw[sizeLine_eq];decide
theorem b6p:TruR X (λx H Q=>∃ k,d4p X.K x H k∧Q k H):=by
 intro pins s σ H x v Q I rx h
 obtain⟨k,e,q⟩:=h
 have hl:=b0u
 have hs:sizeLine=16777216:=sizeLine_eq
 cases x with
 | non =>
  cases rx
  have e':k=false:=e
  subst e'
  exact truthy_none ⟨H,I,q⟩
 | bl b =>
  cases rx
  have e':k=b:=e
  subst e'
  exact wpAny_truthy_bool ⟨H,I,q⟩
 | int i =>
  obtain⟨t,rfl⟩:=rx
  have e':k=(i != 0):=e
  subst e'
  exact PySem.P.truthy_int ⟨H,I,q⟩
 | str y =>
  obtain⟨t,rfl⟩:=rx
  obtain⟨hy,e'⟩:y.length≤sizeLine∧k=((y.length:Int) != 0):=e
  subst e'
  exact PySem.P.truthy_str (by lia) ⟨H,I.tok _,q⟩
 | byt y =>
  obtain⟨t,rfl⟩:=rx
  obtain⟨hy,e'⟩:y.size≤sizeLine∧k=((y.size:Int) != 0):=e
  subst e'
  exact PySem.W.truthy_bytes (by lia) ⟨H,I.tok _,q⟩
 | ref p =>
  cases rx
  have e':(∃ xs,SqL X.K H p xs∧k = !xs.isEmpty) ∨ (∃ xs,SqT X.K H p xs∧k = !xs.isEmpty) ∨ ∃ kvs,H p=some (.dK kvs)∧k = !kvs.isEmpty:=e
  rcases e' with⟨xs,hx,e'⟩|⟨xs,hx,e'⟩|⟨kvs,hx,e'⟩
  ·subst e'
   obtain⟨its,r,pl,hz⟩:=I.list hx
   have hlen:=r.length
   exact wpAny_truthy_list pl.isList (by simp only[List.size_toArray];lia) ⟨H,I.tok _,by rw[a8a r];exact q⟩
  ·subst e'
   obtain⟨its,r,pl,hz⟩:=I.tuple hx
   have hlen:=r.length
   exact truthy_tuple pl (by simp only[List.size_toArray];lia) ⟨H,I.tok _,by rw[a8a r];exact q⟩
  ·subst e'
   obtain⟨hz,hS,vs,r,m⟩:kvs.length≤sizeLine∧(p == sysModules)=false∧∃ vs,KV kvs vs∧s.heap.DictOf (a0w X.prog X.w) p vs:=I.hok p _ hx
   have hlen:kvs.length=vs.length:=Paired.length r
   exact wpAny_truthy_dict hS m (by lia) ⟨H,I.tok _,by rw[b5i r];exact q⟩
 | _=>exact (show False from e).elim
theorem c2c (ha:PE X a ta)(he:∀ a3d,isTrue a X.env a3d=(do let v ← a3d;standAt a.pos;holding [v] (truthy v))) :
  PT X a (λσ H Q=>ta σ H λx H'=>∃ k,d4p X.K x H' k∧Q k H'):=by
 intro pins s σ H Q I h
 exact isTrue_plain (thn (ha pins s σ H _ I h) λv s1 ⟨x,H1,I1,r1,q1⟩=>b6p pins s1 σ H1 x v Q I1 r1 q1) (he _)
theorem a4e {x:V}{us:List Value}(r:Vals [x] us):∃ u,us=[u]∧RelV x u:=by
 cases r with
 | cons r1 r2=>cases r2;exact⟨_,rfl,r1⟩
theorem a9y {x y:V}{us:List Value}(r:Vals [x,y] us):∃ u w',us=[u,w']∧RelV x u∧RelV y w':=by
 cases r with
 | cons r1 r2 =>
  cases r2 with
  | cons r3 r4=>cases r4;exact⟨_,_,rfl,r1,r3⟩
theorem c4g:a1k X (.builtin "abs") (λxs H Q=>∃ i,xs=[.int i]∧Q (.int (if i<0 then -i else i)) H):=by
 intro pins s σ H xs us Q I r h
 obtain⟨i,rfl,q⟩:=h
 obtain⟨u,rfl,t,rfl⟩:=a4e r
 exact call_abs_int λu tk=>⟨.int (if i<0 then -i else i),H,I.tok _,⟨_,rfl⟩,q⟩
theorem c0w (hc:X.calm=true):a1k X (.builtin "min") (λxs H Q=>∃ i j,xs=[.int i,.int j]∧Q (.int (if j<i then j else i)) H):=by
 intro pins s σ H xs us Q I r h
 obtain⟨i,j,rfl,q⟩:=h
 obtain⟨u,w',rfl,⟨t,rfl⟩,⟨t',rfl⟩⟩:=a9y r
 refine min_two_ints (I.ok.hd hc) λh' tk k=>⟨_,H,I.kept k,?_,q⟩
 by_cases hj:j<i
 ·rw[if_pos hj,if_pos hj];exact⟨_,rfl⟩
 ·rw[if_neg hj,if_neg hj];exact⟨_,rfl⟩
theorem b1m:a1k X (.type "int") (λxs H Q=>(∃ i,xs=[.int i]∧Q (.int i) H) ∨ ∃ k,xs=[.bl k]∧Q (.int (if k then 1 else 0)) H):=by
 intro pins s σ H xs us Q I r h
 rcases h with⟨i,rfl,q⟩|⟨k,rfl,q⟩
 ·obtain⟨u,rfl,t,rfl⟩:=a4e r
  exact call_int_int ⟨.int i,H,I,⟨_,rfl⟩,q⟩
 ·obtain⟨u,rfl,r1⟩:=a4e r
  cases r1
  exact call_int_bool ⟨.int (if k then 1 else 0),H,I.tok _,⟨_,rfl⟩,q⟩
end
end L2
namespace L2
open PySem PySem.Spec PyProof.Rows
structure ObjM (h:Heap)(x dx C:Addr)(mA:Str→Option Value):Prop where
 obj:h.get? x=some (PySem.W.instObj C dx)
 ns:h.Ns1 dx mA
 ne:dx≠x
theorem b8t {h:Heap}{dx:Addr}{mA:Str→Option Value}(n:h.Ns1 dx mA):∃ od,h.get? dx=some od∧∀ name,PySem.W.lookIn name od=some (mA name):=by
 obtain⟨o,es,ep,ho,hd,hk,_,hm⟩:=n
 refine⟨o,ho,λname=>?_⟩
 have e:=hm name
 unfold nsFind findBy at e
 rw[← Array.find?_toList] at e
 unfold PySem.W.lookIn
 rw[hd]
 dsimp only
 split
 ·rename_i y q
  rw[q] at e
  exact congrArg some e
 ·rename_i q
  rw[q] at e
  have a:es.toList.any (·.refKey)=false:=by
   rw[List.any_eq_false]
   intro y hy
   obtain⟨z,t,hkey⟩:=hk y (Array.mem_toList_iff.mp hy)
   simp[DictEntry.refKey,hkey]
  have a':¬ es.toList.any (·.refKey)=true:=by rw[a];exact Γk
  rw[if_neg a']
  exact congrArg some e
theorem ObjM.look {h:Heap}{x dx C:Addr}{mA:Str→Option Value}(I:ObjM h x dx C mA):∃ od,PySem.W.InstAt h x (PySem.W.instObj C dx) C (some od)∧∀ name,PySem.W.lookIn name od=some (mA name) :=
 let ⟨od,ho,hl⟩:=b8t I.ns
 ⟨od,⟨I.obj,rfl,rfl,ho⟩,hl⟩
section
variable {prog:Program}{w:World}{A:Around}{E:Value→Shared→Prop}{s:Shared}{K:Γd}{x dx C f:Addr}{mA:Str→Option Value}{name:Str}{v:Value}
theorem c8p {expr:Bool}{Q:Value→Shared→Prop}(X:K.In s.heap)(I:ObjM s.heap x dx C mA)(hg:PySem.W.plainGet K C name=true)(hh:PySem.W.hasDictIn K C=true)
  (ha:PySem.W.findIn K (.ref C) name=some none)(hv:mA name=some v)(hv':PySem.W.handedIn v=true)(h:Q v { s with toks:=s.toks+1 }) :
  wpAny (model prog w) A (getAttr (.ref x) name expr) Q E s:=by
 obtain⟨od,J,hl⟩:=I.look
 exact PySem.W.get_value X J (PySem.W.plainGet_of hg).1 (PySem.W.findObj_own hh ha rfl (by rw[hl,hv])) hv' h
theorem c3m {pl:Sem Bool}{Q:Value×List Value→Shared→Prop}(X:K.In s.heap)(I:ObjM s.heap x dx C mA)(hg:PySem.W.plainGet K C name=true)
  (hf:PySem.W.findIn K (.ref C) name=some (some (.ref f)))(ht:PySem.W.isFn K (.ref f)=true)(hv:mA name=none)(h:Q (.ref f,[.ref x]) s) :
  wpAny (model prog w) A (getMethod (.ref x) name pl) Q E s:=by
 obtain⟨od,J,hl⟩:=I.look
 exact PySem.W.method_fn X J (PySem.W.plainGet_of hg).1 (PySem.W.plainGet_of hg).2 hf (beq_iff_eq.mp ht) (by show (PySem.W.lookIn name od).map (·.isSome)=some false;rw[hl,hv];rfl) h
theorem c6j {ns:List Str}{Q:Unit→Shared→Prop}(X:K.In s.heap)(I:ObjM s.heap x dx C mA)
  (hs:PySem.W.findIn K (.ref C) "__setattr__" = some (some (.builtin "object.__setattr__")))(hp:PySem.W.plainOver K C=true)(ht:PySem.W.takerIn K C name=some none)(hh:PySem.W.hasDictIn K C=true)
  (hw:PySem.Within mA ns)(hsz:ns.length≤sizeLine)
  (h:∀ h',ObjM h' x dx C (λy=>if y=name then some v else mA y)→Heap.SameBut dx s.heap h'→Q () { s with heap:=h',toks:=s.toks+2 }) :
  wpAny (model prog w) A (setAttr (.ref x) name v) Q E s:=by
 obtain⟨od,J,hl⟩:=I.look
 refine PySem.W.set_plain X J hs (PySem.W.osa_open (s:={ s with toks:=s.toks+1 }) (r:=none) X J hp ht λb=>?_)
 obtain⟨cd,hc,hd'⟩:=PySem.W.any_some hh
 have hx:s.heap.get? x=some ⟨.ref C,some dx,.plain,#[]⟩:=I.obj
 refine Γa (Γb (Γa (Γa (wpAny_loadPart hx (Γa (PySem.W.Looks.here (s:={ s with toks:=s.toks+1 }) (PySem.W.looks_clsIn X hc) ?_))))))
 rw[hd']
 refine Γb (a:=some dx) (Γa (Γb (Γa ?_)))
 refine wpAny_nsSet1 (s:={ s with toks:=s.toks+1 }) I.ns λh' hn2 hs2=>?_
 obtain⟨oD,esD,epD,hoD,hdD,hcD⟩:=hn2.count (PySem.Within.cons name v hw)
 refine Γa (wpAny_lookBehind hoD (by rw[hdD];exact pastItsLine_dict (Nat.le_trans hcD (by rw[List.length_cons];lia))) ?_)
 exact Γb (h _ ⟨(hs2.2 _ (Ne.symm I.ne)).trans I.obj,hn2,I.ne⟩ hs2)
theorem c2x {R:Result→Shared→Prop}{vs:List Value}{kw:List (Str×Value)}(X:K.In s.heap)(hm:PySem.W.makesIn K C=true)
  (hi:PySem.W.findIn K (.ref C) "__init__" = some (some (.ref f)))(hf:PySem.W.typeIn K (.ref f)=some (.type "function"))
  (h:codeAny (model prog w) (A.under (.builtin "type.__call__" ⟨.ref C :: vs,kw⟩)) (.call (.ref f) ⟨.ref (s.heap.objs.size+1) :: vs,kw⟩) (PySem.W.InitBack (s.heap.objs.size+1) R)
   { s with heap:=(s.heap.push PySem.W.emptyDict).push (PySem.W.instObj C s.heap.objs.size) }) :
  codeAny (model prog w) A (.call (.ref C) ⟨vs,kw⟩) R s:=by
 obtain⟨hh,g,d,t,os⟩:=s
 exact PySem.W.make_core (PySem.W.makes_of X hm) (PySem.W.looks_findIn X hi) (λself=>PySem.W.bind_fn X self hf) (.inl rfl) h
end
def a5b (f:Str)(v:V):List (Str×V)→List (Str×V)
 | []=>[(f,v)]
 | (g,x) :: r=>if g=f then (g,v) :: r else (g,x) :: a5b f v r
theorem a6f (f g:Str)(v:V):∀ fs:List (Str×V),(a5b f v fs).lookup g=if g=f then some v else fs.lookup g
 | []=>by
  show List.lookup g [(f,v)]=_
  by_cases h:g=f
  ·have hb:(g == f)=true:=beq_iff_eq.mpr h
   simp only[List.lookup,hb,if_pos h]
  ·have hb:(g == f)=false:=beq_eq_false_iff_ne.mpr h
   simp only[List.lookup,hb,if_neg h]
 | (k,x) :: r=>by
  have ih:=a6f f g v r
  rw[show a5b f v ((k,x) :: r)=(if k=f then (k,v) :: r else (k,x) :: a5b f v r) from rfl]
  by_cases hk:k=f
  ·rw[if_pos hk]
   by_cases h:g=k
   ·have hb:(g == k)=true:=beq_iff_eq.mpr h
    simp only[List.lookup,hb,if_pos (h.trans hk)]
   ·have hb:(g == k)=false:=beq_eq_false_iff_ne.mpr h
    simp only[List.lookup,hb,if_neg (λe:g=f=>h (e.trans hk.symm))]
  ·rw[if_neg hk]
   by_cases h:g=k
   ·have hb:(g == k)=true:=beq_iff_eq.mpr h
    simp only[List.lookup,hb,if_neg (λe:g=f=>hk (h.symm.trans e))]
   ·have hb:(g == k)=false:=beq_eq_false_iff_ne.mpr h
    simp only[List.lookup,hb]
    exact ih
theorem a6j (f:Str)(v:V):∀ fs:List (Str×V),f∈(a5b f v fs).map (·.1)∧∀ g,g∈fs.map (·.1)→g∈(a5b f v fs).map (·.1)
 | []=>⟨by simp[a5b],λg h=>by simp at h⟩
 | (k,x) :: r=>by
  obtain⟨i1,i2⟩:=a6j f v r
  rw[show a5b f v ((k,x) :: r)=(if k=f then (k,v) :: r else (k,x) :: a5b f v r) from rfl]
  by_cases hk:k=f
  ·rw[if_pos hk]
   subst hk
   exact⟨by simp,λg h=>by simpa using h⟩
  ·rw[if_neg hk]
   refine⟨?_,λg h=>?_⟩
   ·rw[List.map_cons]
    exact Γh _ i1
   ·rw[List.map_cons] at h ⊢
    rcases List.mem_cons.mp h with e|e
    ·exact List.mem_cons.mpr (.inl e)
    ·exact Γh _ (i2 g e)
theorem a6g (f:Str)(v:V):∀ fs:List (Str×V),(a5b f v fs).length≤fs.length+1
 | []=>by simp[a5b]
 | (k,x) :: r=>by
  have ih:=a6g f v r
  rw[show a5b f v ((k,x) :: r)=(if k=f then (k,v) :: r else (k,x) :: a5b f v r) from rfl]
  by_cases hk:k=f
  ·rw[if_pos hk,List.length_cons,List.length_cons];lia
  ·rw[if_neg hk,List.length_cons,List.length_cons];lia
theorem RelO.some_of {v:V}{o:Option Value}(r:RelO (some v) o):∃ u,o=some u∧RelV v u:=by
 cases o with
 | none=>exact (show False from r).elim
 | some u=>exact⟨u,rfl,r⟩
theorem RelO.none_of {o:Option Value}(r:RelO none o):o=none:=by
 cases o with
 | none=>rfl
 | some u=>exact (show False from r).elim
theorem b9i {v:V}{u:Value}(r:RelV v u):PySem.W.handedIn u=true:=by
 cases v with
 | non=>cases (show u=Value.none from r);rfl
 | bl b=>cases (show u=Value.bool b from r);rfl
 | int i=>obtain⟨t,e⟩:=(show ∃ t,u=Value.int i t from r);cases e;rfl
 | str x=>obtain⟨t,e⟩:=(show ∃ t,u=Value.str x t from r);cases e;rfl
 | byt b=>obtain⟨t,e⟩:=(show ∃ t,u=Value.bytes b t from r);cases e;rfl
 | flt b=>obtain⟨t,e⟩:=(show ∃ t,u=Value.float b t from r);cases e;rfl
 | ref a=>cases (show u=Value.ref a from r);rfl
 | ty n=>cases (show u=Value.type n from r);rfl
section
variable {P:Program}{w:World}{H H':Hp}{h h':Heap}{a C dx:Addr}{fs fs':List (Str×V)}
theorem a9m (hok:HOk P w H h)(e:H a=some (.ins C dx fs)):∃ mA,ObjM h a dx C mA∧(∀ f,RelO (fs.lookup f) (mA f))∧PySem.Within mA (fs.map (·.1))∧fs.length≤1000∧H dx=some (.own a):=by
 obtain⟨d,z,ne,ob,mA,n,r,q⟩:=(show ObjOk P w H h a (.ins C dx fs) from hok a _ e)
 exact⟨mA,⟨ob,n,ne⟩,r,q,z,d⟩
end
structure Cls (K:Γd)(C:Addr):Prop where
 pg:PySem.W.plainGet K C Str.empty=true
 hd:PySem.W.hasDictIn K C=true
 po:PySem.W.plainOver K C=true
 sa:PySem.W.findIn K (.ref C) "__setattr__" = some (some (.builtin "object.__setattr__"))
theorem Cls.get {K:Γd}{C:Addr}(c:Cls K C)(f:Str):PySem.W.plainGet K C f=true:=c.pg
def NoAttr (K:Γd)(C:Addr)(f:Str):Prop:=PySem.W.findIn K (.ref C) f=some none
theorem NoAttr.taker {K:Γd}{C:Addr}{f:Str}(n:NoAttr K C f):PySem.W.takerIn K C f=some none:=by
 unfold PySem.W.takerIn
 rw[show PySem.W.findIn K (.ref C) f=some none from n]
 rfl
structure Con (K:Γd)(C:Addr)(f:Str)(v:V)(u:Value):Prop where
 at_:PySem.W.findIn K (.ref C) f=some (some u)
 rel:RelV v u
 get:PySem.W.specialIn K u "__get__" = some none
 cp:PySem.W.copiedNames.contains f=false
structure Meth (K:Γd)(C:Addr)(m:Str)(f:Addr):Prop where
 at_:PySem.W.findIn K (.ref C) m=some (some (.ref f))
 fn:PySem.W.isFn K (.ref f)=true
 kp:PySem.W.keepIn K (.ref f)=true
section
variable {X:Cx}{pins:List (Addr×Obj)}{σ:St}{H:Hp}{s:Shared}{a C dx:Addr}{fs:List (Str×V)}{f:Str}{v:V}{A:Around}{E:Value→Shared→Prop}
theorem a8b {b:Bool}{Q:Value→Shared→Prop}(I:Inv X pins σ H s)(e:H a=some (.ins C dx fs))(c:Cls X.K C)(n:NoAttr X.K C f)(l:fs.lookup f=some v)
  (h:∀ u s',Inv X pins σ H s'→RelV v u→Q u s'):wpAny (model X.prog X.w) A (getAttr (.ref a) f b) Q E s:=by
 obtain⟨mA,O,r,_,_,_⟩:=a9m I.hok e
 obtain⟨u,hu,ru⟩:=RelO.some_of (v:=v) (o:=mA f) (by rw[← l];exact r f)
 exact c8p I.kIn O (c.get f) c.hd n hu (b9i ru) (h u _ (I.tok _) ru)
theorem a4y {m:Str}{g:Addr}{pl:Sem Bool}{Q:Value×List Value→Shared→Prop}(I:Inv X pins σ H s)(e:H a=some (.ins C dx fs))(c:Cls X.K C)(k:Meth X.K C m g)(l:fs.lookup m=none)
  (h:Q (.ref g,[.ref a]) s):wpAny (model X.prog X.w) A (getMethod (.ref a) m pl) Q E s:=by
 obtain⟨mA,O,r,_,_,_⟩:=a9m I.hok e
 have hn:mA m=none:=RelO.none_of (by rw[← l];exact r m)
 exact c3m I.kIn O (c.get m) k.at_ k.fn hn h
theorem a7q {y:V}{u:Value}{Q:Unit→Shared→Prop}(I:Inv X pins σ H s)(e:H a=some (.ins C dx fs))(c:Cls X.K C)(n:NoAttr X.K C f)(hl:fs.length<1000)(ry:RelV y u)
  (h:∀ s',Inv X pins σ (upd H a (.ins C dx (a5b f y fs))) s'→Q () s'):wpAny (model X.prog X.w) A (setAttr (.ref a) f u) Q E s:=by
 obtain⟨mA,O,r,wi,_,ho⟩:=a9m I.hok e
 have hz:(fs.map (·.1)).length≤sizeLine:=by rw[List.length_map,sizeLine_eq];lia
 refine c6j I.kIn O c.sa c.po n.taker c.hd wi hz λh' O' sb=>h _ ?_
 have hd:∃ o,h'.get? dx=some o:=let ⟨o,_,_,e',_⟩:=O'.ns;⟨o,e'⟩
 refine I.write (x:=a) (e:=dx) (by rw[e];exact True.intro) (.inr ho) (λb q hb z=>(sb.2 b hb).trans z) hd ?_
 refine⟨by rw[a0c O.ne];exact ho,?_,O.ne,O'.obj,_,O'.ns,λg=>?_,λg hg=>?_⟩
 ·have:=a6g f y fs;lia
 ·show RelO ((a5b f y fs).lookup g) (if g=f then some u else mA g)
  rw[a6f]
  by_cases q:g=f
  ·rw[if_pos q,if_pos q];exact ry
  ·rw[if_neg q,if_neg q];exact r g
 ·by_cases q:g=f
  ·rw[q];exact (a6j f y fs).1
  ·refine (a6j f y fs).2 g (wi g λz=>hg ?_)
   show (if g=f then some u else mA g)=none
   rw[if_neg q];exact z
theorem Inv.made (I:Inv X pins σ H s):Inv X pins σ (upd (upd H s.heap.objs.size (.own (s.heap.objs.size+1))) (s.heap.objs.size+1) (.ins C s.heap.objs.size []))
  { s with heap:=(s.heap.push PySem.W.emptyDict).push (PySem.W.instObj C s.heap.objs.size) }:=by
 have e1:(s.heap.push PySem.W.emptyDict).get? s.heap.objs.size=some PySem.W.emptyDict:=Γm s.heap rfl
 have e2:((s.heap.push PySem.W.emptyDict).push (PySem.W.instObj C s.heap.objs.size)).get? (s.heap.objs.size+1)=some (PySem.W.instObj C s.heap.objs.size):=by
  have:=Γm (s.heap.push PySem.W.emptyDict) (o:=PySem.W.instObj C s.heap.objs.size) rfl
  rwa [Heap.size_push] at this
 have e3:(s.heap.push PySem.W.emptyDict).Ns s.heap.objs.size (λ_=>none):=⟨PySem.W.emptyDict,#[],_,e1,rfl,(λe he=>absurd he (by simp)),λ_=>rfl⟩
 have I1:=I.laid (a:=s.heap.objs.size) (o:=.own (s.heap.objs.size+1)) (h':=s.heap.push PySem.W.emptyDict) (t':=s.toks) (λb u q=>Γc _ q) (Γi _) ⟨_,e1⟩
 refine I1.laid (a:=s.heap.objs.size+1) (o:=.ins C s.heap.objs.size []) (t':=s.toks) (λb u q=>Γc _ q) (Nat.le_of_eq (Heap.size_push _ _)) ?_
 have ne:s.heap.objs.size≠s.heap.objs.size+1:=Γo (Nat.lt_succ_self _)
 refine⟨by rw[a0c ne,a0e],Nat.zero_le _,ne,e2,λ_=>none,(Heap.Ns1.of_empty e3).at λo q=>Γc _ q,λ_=>True.intro,λy hy=>absurd rfl hy⟩
theorem c9j {prog:Program}{w:World}{env:Env}{e:Expr}{f:Str}{pos:Pos}{s:Shared}{Q:Value→Shared→Prop}(hb:attributeBase e f env (eval e env)=eval e env)
  (h:wpAny (model prog w) A (eval e env) (λo s₁=>wpAny (model prog w) A (getAttr o f true) Q E s₁) E s):wpAny (model prog w) A (eval (.Attribute e f pos) env) Q E s :=
 Attribute_any_ h (by rw[arm_eval_Attribute,hb])
end
def InOp (X:Cx)(op:Operator)(rd:V→V→Hp→VK→Prop):Prop :=
 ∀ (pins:List (Addr×Obj))(s:Shared)(σ:St)(H:Hp)(x y:V)(u v:Value)(Q:VK),Inv X pins σ H s→RelV x u→RelV y v→rd x y H Q→wpAny (model X.prog X.w) X.A (inplaceOp op u v) (EP X pins σ Q) X.xe s
section
variable {X:Cx}{o e value:Expr}{f:Str}{pos pos' tpos:Pos}{ta tv:TE}
end
section
variable {X:Cx}{pins:List (Addr×Obj)}{σ:St}{H:Hp}{s:Shared}{A:Around}{E:Value→Shared→Prop}{Q:Value→Shared→Prop}{c:Value}{b:Bool}
inductive TyOf (K:Γd)(H:Hp):V→Value→Prop where
 | non:TyOf K H .non (.type "NoneType")
 | bl (x:Bool):TyOf K H (.bl x) (.type "bool")
 | int (i:Int):TyOf K H (.int i) (.type "int")
 | str (x:Str):TyOf K H (.str x) (.type "str")
 | flt (x:UInt64):TyOf K H (.flt x) (.type "float")
 | lst {a:Addr}{xs:List V}(e:H a=some (.lst xs)):TyOf K H (.ref a) (.type "list")
 | frz {a:Addr}{o:Obj}{xs:List V}(e:H a=some (.frz o (.lst xs))):TyOf K H (.ref a) (.type "list")
 | tup {a:Addr}{xs:List V}(e:H a=some (.tup xs)):TyOf K H (.ref a) (.type "tuple")
 | dK {a:Addr}{kvs:List (Key×V)}(e:H a=some (.dK kvs)):TyOf K H (.ref a) (.type "dict")
 | dT {a:Addr}{kvs:List (List Key×V)}(e:H a=some (.dT kvs)):TyOf K H (.ref a) (.type "dict")
 | ins {a C dx:Addr}{fs:List (Str×V)}(e:H a=some (.ins C dx fs))(cl:Cls K C)(ha:PySem.W.findIn K (.ref C) "__class__" = some (some (.builtin "object.__class__")))
   (hn:PySem.W.specialIn K (.builtin "object.__class__") "__get__" = some (some (.builtin "getset_descriptor.__get__")))(htk:PySem.W.takesIn K (.builtin "object.__class__")=some true)
   (hm:PySem.W.mroIn K C (.type "object")=some true):TyOf K H (.ref a) (.ref C)
theorem b9b {x:V}{u t:Value}(I:Inv X pins σ H s)(rx:RelV x u)(ty:TyOf X.K H x t)(e:PySem.W.kitOne X.K t c=some b)(h:∀ tk,Q (.bool b) { s with toks:=tk }) :
  wpAny (model X.prog X.w) A (call (.builtin "isinstance") [u,c]) Q E s:=by
 cases ty with
 | non=>cases (show u=Value.none from rx);exact PySem.W.kia_one PySem.W.kitx_none I.kIn True.intro e (λz=>nomatch z) h
 | bl y=>cases (show u=Value.bool y from rx);exact PySem.W.kia_one PySem.W.kitx_bool I.kIn True.intro e (λz=>nomatch z) h
 | int i=>obtain⟨t,q⟩:=(show ∃ t,u=Value.int i t from rx);cases q;exact PySem.W.kia_one PySem.W.kitx_int I.kIn True.intro e (λz=>nomatch z) h
 | str y=>obtain⟨t,q⟩:=(show ∃ t,u=Value.str y t from rx);cases q;exact PySem.W.kia_one PySem.W.kitx_str I.kIn True.intro e (λz=>nomatch z) h
 | flt y=>obtain⟨t,q⟩:=(show ∃ t,u=Value.float y t from rx);cases q;exact PySem.W.kia_one PySem.W.kitx_float I.kIn True.intro e (λz=>nomatch z) h
 | @lst a xs ea =>
  cases (show u=Value.ref a from rx)
  obtain⟨_,_,n,_,h1⟩:=(show ObjOk X.prog X.w H s.heap a (.lst xs) from I.hok a _ ea)
  exact PySem.W.kia_one PySem.W.kitx_list I.kIn ⟨_,h1,rfl⟩ e (λz=>nomatch z) h
 | @frz a ob xs ea =>
  cases (show u=Value.ref a from rx)
  obtain⟨_,_,_,n,_,h1⟩:=(show ObjOk X.prog X.w H s.heap a (.frz ob (.lst xs)) from I.hok a _ ea)
  exact PySem.W.kia_one PySem.W.kitx_list I.kIn ⟨_,h1,rfl⟩ e (λz=>nomatch z) h
 | @tup a xs ea =>
  cases (show u=Value.ref a from rx)
  obtain⟨_,_,_,p⟩:=(show ObjOk X.prog X.w H s.heap a (.tup xs) from I.hok a _ ea)
  obtain⟨o,h1,h2,_⟩:=p
  exact PySem.W.kia_one PySem.W.kitx_tuple I.kIn ⟨o,h1,h2⟩ e (λz=>nomatch z) h
 | @dK a kvs ea =>
  cases (show u=Value.ref a from rx)
  obtain⟨_,_,vs,_,p⟩:=(show ObjOk X.prog X.w H s.heap a (.dK kvs) from I.hok a _ ea)
  obtain⟨o,es,ep,h1,h2,_⟩:=p
  exact PySem.W.kia_one PySem.W.kitx_dict I.kIn ⟨o,h1,h2.1⟩ e (λz=>nomatch z) h
 | @dT a kvs ea =>
  cases (show u=Value.ref a from rx)
  obtain⟨_,_,xs,_,o,es,ep,h1,h2,_⟩:=(show ObjOk X.prog X.w H s.heap a (.dT kvs) from I.hok a _ ea)
  exact PySem.W.kia_one PySem.W.kitx_dict I.kIn ⟨o,h1,h2.1⟩ e (λz=>nomatch z) h
 | @ins a C dx fs ea cl ha hn htk hm =>
  cases (show u=Value.ref a from rx)
  obtain⟨mA,O,_⟩:=a9m I.hok ea
  obtain⟨od,J,_⟩:=O.look
  exact PySem.W.kia_one (PySem.W.kitx_own (cl.get _) cl.hd ha hn htk hm) I.kIn J e (λz=>nomatch z) h
end
end L2
namespace L2
open PySem PySem.Spec PyProof.Rows
structure Room (k:Nat)(A:Around):Prop where
 hd:A.handled=none
 dp:A.depth+3*k+5<recursionLimit
 un:A.units+16*k+200<cLine
 gd:A.guards=some []
theorem Room.mono {j k:Nat}{A:Around}(r:Room k A)(h:j≤k):Room j A:=⟨r.hd,by have:=r.dp;lia,by have:=r.un;lia,r.gd⟩
theorem Room.deeper {k:Nat}{A:Around}(r:Room (k+1) A)(env:Env):Room k (A.deeper env) :=
 ⟨r.hd,by have:=r.dp;show A.depth+1+3*k+5<_;lia,by have:=r.un;show A.units+3+16*k+200<_;lia,r.gd⟩
structure RoomS (k:Nat)(A:Around):Prop extends Room k A where
 dp2:A.depth+3*k+7<recursionLimit
 un2:A.units+16*k+210<cLine
theorem Room.deeperS {k:Nat}{A:Around}(r:Room (k+1) A)(env:Env):RoomS k (A.deeper env) :=
 ⟨r.deeper env,by have:=r.dp;show A.depth+1+3*k+7<_;lia,by have:=r.un;show A.units+3+16*k+210<_;lia⟩
theorem b5b {A:Around}{C:Addr}{us:List Value}{kw:List (Str×Value)}:(A.under (.builtin "type.__call__" ⟨.ref C :: us,kw⟩)).depth=A.depth+1:=by
 first|rfl|simp[Around.under,Code.weight,Code.isCreation,Code.isGuard,Code.isCaller,Code.frames,Code.isFrame,guardIds]
theorem b5a {A:Around}{C:Addr}{us:List Value}{kw:List (Str×Value)}:(A.under (.builtin "type.__call__" ⟨.ref C :: us,kw⟩)).units=A.units+1:=by
 first|rfl|simp[Around.under,Code.cUnits,Code.frames,Code.isFrame]
theorem b2p {A:Around}{C:Addr}{us:List Value}{kw:List (Str×Value)}:(A.under (.builtin "type.__call__" ⟨.ref C :: us,kw⟩)).guards=A.guards:=by
 cases h:A.guards<;>simp[Around.under,Code.guards,Code.isGuard,guardIds,pushGuards,h]
theorem RoomS.make {k:Nat}{A:Around}(r:RoomS k A)(C:Addr)(us:List Value)(kw:List (Str×Value)):Room k (A.under (.builtin "type.__call__" ⟨.ref C :: us,kw⟩)) :=
 ⟨r.hd,by have:=r.dp2;rw[b5b];lia,by have:=r.un2;rw[b5a];lia,by rw[b2p];exact r.gd⟩
theorem Room.depth {k:Nat}{A:Around}(r:Room k A):A.depth<recursionLimit:=by have:=r.dp;lia
theorem Room.units {k:Nat}{A:Around}(r:Room k A):A.units+64<cLine:=by have:=r.un;lia
def d6w:TA:=λ_ H Q=>Q [] H
def c1p (ta:TE)(tr:TA):TA:=λσ H Q=>ta σ H λx H1=>tr σ H1 λxs H2=>Q (x :: xs) H2
section
variable {X:Cx}{e:Expr}{es:List Expr}{te:TE}{t:TA}{pos:Pos}
theorem a0y:PA X [] d6w:=λ_ _ _ _ H Q I h=>Calls.spliced_nil ⟨[],H,I,.nil,h⟩
theorem a0h (ha:PE X e te)(hr:PA X es t)(hs:starEach (e :: es) X.env=(false,eval e X.env) :: starEach es X.env:=by rfl):PA X (e :: es) (c1p te t):=by
 intro pos pins s σ H Q I h
 rw[hs]
 show wpAny _ _ (spliced ((false,eval e X.env) :: backTo pos (starEach es X.env))) _ _ s
 refine Calls.spliced_cons (thn (ha pins s σ H _ I h) λu s1 ⟨x,H1,I1,r1,q1⟩=>?_)
 exact thn (hr pos pins s1 σ H1 _ I1 q1) λus s2 ⟨xs,H2,I2,r2,q2⟩=>⟨x :: xs,H2,I2,.cons r1 r2,q2⟩
def tTup (t:TA):TE:=λσ H Q=>t σ H λxs H1=>xs.length≤sizeLine∧∀ p,H1 p=none→Q (.ref p) (upd H1 p (.tup xs))
def tLst (t:TA):TE:=λσ H Q=>t σ H λxs H1=>xs.length≤sizeLine∧∀ p,H1 p=none→Q (.ref p) (upd H1 p (.lst xs))
theorem b3n {x1}(h:PA X es t):PE X (.Tuple es x1 pos) (tTup t):=by
 intro pins s σ H Q I hq
 refine wpAny_Tuple_spliced (thn (h pos pins s σ H _ I hq) λus s1 ⟨xs,H1,I1,r,z,q⟩=>⟨by rw[← r.length];exact z,?_⟩)
 have hf:H1 s1.heap.objs.size=none:=I1.hok.fresh (Γi _)
 refine⟨.ref s1.heap.objs.size,upd H1 s1.heap.objs.size (.tup xs),I1.laid (t':=s1.toks) (λb u e=>Γc _ e) (Γi _) ?_,rfl,q _ hf⟩
 exact⟨z,us,r,⟨_,Γm _ rfl,rfl,_,rfl⟩⟩
theorem b8a (h:PA X es t):PE X (.List es pos) (tLst t):=by
 intro pins s σ H Q I hq
 refine wpAny_List_spliced (thn (h pos pins s σ H _ I hq) λus s1 ⟨xs,H1,I1,r,z,q⟩=>⟨by rw[← r.length];exact z,?_⟩)
 have hf:H1 s1.heap.objs.size=none:=I1.hok.fresh (Γi _)
 refine⟨.ref s1.heap.objs.size,upd H1 s1.heap.objs.size (.lst xs),I1.laid (t':=s1.toks) (λb u e=>Γc _ e) (Γi _) ?_,rfl,q _ hf⟩
 exact⟨z,us,0,r,Γm _ rfl⟩
end
abbrev Sp:=List V→Hp→VK→XK→Prop
abbrev CXT:=List Env→Hp→Shared→XK→Value→Shared→Prop
structure Env0 (P:Program)(w:World)(K:Γd)(mg:Str→Option Value)(base:Heap)(A:Around)(outer:List Env)(s:Shared)(H:Hp):Prop where
 frames:A.frames=some outer
 mod:Mod K mg base
 bs:∀ b o,base.get? b=some o→s.heap.get? b=some o∧H b=none
 bsz:base.objs.size≤s.heap.objs.size
 funs:s.heap.FunFrames base outer
 frf:∀ b∈frs outer,H b=none
 hok:HOk P w H s.heap
 bare:AllBare s.gens
def CE (outer:List Env)(P:Program)(w:World)(H:Hp)(s:Shared)(Q:VK)(u:Value)(s':Shared):Prop :=
 ∃ v H',s'.os=s.os∧AllBare s'.gens∧Un (frs outer) [] H H' s.heap s'.heap∧HOk P w H' s'.heap∧RelV v u∧Q v H'
def CR (CX:CXT)(outer:List Env)(P:Program)(w:World)(H:Hp)(s:Shared)(Q:VK)(E:XK)(r:Result)(s':Shared):Prop :=
 match r with
 | .ok (.ret u)=>CE outer P w H s Q u s'
 | .ok _=>False
 | .error e=>CX outer H s E e s'
structure FnOk (P:Program)(w:World)(K:Γd)(mg:Str→Option Value)(base:Heap)(CX:CXT) (k:Nat)(f:Addr)(fd:FuncData)(ps:List Str)(sp:Sp):Prop where
 len:∀ vs H Q E,sp vs H Q E→vs.length=ps.length
 run:∀ (A:Around)(outer:List Env)(s:Shared)(H:Hp)(args:Args)(us:List Value)(vs:List V)(Q:VK)(E:XK),Room k A→Env0 P w K mg base A outer s H→BindsTo s fd args (ps.zip us)→Vals vs us→sp vs H Q E →
  codeAny (model P w) A (.call (.ref f) args) (CR CX outer P w H s Q E) s
theorem Env0.make {P:Program}{w:World}{K:Γd}{mg:Str→Option Value}{base:Heap}{A:Around}{outer:List Env}{s:Shared}{H:Hp}(e:Env0 P w K mg base A outer s H)(C:Addr)(us:List Value)(kw:List (Str×Value)) :
  Env0 P w K mg base (A.under (.builtin "type.__call__" ⟨.ref C :: us,kw⟩)) outer s H:=⟨by first|exact e.frames|(simpa[Around.under,Code.envs,Code.isFrame,pushEnvs] using e.frames),e.mod,e.bs,e.bsz,e.funs,e.frf,e.hok,e.bare⟩
section
variable {X:Cx}{pins:List (Addr×Obj)}{σ:St}{H:Hp}{s s':Shared}
theorem Inv.env0 (I:Inv X pins σ H s):Env0 X.prog X.w X.K X.mg X.base X.A X.stack s H :=
 ⟨I.ok.frames,I.ok.mod,I.bs,Nat.le_trans I.ok.bsz I.sz,I.stack,I.stkFree,I.hok,I.bare⟩
theorem Inv.after {Q:VK}{u:Value}(I:Inv X pins σ H s)(h:CE X.stack X.prog X.w H s Q u s'):EP X pins σ Q u s':=by
 obtain⟨v,H',os,bare,un,hok,r,q⟩:=h
 obtain⟨hh,g,d,t,os'⟩:=s'
 obtain rfl:os'=s.os:=os
 exact⟨v,H',I.call (h':=hh) (g':=g) (d':=d) (t':=t) (ch:=[]) un hok bare (λb z=>absurd z (by simp)),r,q⟩
end
def d0m (sp:Sp)(dvs:List V)(E:XK)(t:TA):TE:=λσ H Q=>t σ H λvs H1=>sp (vs++dvs) H1 Q E
def Binds (K:Γd)(fd:FuncData)(ps:List Str)(ds:List Value):Prop :=
 ∀ (s:Shared)(us:List Value),K.In s.heap→(us++ds).length=ps.length→BindsTo s fd ⟨us,[]⟩ (ps.zip (us++ds))
theorem Binds.all {K:Γd}{fd:FuncData}{ps:List Str}(h:∀ us:List Value,us.length=ps.length→bindArgs fd ⟨us,[]⟩=pure (ps.zip us)):Binds K fd ps []:=λs us _ hl=>by
 rw[List.append_nil] at hl ⊢
 exact .of_eq (h us hl)
def a5f (CX:CXT)(X:Cx)(E:XK):Prop:=∀ (pins:List (Addr×Obj))(σ:St)(H:Hp)(s:Shared)(e:Value)(s':Shared),Inv X pins σ H s→CX X.stack H s E e s'→X.xe e s'
section
variable {X:Cx}{CX:CXT}{k:Nat}{f C:Addr}{fd:FuncData}{ps:List Str}{sp:Sp}{dvs:List V}{ds:List Value}{E:XK}{x m:Str}{p pos apos:Pos}{e o:Expr}{es:List Expr}{ta:TE}{t:TA}
theorem b3g {pins:List (Addr×Obj)}{σ:St}{H:Hp}{s:Shared}{Q:VK}{us:List Value}{vs:List V}(F:FnOk X.prog X.w X.K X.mg X.base CX k f fd ps sp)(hr:Room k X.A)(hb:Binds X.K fd ps ds)(hd:Vals dvs ds)(hx:a5f CX X E)
  (I:Inv X pins σ H s)(r:Vals vs us)(h:sp (vs++dvs) H Q E):wpAny (model X.prog X.w) X.A (call (.ref f) us) (EP X pins σ Q) X.xe s:=by
 have r2:Vals (vs++dvs) (us++ds):=r.append hd
 have hl:(us++ds).length=ps.length:=by rw[← r2.length];exact F.len _ _ _ _ h
 refine wpAny_call (codeAny_mono (F.run X.A X.stack s H ⟨us,[]⟩ (us++ds) (vs++dvs) Q E hr I.env0 (hb s us I.kIn hl) r2 h) λr s' hq=>?_)
 cases r with
 | error e=>exact hx pins σ H s e s' I hq
 | ok fl =>
  cases fl with
  | ret u=>exact I.after hq
  | next=>exact False.elim hq
  | brk=>exact False.elim hq
  | cont=>exact False.elim hq
theorem c7j (F:FnOk X.prog X.w X.K X.mg X.base CX k f fd ps sp)(hr:Room k X.A)(hg:Gl X x)(hm:X.mg x=some (.ref f))(hk:PySem.W.keepIn X.K (.ref f)=true)(hb:Binds X.K fd ps ds)(hd:Vals dvs ds)(hx:a5f CX X E)
  (ha:PA X (e :: es) t)(hdb:(x == ("__debug__":Str))=false:=by decide)(he:starEach (e :: es) X.env=(false,eval e X.env) :: starEach es X.env:=by rfl)(hpl:(backTo pos (starEach es X.env)).any (·.1)=false:=by rfl) :
  PE X (.Call (.Name x p) (e :: es) [] pos) (d0m sp dvs E t):=by
 intro pins s σ H Q I h
 refine wpAny_Call_Name_kw (a4w I hg hm ?_ hdb)
 refine PySem.W.callWith_K (h₀:=X.base) I.ok.mod.kin hk (thn (ha pos pins s σ H _ I h) λus s1 ⟨vs,H1,I1,r,q⟩=>⟨I1.kIn,?_⟩) he hpl
 exact b3g F hr hb hd hx I1 r q
theorem c2q (F:FnOk X.prog X.w X.K X.mg X.base CX k f fd ps sp)(hr:Room k X.A)(hg:Gl X x)(hm:X.mg x=some (.ref f))(hk:PySem.W.keepIn X.K (.ref f)=true)(hb:Binds X.K fd ps ds)(hd:Vals dvs ds)(hx:a5f CX X E)
  (hdb:(x == ("__debug__":Str))=false:=by decide):PE X (.Call (.Name x p) [] [] pos) (d0m sp dvs E d6w):=by
 intro pins s σ H Q I h
 refine wpAny_Call_Name_kw (a4w I hg hm ?_ hdb)
 exact PySem.W.callWith_K0 I.kIn hk (b3g (us:=[]) F hr hb hd hx I .nil h)
structure Mk (K:Γd)(C f:Addr):Prop where
 makes:PySem.W.makesIn K C=true
 init:PySem.W.findIn K (.ref C) "__init__" = some (some (.ref f))
 fn:PySem.W.isFn K (.ref f)=true
 kp:PySem.W.keepIn K (.ref C)=true
end
section
variable {X:Cx}{CX:CXT}{k:Nat}{f C:Addr}{fd:FuncData}{ps ks:List Str}{sp:Sp}{E:XK}{x m:Str}{p pos apos kpos:Pos}{e o:Expr}{es:List Expr}{kws:List Keyword}{te ta:TE}{t tk:TA}{nm:Option Str}
structure KBinds (K:Γd)(fd:FuncData)(ps ks:List Str)(g:List Value→List Value→List Value)(gV:List V→List V→List V):Prop where
 to:∀ (s:Shared)(us ws:List Value),K.In s.heap→(g us ws).length=ps.length→BindsTo s fd ⟨us,ks.zip ws⟩ (ps.zip (g us ws))
 rel:∀ {vs:List V}{us:List Value}{zs:List V}{ws:List Value},Vals vs us→Vals zs ws→Vals (gV vs zs) (g us ws)
variable {g:List Value→List Value→List Value}{gV:List V→List V→List V}
end
structure FnScope (N P:List Str)(sc:Scope):Prop where
 kind:sc.kind=.function
 co:sc.isCoroutine=false
 gen:sc.isGenerator=false
 nd:N.Nodup
 pre:N.take P.length=P
 par:∀ x∈P,sc.names.lookup x=some .local ∨ sc.names.lookup x=some .cell
 nofree:∀ y∈sc.names,y.2≠.free
theorem b1n {kindOf:Str→Option NameKind}{x:Str}:∀ {binds:List (Str×Value)}{m:Str→Option Value},(∀ v,(x,v) ∉ binds)→bindL kindOf binds m x=m x
 | [],_,_=>rfl
 | (n,v) :: r,m,h=>by
  unfold bindL
  rw[b1n λw hw=>h w (Γh _ hw)]
  split
  ·have:x≠n:=by rintro rfl;exact h v Γn
   simp[this]
  ·rfl
theorem b1p {kindOf:Str→Option NameKind}{x:Str}:∀ {binds:List (Str×Value)}{m:Str→Option Value},(∀ v,(x,v) ∉ binds)→bindC kindOf binds m x=m x
 | [],_,_=>rfl
 | (n,v) :: r,m,h=>by
  unfold bindC
  rw[b1p λw hw=>h w (Γh _ hw)]
  split
  ·rfl
  ·have:x≠n:=by rintro rfl;exact h v Γn
   simp[this]
theorem b1o {kindOf:Str→Option NameKind}{x:Str}{v:Value}:∀ {P:List Str}{vs:List Value}{i:Nat}{m:Str→Option Value},P.Nodup→P[i]?=some x→vs[i]?=some v→kindOf x=some .local →
  bindL kindOf (P.zip vs) m x=some v
 | [],_,_,_,_,h,_,_=>by simp at h
 | _ :: _,[],_,_,_,_,h,_=>by simp at h
 | p :: P,w :: vs,0,m,nd,h1,h2,hk=>by
  simp at h1 h2;subst h1;subst h2
  show bindL kindOf ((p,w) :: P.zip vs) m p=_
  unfold bindL
  rw[b1n λv hv=>(List.nodup_cons.mp nd).1 (List.of_mem_zip hv).1,if_pos hk]
  simp
 | p :: P,w :: vs,i+1,m,nd,h1,h2,hk=>by
  show bindL kindOf ((p,w) :: P.zip vs) m x=_
  unfold bindL
  exact b1o (i:=i) (List.nodup_cons.mp nd).2 (by simpa using h1) (by simpa using h2) hk
theorem b1q {kindOf:Str→Option NameKind}{x:Str}{v:Value}:∀ {P:List Str}{vs:List Value}{i:Nat}{m:Str→Option Value},P.Nodup→P[i]?=some x→vs[i]?=some v→kindOf x≠some .local →
  bindC kindOf (P.zip vs) m x=some v
 | [],_,_,_,_,h,_,_=>by simp at h
 | _ :: _,[],_,_,_,_,h,_=>by simp at h
 | p :: P,w :: vs,0,m,nd,h1,h2,hk=>by
  simp at h1 h2;subst h1;subst h2
  show bindC kindOf ((p,w) :: P.zip vs) m p=_
  unfold bindC
  rw[b1p λv hv=>(List.nodup_cons.mp nd).1 (List.of_mem_zip hv).1,if_neg hk]
  simp
 | p :: P,w :: vs,i+1,m,nd,h1,h2,hk=>by
  show bindC kindOf ((p,w) :: P.zip vs) m x=_
  unfold bindC
  exact b1q (i:=i) (List.nodup_cons.mp nd).2 (by simpa using h1) (by simpa using h2) hk
def start (N:List Str)(vs:List V):St:=vs.map some++Γj (N.length-vs.length) none
def b6c (CX:CXT)(P:Program)(w:World)(K:Γd)(mg:Str→Option Value)(base:Heap)(N:List Str)(qual:Str)(scope:Scope)(f:Addr)(cd:Value)(A:Around)(outer:List Env)(s:Shared)(H:Hp)(E:XK):Cx where
 prog:=P
 w:=w
 K:=K
 mg:=mg
 base:=base
 A:=A.deeper (envOfC qual scope s.heap.objs.size f cd)
 N:=N
 s₀:=s
 H₀:=H
 env:=envOfC qual scope s.heap.objs.size f cd
 outer:=outer
 stack:=envOfC qual scope s.heap.objs.size f cd :: outer
 ex:=[]
 calm:=true
 fn:=λ_=>true
 pn:=[]
 xe:=λe s'=>wpAny (model P w) (A.deeper (envOfC qual scope s.heap.objs.size f cd)) (leaving (envOfC qual scope s.heap.objs.size f cd) e) (λ_ s''=>CX outer H s E e s'') (λe' s''=>CX outer H s E e' s'') s'
theorem b4m {sc:Scope}{n:Nat}{x:Str}(h:sc.names.lookup x=some .cell):∃ c,(cellsFrom n sc.names []).lookup x=some c:=by
 have q:=PySem.W.cellsFrom_some sc.names n [] (.inl h)
 exact Option.isSome_iff_exists.mp q
theorem b9e {CX:CXT}{P:Program}{w:World}{K:Γd}{mg:Str→Option Value}{base:Heap}{N ps:List Str}{qual:Str}{scope:Scope}{f:Addr}{cd:Value}{A:Around}{outer:List Env}{s s1:Shared}{H:Hp}{E:XK}{us:List Value}{vs:List V}
  (S:FnScope N ps scope)(hd:A.handled=none)(e0:Env0 P w K mg base A outer s H)(hl:vs.length=ps.length)(r:Vals vs us)
  (x:InCallC s s.heap.objs.size (bindL (envOfC qual scope s.heap.objs.size f cd).kindOf (ps.zip us) λ_=>none) (cellsFrom (s.heap.objs.size+1) scope.names []) (bindC (envOfC qual scope s.heap.objs.size f cd).kindOf (ps.zip us) λ_=>none) s1) :
  Inv (b6c CX P w K mg base N qual scope f cd A outer s H E) [] (start N vs) H s1:=by
 have hpl:ps.length≤N.length:=by have:=congrArg List.length S.pre;rw[List.length_take] at this;lia
 obtain⟨h1,tk,rfl,hk⟩:=x.done
 have noA:∀ b:Addr,b ∉ (b6c CX P w K mg base N qual scope f cd A outer s H E).ex:=λb z=>absurd (show b∈([]:List Addr) from z) (by simp)
 refine⟨⟨e0.mod,S.kind,rfl,rfl,Γi _,λy z c h1 h2=>?_,λy hy=>?_,λy c _ h=>?_,λ_=>hd,Around.frames_deeper e0.frames,.inr ⟨rfl,rfl⟩,λb z=>absurd z (noA b),e0.bs,e0.bsz,λb _ _=>noA b,λb z=>absurd z (noA b),e0.funs,e0.frf⟩,
  rfl,e0.bare,Un.kept hk,⟨_,x.toInCall.ns,λi y v h1 h2 h3=>?_⟩,λy c h=>⟨_,x.cell y c h⟩,e0.hok.fresh (Γi _),λy c h=>?_,λp hp=>absurd (show p∈([]:List (Addr×Obj)) from hp) (by simp),e0.hok.kept hk,?_⟩
 ·exact name_of_addr x.apart (PySem.mem_of_lookup h1) (PySem.mem_of_lookup h2)
 ·have hy:scope.names.lookup y=some .cell ∨ scope.names.lookup y=some .free:=hy
  rcases hy with hy|hy
  ·exact b4m hy
  ·exact absurd rfl (S.nofree _ (PySem.mem_of_lookup hy))
 ·exact Nat.le_of_lt (x.above y c (PySem.mem_of_lookup h))
 ·have hi:i<vs.length:=by
   unfold start at h2
   by_cases hi:i<vs.length
   ·exact hi
   ·rw[List.getElem?_append_right (by simpa using hi)] at h2
    rw[List.getElem?_replicate] at h2
    split at h2<;>cases h2
  have ha:vs[i]?=some v:=by
   unfold start at h2
   rw[List.getElem?_append_left (by simpa using hi),List.getElem?_map] at h2
   cases e:vs[i]? with
   | none=>rw[e] at h2;cases h2
   | some a=>rw[e] at h2;cases h2;rfl
  obtain⟨u,hu,rv⟩:=r.get ha
  have hp:ps[i]?=some y:=by
   rw[← S.pre,List.getElem?_take_of_lt (by lia)];exact h1
  have ndP:ps.Nodup:=by rw[← S.pre];exact S.nd.sublist (List.take_sublist _ _)
  refine⟨u,rv,?_⟩
  rcases S.par y (List.mem_of_getElem? hp) with k|k
  ·exact .inl ⟨k,b1o ndP hp hu k⟩
  ·obtain⟨c,e⟩:=b4m (n:=s.heap.objs.size+1) k
   refine .inr ⟨.inl k,c,e,?_⟩
   have q:=x.cell y c e
   rw[b1q ndP hp hu (by show scope.names.lookup y≠_;rw[k];decide)] at q
   exact q
 ·exact e0.hok.fresh (Nat.le_of_lt (x.above y c (PySem.mem_of_lookup h)))
 ·unfold start
  show _=N.length
  rw[List.length_append,List.length_map,List.length_replicate]
  lia
theorem d3b {CX:CXT}{P:Program}{w:World}{K:Γd}{mg:Str→Option Value}{base:Heap}{k:Nat}{f:Addr}{name qual:Str}{params:Arguments}{body:List Stmt}{scope:Scope}{dV kV doc pm cdv ct oc:Value}{an od:Option Addr}
  {osl:Array (Option Value)}{N ps:List Str}{sp:Sp}(lk:K.lookup f=some ⟨oc,od,.func (PySem.W.fnOf name qual params body scope dV kV doc pm an cdv ct),osl⟩)(hcd:PySem.W.codeIn K cdv qual=true)(S:FnScope N ps scope)
  (len:∀ vs H Q E,sp vs H Q E→vs.length=ps.length)
  (hbody:∀ (A:Around)(outer:List Env)(s:Shared)(H:Hp)(vs:List V)(Q:VK)(E:XK),RoomS k (A.deeper (envOfC qual scope s.heap.objs.size f cdv))→sp vs H Q E →
   ∃ t,PSs (b6c CX P w K mg base N qual scope f cdv A outer s H E) body t∧t { nx:=λ_ H'=>Q .non H',rt:=Q } (start N vs) H) :
  FnOk P w K mg base CX (k+1) f (PySem.W.fnOf name qual params body scope dV kV doc pm an cdv ct) ps sp:=by
 refine⟨len,λA outer s H args us vs Q E hr e0 hb r hsp=>?_⟩
 have hl:=len _ _ _ _ hsp
 have KX:K.In s.heap:=e0.mod.kin.keeps λb o e=>(e0.bs b o e).1
 have lim:s.heap.NoLimit:=e0.mod.nolimit.keeps λb o e=>(e0.bs b o e).1
 have hkind:∀ y∈ps.zip us,scope.names.lookup y.1=some .local ∨ (scope.names.lookup y.1=some .cell∧((cellsFrom (s.heap.objs.size+1) scope.names []).lookup y.1).isSome=true):=λ⟨n,v⟩ hy=>by
  rcases S.par n (List.of_mem_zip hy).1 with q|q
  ·exact .inl q
  ·exact .inr ⟨q,PySem.W.cellsFrom_some _ _ _ (.inl q)⟩
 refine codeAny_call_function hr.depth (KX _ _ lk) rfl S.co S.gen rfl (PySem.W.codeRec_of KX hcd) (hb _ _ _ _ ?_)
 refine wpAny_newFunctionEnv_cells S.kind hkind λenv he s1 x=>?_
 subst he
 refine⟨lim.keeps x.toInCall.keep,codeAny_func ?_⟩
 obtain⟨t,ht,hq⟩:=hbody A outer s H vs Q E (hr.deeperS _) hsp
 have I:Inv (b6c CX P w K mg base N qual scope f cdv A outer s H E) [] (start N vs) H s1:=b9e S hr.hd e0 hl r x
 refine wpAny_mono (ht [] s1 (start N vs) H _ I hq) (λfl s' hs=>?_) λe s' hs=>hs
 have fin:∀ {σ':St}{H':Hp}{v:V}{u:Value},Inv (b6c CX P w K mg base N qual scope f cdv A outer s H E) [] σ' H' s'→RelV v u→Q v H'→CE outer P w H s Q u s' :=
  λ{σ' H' v u} J rv q=>⟨v,H',J.os,J.bare,J.base,J.hok,rv,q⟩
 cases fl with
 | ret u =>
  obtain⟨v,σ',H',J,rv,q⟩:=hs
  exact fin J rv q
 | next =>
  obtain⟨σ',H',J,q⟩:=hs
  exact fin (v:=V.non) (u:=Value.none) J rfl q
 | brk =>
  obtain⟨_,_,_,q⟩:=hs
  exact False.elim q
 | cont =>
  obtain⟨_,_,_,q⟩:=hs
  exact False.elim q
end L2
namespace L2
open PySem PySem.Spec PyProof.Rows
section
variable {X:Cx}{x:Str}{p pos:Pos}{e:Expr}{es:List Expr}{t:TA}{id T:String}{r:List V→Hp→VK→Prop}
def tCB (r:List V→Hp→VK→Prop)(t:TA):TE:=λσ H Q=>t σ H λvs H1=>r vs H1 Q
theorem a2i (hc:a1k X (.builtin id) r)(hg:Gl X x)(hm:X.mg x=none)(hv:bootBuiltins x=some (.builtin id))(ha:PA X (e :: es) t)(hn:x≠"__name__":=by decide)(hdb:(x == ("__debug__":Str))=false:=by decide)
  (he:starEach (e :: es) X.env=(false,eval e X.env) :: starEach es X.env:=by rfl)(hpl:(backTo pos (starEach es X.env)).any (·.1)=false:=by rfl):PE X (.Call (.Name x p) (e :: es) [] pos) (tCB r t):=by
 intro pins s σ H Q I h
 refine wpAny_Call_Name_kw (a3j I hg hm hv ?_ hn hdb)
 exact PyProof.Rows.callWith_builtin1 (thn (ha pos pins s σ H _ I h) λus s1 ⟨vs,H1,I1,r1,q1⟩=>hc pins s1 σ H1 vs us Q I1 r1 q1) he hpl
theorem b0k (hc:a1k X (.type T) r)(hg:Gl X x)(hm:X.mg x=none)(hv:bootBuiltins x=some (.type T))(ha:PA X (e :: es) t)(hn:x≠"__name__":=by decide)(hdb:(x == ("__debug__":Str))=false:=by decide)
  (he:starEach (e :: es) X.env=(false,eval e X.env) :: starEach es X.env:=by rfl)(hpl:(backTo pos (starEach es X.env)).any (·.1)=false:=by rfl):PE X (.Call (.Name x p) (e :: es) [] pos) (tCB r t):=by
 intro pins s σ H Q I h
 refine wpAny_Call_Name_kw (a3j I hg hm hv ?_ hn hdb)
 exact PyProof.Rows.callWith_type1 (thn (ha pos pins s σ H _ I h) λus s1 ⟨vs,H1,I1,r1,q1⟩=>hc pins s1 σ H1 vs us Q I1 r1 q1) he hpl
end
end L2
namespace HT
open PySem PyProof.Rows
def lexLt:List Int→List Int→Bool
 | [],[]=>false
 | [],_ :: _=>true
 | _ :: _,[]=>false
 | x :: xs,y :: ys=>if x=y then lexLt xs ys else decide (x<y)
theorem b5c (x y:Int)(xs ys:List Int):lexLt (x :: xs) (y :: ys)=if x=y then lexLt xs ys else decide (x<y):=rfl
theorem a9i:lexLt [] []=false:=rfl
theorem a7c (y:Int)(ys:List Int):lexLt [] (y :: ys)=true:=rfl
theorem a7d (x:Int)(xs:List Int):lexLt (x :: xs) []=false:=rfl
theorem c3u (A:Around)(s:Shared) (a:Int)(t:Tok) (c:Int)(u:Tok):∃ e,SeqAt.EqAt A s (.int a t) (.int c u) e∧(e=true↔a=c) :=
 ⟨(a == c),SeqAt.EqAt.int_int a t c u,by simp⟩
theorem c1y (A:Around)(s:Shared) (a:Int)(t:Tok) (c:Int)(u:Tok)(prog:Program)(w:World)(E:Value→Shared→Prop)(Q:Value→Shared→Prop)(h:Q (.bool (decide (a<c))) s) :
  wpAny (model prog w) A (richCompare .Lt (.int a t) (.int c u)) Q E s :=
 (PyProof.Rows.lt_int h:wpAny (model prog w) A (compareOp .Lt (.int a t) (.int c u)) Q E s)
section
open PySem.SeqAt
open PySem.AutoSeq1 (wpAny_loadPart')
open PySem.MeetsSeq PySem.MeetsSeq2 PySem.MeetsSeq3
theorem a8k (l b:Addr)(items items2:Array Value) (n n2:Nat)(dd dd2:Option Addr)(sl sl2:Array (Option Value))(ns ms:List Int)(hi:IntsAre items.toList ns)(hj:IntsAre items2.toList ms) :
  Meets (Builtin.«tuple.__lt__» ⟨[.ref l,.ref b],[]⟩)
   (λ_ R s=>s.heap.get? l=some { cls:=.type "tuple",dict:=dd,data:=.seq items n,slots:=sl }∧s.heap.get? b=some { cls:=.type "tuple",dict:=dd2,data:=.seq items2 n2,slots:=sl2 } ∧
    R (.ok (.ret (.bool (lexLt ns ms)))) s) :=
 .of_wp λprog w A R s h=>by
  obtain⟨hp,g,d,tk,os⟩:=s;obtain⟨hl,hb,h⟩:=h
  have f2:=AutoSeq1.sub_tuple_tuple
  have z1:items.size=ns.length:=by rw[← hi.length];simp
  have z2:items2.size=ms.length:=by rw[← hj.length];simp
  wp_walk using wpAny_loadPart' hl,wpAny_loadPart' hb,wpAny_forIn_list _ (λrest b s'=>b.1=none∧s'=⟨hp,g,d,tk,os⟩∧∃ (vs ws:List Value)(ns' ms':List Int),rest=vs.zip ws ∧
   IntsAre vs ns'∧IntsAre ws ms'∧ns'.length+items2.size=ms'.length+items.size∧R (.ok (.ret (.bool (lexLt ns' ms')))) ⟨hp,g,d,tk,os⟩) _
  case turn =>
   rintro⟨y,x⟩ rest b s' ⟨hb',rfl,vs,ws,ns',ms',hz,hvi,hwi,hlen,hR⟩
   cases hvi with
   | nil=>rw[List.zip_nil_left] at hz;cases hz
   | cons a t hvi' =>
    cases hwi with
    | nil=>rw[List.zip_nil_right] at hz;cases hz
    | cons c u hwi' =>
     rw[List.zip_cons_cons] at hz
     injection hz with hyx hrest
     injection hyx with hy hx
     subst hy hx
     rw[b5c] at hR
     simp only[List.length_cons] at hlen
     obtain⟨e,he,hiff⟩:=c3u A.in1 ⟨hp,g,d,tk,os⟩ a t c u
     refine Γa (he prog w _ _ ?_)
     cases e with
     | true =>
      rw[if_pos (hiff.mp rfl)] at hR
      wp_walk
      exact⟨rfl,rfl,_,_,_,_,hrest,hvi',hwi',by lia,hR⟩
     | false =>
      rw[if_neg (λq=>absurd (hiff.mpr q) Γk)] at hR
      have hri:=c1y A.in1 ⟨hp,g,d,tk,os⟩ a t c u prog w
      wp_walk using hri
      exact⟨_,rfl,by simpa using hR⟩
  case fin =>
   rintro⟨b1,b2⟩ s' ⟨hb',rfl,vs,ws,ns',ms',hz,hvi,hwi,hlen,hR⟩
   simp only at hb'
   subst hb'
   have hv:lexLt ns' ms'=decide (items.size<items2.size):=by
    cases hvi with
    | nil =>
     cases hwi with
     | nil =>
      simp only[List.length_nil] at hlen
      rw[a9i]
      exact (decide_eq_false (by lia)).symm
     | cons c u hw =>
      simp only[List.length_nil,List.length_cons] at hlen
      rw[a7c]
      exact (decide_eq_true (by lia)).symm
    | cons a t hv =>
     cases hwi with
     | nil =>
      simp only[List.length_nil,List.length_cons] at hlen
      rw[a7d]
      exact (decide_eq_false (by lia)).symm
     | cons c u hw =>
      rw[List.zip_cons_cons] at hz
      cases hz
   rw[hv] at hR
   wp_walk
   exact⟨_,rfl,by simpa[Builtin.Tuple.tupleCompareSizes] using hR⟩
  case h =>
   exact⟨rfl,rfl,items.toList,items2.toList,ns,ms,rfl,hi,hj,by lia,h⟩
end
section
variable {prog:Program}{w:World}{A:Around}{E:Value→Shared→Prop}{s:Shared}
theorem lt_tupInts {l b:Addr}{items items2:Array Value}{ns ms:List Int}{Q:Value→Shared→Prop}(hl:IsTup s.heap l items)(hb:IsTup s.heap b items2)(hi:IntsAre items.toList ns)(hj:IntsAre items2.toList ms)
  (hu:A.units<cLine)(h:Q (.bool (lexLt ns ms)) s):wpAny (model prog w) A (compareOp .Lt (.ref l) (.ref b)) Q E s:=by
 obtain⟨⟨cls,dd,data,sl⟩,ho,hc,n,hd⟩:=id hl
 obtain⟨⟨cls2,dd2,data2,sl2⟩,ho2,hc2,n2,hd2⟩:=id hb
 simp only at hc hd hc2 hd2
 subst hc hd hc2 hd2
 exact richCompare_meets_room (op:=.Lt) ⟨_,ho,rfl⟩ ⟨_,ho2,rfl⟩ PySem.F.slot_tuple_lt PySem.F.entry_tuple_lt (PySem.F.args_tuple_lt_2 _ _) (a8k l b items items2 n n2 dd dd2 sl sl2 ns ms hi hj)
  ⟨ho,ho2,show Value.bool (lexLt ns ms)≠Value.notImplemented∧Q (.bool (lexLt ns ms)) s from ⟨(λx=>nomatch x),h⟩⟩ hu
theorem cat_tup {t b:Addr}{vs ws:List Value}{Q:Value→Shared→Prop}(ht:IsTup s.heap t vs.toArray)(hb:IsTup s.heap b ws.toArray)(hv:vs≠[])
  (h1:ws=[]→Q (.ref t) s)(h2:ws≠[]→Q (.ref s.heap.objs.size) { s with heap:=s.heap.push { cls:=.type "tuple",data:=.seq (vs++ws).toArray } })
  (hsz:vs.length+ws.length≤sizeLine):wpAny (model prog w) A (binaryOp .Add (.ref t) (.ref b)) Q E s:=by
 obtain⟨⟨cls,dd,data,sl⟩,ho,hc,n,hd⟩:=id ht
 obtain⟨⟨cls2,dd2,data2,sl2⟩,ho2,hc2,n2,hd2⟩:=id hb
 simp only at hc hd hc2 hd2
 subst hc hd hc2 hd2
 have e:vs.toArray++ws.toArray=(vs++ws).toArray:=by simp
 by_cases hw:ws=[]
 ·exact concat_meets ⟨_,ho,rfl⟩ ⟨_,ho2,rfl⟩ noFill_tuple_add seq_tuple_add PySem.F.slot_tuple_add PySem.F.entry_tuple_add (PySem.F.args_tuple_add_2 _ _)
   (tuple_addW1 t b vs.toArray ws.toArray n n2 dd dd2 sl sl2 (by simpa using hv) (by simp[hw])) ⟨ho,ho2,h1 hw⟩
 ·refine concat_meets ⟨_,ho,rfl⟩ ⟨_,ho2,rfl⟩ noFill_tuple_add seq_tuple_add PySem.F.slot_tuple_add PySem.F.entry_tuple_add (PySem.F.args_tuple_add_2 _ _)
   (tuple_addW2 t b vs.toArray ws.toArray n n2 dd dd2 sl sl2 (by simpa using hv) (by simpa using hw) (by rw[List.size_toArray,List.size_toArray];exact hsz)) ⟨ho,ho2,?_⟩
  rw[e]
  exact h2 hw
def sIx (n d:Nat):Option Int→Nat
 | none=>d
 | some v=>if v<0 then (v+(n:Int)).toNat else min v.toNat n
theorem d0t (n d:Nat)(hd:d≤n)(o:Option Int):sIx n d o≤n:=by
 cases o with
 | none=>exact hd
 | some v =>
  show (if v<0 then (v+(n:Int)).toNat else min v.toNat n)≤n
  by_cases hv:v<0
  ·rw[if_pos hv];lia
  ·rw[if_neg hv];exact Nat.min_le_right _ _
theorem c0r (v:Int) (n d:Nat):(if v<0 then max (v+(n:Int)) 0 else min v (n:Int))=((sIx n d (some v):Nat):Int):=by
 show (if v<0 then max (v+(n:Int)) 0 else min v (n:Int))=(((if v<0 then (v+(n:Int)).toNat else min v.toNat n):Nat):Int)
 by_cases hv:v<0
 ·simp only[if_pos hv];lia
 ·simp only[if_neg hv];lia
theorem b5z (lo hi:Option Int) (n:Nat):Builtin.Slice.sliceAdjust lo hi 1 (n:Int)=(((sIx n 0 lo:Nat):Int),((sIx n n hi:Nat):Int)):=by
 have h1:¬ ((1:Int)<0):=by lia
 unfold Builtin.Slice.sliceAdjust
 simp only[h1,if_false]
 refine Prod.ext ?_ ?_
 ·cases lo with
  | none=>rfl
  | some v=>exact c0r v n 0
 ·cases hi with
  | none=>rfl
  | some v=>exact c0r v n n
theorem b4v (i j:Nat):Builtin.Slice.slicePlaces (i:Int) (j:Int) 1=j-i:=by
 unfold Builtin.Slice.slicePlaces
 have h1:(1:Int) > 0:=by lia
 simp only[h1,if_true,Int.ediv_one]
 split<;>lia
theorem a7o {v:Value}{o:Option Int}{Q:Option Int→Shared→Prop}(p:IsPart v o)(h:Q o s):wpAny (model prog w) A (Builtin.Slice.slicePartIndex v) Q E s:=by
 cases p with
 | none=>exact slicePart_none h
 | int i t=>exact slicePart_int h
theorem sliceApplied_gen {sl:Addr}{vl vu:Value}{lo hi:Option Int}{n:Nat}{Q:Int×Int×Nat→Shared→Prop}(hs:s.heap.IsSliceOf sl vl vu .none)(pl:IsPart vl lo)(pu:IsPart vu hi)
  (h:Q (((sIx n 0 lo:Nat):Int),1,sIx n n hi-sIx n 0 lo) s):wpAny (model prog w) A (Builtin.Slice.sliceApplied (.ref sl) (pure (n:Int))) Q E s:=by
 obtain⟨os,hos,hcs,hds⟩:=id hs
 unfold Builtin.Slice.sliceApplied Builtin.Slice.sliceFields
 refine Γa (Γa (wpAny_field hos hds (x:=vl) rfl (Γa (wpAny_field hos hds (x:=vu) rfl (Γa (wpAny_field hos hds (x:=.none) rfl (Γb ?_)))))))
 refine Γa (slicePart_none ?_)
 show wpAny _ _ (if ((1:Int) == 0)=true then _ else _) _ _ s
 rw[if_neg (by decide)]
 refine Γa (a7o pl (Γa (a7o pu (Γa (Γb ?_)))))
 show wpAny _ _ (match Builtin.Slice.sliceAdjust lo hi 1 (n:Int) with|(lo,hi)=>pure (lo,(1:Int),Builtin.Slice.slicePlaces lo hi 1)) _ _ s
 rw[b5z lo hi n]
 show wpAny _ _ (pure (((sIx n 0 lo:Nat):Int),(1:Int),Builtin.Slice.slicePlaces ((sIx n 0 lo:Nat):Int) ((sIx n n hi:Nat):Int) 1)) _ _ s
 rw[b4v]
 exact Γb h
theorem c2h (xs:Array Value) (i k:Nat):((List.range k).filterMap λ(m:Nat)=>xs[((i:Int)+(m:Int)*1).toNat]?).toArray=((xs.toList.drop i).take k).toArray:=by
 have e:(λ(m:Nat)=>xs[((i:Int)+(m:Int)*1).toNat]?)=λm=>xs[i+m]?:=by
  funext m
  have:((i:Int)+(m:Int)*1).toNat=i+m:=by lia
  rw[this]
 rw[e]
 have:=pick_run xs i k
 rw[List.filterMap_map] at this
 have e2:((λx=>xs[x]?) ∘ λx=>i+x)=λm=>xs[i+m]?:=rfl
 rw[e2] at this
 rw[this]
theorem getItem_tuple_cut {t sl:Addr}{items:Array Value}{vl vu:Value}{lo hi:Option Int}{Q:Value→Shared→Prop}(ht:IsTup s.heap t items)(hs:s.heap.IsSliceOf sl vl vu .none)(pl:IsPart vl lo)(pu:IsPart vu hi)
  (hw:¬ (sIx items.size 0 lo=0∧sIx items.size items.size hi=items.size))
  (h:Q (.ref s.heap.objs.size) { s with heap:=s.heap.push { cls:=.type "tuple",data:=.seq ((items.toList.drop (sIx items.size 0 lo)).take (sIx items.size items.size hi-sIx items.size 0 lo)).toArray } })
  (hsz:items.size≤sizeLine):wpAny (model prog w) A (getItem (.ref t) (.ref sl)) Q E s:=by
 have htake:sizeOk (.seq ((items.toList.drop (sIx items.size 0 lo)).take (sIx items.size items.size hi-sIx items.size 0 lo)).toArray):=by
  show ((items.toList.drop (sIx items.size 0 lo)).take (sIx items.size items.size hi-sIx items.size 0 lo)).toArray.size≤sizeLine
  rw[List.size_toArray,List.length_take,List.length_drop,Array.length_toList]
  lia
 have hj:sIx items.size items.size hi≤items.size:=d0t _ _ (Γi _) hi
 obtain⟨os,hos,hcs,hds⟩:=id hs
 have hTs:s.TypeIs (.ref sl) "slice":=⟨os,hos,hcs⟩
 unfold getItem
 try with_reducible refine Γg ?_
 first|refine Γa (Γb ?_)|skip
 refine Γa (wpAny_sequenceKey ht.typeIs (by decide) ?_)
 refine Γa (wpAny_callSpecial?_slot (name:=Γe "__getitem__") ht.typeIs PyProof.Rows.slot_tuple_getitem
  (wpAny_call_entry PyProof.Rows.slot_tuple_getitem ht.typeIs entry_tuple_getitem ?_ (args_tuple_getitem _ _)))
 show wpAny _ _ (Builtin.Tuple.tupleItemsOf (.ref t) >>= _) _ _ s
 refine Γa (tupleItemsOf_ ht ?_)
 refine Γa (wpAny_typeOf hTs ?_)
 rw[if_pos (by decide)]
 refine Γa (sliceApplied_gen hs pl pu ?_)
 have hno:¬ ((((sIx items.size 0 lo:Nat):Int) == 0 && (1:Int) == 1 && (sIx items.size items.size hi-sIx items.size 0 lo) == items.size)=true):=by
  intro q
  rw[Bool.and_eq_true,Bool.and_eq_true] at q
  have q1:((sIx items.size 0 lo:Nat):Int)=0:=eq_of_beq q.1.1
  have q2:sIx items.size items.size hi-sIx items.size 0 lo=items.size:=eq_of_beq q.2
  exact hw ⟨by lia,by lia⟩
 show wpAny _ _ (if (((sIx items.size 0 lo:Nat):Int) == 0 && (1:Int) == 1 && (sIx items.size items.size hi-sIx items.size 0 lo) == items.size)=true then _ else _) _ _ s
 rw[if_neg hno,c2h]
 first
  | exact Γa (m:=Builtin.Tuple.tupleExact _) (wpAny_newObj_type (Γb ⟨_,rfl,Γb h⟩) htake)
  | exact Γa (m:=Builtin.Tuple.tupleExact _) (wpAny_newObj_type (Γa (Γb (Γb ⟨_,rfl,Γb h⟩))) htake)
  | exact Γa (Γa (m:=Builtin.Tuple.tupleExact _) (wpAny_newObj_type (Γb (Γb ⟨_,rfl,Γb h⟩)) htake))
  | exact Γa (Γa (m:=Builtin.Tuple.tupleExact _) (wpAny_newObj_type (Γb ⟨_,rfl,Γb h⟩) htake))
end
end HT
namespace L2
open PySem PySem.Spec PyProof.Rows
abbrev TO:=St→Hp→(Option Int→Hp→Prop)→Prop
def PO (X:Cx)(e:Option Expr)(t:TO):Prop :=
 ∀ (pins:List (Addr×Obj))(s:Shared)(σ:St)(H:Hp)(Q:Option Int→Hp→Prop),Inv X pins σ H s→t σ H Q →
  wpAny (model X.prog X.w) X.A (evalPart e X.env) (λu s'=>∃ o H',Inv X pins σ H' s'∧IsPart u o∧Q o H') X.xe s
def c6b:TO:=λ_ H Q=>Q none H
def d6t (t:TE):TO:=λσ H Q=>t σ H λx H1=>∃ i,x=.int i∧Q (some i) H1
theorem a3s {ns:List Int}:∀ {us:List Value},Vals (ns.map V.int) us→IntsAre us ns:=by
 induction ns with
 | nil=>intro us r;rw[List.map_nil] at r;cases r;exact .nil
 | cons n ns ih =>
  intro us r
  rw[List.map_cons] at r
  cases r with
  | cons r1 r2 =>
   obtain⟨t,e⟩:=r1
   subst e
   exact .cons n t (ih r2)
section
variable {X:Cx}{e:Expr}{te:TE}{lo hi:Option Expr}{tl th:TO}{pos p2:Pos}
theorem c7c:PO X none c6b:=by
 intro pins s σ H Q I h
 rw[evalPart_none]
 exact Γb ⟨none,H,I,.none,h⟩
theorem c7b (h:PE X e te):PO X (some e) (d6t te):=by
 intro pins s σ H Q I hw
 rw[evalPart_some]
 refine thn (h pins s σ H _ I hw) λu s1 ⟨x,H1,I1,r1,q1⟩=>?_
 obtain⟨i,rfl,q⟩:=q1
 obtain⟨t,rfl⟩:=r1
 exact⟨some i,H1,I1,.int i t,q⟩
def SlR (X:Cx)(r:V→Option Int→Option Int→Hp→VK→Prop):Prop :=
 ∀ (pins:List (Addr×Obj))(s:Shared)(σ:St)(H:Hp)(x:V)(v vl vu:Value)(lo hi:Option Int)(sl:Addr)(Q:VK),Inv X pins σ H s→RelV x v→s.heap.IsSliceOf sl vl vu .none→IsPart vl lo→IsPart vu hi→r x lo hi H Q →
  ∃ T id,typeLookup (.type T) "__getitem__" = pure (some (.builtin id))∧s.TypeIs v T∧wpAny (model X.prog X.w) X.A (getItem v (.ref sl)) (EP X pins σ Q) X.xe s
def tSl (r:V→Option Int→Option Int→Hp→VK→Prop)(te:TE)(tl th:TO):TE:=λσ H Q=>te σ H λx H1=>tl σ H1 λl H2=>th σ H2 λu H3=>r x l u H3 Q
theorem c2k {r:V→Option Int→Option Int→Hp→VK→Prop}(hr:SlR X r)(he:PE X e te)(hl:PO X lo tl)(hu:PO X hi th):PE X (.Subscript e (.Slice lo hi none p2) pos) (tSl r te tl th):=by
 intro pins s σ H Q I h
 refine Subscript_ (thn (he pins s σ H _ I h) λv s1 ⟨x,H1,I1,r1,q1⟩=>?_)
 refine wpAny_Slice (thn (hl pins s1 σ H1 _ I1 q1) λvl s2 ⟨l,H2,I2,pl,q2⟩=>thn (hu pins s2 σ H2 _ I2 q2) λvu s3 ⟨u,H3,I3,pu,q3⟩=>?_)
 rw[evalPart_none]
 refine Γb ?_
 have I4:Inv X pins σ H3 { s3 with heap:=s3.heap.push { cls:=.type "slice",data:=.fields #[vl,vu,.none] } }:=I3.kept (t':=s3.toks) λb ob q=>Γc _ q
 obtain⟨T,id,hT,ht,hg⟩:=hr pins { s3 with heap:=s3.heap.push { cls:=.type "slice",data:=.fields #[vl,vu,.none] } } σ H3 x v vl vu l u s3.heap.objs.size Q I4 r1 (Heap.IsSliceOf.new ..) pl pu q3
 show wpAny (model X.prog X.w) X.A (subscriptTail e (.Slice lo hi none p2) v (.ref s3.heap.objs.size)) (EP X pins σ Q) X.xe { s3 with heap:=s3.heap.push { cls:=.type "slice",data:=.fields #[vl,vu,.none] } }
 exact tail_any (ops:=[.ref s3.heap.objs.size,v]) ht hT hg (by with_unfolding_all rfl)
def c5r (xs:List V)(lo hi:Option Int):List V:=(xs.drop (HT.sIx xs.length 0 lo)).take (HT.sIx xs.length xs.length hi-HT.sIx xs.length 0 lo)
theorem a6u (xs:List V)(lo hi:Option Int):(c5r xs lo hi).length≤xs.length:=by
 unfold c5r
 rw[List.length_take,List.length_drop]
 lia
def rSlT (K:Γd):V→Option Int→Option Int→Hp→VK→Prop:=λx lo hi H Q=>∃ a xs,x=.ref a∧SqT K H a xs ∧
 ¬ (HT.sIx xs.length 0 lo=0∧HT.sIx xs.length xs.length hi=xs.length)∧∀ p,H p=none→Q (.ref p) (upd H p (.tup (c5r xs lo hi)))
theorem d0r:SlR X (rSlT X.K):=by
 intro pins s σ H x v vl vu lo hi sl Q I rx hs pl pu h
 obtain⟨a,xs,rfl,hx,hw,q⟩:=h
 cases rx
 obtain⟨its,r,ht,hz⟩:=I.tuple hx
 have hlen:its.toArray.size=xs.length:=by rw[List.size_toArray];exact r.length.symm
 refine⟨"tuple",_,PyProof.Rows.slot_tuple_getitem.lookup,ht.typeIs,?_⟩
 refine HT.getItem_tuple_cut ht hs pl pu (by rw[hlen];exact hw) ?_ (by rw[hlen];exact hz)
 rw[hlen]
 refine⟨.ref s.heap.objs.size,_,I.laid (t':=s.toks) (o:=.tup (c5r xs lo hi)) (λb ob q=>Γc _ q) (Γi _) ?_,rfl,q _ (I.hok.fresh (Γi _))⟩
 exact⟨Nat.le_trans (a6u xs lo hi) hz,_,(r.drop (HT.sIx xs.length 0 lo)).take (HT.sIx xs.length xs.length hi-HT.sIx xs.length 0 lo),IsTup.new _ _⟩
def rLtT (K:Γd):R2:=λx y H Q=>∃ a b ns ms,x=.ref a∧y=.ref b∧SqT K H a (ns.map V.int)∧SqT K H b (ms.map V.int)∧Q (.bl (HT.lexLt ns ms)) H
theorem d1y (hu:X.A.units<cLine):OpR X (compareOp .Lt) (rLtT X.K):=by
 intro pins s σ H x y v u Q I rx ry h
 obtain⟨a,b,ns,ms,rfl,rfl,ha,hb,q⟩:=h
 cases rx
 cases ry
 obtain⟨its,r1,p1,_⟩:=I.tuple ha
 obtain⟨its2,r2,p2,_⟩:=I.tuple hb
 have i1:IntsAre its.toArray.toList ns:=a3s r1
 have i2:IntsAre its2.toArray.toList ms:=a3s r2
 exact HT.lt_tupInts p1 p2 i1 i2 hu ⟨.bl (HT.lexLt ns ms),H,I,rfl,q⟩
def d7y (K:Γd):R2:=λx y H Q=>∃ a b xs ys,x=.ref a∧y=.ref b∧SqT K H a xs∧SqT K H b ys∧xs≠[]∧xs.length+ys.length≤sizeLine ∧
 (ys=[]→Q (.ref a) H)∧(ys≠[]→∀ p,H p=none→Q (.ref p) (upd H p (.tup (xs++ys))))
theorem Vals.nil_iff {xs:List V}{us:List Value}(r:Vals xs us):us=[]↔xs=[]:=by
 cases r with
 | nil=>simp
 | cons _ _=>simp
theorem c7s:OpR X (binaryOp .Add) (d7y X.K):=by
 intro pins s σ H x y v u Q I rx ry h
 obtain⟨a,b,xs,ys,rfl,rfl,ha,hb,hx,hz,q1,q2⟩:=h
 cases rx
 cases ry
 obtain⟨its,r1,p1,_⟩:=I.tuple ha
 obtain⟨its2,r2,p2,_⟩:=I.tuple hb
 refine HT.cat_tup p1 p2 (λz=>hx (r1.nil_iff.mp z)) (λz=>⟨.ref a,H,I,rfl,q1 (r2.nil_iff.mp z)⟩) (λz=>?_) (by rw[← r1.length,← r2.length];exact hz)
 refine⟨.ref s.heap.objs.size,_,I.laid (t':=s.toks) (o:=.tup (xs++ys)) (λb ob q=>Γc _ q) (Γi _) ?_,rfl,q2 (λw=>z (r2.nil_iff.mpr w)) _ (I.hok.fresh (Γi _))⟩
 exact⟨by rw[List.length_append];exact hz,_,r1.append r2,IsTup.new _ _⟩
end
end L2
namespace L2
open PySem PySem.Spec PyProof.Rows
def ixN (n:Nat) (i:Int):Option Nat:=if 0≤i then (if i<n then some i.toNat else none) else if -(n:Int)≤i then some (i+n).toNat else none
def atI {α:Type}(xs:List α) (i:Int):Option α:=(ixN xs.length i).bind λj=>xs[j]?
theorem b8z {n:Nat}{i:Int}{j:Nat}(h:ixN n i=some j):seqIndex? i n=some j∧j<n∧-(n:Int)≤i∧i<n:=by
 unfold ixN at h
 by_cases h0:0≤i
 ·rw[if_pos h0] at h
  by_cases h1:i<n
  ·rw[if_pos h1] at h
   have e:i.toNat=j:=Option.some.inj h
   exact⟨by rw[seqIndex_of h0 h1,e],by lia,by lia,h1⟩
  ·rw[if_neg h1] at h;cases h
 ·rw[if_neg h0] at h
  by_cases h1:-(n:Int)≤i
  ·rw[if_pos h1] at h
   have e:(i+n).toNat=j:=Option.some.inj h
   exact⟨by rw[seqIndex_neg (by lia) h1,e],by lia,h1,by lia⟩
  ·rw[if_neg h1] at h;cases h
theorem c1c {α:Type}{xs:List α}{i:Int}{v:α}(h:atI xs i=some v):∃ j,seqIndex? i xs.length=some j∧xs[j]?=some v∧j<xs.length∧-(xs.length:Int)≤i∧i<xs.length:=by
 unfold atI at h
 cases e:ixN xs.length i with
 | none=>rw[e] at h;cases h
 | some j =>
  rw[e] at h
  obtain⟨h1,h2,h3,h4⟩:=b8z e
  exact⟨j,h1,h,h2,h3,h4⟩
def c1e (b:Expr):Prop:=∀ o i,subscripted b false o i=operate [o,i] (getItem o i)
def IxR (X:Cx)(r:R2):Prop :=
 ∀ (value slice:Expr)(pins:List (Addr×Obj))(s:Shared)(σ:St)(H:Hp)(x y:V)(v u:Value)(Q:VK),Inv X pins σ H s→RelV x v→RelV y u→r x y H Q →
  subscripted slice false v u=operate [v,u] (getItem v u)→wpAny (model X.prog X.w) X.A (subscriptTail value slice v u) (EP X pins σ Q) X.xe s
def MtR (X:Cx)(id:String)(r:V→List V→Hp→VK→Prop):Prop :=
 ∀ (pins:List (Addr×Obj))(s:Shared)(σ:St)(H:Hp)(x:V)(xs:List V)(v:Value)(us:List Value)(Q:VK),Inv X pins σ H s→RelV x v→Vals xs us→r x xs H Q →
  wpAny (model X.prog X.w) X.A (call (.builtin id) (v :: us)) (EP X pins σ Q) X.xe s
section
variable {X:Cx}{a b:Expr}{ta tb:TE}{pos:Pos}
theorem d1o {r:R2}(hr:IxR X r)(ha:PE X a ta)(hb:PE X b tb)(hs:c1e b):PE X (.Subscript a b pos) (tOp r ta tb):=by
 intro pins s σ H Q I h
 exact Subscript_ (e2o ha hb I h λv u s2 x y H2 I2 rx ry q=>hr a b pins s2 σ H2 x y v u Q I2 rx ry q (hs _ _))
def rIxL (K:Γd):R2:=λx y H Q=>∃ p xs i v,x=.ref p∧y=.int i∧SqL K H p xs∧atI xs i=some v∧Q v H
def rIxT (K:Γd):R2:=λx y H Q=>∃ p xs i v,x=.ref p∧y=.int i∧SqT K H p xs∧atI xs i=some v∧Q v H
theorem c8g:IxR X (rIxL X.K):=by
 intro value slice pins s σ H x y v u Q I rx ry h hs
 obtain⟨p,xs,i,z,rfl,rfl,hq,he,q⟩:=h
 cases rx
 obtain⟨t,rfl⟩:=ry
 obtain⟨its,r,pl,hz⟩:=I.list hq
 obtain⟨j,h1,h2,h3,h4,h5⟩:=c1c he
 obtain⟨w,ew,rw'⟩:=r.get h2
 have hl:=r.length
 have hn:=b0u
 have fin:EP X pins σ Q w s:=⟨z,H,I,rw',q⟩
 by_cases h0:0≤i
 ·have hj:i.toNat=j:=by
   rw[seqIndex_of h0 h5] at h1
   exact Option.some.inj h1
  exact item_listR pl.isList h0 (by lia) (by rw[hj];simpa using ew) fin hs
 ·have hj:(i+(its.toArray.size:Int)).toNat=j:=by
   rw[seqIndex_neg (by lia) h4] at h1
   rw[List.size_toArray,← hl]
   exact Option.some.inj h1
  exact subscriptTail_builtinR (x:=w) pl.isList.typeIs slot_list_getitem.lookup
   (wpAny_getItem_list_neg (Q:=λr s'=>r=w∧EP X pins σ Q r s') pl.isList (by lia) (by rw[List.size_toArray]<;>lia) (by lia) (by rw[hj];simpa using ew) ⟨rfl,fin⟩) hs
theorem d2p:IxR X (rIxT X.K):=by
 intro value slice pins s σ H x y v u Q I rx ry h hs
 obtain⟨p,xs,i,z,rfl,rfl,hq,he,q⟩:=h
 cases rx
 obtain⟨t,rfl⟩:=ry
 obtain⟨its,r,pl,hz⟩:=I.tuple hq
 obtain⟨j,h1,h2,h3,h4,h5⟩:=c1c he
 obtain⟨w,ew,rw'⟩:=r.get h2
 have hl:=r.length
 have hn:=b0u
 have fin:EP X pins σ Q w s:=⟨z,H,I,rw',q⟩
 exact subscriptTail_builtinR (x:=w) pl.typeIs slot_tuple_getitem.lookup
  (getItem_tuple (j:=j) (Q:=λr s'=>r=w∧EP X pins σ Q r s') pl (by lia) (by lia) (by rw[List.size_toArray,← hl];exact h1) (by simpa using ew) ⟨rfl,fin⟩) hs
theorem b4z (its:List Value) (n j:Nat)(u:Value):Obj.mapSeq (·.setIfInBounds j u) { cls:=.type "list",data:=.seq its.toArray n } = { cls:=.type "list",data:=.seq (its.set j u).toArray n }:=by
 simp[Obj.mapSeq]
theorem Inv.lst {pins:List (Addr×Obj)}{σ:St}{H:Hp}{s:Shared}{p:Addr}{xs:List V}(I:Inv X pins σ H s)(h:H p=some (.lst xs)) :
  ∃ (its:List Value) (n:Nat),Vals xs its∧s.heap.get? p=some { cls:=.type "list",data:=.seq its.toArray n }∧xs.length≤sizeLine:=by
 obtain⟨z,its,n,r,e⟩:=I.hok p _ h
 exact⟨its,n,r,e,z⟩
theorem Inv.lstUpd {pins:List (Addr×Obj)}{σ:St}{H:Hp}{s:Shared}{p:Addr}{xs ys:List V}{its its':List Value}{n n':Nat}{f:Obj→Obj}(I:Inv X pins σ H s)(h:H p=some (.lst xs))
  (ho:s.heap.get? p=some { cls:=.type "list",data:=.seq its.toArray n })(hf:f { cls:=.type "list",data:=.seq its.toArray n } = { cls:=.type "list",data:=.seq its'.toArray n' })(r:Vals ys its')(hz:ys.length≤sizeLine) (t:Nat) :
  Inv X pins σ (upd H p (.lst ys)) { s with heap:=s.heap.update p f,toks:=t }:=by
 have e:(s.heap.update p f).get? p=some { cls:=.type "list",data:=.seq its'.toArray n' }:=by
  rw[Heap.get?_update_self f ho (by rw[hf]<;>rfl),hf]
 refine I.write (x:=p) (e:=p) (by rw[h];trivial) (.inl rfl) (λb u hb q=>(Γf _ _ (Ne.symm hb)).trans q) ⟨_,e⟩ ?_
 exact⟨hz,its',n',r,e⟩
def d7x:V→V→V→Hp→(Hp→Prop)→Prop:=λo i v H Q=>∃ p xs k j,o=.ref p∧i=.int k∧H p=some (.lst xs)∧ixN xs.length k=some j∧Q (upd H p (.lst (xs.set j v)))
theorem c1v:PSet X d7x:=by
 intro pins s σ H o i v ov iv u Q I ro ri rv h
 obtain⟨p,xs,k,j,rfl,rfl,hp,hj,q⟩:=h
 cases ro
 obtain⟨t,rfl⟩:=ri
 obtain⟨its,n,r,ho,hz⟩:=I.lst hp
 obtain⟨h1,h2,h3,h4⟩:=b8z hj
 have hl:=r.length
 have hn:=b0u
 have I':Inv X pins σ (upd H p (.lst (xs.set j v))) { s with heap:=s.heap.update p (Obj.mapSeq (·.setIfInBounds j u)) } :=
  I.lstUpd hp ho (b4z its n j u) (r.set rv j) (by rw[List.length_set];exact hz) s.toks
 by_cases h0:0≤k
 ·have hk:k.toNat=j:=by
   rw[seqIndex_of h0 h4] at h1
   exact Option.some.inj h1
  exact PySem.W.ki_setAt ho h0 (by lia) (by rw[List.size_toArray,← hl];exact h4) (by rw[hk];exact⟨_,I',q⟩)
 ·have hk:(k+(its.toArray.size:Int)).toNat=j:=by
   rw[seqIndex_neg (by lia) h3] at h1
   rw[List.size_toArray,← hl]
   exact Option.some.inj h1
  exact PySem.W.ki_setBack ho (by lia) (by rw[List.size_toArray,← hl];exact h3) (by lia) (by rw[hk];exact⟨_,I',q⟩)
theorem b0c (lo hi:Option Int) (n:Nat):(sliceBounds lo hi none n).1=((HT.sIx n 0 lo:Nat):Int)∧(sliceBounds lo hi none n).2.1=((HT.sIx n n hi:Nat):Int)∧(sliceBounds lo hi none n).2.2=1:=by
 refine⟨?_,?_,rfl⟩
 ·cases lo with
  | none=>simp[sliceBounds,HT.sIx]
  | some i =>
   simp only[sliceBounds,HT.sIx,Option.getD_none,show (1:Int) > 0 by decide,if_true]
   by_cases h:i<0
   ·simp only[h,if_true]<;>lia
   ·simp only[h,if_false]<;>lia
 ·cases hi with
  | none=>simp[sliceBounds,HT.sIx]
  | some i =>
   simp only[sliceBounds,HT.sIx,Option.getD_none,show (1:Int) > 0 by decide,if_true]
   by_cases h:i<0
   ·simp only[h,if_true]<;>lia
   ·simp only[h,if_false]<;>lia
theorem a8p (its:List Value)(lo hi:Option Int):slicePick its.toArray lo hi none=((its.drop (HT.sIx its.length 0 lo)).take (HT.sIx its.length its.length hi-HT.sIx its.length 0 lo)).toArray:=by
 obtain⟨h1,h2,h3⟩:=b0c lo hi its.toArray.size
 unfold slicePick
 rw[h1,h2,h3]
 simp only[sliceRange_one,pick_run,List.size_toArray]<;>rfl
def rSlL (K:Γd):V→Option Int→Option Int→Hp→VK→Prop:=λx lo hi H Q=>∃ a xs,x=.ref a∧SqL K H a xs∧∀ p,H p=none→Q (.ref p) (upd H p (.lst (c5r xs lo hi)))
theorem c6i:SlR X (rSlL X.K):=by
 intro pins s σ H x v vl vu lo hi sl Q I rx hs pl pu h
 obtain⟨a,xs,rfl,hx,q⟩:=h
 cases rx
 obtain⟨its,r,ht,hz⟩:=I.list hx
 have hlen:=r.length
 refine⟨"list",_,slot_list_getitem.lookup,ht.isList.typeIs,?_⟩
 refine wpAny_getItem_list_slice ht.isList hs pl pu .none (by simp) ?_ (by rw[List.size_toArray]<;>lia)
 rw[a8p,← hlen]
 refine⟨.ref s.heap.objs.size,_,I.laid (t':=s.toks) (o:=.lst (c5r xs lo hi)) (λb ob q=>Γc _ q) (Γi _) ?_,rfl,q _ (I.hok.fresh (Γi _))⟩
 exact⟨Nat.le_trans (a6u xs lo hi) hz,_,0,(r.drop (HT.sIx xs.length 0 lo)).take (HT.sIx xs.length xs.length hi-HT.sIx xs.length 0 lo),Γm _ rfl⟩
theorem b1l:a1k X (.builtin "len") (λxs H Q=>∃ p ys,xs=[.ref p]∧(SqL X.K H p ys ∨ SqT X.K H p ys)∧Q (.int ys.length) H):=by
 intro pins s σ H xs us Q I r h
 obtain⟨p,ys,rfl,hq,q⟩:=h
 obtain⟨u,rfl,rx⟩:=a4e r
 cases rx
 have hn:=b0u
 rcases hq with hq|hq
 ·obtain⟨its,r',pl,hz⟩:=I.list hq
  have hlen:=r'.length
  exact Calls.call_len_list pl.isList (by simp only[List.size_toArray]<;>lia) ⟨.int ys.length,H,I.tok _,⟨s.toks+1,by rw[List.size_toArray,hlen]⟩,q⟩
 ·obtain⟨its,r',pl,hz⟩:=I.tuple hq
  have hlen:=r'.length
  exact len_tuple pl (by simp only[List.size_toArray]<;>lia) ⟨.int ys.length,H,I.tok _,⟨s.toks+1,by rw[List.size_toArray,hlen]⟩,q⟩
theorem a2z:a1k X (.type "tuple") (λxs H Q=>∃ p ys,xs=[.ref p]∧((SqL X.K H p ys∧∀ l,H l=none→Q (.ref l) (upd H l (.tup ys))) ∨ (SqT X.K H p ys∧Q (.ref p) H))):=by
 intro pins s σ H xs us Q I r h
 obtain⟨p,ys,rfl,h⟩:=h
 obtain⟨u,rfl,rx⟩:=a4e r
 cases rx
 rcases h with⟨hq,q⟩|⟨hq,q⟩
 ·obtain⟨its,r',pl,hz⟩:=I.list hq
  have hlen:=r'.length
  refine call_tuple_list pl.isList (λh' kp=>?_) (by simp only[List.size_toArray]<;>lia)
  have I1:Inv X pins σ H { s with heap:=h' }:=I.kept (t':=s.toks) kp
  have I2:Inv X pins σ (upd H h'.objs.size (.tup ys)) { s with heap:=h'.push { cls:=.type "tuple",data:=.seq its.toArray } } :=
   I1.laid (t':=s.toks) (λb o e=>Γc _ e) (Γi _) (show ObjOk X.prog X.w _ _ _ (.tup ys) from ⟨hz,its,r',IsTup.new _ _⟩)
  exact⟨.ref h'.objs.size,_,I2,rfl,q _ (I1.hok.fresh (Γi _))⟩
 ·obtain⟨its,r',pl,hz⟩:=I.tuple hq
  exact call_tuple_same pl ⟨.ref p,H,I,rfl,q⟩
def tyV (K:Γd)(T:String)(x:V)(H:Hp):Prop:=match x with
 | .str _=>T = "str"
 | .int _=>T = "int"
 | .ref p=>(T = "list"∧∃ xs,SqL K H p xs) ∨ (T = "tuple"∧∃ o,K.lookup p=some o∧o.cls=.type "tuple"∧o.dict=none) ∨
   (T = "dict"∧((∃ kvs,H p=some (.dK kvs)) ∨ ∃ kvs,H p=some (.dT kvs))) ∨ (T = "set"∧∃ S n,H p=some (.set S n))
 | _=>False
theorem c4p {pins:List (Addr×Obj)}{σ:St}{H:Hp}{s:Shared}{T:String}{x:V}{v:Value}(I:Inv X pins σ H s)(r:RelV x v)(ty:tyV X.K T x H) :
  s.TypeIs v T∧∀ a,v=.ref a→∃ ob,s.heap.get? a=some ob∧ob.dict=none:=by
 cases x with
 | str z =>
  obtain⟨t,rfl⟩:=r
  cases (show T = "str" from ty)
  exact⟨typeIs_str s z t,λ_ e=>nomatch e⟩
 | int i =>
  obtain⟨t,rfl⟩:=r
  cases (show T = "int" from ty)
  exact⟨typeIs_int s i t,λ_ e=>nomatch e⟩
 | ref p =>
  cases r
  rcases ty with⟨rfl,xs,hq⟩|⟨rfl,o,hk,hc,hd⟩|⟨rfl,hk⟩|⟨rfl,S,n,hk⟩
  ·obtain⟨its,_,pl,_⟩:=I.list hq
   refine⟨pl.isList.typeIs,λa e=>?_⟩
   cases e
   obtain⟨o,n,e,c,hd,_⟩:=pl
   exact⟨o,e,hd⟩
  ·refine⟨⟨o,I.kIn p o hk,hc⟩,λa e=>?_⟩
   cases e
   exact⟨o,I.kIn _ o hk,hd⟩
  ·have z:∃ o,s.heap.get? p=some o∧o.ExactDict:=by
    rcases hk with⟨kvs,hk⟩|⟨kvs,hk⟩
    ·obtain⟨_,_,_,_,o,_,_,e,ex,_⟩:=I.hok p _ hk
     exact⟨o,e,ex⟩
    ·obtain⟨_,_,_,_,o,_,_,e,ex,_⟩:=I.hok p _ hk
     exact⟨o,e,ex⟩
   obtain⟨o,e,ex⟩:=z
   refine⟨⟨o,e,ex.1⟩,λa e2=>?_⟩
   cases e2
   exact⟨o,e,ex.2.1⟩
  ·obtain⟨o,_,_,_,e,ex,_⟩:=I.hok p _ hk
   refine⟨⟨o,e,ex.1⟩,λa e2=>?_⟩
   cases e2
   exact⟨o,e,ex.2.1⟩
 | _=>exact False.elim ty
def tBM (K:Γd)(T:String)(r:V→List V→Hp→VK→Prop)(to:TE)(t:TA):TE:=λσ H Q=>to σ H λx H1=>tyV K T x H1∧t σ H1 λxs H2=>r x xs H2 Q
variable {o e:Expr}{es:List Expr}{to:TE}{t:TA}{name:Str}{apos cpos:Pos}{T id:String}{r:V→List V→Hp→VK→Prop}
theorem d8n (pa:PlainAttrs T)(slot:Slot T name id)(hty:typeOf (.builtin id)=pure (.type "method_descriptor"))(hm:MtR X id r)(ho:PE X o to)(ha:PA X (e :: es) t)
  (hbase:attributeBase o name X.env (eval o X.env)=eval o X.env:=by rfl)
  (hfew:((backTo cpos (starEach (e :: es) X.env)).all (λx=>!x.1) && (backToKw cpos (keywordEach [] X.env)).all (λx=>x.1.isSome)
   && decide ((e :: es).length+([]:List Keyword).length+(if ([]:List Keyword).isEmpty then 0 else 1)<30))=true:=by rfl)
  (hline:(apos.endLine == cpos.line)=true:=by rfl)(hs:starEach (e :: es) X.env=(false,eval e X.env) :: starEach es X.env:=by rfl)(hplain:(backTo cpos (starEach es X.env)).any (·.1)=false:=by rfl) :
  PE X (.Call (.Attribute o name apos) (e :: es) [] cpos) (tBM X.K T r to t):=by
 intro pins s σ H Q I h
 refine wpAny_Call_method_late hbase hfew hline rfl (thn (ho pins s σ H _ I h) λv s1 ⟨x,H1,I1,r1,ty,q1⟩=>?_)
 obtain⟨h1,h2⟩:=c4p I1 r1 ty
 refine⟨T,id,pa,slot,hty,h1,h2,?_⟩
 have hA:=ha cpos pins s1 σ H1 _ I1 q1
 rw[hs] at hA ⊢
 refine Calls.callWith_builtin (by show (false || (backTo cpos (starEach es X.env)).any (·.1))=false;rw[hplain]<;>rfl) (Calls.evalArgs_plain ?_)
 exact thn hA λus s2 ⟨vs,H2,I2,r2,q2⟩=>hm pins s2 σ H2 x vs v us Q I2 r1 r2 q2
end
end L2
namespace L2
open PySem PySem.Spec PyProof.Rows
def MtM (X:Cx)(id:String)(r:V→List V→Hp→VK→Prop):Prop :=
 ∀ (pins:List (Addr×Obj))(s:Shared)(σ:St)(H:Hp)(x:V)(xs:List V)(v:Value)(us:List Value)(Q:VK),Inv X pins σ H s→RelV x v→Vals xs us→r x xs H Q →
  wpAny (model X.prog X.w) X.A (call (.builtin id) (v :: us)) (EP X pins σ Q) X.xe s
theorem Vals.one:∀ {x:V}{us:List Value},Vals [x] us→∃ u,us=[u]∧RelV x u
 | _,_,.cons r .nil=>⟨_,rfl,r⟩
theorem Vals.reverse {xs:List V}{us:List Value}(h:Vals xs us):Vals xs.reverse us.reverse:=by
 induction h with
 | nil=>exact .nil
 | cons r t ih=>rw[List.reverse_cons,List.reverse_cons];exact Vals.append ih (.cons r .nil)
theorem Vals.rep {xs:List V}{us:List Value}(h:Vals xs us):∀ k:Nat,Vals (Γj k xs).flatten (Γj k us).flatten
 | 0=>.nil
 | k+1=>by
  rw[List.replicate_succ,List.replicate_succ,List.flatten_cons,List.flatten_cons]
  exact Vals.append h (Vals.rep h k)
theorem a6o (its:List Value):∀ (k:Nat)(acc:List Value),
  List.foldl (λx1 x2=>x1++x2) acc.toArray (Γj k its.toArray)=(acc++(Γj k its).flatten).toArray
 | 0,acc=>by simp
 | k+1,acc=>by
  have e:acc.toArray++its.toArray=(acc++its).toArray:=by simp
  have e2:(acc++its)++(Γj k its).flatten=acc++(Γj (k+1) its).flatten:=by
   rw[List.replicate_succ,List.flatten_cons,List.append_assoc]
  rw[← e2,← a6o its k (acc++its),← e,List.replicate_succ,List.foldl_cons]
section
variable {X:Cx}{pins:List (Addr×Obj)}{σ:St}{H:Hp}{s:Shared}{l b:Addr}{xs ys zs:List V}
theorem Inv.lset {its its':List Value}{n:Nat}{f:Array Value→Array Value}{t':Nat}(I:Inv X pins σ H s)(hH:H l=some (.lst xs))
  (e:s.heap.get? l=some { cls:=.type "list",data:=.seq its.toArray n })(hf:f its.toArray=its'.toArray)(hv:Vals ys its')(hz:ys.length≤sizeLine) :
  Inv X pins σ (upd H l (.lst ys)) { s with heap:=s.heap.update l (Obj.mapSeq f),toks:=t' }:=by
 have q:=PySem.IsL.update e f
 rw[hf] at q
 refine I.write (x:=l) (e:=l) (by rw[hH];exact trivial) (.inl rfl) (λb' u hb hu=>(Γf s.heap (Obj.mapSeq f) (Ne.symm hb)).trans hu) ⟨_,q⟩ ?_
 exact⟨hz,its',_,hv,q⟩
theorem Inv.lnew {its:List Value}{t':Nat}(I:Inv X pins σ H s)(hv:Vals ys its)(hz:ys.length≤sizeLine) :
  Inv X pins σ (upd H s.heap.objs.size (.lst ys)) { s with heap:=s.heap.push { cls:=.type "list",data:=.seq its.toArray },toks:=t' } :=
 I.laid (λ_ _ q=>Γc _ q) (Γi _) ⟨hz,its,0,hv,Γm _ rfl⟩
theorem Inv.fresh (I:Inv X pins σ H s):H s.heap.objs.size=none:=I.hok.fresh (Γi _)
theorem Inv.lstM (I:Inv X pins σ H s)(hH:H l=some (.lst xs)):xs.length≤sizeLine∧∃ (its:List Value) (n:Nat),Vals xs its∧xs.length=its.length∧s.heap.get? l=some { cls:=.type "list",data:=.seq its.toArray n }:=by
 obtain⟨z,its,n,r,e⟩:=I.hok l _ hH
 exact⟨z,its,n,r,r.length,e⟩
theorem c2t {n:Nat}(h:n≤sizeLine):Builtin.List.listTooLong n=false:=by
 unfold Builtin.List.listTooLong
 exact decide_eq_false (by lia)
end
section
variable {X:Cx}
def c6q:V→List V→Hp→VK→Prop:=λx vs H Q=>∃ l xs y,x=.ref l∧vs=[y]∧H l=some (.lst xs)∧xs.length<sizeLine∧Q .non (upd H l (.lst (xs++[y])))
theorem a6d:MtM X "list.append" c6q:=by
 intro pins s σ H x vs v us Q I rx rv h
 obtain⟨l,xs,y,rfl,rfl,hH,hz,q⟩:=h
 cases rx
 obtain⟨u,rfl,ru⟩:=rv.one
 obtain⟨z,its,n,r,hl,e⟩:=I.lstM hH
 refine call_meets F.slot_list_append ⟨_,e,rfl⟩ F.entry_list_append (F.args_list_append_2 _ _) (PySem.list_append l its.toArray n u (by rw[List.size_toArray];lia)) ⟨e,?_⟩
 refine⟨.non,_,I.lset (its':=its++[u]) hH e (by simp) (r.append (.cons ru .nil)) ?_,rfl,q⟩
 rw[List.length_append,List.length_singleton]
 lia
def rCat:R2:=λx y H Q=>∃ l b xs zs,x=.ref l∧y=.ref b∧H l=some (.lst xs)∧H b=some (.lst zs)∧xs.length+zs.length≤sizeLine∧∀ p,H p=none→Q (.ref p) (upd H p (.lst (xs++zs)))
theorem d2a:OpR X (binaryOp .Add) rCat:=by
 intro pins s σ H x y v u Q I rx ry h
 obtain⟨l,b,xs,zs,rfl,rfl,hH,hB,hz,q⟩:=h
 cases rx
 cases ry
 obtain⟨z,its,n,r,hl,e⟩:=I.lstM hH
 obtain⟨z2,its2,n2,r2,hl2,e2⟩:=I.lstM hB
 refine PySem.P.add_list e e2 ?_ (by rw[List.size_toArray,List.size_toArray];lia)
 have ea:its.toArray++its2.toArray=(its++its2).toArray:=by simp
 rw[ea]
 exact⟨.ref _,_,I.lnew (t':=s.toks) (r.append r2) (by rw[List.length_append];lia),rfl,q _ I.fresh⟩
def rRep:R2:=λx y H Q=>∃ l k xs,x=.ref l∧y=.int k∧H l=some (.lst xs)∧-(2 ^ 63)≤k∧k<2 ^ 63∧xs.length*k.toNat≤sizeLine ∧
 ∀ p,H p=none→Q (.ref p) (upd H p (.lst (Γj k.toNat xs).flatten))
theorem b8u {α:Type}(xs:List α) (k:Nat):(Γj k xs).flatten.length=k*xs.length:=by
 induction k with
 | zero=>simp
 | succ k ih=>rw[List.replicate_succ,List.flatten_cons,List.length_append,ih,Nat.succ_mul,Nat.add_comm]
theorem d1u:OpR X (binaryOp .Mult) rRep:=by
 intro pins s σ H x y v u Q I rx ry h
 obtain⟨l,k,xs,rfl,rfl,hH,h1,h2,hz,q⟩:=h
 cases rx
 obtain⟨t,rfl⟩:=ry
 obtain⟨z,its,n,r,hl,e⟩:=I.lstM hH
 have hlen:its.toArray.size*k.toNat≤sizeLine:=by rw[List.size_toArray,← hl];exact hz
 have hcap:¬ its.toArray.size*k.toNat > (2 ^ 63-1) / 8:=by
  have:(sizeLine:Nat)≤(2 ^ 63-1) / 8:=by decide
  lia
 have hfit:¬ (!Builtin.List.listFitsIndex k)=true:=by
  rw[fitsIndex_both h1 h2]
  exact Γk
 have hlong:¬ Builtin.List.listTooLong (its.toArray.size*k.toNat)=true:=by
  rw[c2t hlen]
  exact Γk
 have hnew:List.foldl (λx1 x2=>x1++x2) #[] (Γj (if its.toArray.isEmpty=true then 0 else k.toNat) its.toArray)=(Γj k.toNat its).flatten.toArray:=by
  have f0:∀ m:Nat,List.foldl (λx1 x2=>x1++x2) #[] (Γj m its.toArray)=(Γj m its).flatten.toArray:=λm=>by
   have:=a6o its m []
   rw[List.nil_append] at this
   exact this
  rw[f0]
  cases its with
  | nil=>simp
  | cons a r'=>rw[if_neg (by simp)]
 refine wpAny_binaryOp_repeat_ref (T:="list") (U:="int") (by decide) ⟨_,e,rfl⟩ (λs'=>typeIs_int s' k t) noFill_list_mul F.fills_int_mul F.slot_int_rmul repeat_list F.slot_int_index.lookup
  (call_meets F.slot_int_rmul (typeIs_int s k t) F.entry_int_rmul (F.args_int_rmul_2 _ _) (int___rmul___int_list k t l its.toArray n)
   ⟨e,rfl,⟨_,e,rfl⟩,call_meets F.slot_list_mul ⟨_,e,rfl⟩ F.entry_list_mul (F.args_list_mul_2 _ _) (AutoListH.list___mul___list_int_3 l its.toArray n k t hfit hcap hlong) ⟨e,?_⟩⟩)
 rw[hnew]
 exact⟨.ref _,_,I.lnew (t':=s.toks) (r.rep k.toNat) (by rw[b8u,Nat.mul_comm];exact hz),rfl,q _ I.fresh⟩
end
section
variable {prog:Program}{w:World}{A:Around}{E:Value→Shared→Prop}{s:Shared}
set_option maxRecDepth 100000 in
end
section
variable {X:Cx}
end
end L2
namespace Att
open PySem PySem.W PySem.Calls PyProof.Rows
theorem a6m {P:Params}{h:Heap}:∀ (ns:List Int)(vs:List Value),WellAll P h vs (ns.map WData.int)→IntsAre vs ns:=by
 intro ns
 induction ns with
 | nil =>
  intro vs w
  rw[List.map_nil] at w
  cases w
  exact .nil
 | cons n ns ih =>
  intro vs w
  rw[List.map_cons] at w
  cases w with
  | cons a b =>
   cases a
   exact .cons _ _ (ih _ b)
theorem b7a {l:OpenLaw}{n:Nat}(hn:l.most=some n){P:Params}{h:Heap}{args:List WData}{vals:List Value}
  (hpre:l.row.toRowW.claim.pre args=true)(hwl:WellAll P h vals args) :
  ∃ a vs ns,vals=[Value.ref a]∧args=[WData.list (ns.map WData.int)]∧h.get? a=some { cls:=.type "list",data:=.seq vs.toArray }∧IntsAre vs ns∧ns.length≤n:=by
 have hsh:WShape.hasAll [] args [.list .int]=true:=(pre_splitW hpre).1
 have hc:l.pre.holds [] { args:=args } = true:=(pre_splitW hpre).2
 obtain⟨d,r,rfl,h1,h2⟩:=hasAllW_cons hsh
 obtain rfl:=hasAllW_nil h2
 obtain⟨xs,rfl,h3⟩:=hasW_list h1
 obtain⟨ns,rfl⟩:=items_int h3
 have hlen:ns.length≤n:=by
  unfold OpenLaw.pre at hc
  have h4:(WTm.not (.lt (.lit (.int (n:Int))) (.len (.arg 0)))).holds [] { args:=[.list (ns.map .int)] } = true:=by
   have h4:=(holds_andW hc).1
   rw[hn] at h4
   exact h4
  have h5:=condW_of h4 (w_not (w_lt w_lit (w_len_list (w_arg rfl))))
  rw[List.length_map] at h5
  refine Nat.le_of_not_lt λq=>?_
  have q':(n:Int)<((ns.length:Nat):Int):=by lia
  first
   | (rw[decide_eq_true q'] at h5;exact absurd h5 (by decide))
   | (simp at h5;lia)
 cases hwl with
 | cons w1 w2 =>
  cases w2
  cases w1 with
  | list ho hall=>exact⟨_,_,ns,rfl,rfl,ho,a6m ns _ hall,hlen⟩
theorem b7v (l:OpenLaw)(args:List WData):l.row.toRowW.claim.post args (.bool true) args=true :=
 postW_of (r:=l.row.toRowW) (X:=(true == true))
  (show WShape.has [] (.bool true) .bool=true by first|rfl|decide|simp[WShape.has,WShape.arms,WShape.armsAll])
  (show (WTm.eq .res (.lit (.bool true))).value [] { args:=args,res:=some (.bool true),after:=args } = some (.bool (true == true)) from w_eq_bool (w_res rfl) w_lit) rfl
theorem attach_call {l:OpenLaw}{n:Nat}{q:Program}{loose:List Str}{XP:(Str→Option Value)→Heap→Prop}{YP:World→Heap→Prop}{d:DefRec}
  (hn:l.most=some n)(hdf:d.params.defaults=[])
  (call:∀ (w:World)(s₀ s₁:Shared)(mg mb:Str→Option Value)(fa:Addr)(o:Obj)(pm cd doc:Value)(a:Addr)(vs:List Value)(ns:List Int),
   Ground q loose [] XP w s₀ mg mb s₁.heap→YP w s₁.heap →
   s₁.heap.get? fa=some o→o.data=.func (docDef d.name d.params d.body d.scope pm cd doc)→s₁.heap.CodeRec cd d.name→mg d.name=some (.ref fa) →
   s₁.heap.get? a=some { cls:=.type "list",data:=.seq vs.toArray }→IntsAre vs ns→ns.length≤n→s₁.gens = #[] →
   codeAny (model l.prog w) callerA (.call (.ref fa) ⟨[.ref a],[]⟩) (λr s'=>r=.ok (.ret (.bool true))∧OldK s₁.heap s'.heap∧s'.os=s₁.os∧AllBare s'.gens) s₁) :
  WalkO q loose XP YP l.row.toRowW d [] (λf vs=>PySem.call f vs):=by
 intro w s₀ s₁ mg mb G Y fa o pm cd doc dV kV ho hd hcd hD hmg hg args vals as hpre hlay hrd hwl hlo
 obtain rfl:dV=.none:=Dflts.none hD hdf
 obtain rfl:kV=.none:=Dflts.noKw hD
 obtain⟨a,vs,ns,rfl,rfl,hobj,hints,hlen⟩:=b7a hn hpre hwl
 refine enter_call (codeAny_mono (call w s₀ s₁ mg mb fa o pm cd doc a vs ns G Y ho (fd_plain hd) hcd hmg hobj hints hlen hg) λr s' hq=>?_)
 obtain⟨rfl,h2,h3,h4⟩:=hq
 exact⟨.inl ⟨.bool true,.bool true,[],rfl,λ_=>rfl,.bool true,b7v l _,λ_=>⟨List.Pairwise.nil,λ_ hm=>(nomatch hm)⟩⟩,h2,h3,h4⟩
section
variable {prog:Program}{w:World}{A:Around}{E:Value→Shared→Prop}{s:Shared}{K:Frag}
end
end Att
namespace L2
open PySem PySem.Spec PyProof.Rows
theorem a9x:∀ {vs:List Value}{ns:List Int},IntsAre vs ns→Vals (ns.map V.int) vs
 | _,_,.nil=>.nil
 | _,_,.cons n t h=>.cons ⟨t,rfl⟩ (a9x h)
def d6m (H:Hp):Prop:=∀ b,H b=none ∨ ∃ o xs,H b=some (.frz o (.lst xs))
theorem c3d {P:Program}{w:World}{K:Γd}{mg mb:Str→Option Value}{CX:CXT}{k:Nat}{fa a:Addr}{fd:FuncData}{x:Str}{sp:Sp}{s₁:Shared}{vs:List Value}{ns:List Int}
  (KX:K.In s₁.heap)(hns:s₁.heap.Ns mainGlobals mg)(hb:s₁.heap.Ns builtinsNs mb)(hbb:∀ x:Str,x≠"__name__"→mb x=bootBuiltins x)(hlim:s₁.heap.NoLimit)(hg:s₁.gens = #[])
  (ha:s₁.heap.get? a=some { cls:=.type "list",data:=.seq vs.toArray })(hi:IntsAre vs ns)(hl:ns.length≤sizeLine)(hr:Room k callerA)
  (F:∀ base:Heap,K.In base→base.Ns mainGlobals mg→FnOk P w K mg base CX k fa fd [x] sp)(hbind:∀ (s:Shared)(u:Value),BindsTo s fd ⟨[u],[]⟩ [(x,u)])
  (hsp:∀ H:Hp,d6m H→SqL K H a (ns.map V.int)→sp [.ref a] H (λv _=>v=.bl true) λ_ _ _=>False)
  (hCX:∀ H e s',CX [] H s₁ (λ_ _ _=>False) e s'→False) :
  codeAny (model P w) callerA (.call (.ref fa) ⟨[.ref a],[]⟩) (λr s'=>r=.ok (.ret (.bool true))∧OldK s₁.heap s'.heap∧s'.os=s₁.os∧AllBare s'.gens) s₁:=by
 have rv:=a9x hi
 have lenV:=hi.length
 -- from an abstract heap in which nothing but the script may be tracked
 have core:∀ H:Hp,d6m H→SqL K H a (ns.map V.int)→HOk P w H s₁.heap→(∀ b,H b≠none→b=a)→(H a≠none→K.lookup a=none) →
   codeAny (model P w) callerA (.call (.ref fa) ⟨[.ref a],[]⟩) (λr s'=>r=.ok (.ret (.bool true))∧OldK s₁.heap s'.heap∧s'.os=s₁.os∧AllBare s'.gens) s₁:=by
  intro H hO hS hok hA hK
  have base_of:∀ {b:Addr}{o:Obj},s₁.heap.get? b=some o→H b=none→(c3j s₁.heap H).get? b=some o:=λe n=>c3i e n
  have noA:∀ {b:Addr}{o:Obj}{es:Array DictEntry}{ep:Nat},s₁.heap.get? b=some o→o.data=.dict es ep→H b=none:=λ{b o es ep} e d=>by
   cases q:H b with
   | none=>rfl
   | some u =>
    have e':b=a:=hA b (by rw[q];simp)
    subst e'
    rw[ha] at e;cases e
    have d':Data.seq vs.toArray _=Data.dict es ep:=d
    cases d'
  have nsK:∀ {b:Addr}{m:Str→Option Value},s₁.heap.Ns b m→(c3j s₁.heap H).Ns b m:=λ{b m} ⟨o,es,ep,e,d,r⟩=>⟨o,es,ep,base_of e (noA e d),d,r⟩
  have hKb:K.In (c3j s₁.heap H):=λb o e=>base_of (KX b o e) (by
   cases q:H b with
   | none=>rfl
   | some u =>
    have e':b=a:=hA b (by rw[q];simp)
    subst e'
    rw[hK (by rw[q];simp)] at e;cases e)
  have hM:Mod K mg (c3j s₁.heap H):=⟨hKb,nsK hns,⟨mb,nsK hb,hbb⟩,let ⟨mc,h1,h2⟩:=hlim;⟨mc,nsK h1,h2⟩⟩
  have e0:Env0 P w K mg (c3j s₁.heap H) callerA [] s₁ H:=⟨rfl,hM,λb o e=>c7t e,Nat.le_of_eq (b9g _ _),trivial,λb hb=>absurd (show b∈([]:List Addr) from hb) (by simp),hok,.of_eq hg⟩
  refine codeAny_mono ((F _ hKb (nsK hns)).run callerA [] s₁ H ⟨[.ref a],[]⟩ [.ref a] [.ref a] _ _ hr e0 (hbind s₁ (.ref a)) (.cons rfl .nil) (hsp H hO hS)) λr s' h=>?_
  cases r with
  | error e=>exact (hCX H e s' h).elim
  | ok fl =>
   cases fl with
   | next=>exact False.elim h
   | brk=>exact False.elim h
   | cont=>exact False.elim h
   | ret u =>
    obtain⟨v,H',os,bare,un,hok',r',q⟩:=h
    have q':v=.bl true:=q
    subst q'
    obtain rfl:u=Value.bool true:=r'
    refine⟨rfl,OldK.of_keep λb o e=>?_,os,bare⟩
    cases q:H b with
    | none=>exact un.keep b o e q (by intro z;exact absurd (show b∈([]:List Addr) from z) (by simp)) (by simp)
    | some u =>
     rcases hO b with z|⟨ob,xs,z⟩
     ·rw[q] at z;cases z
     ·have z2:=un.frzs b ob _ z
      obtain⟨e1,_⟩:=hok b _ z
      obtain⟨e2,_⟩:=hok' b _ z2
      rw[e] at e1;cases e1
      exact e2
 cases hk:K.lookup a with
 | some o =>
  -- the script is one of the module's own objects
  have e:=KX a o hk
  rw[ha] at e
  cases e
  refine core (λ_=>none) (λ_=>.inl rfl) (.inr ⟨_,vs.toArray,_,hk,rfl,rfl,rfl,by rw[List.size_toArray,lenV];exact hl,by simpa using rv⟩) (λb u z=>by have z':(none:Option HO)=some u:=z;cases z') (λb z=>absurd rfl z) λz=>absurd rfl z
 | none =>
  refine core (λb=>if b=a then some (.frz { cls:=.type "list",data:=.seq vs.toArray } (.lst (ns.map V.int))) else none) (λb=>?_) (.inl (.inr ⟨{ cls:=.type "list",data:=.seq vs.toArray },if_pos rfl⟩)) (λb u z=>?_) (λb z=>?_) λ_=>hk
  ·by_cases hb:b=a
   ·exact .inr ⟨_,_,if_pos hb⟩
   ·exact .inl (if_neg hb)
  ·by_cases hb:b=a
   ·have z':=(if_pos hb).symm.trans z
    cases z'
    subst hb
    exact⟨ha,by rw[List.length_map];exact hl,vs,_,rv,ha⟩
   ·have z':=(if_neg hb).symm.trans z
    cases z'
  ·by_cases hb:b=a
   ·exact hb
   ·exact absurd (if_neg hb) z
end L2
namespace L2
open PySem PySem.Spec PyProof.Rows
end L2
namespace L2
open PySem PySem.Spec PyProof.Rows
abbrev CX0:CXT:=λ_ _ _ _ _ _=>False
abbrev E0:XK:=λ_ _ _=>False
theorem b8d {X:Cx}:a5f CX0 X E0:=λ_ _ _ _ _ _ _ h=>h.elim
structure Fun (K:Γd)(x qual:Str)(st:Stmt)(f:Addr)(fd:FuncData):Prop where
 ex:∃ (oc:Value)(od:Option Addr)(kV doc pm:Value)(an:Option Addr)(cdv ct:Value)(osl:Array (Option Value)),
  fd=PySem.W.fnOf x qual (a4c st) (a1i st) (a0o st) .none kV doc pm an cdv ct∧K.lookup f=some ⟨oc,od,.func fd,osl⟩∧PySem.W.codeIn K cdv qual=true
 kp:PySem.W.keepIn K (.ref f)=true
section
variable {P:Program}{w:World}{K:Γd}{mg:Str→Option Value}{base:Heap}
theorem Fun.ok {x qual:Str}{st:Stmt}{f:Addr}{fd:FuncData}{N ps:List Str}{k:Nat}{sp:Sp}(F:Fun K x qual st f fd)(S:FnScope N ps (a0o st))(len:∀ vs H Q E,sp vs H Q E→vs.length=ps.length)
  (hbody:∀ (cdv:Value)(A:Around)(outer:List Env)(s:Shared)(H:Hp)(vs:List V)(Q:VK)(E:XK),RoomS k (A.deeper (envOfC qual (a0o st) s.heap.objs.size f cdv))→sp vs H Q E →
   ∃ t,PSs (b6c CX0 P w K mg base N qual (a0o st) f cdv A outer s H E).nox (a1i st) t∧t { nx:=λ_ H'=>Q .non H',rt:=Q } (start N vs) H):FnOk P w K mg base CX0 (k+1) f fd ps sp:=by
 obtain⟨oc,od,kV,doc,pm,an,cdv,ct,osl,rfl,lk,hcd⟩:=F.ex
 refine d3b lk hcd S len λA outer s H vs Q E hr hsp=>?_
 obtain⟨t,h,q⟩:=hbody cdv A outer s H vs Q E hr hsp
 exact⟨t,h.nox,q⟩
theorem Fun.binds {x qual:Str}{st:Stmt}{f:Addr}{fd:FuncData}{ps:List Str}(F:Fun K x qual st f fd)
  (h:∀ (kV doc pm:Value)(an:Option Addr)(cdv ct:Value)(us:List Value),us.length=ps.length→bindArgs (PySem.W.fnOf x qual (a4c st) (a1i st) (a0o st) .none kV doc pm an cdv ct) ⟨us,[]⟩=pure (ps.zip us)):Binds K fd ps []:=by
 obtain⟨oc,od,kV,doc,pm,an,cdv,ct,osl,rfl,lk,hcd⟩:=F.ex
 exact .all (h kV doc pm an cdv ct)
theorem c5n {x qual:Str}{st:Stmt}{f:Addr}{oc:Value}{od an:Option Addr}{osl:Array (Option Value)}{kV doc pm cdv ct:Value}(l:K.lookup f=some ⟨oc,od,.func (PySem.W.fnOf x qual (a4c st) (a1i st) (a0o st) .none kV doc pm an cdv ct),osl⟩)
  (c:PySem.W.codeIn K cdv qual=true)(k:PySem.W.keepIn K (.ref f)=true):Fun K x qual st f (PySem.W.fnOf x qual (a4c st) (a1i st) (a0o st) .none kV doc pm an cdv ct):=⟨⟨oc,od,kV,doc,pm,an,cdv,ct,osl,rfl,l,c⟩,k⟩
end
section
variable {X:Cx}
end
def Same (H H':Hp):Prop:=∀ b o,H b=some o→H' b=some o
theorem Same.refl (H:Hp):Same H H:=λ_ _ h=>h
theorem Same.trans {H H1 H2:Hp}(a:Same H H1)(b:Same H1 H2):Same H H2:=λc o h=>b c o (a c o h)
end L2
end
section
namespace L2
open PySem PySem.Spec PyProof.Rows
section
variable {κ:Type} [DecidableEq κ]
def b1r (kvs:List (κ×V))(k:κ):Option V:=(kvs.find? λkv=>decide (kv.1=k)).map (·.2)
def a6w (kvs:List (κ×V))(k:κ)(v:V):List (κ×V) :=
 if (kvs.any λkv=>decide (kv.1=k))=true then kvs.map (λkv=>if kv.1=k then (kv.1,v) else kv) else kvs++[(k,v)]
theorem a4f {p:κ×V}{r:List (κ×V)}{k:κ}(e:p.1=k):b1r (p :: r) k=some p.2:=by simp[b1r,List.find?_cons,e]
theorem a4g {p:κ×V}{r:List (κ×V)}{k:κ}(e:¬ p.1=k):b1r (p :: r) k=b1r r k:=by simp[b1r,List.find?_cons,e]
theorem a5k (k:κ):∀ kvs:List (κ×V),(kvs.any λkv=>decide (kv.1=k))=(b1r kvs k).isSome
 | []=>rfl
 | p :: r=>by
  rw[List.any_cons]
  by_cases e:p.1=k
  ·simp only[a4f e,decide_eq_true e,Bool.true_or,Option.isSome_some]
  ·rw[a4g e,decide_eq_false e,Bool.false_or];exact a5k k r
theorem a2v (kvs:List (κ×V))(k:κ)(v:V):(a6w kvs k v).length≤kvs.length+1:=by
 unfold a6w
 split
 ·rw[List.length_map];lia
 ·rw[List.length_append,List.length_cons,List.length_nil];lia
theorem RelO.isSome_eq {o:Option V}{u:Option Value}(r:RelO o u):o.isSome=u.isSome:=by
 cases o with
 | none=>cases u with
  | none=>rfl
  | some _=>exact (show False from r).elim
 | some _=>cases u with
  | none=>exact (show False from r).elim
  | some _=>rfl
theorem RelO.getD {o:Option V}{u:Option Value}{d:V}{d':Value}(r:RelO o u)(rd:RelV d d'):RelV (o.getD d) (u.getD d'):=by
 cases o with
 | none=>cases u with
  | none=>exact rd
  | some _=>exact (show False from r).elim
 | some _=>cases u with
  | none=>exact (show False from r).elim
  | some _=>exact r
theorem KV.val {kvs:List (κ×V)}{vs:List (κ×Value)}(r:KV kvs vs)(k:κ):RelO (b1r kvs k) (valueAt vs k):=by
 unfold KV at r
 induction r with
 | nil=>exact True.intro
 | @cons p q ps qs h t ih =>
  obtain⟨h1,h2⟩:=h
  by_cases e:p.1=k
  ·have e':q.1=k:=h1.symm.trans e
   have b:valueAt (q :: qs) k=some q.2:=by simp[valueAt,List.find?_cons,e']
   rw[a4f e,b];exact h2
  ·have e':¬ q.1=k:=λz=>e (h1.trans z)
   have b:valueAt (q :: qs) k=valueAt qs k:=by simp[valueAt,List.find?_cons,e']
   rw[a4g e,b];exact ih
theorem KV.any {kvs:List (κ×V)}{vs:List (κ×Value)}(r:KV kvs vs)(k:κ):(kvs.any λkv=>decide (kv.1=k))=vs.any λkv=>decide (kv.1=k):=by
 unfold KV at r
 induction r with
 | nil=>rfl
 | cons h t ih=>rw[List.any_cons,List.any_cons,ih,h.1]
theorem KV.repl {kvs:List (κ×V)}{vs:List (κ×Value)}(r:KV kvs vs)(k:κ){y:V}{u:Value}(ry:RelV y u) :
  KV (kvs.map λkv=>if kv.1=k then (kv.1,y) else kv) (vs.map λkv=>if kv.1=k then (kv.1,u) else kv):=by
 unfold KV at r ⊢
 induction r with
 | nil=>exact .nil
 | @cons p q ps qs h t ih =>
  rw[List.map_cons,List.map_cons]
  refine .cons ?_ ih
  obtain⟨h1,h2⟩:=h
  by_cases e:p.1=k
  ·rw[if_pos e,if_pos (h1.symm.trans e)];exact⟨h1,ry⟩
  ·rw[if_neg e,if_neg (λz=>e (h1.trans z))];exact⟨h1,h2⟩
theorem KV.put {kvs:List (κ×V)}{vs:List (κ×Value)}(r:KV kvs vs)(k:κ){y:V}{u:Value}(ry:RelV y u):KV (a6w kvs k y) (stored vs k u):=by
 unfold a6w stored
 rw[r.any k]
 by_cases e:(vs.any λkv=>decide (kv.1=k))=true
 ·rw[if_pos e,if_pos e];exact r.repl k ry
 ·rw[if_neg e,if_neg e];exact Paired.snoc r ⟨rfl,ry⟩
theorem KV.length {kvs:List (κ×V)}{vs:List (κ×Value)}(r:KV kvs vs):kvs.length=vs.length:=Paired.length r
end
theorem b5g {P:Program}{w:World}{k:Key}{u:Value}(r:RelV (kV k) u):(a0w P w).is k u=true:=by
 rcases k with i|x|x
 ·obtain⟨t,e⟩:=(show ∃ t,u=Value.int i t from r);subst e;exact b2l P w i t
 ·cases (show u=Value.none from r);exact b0p P w
 ·obtain⟨t,e⟩:=(show ∃ t,u=Value.str x t from r);subst e;exact b2k P w x t
theorem b0x {P:Program}{w:World}:∀ {ks:List Key}{us:List Value},Vals (ks.map kV) us→ItemsAre (a0w P w) ks us
 | [],_,r=>by rw[List.map_nil] at r;cases r;exact .nil
 | k :: ks,_,r=>by
  rw[List.map_cons] at r
  cases r with
  | cons h t=>exact .cons (b5g h) (b0x t)
abbrev KT (H:Hp):List (List Key×V)→List (List Key×Addr×Value)→Prop:=Paired λp q=>p.1=q.1∧H q.2.1=some (.tup (p.1.map kV))∧RelV p.2 q.2.2
theorem KT.val {H:Hp}{kvs:List (List Key×V)}{xs:List (List Key×Addr×Value)}(r:KT H kvs xs)(k:List Key):RelO (b1r kvs k) ((atKey xs k).map (·.2)):=by
 induction r with
 | nil=>exact True.intro
 | @cons p q ps qs h t ih =>
  obtain⟨h1,_,h2⟩:=h
  by_cases e:p.1=k
  ·have e':q.1=k:=h1.symm.trans e
   have b:atKey (q :: qs) k=some q.2:=by simp[atKey,List.find?_cons,e']
   rw[a4f e,b];exact h2
  ·have e':¬ q.1=k:=λz=>e (h1.trans z)
   have b:atKey (q :: qs) k=atKey qs k:=by simp[atKey,List.find?_cons,e']
   rw[a4g e,b];exact ih
theorem KT.repl {H:Hp}{kvs:List (List Key×V)}{xs:List (List Key×Addr×Value)}(r:KT H kvs xs)(k:List Key){y:V}{u:Value}(ry:RelV y u) :
  KT H (kvs.map λkv=>if kv.1=k then (kv.1,y) else kv) (xs.map (putAt k u)):=by
 induction r with
 | nil=>exact .nil
 | @cons p q ps qs h t ih =>
  rw[List.map_cons,List.map_cons]
  refine .cons ?_ ih
  obtain⟨h1,h2,h3⟩:=h
  unfold putAt
  by_cases e:p.1=k
  ·rw[if_pos e,if_pos (h1.symm.trans e)];exact⟨h1,h2,ry⟩
  ·rw[if_neg e,if_neg (λz=>e (h1.trans z))];exact⟨h1,h2,h3⟩
theorem KT.put {H:Hp}{kvs:List (List Key×V)}{xs:List (List Key×Addr×Value)}(r:KT H kvs xs)(k:List Key){b:Addr}{y:V}{u:Value}(hb:H b=some (.tup (k.map kV)))(ry:RelV y u) :
  KT H (a6w kvs k y) (storedH xs k b u):=by
 have e:(kvs.any λkv=>decide (kv.1=k))=(atKey xs k).isSome:=by
  rw[a5k,(r.val k).isSome_eq,Option.isSome_map]
 unfold a6w storedH
 rw[e]
 by_cases q:(atKey xs k).isSome=true
 ·rw[if_pos q,if_pos q];exact r.repl k ry
 ·rw[if_neg q,if_neg q];exact Paired.snoc r ⟨rfl,hb,ry⟩
theorem KT.keeps {H H':Hp}{kvs:List (List Key×V)}{xs:List (List Key×Addr×Value)}(r:KT H kvs xs)(ht:∀ b ys,H b=some (.tup ys)→H' b=some (.tup ys)):KT H' kvs xs :=
 Paired.mapP r λ_ _ z=>⟨z.1,ht _ _ z.2.1,z.2.2⟩
section
variable {P:Program}{w:World}{H:Hp}{h:Heap}{a:Addr}
theorem d0v {u:HO}(ok:HOk P w H h)(e:Rd H a u):ObjOk P w H h a u:=e.ok ok
theorem b5r {kvs:List (Key×V)}(ok:HOk P w H h)(e:Rd H a (.dK kvs)):kvs.length≤sizeLine∧(a == sysModules)=false∧∃ vs,KV kvs vs∧h.DictOf (a0w P w) a vs :=
 show ObjOk P w H h a (.dK kvs) from d0v ok e
theorem d3y {kvs:List (Key×V)}(ok:HOk P w H h)(e:H a=some (.dK kvs)):kvs.length≤sizeLine∧(a == sysModules)=false∧∃ vs,KV kvs vs∧h.DictOf (a0w P w) a vs:=b5r ok (.inl e)
theorem a7z {ks:List Key}(ok:HOk P w H h)(e:H a=some (.tup (ks.map kV))):(tupleKind (a0w P w)).is h ks a:=by
 obtain⟨_,its,r,o,h1,h2,n,h3⟩:=(show ObjOk P w H h a (.tup (ks.map kV)) from ok a _ e)
 exact⟨o,its.toArray,n,h1,h2,h3,by simpa using b0x r⟩
theorem b5q {kvs:List (List Key×V)}(ok:HOk P w H h)(e:Rd H a (.dT kvs)):kvs.length≤sizeLine∧(a == sysModules)=false ∧
  ∃ xs,KT H kvs xs∧h.DictOfH (tupleKind (a0w P w)) a xs:=by
 obtain⟨z,y,xs,r,o,es,ep,h1,h2,h3,h4,h5⟩:=(show ObjOk P w H h a (.dT kvs) from d0v ok e)
 refine⟨z,y,xs,r,o,es,ep,h1,h2,h3,h4,λx hx=>?_,h5⟩
 have all:∀ {l:List (List Key×V)}{m:List (List Key×Addr×Value)},KT H l m→∀ x∈m,(tupleKind (a0w P w)).is h x.1 x.2.1:=by
  intro l m q
  induction q with
  | nil=>intro x hx;exact nomatch hx
  | @cons p q ps qs hq t ih =>
   intro x hx
   rcases List.mem_cons.mp hx with e|hx
   ·subst e
    exact a7z ok (by rw[← hq.1];exact hq.2.1)
   ·exact ih x hx
 exact all r x hx
theorem d3w {kvs:List (List Key×V)}(ok:HOk P w H h)(e:H a=some (.dT kvs)):kvs.length≤sizeLine∧(a == sysModules)=false ∧
  ∃ xs,KT H kvs xs∧h.DictOfH (tupleKind (a0w P w)) a xs:=b5q ok (.inl e)
end
def DGet (H:Hp)(a:Addr)(y:V)(r:Option V):Prop :=
 (∃ kvs k,Rd H a (.dK kvs)∧y=kV k∧r=b1r kvs k) ∨ ∃ kvs k b,Rd H a (.dT kvs)∧y=.ref b∧H b=some (.tup (k.map kV))∧r=b1r kvs k
def DPut (H:Hp)(a:Addr)(y v:V)(H':Hp):Prop :=
 (∃ kvs k,H a=some (.dK kvs)∧y=kV k∧kvs.length<sizeLine∧H'=upd H a (.dK (a6w kvs k v))) ∨
 ∃ kvs k b,H a=some (.dT kvs)∧y=.ref b∧H b=some (.tup (k.map kV))∧kvs.length<sizeLine∧H'=upd H a (.dT (a6w kvs k v))
theorem DGet.k {H:Hp}{a:Addr}{kvs:List (Key×V)}{k:Key}(e:H a=some (.dK kvs)):DGet H a (kV k) (b1r kvs k):=.inl ⟨kvs,k,.inl e,rfl,rfl⟩
theorem DGet.t {H:Hp}{a b:Addr}{kvs:List (List Key×V)}{k:List Key}(e:H a=some (.dT kvs))(eb:H b=some (.tup (k.map kV))):DGet H a (.ref b) (b1r kvs k):=.inr ⟨kvs,k,b,.inl e,rfl,eb,rfl⟩
theorem DPut.k {H:Hp}{a:Addr}{kvs:List (Key×V)}{k:Key}{v:V}(e:H a=some (.dK kvs))(hl:kvs.length<sizeLine):DPut H a (kV k) v (upd H a (.dK (a6w kvs k v))):=.inl ⟨kvs,k,e,rfl,hl,rfl⟩
theorem DPut.t {H:Hp}{a b:Addr}{kvs:List (List Key×V)}{k:List Key}{v:V}(e:H a=some (.dT kvs))(eb:H b=some (.tup (k.map kV)))(hl:kvs.length<sizeLine) :
  DPut H a (.ref b) v (upd H a (.dT (a6w kvs k v))):=.inr ⟨kvs,k,b,e,rfl,eb,hl,rfl⟩
section
variable {X:Cx}{pins:List (Addr×Obj)}{σ:St}{H:Hp}{s:Shared}{a:Addr}{y v:V}{u r:Value}{o:Option V}{A:Around}{E:Value→Shared→Prop}
theorem Inv.big (I:Inv X pins σ H s):sysModules<s.heap.objs.size:=by
 have h:mainGlobals<s.heap.objs.size:=(I.mod.glob.keeps I.bk).lt
 exact Nat.lt_trans (by decide) h
theorem c0i {Q:Value→Shared→Prop}(hu:A.units+1<cLine)(I:Inv X pins σ H s)(g:DGet H a y (some v))(ry:RelV y u)(h:∀ w' s',Inv X pins σ H s'→RelV v w'→Q w' s') :
  wpAny (model X.prog X.w) A (getItem (.ref a) u) Q E s:=by
 rcases g with⟨kvs,k,e,ey,l⟩|⟨kvs,k,b,e,ey,eb,l⟩
 ·subst ey
  obtain⟨z,hd,vs,rel,dd⟩:=b5r I.hok e
  obtain⟨w',hw,rw'⟩:=RelO.some_of (v:=v) (o:=valueAt vs k) (by rw[l];exact rel.val k)
  exact wpAny_getItem_of (b5g ry) dd.mapOf hw (h w' _ (I.tok _) rw')
 ·subst ey
  cases (show u=Value.ref b from ry)
  obtain⟨z,hd,xs,rel,dd⟩:=b5q I.hok e
  obtain⟨w',hw,rw'⟩:=RelO.some_of (v:=v) (o:=(atKey xs k).map (·.2)) (by rw[l];exact rel.val k)
  obtain⟨p,hp,hp2⟩:=Option.map_eq_some_iff.mp hw
  refine wpAny_getItem_heap (tupleKind_room_in1 hu) (a7z I.hok eb) dd hp ?_
  rw[hp2]
  exact h w' _ (I.tok _) rw'
theorem d_in {Q:Value→Shared→Prop}(hu:A.units+1<cLine)(I:Inv X pins σ H s)(g:DGet H a y o)(ry:RelV y u)(h:∀ s',Inv X pins σ H s'→Q (.bool o.isSome) s') :
  wpAny (model X.prog X.w) A (compareOp .In u (.ref a)) Q E s:=by
 rcases g with⟨kvs,k,e,ey,l⟩|⟨kvs,k,b,e,ey,eb,l⟩
 ·subst ey
  obtain⟨z,hd,vs,rel,dd⟩:=b5r I.hok e
  refine wpAny_in_of (b5g ry) hd dd.mapOf ?_
  rw[← (rel.val k).isSome_eq,← l]
  exact h _ (I.tok _)
 ·subst ey
  cases (show u=Value.ref b from ry)
  obtain⟨z,hd,xs,rel,dd⟩:=b5q I.hok e
  refine wpAny_in_heap (tupleKind_room_in1 hu) (a7z I.hok eb) hd dd ?_
  have q:=(rel.val k).isSome_eq
  rw[Option.isSome_map] at q
  rw[← q,← l]
  exact h _ (I.tok _)
theorem a9s {h':Heap}{t':Nat}{ob:HO}(I:Inv X pins σ H s)(mu:Mut (H a))(hs:Heap.SameBut a s.heap h')(he:∃ q,h'.get? a=some q)(new:ObjOk X.prog X.w (upd H a ob) h' a ob) :
  Inv X pins σ (upd H a ob) { s with heap:=h',toks:=t' } :=
 I.write (x:=a) (e:=a) mu (.inl rfl) (λb q hb z=>(hs.2 b hb).trans z) he new
theorem c5p {P:Program}{w:World}{H':Hp}{h':Heap}{kvs:List (Key×V)}{vs:List (Key×Value)}(z:kvs.length≤sizeLine)(hd:(a == sysModules)=false)(rel:KV kvs vs)(dd:h'.DictOf (a0w P w) a vs) :
  ObjOk P w H' h' a (.dK kvs):=⟨z,hd,vs,rel,dd⟩
theorem c0h {H':Hp}{Q:Unit→Shared→Prop}(hu:A.units+1<cLine)(I:Inv X pins σ H s)(g:DPut H a y v H')(ry:RelV y u)(rv:RelV v r)(h:∀ s',Inv X pins σ H' s'→Q () s') :
  wpAny (model X.prog X.w) A (setItem (.ref a) u r) Q E s:=by
 rcases g with⟨kvs,k,e,ey,l,eH⟩|⟨kvs,k,b,e,ey,eb,l,eH⟩
 ·subst ey eH
  obtain⟨z,hd,vs,rel,dd⟩:=d3y I.hok e
  have hz:vs.length≤sizeLine:=by rw[← rel.length];exact z
  have hl:(a6w kvs k v).length≤sizeLine:=by have:=a2v kvs k v;lia
  refine wpAny_setItem_pairs (hsz:=hz) (b5g ry) dd λh' dd' hs=>h _ ?_
  have he:∃ q,h'.get? a=some q:=let ⟨q,_,_,hq,_⟩:=dd';⟨q,hq⟩
  exact a9s I (by rw[e];exact True.intro) hs he (c5p hl hd (rel.put k rv) dd')
 ·subst ey eH
  cases (show u=Value.ref b from ry)
  obtain⟨z,hd,xs,rel,dd⟩:=d3w I.hok e
  have hz:xs.length≤sizeLine:=by rw[← Paired.length rel];exact z
  have hl:(a6w kvs k v).length≤sizeLine:=by have:=a2v kvs k v;lia
  refine wpAny_setItem_heap (hsz:=hz) (tupleKind_room_in1 hu) (a7z I.hok eb) dd λh' dd' hs=>h _ ?_
  obtain⟨q,es,ep,hq,h2,h3,h4,_,h5⟩:=dd'
  refine a9s I (by rw[e];exact True.intro) hs ⟨q,hq⟩ ⟨hl,hd,_,(rel.put k eb rv).keeps λc ys ec=>?_,q,es,ep,hq,h2,h3,h4,h5⟩
  rw[a0c (d2g ec e (λz=>nomatch z))]
  exact ec
end
section
variable {X:Cx}{pins:List (Addr×Obj)}{σ:St}{H:Hp}{s:Shared}{a:Addr}{kvs:List (Key×V)}{k:Key}{u:Value}{A:Around}{E:Value→Shared→Prop}
end
def NoSl (i:Expr):Prop:=∀ ov iv,subscripted i false ov iv=operate [ov,iv] (getItem ov iv)
theorem c6e {prog:Program}{w:World}{A:Around}{E:Value→Shared→Prop}{s:Shared}{env:Env}{value slice:Expr}{pos:Pos}{T id:String}{Q:Value→Shared→Prop}
  (hl:typeLookup (.type T) "__getitem__" = pure (some (.builtin id)))(hs:NoSl slice)
  (h:wpAny (model prog w) A (eval value env) (λo s₁=>wpAny (model prog w) A (eval slice env) (λi s₂=>s₂.TypeIs o T∧wpAny (model prog w) A (getItem o i) Q E s₂) E s₁) E s) :
  wpAny (model prog w) A (eval (.Subscript value slice pos) env) Q E s:=by
 refine Subscript_ (wpAny_mono h (λo s₁ h₁=>wpAny_mono h₁ (λi s₂ h₂=>?_) λ_ _ x=>x) λ_ _ x=>x)
 obtain⟨hT,h₂⟩:=h₂
 unfold subscriptTail
 refine Γa ?_
 rw[getitemInPython_of_ne hT.not_modules]
 refine Γa (wpAny_specialOf hT hl ?_)
 have fin:wpAny (model prog w) A (subscripted slice false o i) (λr s₃=>wpAny (model prog w) A (letTemporaryGo value o r >>= λ_=>pure r) Q E s₃) E s₂:=by
  rw[hs o i]
  exact wpAny_operating (wpAny_mono h₂ (λr s₃ h₃=>Γa (wpAny_letTemporaryGo (Γb h₃))) λ_ _ x=>x)
 first
  | exact Γb (Γa fin)
  | exact Γa (Γb (Γa fin))
  | exact Γa fin
theorem b2w {X:Cx}{pins:List (Addr×Obj)}{σ:St}{H:Hp}{s:Shared}{a:Addr}{y:V}{o:Option V}(I:Inv X pins σ H s)(g:DGet H a y o):s.TypeIs (.ref a) "dict":=by
 rcases g with⟨kvs,k,e,_,_⟩|⟨kvs,k,b,e,_,_,_⟩
 ·obtain⟨_,_,vs,_,dd⟩:=b5r I.hok e
  exact dd.typeIs
 ·obtain⟨_,_,xs,_,dd⟩:=b5q I.hok e
  exact dd.typeIs
def d7a (td ty:TE):TE:=λσ H Q=>td σ H λx H1=>ty σ H1 λy H2=>∃ a v,x=.ref a∧DGet H2 a y (some v)∧Q v H2
def d7t (td ty tv:TE):TS:=λD σ H=>tv σ H λv H1=>td σ H1 λx H2=>ty σ H2 λy H3=>∃ a H4,x=.ref a∧DPut H3 a y v H4∧D.nx σ H4
section
variable {X:Cx}{o i e value:Expr}{pos pos' tpos:Pos}{td ty tv:TE}
theorem b8b (hu:X.A.units+1<cLine)(ho:PE X o td)(hi:PE X i ty)(hs:NoSl i):PE X (.Subscript o i pos) (d7a td ty):=by
 intro pins s σ H Q I h
 refine c6e PySem.F.slot_dict_getitem.lookup hs (thn (ho pins s σ H _ I h) λu s1 ⟨x,H1,I1,rx,q1⟩=>thn (hi pins s1 σ H1 _ I1 q1) λiv s2 ⟨y,H2,I2,ry,a,v,ex,g,q2⟩=>?_)
 subst ex
 obtain rfl:u=Value.ref a:=rx
 exact⟨b2w I2 g,c0i hu I2 g ry λw' s3 I3 rw'=>⟨v,H2,I3,rw',q2⟩⟩
theorem c6y (hu:X.A.units+1<cLine)(ho:PE X o td)(hi:PE X i ty)(hv:PE X value tv)(hs:swapsWith value (some (.Subscript o i pos')) pos.line X.env=pure false) :
  PS X (.Assign [.Subscript o i pos'] value pos) (d7t td ty tv):=by
 intro pins s σ H D I h
 refine wpAny_Assign_Subscript (thn (hv pins s σ H _ I h) λr s1 ⟨v,H1,I1,rv,q1⟩=>thn (ho pins s1 σ H1 _ I1 q1) λu s2 ⟨x,H2,I2,rx,q2⟩=>thn (hi pins s2 σ H2 _ I2 q2) λiv s3 ⟨y,H3,I3,ry,a,H4,ex,g,q3⟩=>?_) hs
 subst ex
 obtain rfl:u=Value.ref a:=rx
 exact c0h hu I3 g ry rv λs4 I4=>⟨σ,H4,I4,q3⟩
end
theorem c3y {P:Program}{w:World}{H:Hp}(h:Heap)(hb:sysModules<h.objs.size):ObjOk P w H (h.push { cls:=.type "dict",data:=.dict #[] }) h.objs.size (.dK []) :=
 ⟨Nat.zero_le _,beq_eq_false_iff_ne.mpr (Ne.symm (Γo hb)),[],.nil,Heap.DictOf.new h⟩
theorem c3v {P:Program}{w:World}{H:Hp}(h:Heap)(hb:sysModules<h.objs.size):ObjOk P w H (h.push { cls:=.type "dict",data:=.dict #[] }) h.objs.size (.dT []) :=
 ⟨Nat.zero_le _,beq_eq_false_iff_ne.mpr (Ne.symm (Γo hb)),[],.nil,_,#[],0,Γm _ rfl,⟨rfl,rfl,rfl⟩,rfl,rfl,List.nodup_nil⟩
section
variable {X:Cx}{pos:Pos}
end
def b6t:List (TE×TE)→St→Hp→(List (V×V)→Hp→Prop)→Prop
 | [],_,H,Q=>Q [] H
 | (tk,tv) :: r,σ,H,Q=>tk σ H λx H1=>tv σ H1 λy H2=>b6t r σ H2 λps H3=>Q ((x,y) :: ps) H3
abbrev VV:List (V×V)→List (Value×Value)→Prop:=Paired λp q=>RelV p.1 q.1∧RelV p.2 q.2
def PPs (X:Cx)(pos:Pos)(keys:List (Option Expr))(values:List Expr)(trs:List (TE×TE)):Prop :=
 ∀ (pins:List (Addr×Obj))(s:Shared)(σ:St)(H:Hp)(Q:List (V×V)→Hp→Prop),Inv X pins σ H s→b6t trs σ H Q →
  wpAny (model X.prog X.w) X.A (evalPairs (pairTrees keys values X.env pos)) (λvs s'=>∃ ps H',Inv X pins σ H' s'∧VV ps vs∧Q ps H') X.xe s
theorem c7a {X:Cx}{pos:Pos}:PPs X pos [] [] []:=λpins s σ H Q I h=>pairTrees_nil_walk ⟨[],H,I,.nil,h⟩
theorem c2f {X:Cx}{pos:Pos}{k v:Expr}{ks:List (Option Expr)}{vs:List Expr}{tk tv:TE}{trs:List (TE×TE)}(hk:PE X k tk)(hv:PE X v tv)(hr:PPs X pos ks vs trs) :
  PPs X pos (some k :: ks) (v :: vs) ((tk,tv) :: trs):=λpins s σ H Q I h =>
 pairTrees_cons_walk (thn (hk pins s σ H _ I h) λu s1 ⟨x,H1,I1,rx,q1⟩=>thn (hv pins s1 σ H1 _ I1 q1) λw2 s2 ⟨y,H2,I2,ry,q2⟩ =>
  thn (hr pins s2 σ H2 _ I2 q2) λws s3 ⟨ps,H3,I3,rel,q3⟩=>⟨(x,y) :: ps,H3,I3,.cons ⟨rx,ry⟩ rel,q3⟩)
def a7u (kvs more:List (Key×V)):List (Key×V):=more.foldl (λacc kv=>a6w acc kv.1 kv.2) kvs
theorem KV.merge:∀ {more:List (Key×V)}{rs:List (Key×Value)}{kvs:List (Key×V)}{vs:List (Key×Value)},KV more rs→KV kvs vs→KV (a7u kvs more) (merged vs rs):=by
 intro more rs kvs vs r
 unfold KV at r
 induction r generalizing kvs vs with
 | nil=>intro q;exact q
 | @cons p q ps qs h t ih =>
  intro r0
  have e:KV (a6w kvs p.1 p.2) (stored vs q.1 q.2):=by
   have:=r0.put p.1 h.2
   rw[← h.1];exact this
  exact ih e
theorem a4o:∀ (more kvs:List (Key×V)),(a7u kvs more).length≤kvs.length+more.length
 | [],kvs=>by show kvs.length≤kvs.length+0;lia
 | p :: r,kvs=>by
  have h1:=a4o r (a6w kvs p.1 p.2)
  have h2:=a2v kvs p.1 p.2
  show (a7u (a6w kvs p.1 p.2) r).length≤_
  rw[List.length_cons];lia
theorem a8f {P:Program}{w:World}:∀ {kvs:List (Key×V)}{ws:List (Value×Value)},VV (kvs.map λkv=>(kV kv.1,kv.2)) ws→∃ rs,Carries (a0w P w) ws rs∧KV kvs rs
 | [],_,r=>by rw[List.map_nil] at r;cases r;exact⟨[],True.intro,.nil⟩
 | p :: kvs,_,r=>by
  rw[List.map_cons] at r
  cases r with
  | @cons a b as bs h t =>
   obtain⟨rs,c,q⟩:=a8f (P:=P) (w:=w) t
   obtain⟨b1,b2⟩:=b
   exact⟨(p.1,b2) :: rs,⟨b5g h.1,rfl,c⟩,.cons ⟨rfl,h.2⟩ q⟩
def d6z (trs:List (TE×TE)):TE:=λσ H Q=>∀ p,H p=none→b6t trs σ (upd H p (.dK [])) λps H2=>H2 p=some (.dK [])∧∃ kvs:List (Key×V),ps=kvs.map (λkv=>(kV kv.1,kv.2))∧kvs.length≤15∧Q (.ref p) (upd H2 p (.dK (a7u [] kvs)))
theorem c7h {X:Cx}{pos:Pos}{keys:List (Option Expr)}{values:List Expr}{trs:List (TE×TE)}(h:PPs X pos keys values trs)(hall:keys.all (·.isSome)=true)(hl:keys.length=values.length)(h0:keys≠[])
  (h15:keys.length≤15):PE X (.Dict keys values pos) (d6z trs):=by
 intro pins s σ H Q I q
 have hn:=I.hok.fresh (Γi s.heap.objs.size)
 have I1:=I.laid (a:=s.heap.objs.size) (o:=.dK []) (h':=s.heap.push { cls:=.type "dict",data:=.dict #[] }) (t':=s.toks) (λ_ _ q=>Γc _ q) (Γi _) (c3y s.heap I.big)
 refine wpAny_Dict_walk (knd:=a0w X.prog X.w) hall hl h0 h15 (thn (h pins _ σ _ _ I1 (q _ hn)) λws s2 ⟨ps,H2,I2,rel,e,kvs,ep,lk,q2⟩=>?_)
 subst ep
 obtain⟨rs,c,rk⟩:=a8f (P:=X.prog) (w:=X.w) rel
 obtain⟨z,hd,vs0,r0,dd⟩:=d3y I2.hok e
 cases r0
 refine⟨rs,c,dd,λh' dd' hs=>⟨.ref s.heap.objs.size,_,?_,rfl,q2⟩⟩
 have hz:(a7u [] kvs).length≤sizeLine:=by
  have h1:=a4o kvs []
  rw[List.length_nil] at h1
  rw[sizeLine_eq];lia
 have he:∃ q,h'.get? s.heap.objs.size=some q:=let ⟨q,_,_,hq,_⟩:=dd';⟨q,hq⟩
 exact a9s I2 (by rw[e];exact True.intro) hs he (c5p hz hd (rk.merge .nil) dd')
structure M1 (X:Cx)(o:Expr)(m:Str)(apos:Pos)(e:Expr)(cpos:Pos):Prop where
 base:attributeBase o m X.env (eval o X.env)=eval o X.env
 few:((backTo cpos (starEach [e] X.env)).all (λx=>!x.1) && (backToKw cpos (keywordEach [] X.env)).all (λx=>x.1.isSome)
  && decide (([e]:List Expr).length+([]:List Keyword).length+(if ([]:List Keyword).isEmpty then 0 else 1)<30))=true
 line:(apos.endLine == cpos.line)=true
 trees:backTo cpos (starEach [e] X.env)=[(false,eval e X.env)]
structure M2 (X:Cx)(o:Expr)(m:Str)(apos:Pos)(e f:Expr)(cpos:Pos):Prop where
 base:attributeBase o m X.env (eval o X.env)=eval o X.env
 few:((backTo cpos (starEach [e,f] X.env)).all (λx=>!x.1) && (backToKw cpos (keywordEach [] X.env)).all (λx=>x.1.isSome)
  && decide (([e,f]:List Expr).length+([]:List Keyword).length+(if ([]:List Keyword).isEmpty then 0 else 1)<30))=true
 line:(apos.endLine == cpos.line)=true
 trees:backTo cpos (starEach [e,f] X.env)=[(false,eval e X.env),(false,eval f X.env)]
def IsD (H:Hp)(a:Addr):Prop:=(∃ kvs,Rd H a (.dK kvs)) ∨ ∃ kvs,Rd H a (.dT kvs)
theorem d2t {X:Cx}{pins:List (Addr×Obj)}{σ:St}{H:Hp}{s:Shared}{a:Addr}(I:Inv X pins σ H s)(d:IsD H a) :
  s.TypeIs (.ref a) "dict"∧(∀ b,Value.ref a=.ref b→∃ ob,s.heap.get? b=some ob∧ob.dict=none)∧(a == sysModules)=false:=by
 rcases d with⟨kvs,e⟩|⟨kvs,e⟩
 ·obtain⟨_,hd,vs,_,dd⟩:=b5r I.hok e
  refine⟨dd.typeIs,λb q=>?_,hd⟩
  cases q
  obtain⟨ob,_,_,h1,h2,_⟩:=dd
  exact⟨ob,h1,h2.2.1⟩
 ·obtain⟨_,hd,xs,_,dd⟩:=b5q I.hok e
  refine⟨dd.typeIs,λb q=>?_,hd⟩
  cases q
  obtain⟨ob,_,_,h1,h2,_⟩:=dd
  exact⟨ob,h1,h2.2.1⟩
section
variable {X:Cx}{pins:List (Addr×Obj)}{σ:St}{H:Hp}{s:Shared}{a:Addr}{y d:V}{u r:Value}{o:Option V}{A:Around}{E:Value→Shared→Prop}
theorem d4a {Q:Value→Shared→Prop}(hu:A.units+1<cLine)(I:Inv X pins σ H s)(g:DGet H a y o)(ry:RelV y u)(h:∀ w' s',Inv X pins σ H s'→RelV (o.getD .non) w'→Q w' s') :
  wpAny (model X.prog X.w) A (call (.builtin "dict.get") [.ref a,u]) Q E s:=by
 rcases g with⟨kvs,k,e,ey,l⟩|⟨kvs,k,b,e,ey,eb,l⟩
 ·subst ey
  obtain⟨z,hd,vs,rel,dd⟩:=b5r I.hok e
  refine call_meetsIn PySem.F.slot_dict_get dd.typeIs PySem.F.entry_dict_get (PySem.F.args_dict_get_2 _ _) (meets_dict_get (a0w X.prog X.w) a (b5g ry) hd) ⟨_,dd.mapOf,h _ _ (I.tok _) ?_⟩
  rw[l]
  exact (rel.val k).getD rfl
 ·subst ey
  cases (show u=Value.ref b from ry)
  obtain⟨z,hd,xs,rel,dd⟩:=b5q I.hok e
  refine call_meetsIn PySem.F.slot_dict_get dd.typeIs PySem.F.entry_dict_get (PySem.F.args_dict_get_2 _ _) (meetsH_dict_get (tupleKind (a0w X.prog X.w)) a b hd) ⟨tupleKind_room_in1 hu,k,xs,a7z I.hok eb,dd,h _ _ (I.tok _) ?_⟩
  rw[l]
  exact (rel.val k).getD rfl
end
def d0k (td ty:TE):TE:=λσ H Q=>td σ H λx H1=>∃ a,x=.ref a∧IsD H1 a∧ty σ H1 λy H2=>∃ o,DGet H2 a y o∧Q (o.getD .non) H2
section
variable {X:Cx}{o e f:Expr}{apos cpos:Pos}{td ty tx:TE}
theorem c2n (hu:X.A.units+1<cLine)(ho:PE X o td)(he:PE X e ty)(m:M1 X o "get" apos e cpos):PE X (.Call (.Attribute o "get" apos) [e] [] cpos) (d0k td ty):=by
 intro pins s σ H Q I h
 refine wpAny_Call_method m.base m.few m.line PySem.F.plainAttrs_dict PySem.F.slot_dict_get PySem.F.type_dict_get (thn (ho pins s σ H _ I h) λu s1 ⟨x,H1,I1,rx,a,ex,d,q1⟩=>?_)
 subst ex
 obtain rfl:u=Value.ref a:=rx
 obtain⟨t1,t2,_⟩:=d2t I1 d
 refine⟨t1,t2,?_⟩
 rw[m.trees]
 refine Calls.callWith_builtin rfl (Calls.evalArgs_plain (Calls.spliced_cons (thn (he pins s1 σ H1 _ I1 q1) λiv s2 ⟨y,H2,I2,ry,ov,g,q2⟩=>Calls.spliced_nil ?_)))
 exact d4a hu I2 g ry λw' s3 I3 rw'=>⟨_,H2,I3,rw',q2⟩
end
section
variable {X:Cx}{pins:List (Addr×Obj)}{σ:St}{H:Hp}{s:Shared}{a:Addr}{kvs:List (Key×V)}{A:Around}{E:Value→Shared→Prop}
end
section
variable {X:Cx}{pins:List (Addr×Obj)}{σ:St}{H:Hp}{s:Shared}{a:Addr}{y:V}{u:Value}{A:Around}{E:Value→Shared→Prop}
end
end L2
namespace L2
open PySem PySem.Spec PyProof.Rows
section
variable {κ:Type} [DecidableEq κ]
end
end L2
end
section
namespace HT
open PySem PyProof.Rows
def lexLe:List Int→List Int→Bool
 | [],[]=>true
 | [],_ :: _=>true
 | _ :: _,[]=>false
 | x :: xs,y :: ys=>if x=y then lexLe xs ys else decide (x≤y)
theorem b5d (x y:Int)(xs ys:List Int):lexLe (x :: xs) (y :: ys)=if x=y then lexLe xs ys else decide (x≤y):=rfl
theorem a9j:lexLe [] []=true:=rfl
theorem a7e (y:Int)(ys:List Int):lexLe [] (y :: ys)=true:=rfl
theorem a7f (x:Int)(xs:List Int):lexLe (x :: xs) []=false:=rfl
theorem b9u (A:Around)(s:Shared) (a:Int)(t:Tok) (c:Int)(u:Tok):∃ e,SeqAt.EqAt A s (.int a t) (.int c u) e∧(e=true↔a=c) :=
 ⟨(a == c),SeqAt.EqAt.int_int a t c u,by simp⟩
theorem c1z (A:Around)(s:Shared) (a:Int)(t:Tok) (c:Int)(u:Tok)(prog:Program)(w:World)(E:Value→Shared→Prop)(Q:Value→Shared→Prop)(h:Q (.bool (decide (a≤c))) s) :
  wpAny (model prog w) A (richCompare .LtE (.int a t) (.int c u)) Q E s :=
 (PyProof.Rows.le_int h:wpAny (model prog w) A (compareOp .LtE (.int a t) (.int c u)) Q E s)
section
open PySem.SeqAt
open PySem.AutoSeq1 (wpAny_loadPart')
open PySem.MeetsSeq PySem.MeetsSeq2 PySem.MeetsSeq3
theorem a8l (l b:Addr)(items items2:Array Value) (n n2:Nat)(dd dd2:Option Addr)(sl sl2:Array (Option Value))(ns ms:List Int)(hi:IntsAre items.toList ns)(hj:IntsAre items2.toList ms) :
  Meets (Builtin.«tuple.__le__» ⟨[.ref l,.ref b],[]⟩)
   (λ_ R s=>s.heap.get? l=some { cls:=.type "tuple",dict:=dd,data:=.seq items n,slots:=sl }∧s.heap.get? b=some { cls:=.type "tuple",dict:=dd2,data:=.seq items2 n2,slots:=sl2 } ∧
    R (.ok (.ret (.bool (lexLe ns ms)))) s) :=
 .of_wp λprog w A R s h=>by
  obtain⟨hp,g,d,tk,os⟩:=s;obtain⟨hl,hb,h⟩:=h
  have f2:=AutoSeq1.sub_tuple_tuple
  have z1:items.size=ns.length:=by rw[← hi.length];simp
  have z2:items2.size=ms.length:=by rw[← hj.length];simp
  wp_walk using wpAny_loadPart' hl,wpAny_loadPart' hb,wpAny_forIn_list _ (λrest b s'=>b.1=none∧s'=⟨hp,g,d,tk,os⟩∧∃ (vs ws:List Value)(ns' ms':List Int),rest=vs.zip ws ∧
   IntsAre vs ns'∧IntsAre ws ms'∧ns'.length+items2.size=ms'.length+items.size∧R (.ok (.ret (.bool (lexLe ns' ms')))) ⟨hp,g,d,tk,os⟩) _
  case turn =>
   rintro⟨y,x⟩ rest b s' ⟨hb',rfl,vs,ws,ns',ms',hz,hvi,hwi,hlen,hR⟩
   cases hvi with
   | nil=>rw[List.zip_nil_left] at hz;cases hz
   | cons a t hvi' =>
    cases hwi with
    | nil=>rw[List.zip_nil_right] at hz;cases hz
    | cons c u hwi' =>
     rw[List.zip_cons_cons] at hz
     injection hz with hyx hrest
     injection hyx with hy hx
     subst hy hx
     rw[b5d] at hR
     simp only[List.length_cons] at hlen
     obtain⟨e,he,hiff⟩:=b9u A.in1 ⟨hp,g,d,tk,os⟩ a t c u
     refine Γa (he prog w _ _ ?_)
     cases e with
     | true =>
      rw[if_pos (hiff.mp rfl)] at hR
      wp_walk
      exact⟨rfl,rfl,_,_,_,_,hrest,hvi',hwi',by lia,hR⟩
     | false =>
      rw[if_neg (λq=>absurd (hiff.mpr q) Γk)] at hR
      have hri:=c1z A.in1 ⟨hp,g,d,tk,os⟩ a t c u prog w
      wp_walk using hri
      exact⟨_,rfl,by simpa using hR⟩
  case fin =>
   rintro⟨b1,b2⟩ s' ⟨hb',rfl,vs,ws,ns',ms',hz,hvi,hwi,hlen,hR⟩
   simp only at hb'
   subst hb'
   have hv:lexLe ns' ms'=decide (items.size≤items2.size):=by
    cases hvi with
    | nil =>
     cases hwi with
     | nil =>
      simp only[List.length_nil] at hlen
      rw[a9j]
      exact (decide_eq_true (by lia)).symm
     | cons c u hw =>
      simp only[List.length_nil,List.length_cons] at hlen
      rw[a7e]
      exact (decide_eq_true (by lia)).symm
    | cons a t hv =>
     cases hwi with
     | nil =>
      simp only[List.length_nil,List.length_cons] at hlen
      rw[a7f]
      exact (decide_eq_false (by lia)).symm
     | cons c u hw =>
      rw[List.zip_cons_cons] at hz
      cases hz
   rw[hv] at hR
   wp_walk
   exact⟨_,rfl,by simpa[Builtin.Tuple.tupleCompareSizes] using hR⟩
  case h =>
   exact⟨rfl,rfl,items.toList,items2.toList,ns,ms,rfl,hi,hj,by lia,h⟩
end
section
variable {prog:Program}{w:World}{A:Around}{E:Value→Shared→Prop}{s:Shared}
theorem le_tupInts {l b:Addr}{items items2:Array Value}{ns ms:List Int}{Q:Value→Shared→Prop}(hl:IsTup s.heap l items)(hb:IsTup s.heap b items2)(hi:IntsAre items.toList ns)(hj:IntsAre items2.toList ms)
  (hu:A.units<cLine)(h:Q (.bool (lexLe ns ms)) s):wpAny (model prog w) A (compareOp .LtE (.ref l) (.ref b)) Q E s:=by
 obtain⟨⟨cls,dd,data,sl⟩,ho,hc,n,hd⟩:=id hl
 obtain⟨⟨cls2,dd2,data2,sl2⟩,ho2,hc2,n2,hd2⟩:=id hb
 simp only at hc hd hc2 hd2
 subst hc hd hc2 hd2
 exact richCompare_meets_room (op:=.LtE) ⟨_,ho,rfl⟩ ⟨_,ho2,rfl⟩ PySem.F.slot_tuple_le PySem.F.entry_tuple_le (PySem.F.args_tuple_le_2 _ _) (a8l l b items items2 n n2 dd dd2 sl sl2 ns ms hi hj)
  ⟨ho,ho2,show Value.bool (lexLe ns ms)≠Value.notImplemented∧Q (.bool (lexLe ns ms)) s from ⟨(λx=>nomatch x),h⟩⟩ hu
end
end HT
namespace L2
open PySem PySem.Spec PyProof.Rows
section
variable {X:Cx}
def rLeT (K:Γd):R2:=λx y H Q=>∃ a b ns ms,x=.ref a∧y=.ref b∧SqT K H a (ns.map V.int)∧SqT K H b (ms.map V.int)∧Q (.bl (HT.lexLe ns ms)) H
theorem d1z (hu:X.A.units<cLine):OpR X (compareOp .LtE) (rLeT X.K):=by
 intro pins s σ H x y v u Q I rx ry h
 obtain⟨a,b,ns,ms,rfl,rfl,ha,hb,q⟩:=h
 cases rx
 cases ry
 obtain⟨its,r1,p1,_⟩:=I.tuple ha
 obtain⟨its2,r2,p2,_⟩:=I.tuple hb
 have i1:IntsAre its.toArray.toList ns:=a3s r1
 have i2:IntsAre its2.toArray.toList ms:=a3s r2
 exact HT.le_tupInts p1 p2 i1 i2 hu ⟨.bl (HT.lexLe ns ms),H,I,rfl,q⟩
end
end L2
end
set_option maxHeartbeats 4000000
section
namespace L2
open PySem PySem.Spec PyProof.Rows
open AutoSeq1 (wpAny_loadPart')
section
variable {X:Cx}
theorem c2s:OpR X (binaryOp .Add) (λx y H Q=>∃ a b ys,x=.ref a∧y=.ref b∧SqT X.K H a []∧SqT X.K H b ys∧Q (.ref b) H):=by
 intro pins s σ H x y v u Q I rx ry h
 obtain⟨a,b,ys,rfl,rfl,ha,hb,q⟩:=h
 cases rx;cases ry
 obtain⟨its,r1,⟨⟨oc,od,odt,os⟩,e1,ec,n,ed⟩,_⟩:=I.tuple ha
 obtain⟨its2,r2,⟨⟨oc2,od2,odt2,os2⟩,e2,ec2,n2,ed2⟩,_⟩:=I.tuple hb
 simp only at ec ed ec2 ed2
 subst ec ed ec2 ed2
 cases r1
 exact concat_meets ⟨_,e1,rfl⟩ ⟨_,e2,rfl⟩ noFill_tuple_add seq_tuple_add F.slot_tuple_add F.entry_tuple_add (F.args_tuple_add_2 _ _) (tuple_addW0 a b #[] its2.toArray n n2 od od2 os os2 rfl) ⟨e1,e2,.ref b,H,I,rfl,q⟩
theorem c1s:SlR X (λx lo hi H Q=>∃ a xs,x=.ref a∧SqT X.K H a xs∧HT.sIx xs.length 0 lo=0∧HT.sIx xs.length xs.length hi=xs.length∧Q (.ref a) H):=by
 intro pins s σ H x v vl vu lo hi sl Q I rx hs pl pu h
 obtain⟨t,xs,rfl,hx,h1,h2,q⟩:=h
 cases rx
 obtain⟨its,r,ht,hz⟩:=I.tuple hx
 have hlen:its.toArray.size=xs.length:=by rw[List.size_toArray];exact r.length.symm
 refine⟨"tuple",_,PyProof.Rows.slot_tuple_getitem.lookup,ht.typeIs,?_⟩
 obtain⟨os,eo,co,do'⟩:=id hs
 have ty:s.TypeIs (.ref sl) "slice":=⟨os,eo,co⟩
 rw[← hlen] at h1 h2
 unfold getItem
 try with_reducible refine Γg ?_
 first|refine Γa (Γb ?_)|skip
 refine Γa (wpAny_sequenceKey ht.typeIs (by decide) (Γa (wpAny_callSpecial?_slot (name:=Γe "__getitem__") ht.typeIs PyProof.Rows.slot_tuple_getitem (wpAny_call_entry PyProof.Rows.slot_tuple_getitem ht.typeIs entry_tuple_getitem ?_ (args_tuple_getitem _ _)))))
 show wpAny _ _ (Builtin.Tuple.tupleItemsOf (.ref t) >>= _) _ _ s;refine Γa (tupleItemsOf_ ht (Γa (wpAny_typeOf ty ?_)))
 rw[if_pos (by decide)];refine Γa (HT.sliceApplied_gen hs pl pu ?_)
 show wpAny _ _ (if (((HT.sIx its.toArray.size 0 lo:Nat):Int) == 0 && (1:Int) == 1 && (HT.sIx its.toArray.size its.toArray.size hi-HT.sIx its.toArray.size 0 lo) == its.toArray.size)=true then _ else _) _ _ s
 rw[if_pos (by rw[h1,h2];simp)]
 refine Γa (m:=Builtin.Tuple.tupleIsExact (.ref t)) ?_
 unfold Builtin.Tuple.tupleIsExact
 refine Γa (wpAny_typeOf ht.typeIs (Γb ?_))
 rw[if_pos (by decide)]
 exact Γa (wpAny_rule (Γb ⟨_,rfl,Γb ⟨.ref t,H,I,rfl,q⟩⟩))
end
def Kept (h0 h:Heap) (N:Nat):Prop:=∀ b o,b<N→h0.get? b=some o→h.get? b=some o
def c9q (P:Program)(w:World)(A:Around)(I:Nat→Value→Prop)(bt:Nat→Nat→Bool)(h0:Heap) (N:Nat):Prop :=
 ∀ i j u v (s:Shared)(Q:Value→Shared→Prop)(E:Value→Shared→Prop),Kept h0 s.heap N→I i u→I j v→Q (.bool (bt i j)) s→wpAny (model P w) A (richCompare .Lt u v) Q E s
section
variable {P:Program}{w:World}{A:Around}{R:Result→Shared→Prop}{it S N:Addr}{fp wr:List Addr}{n:Nat}{V:Nat→Value→Prop}{St:Nat→Heap→Prop}{bt:Nat→Nat→Bool}{h0:Heap}
theorem b5e (W:Walks P w A.in1 it fp wr n V St)(C:c9q P w A.in1 V bt h0 N)(sf:S ∉ fp)(nw:∀ b∈wr,N≤b)(nS:N≤S) :
  ∀ (k j:Nat)(s:Shared)(best:Value) (c:Nat),n-(j+1)=k→j+1≤n→St (j+1) s.heap→V (argBest bt j) best→Kept h0 s.heap N→s.heap.get? S=some { cls:=.type "list",dict:=none,data:=.seq #[best,best] c,slots:=#[] } →
  (∀ v h' tk,V (argBest bt (n-1)) v→(∀ b o,b ∉ wr→b≠S→s.heap.get? b=some o→h'.get? b=some o)→R (.ok (.ret v)) { s with heap:=h',toks:=tk })→codeAny (model P w) A (.builtin "min.loop" ⟨[.ref it,.none,.ref S],[]⟩) R s:=by
 have sw:S ∉ wr:=λh=>sf (W.sub _ h)
 have nm:(toString "min"++toString ".loop":String) = "min.loop":=by decide
 have low:∀ {b:Addr},b<N→b ∉ wr∧b≠S:=λ{b} hb=>⟨λz=>absurd (nw b z) (Nat.not_le.mpr hb),λz=>absurd nS (by rw[← z];exact Nat.not_le.mpr hb)⟩
 intro k
 induction k with
 | zero =>
  intro j s best c hk hj hst hV kp hS hR
  have en:j+1=n:=by lia
  refine codeAny_builtin F.entry_min_loop ?_;rw[Around.under_plainId F.plain_min_loop _]
  show wpAny _ A.in1 (seqItems? (.ref S) >>= _) _ _ s;refine Γa (wpAny_seqItems hS rfl ?_)
  show wpAny _ A.in1 (tryCatch (pyNext (.ref it)) _ >>= _) _ _ s;refine Γa (wpAny_tryCatch (W.done s _ _ (en ▸ hst) λg tk kk=>?_))
  have S1:=kk S _ sw hS
  show wpAny _ A.in1 (updateSeq S (λ_=>#[]) >>= _) _ _ _;refine Γa (wpAny_updateSeq S1 rfl (Γa (wpAny_letGo (Γb ?_))))
  exact hR best _ tk (by rw[← en];exact hV) λb o c1 c2 e=>(Γf _ _ (Ne.symm c2)).trans (kk b o c1 e)
 | succ k ih =>
  intro j s best c hk hj hst hV kp hS hR
  have lt:j+1<n:=by lia
  refine codeAny_builtin F.entry_min_loop ?_;rw[Around.under_plainId F.plain_min_loop _]
  show wpAny _ A.in1 (seqItems? (.ref S) >>= _) _ _ s;refine Γa (wpAny_seqItems hS rfl ?_)
  show wpAny _ A.in1 (tryCatch (pyNext (.ref it)) _ >>= _) _ _ s;refine Γa (wpAny_tryCatch (W.item (j+1) s _ _ lt hst λv g tk vP st1 kk=>?_))
  have S1:=kk S _ sw hS
  have kp1:Kept h0 g N:=λb o hb e=>kk b o (low hb).1 (kp b o hb e)
  show wpAny _ A.in1 (tryCatch (holding [v,v] (richCompare .Lt v best >>= _)) _ >>= _) _ _ _
  refine Γa (wpAny_tryCatch (Γg (Γa (C (j+1) (argBest bt j) v best _ _ _ kp1 vP hV (Γa (Γg (wpAny_truthy_bool (Γa (wpAny_letGo (Γb ?_))))))))))
  cases hb:bt (j+1) (argBest bt j) with
  | true =>
   simp only[if_true];refine Γa (wpAny_updateSeq S1 rfl (Γa (wpAny_letGo ?_)));rw[nm]
   refine Γb ⟨plainId_quiet F.plain_min_loop _,ih (j+1) _ v _ (by lia) lt (W.frame _ _ _ st1 λb bf o e=>(Γf _ _ (λh:S=b=>sf (by rw[h];exact bf))).trans e) (by simp only[argBest,hb,if_true];exact vP)
    (λb o l e=>(Γf _ _ (Ne.symm (low l).2)).trans (kp1 b o l e)) (Heap.get?_update_self _ S1 rfl) λv' g' tk' p' k'=>?_⟩
   exact hR v' g' tk' p' λb o c1 c2 e=>k' b o c1 c2 ((Γf _ _ (Ne.symm c2)).trans (kk b o c1 e))
  | false =>
   simp only[Γp,if_false];refine Γa (wpAny_letGo ?_);rw[nm]
   refine Γb ⟨plainId_quiet F.plain_min_loop _,ih (j+1) _ best c (by lia) lt st1 (by simp only[argBest,hb,Γp,if_false];exact hV) kp1 S1 λv' g' tk' p' k'=>?_⟩
   exact hR v' g' tk' p' λb o c1 c2 e=>k' b o c1 c2 (kk b o c1 e)
theorem b2s (W:Walks P w A.in1 it fp wr n V St)(C:c9q P w A.in1 V bt h0 N)(sf:S ∉ fp)(nw:∀ b∈wr,N≤b)(nS:N≤S)(hn:0<n){s:Shared}{c:Nat}(hst:St 0 s.heap)(kp:Kept h0 s.heap N)
  (hS:s.heap.get? S=some { cls:=.type "list",dict:=none,data:=.seq #[] c,slots:=#[] })
  (hR:∀ v h' tk,V (argBest bt (n-1)) v→(∀ b o,b ∉ wr→b≠S→s.heap.get? b=some o→h'.get? b=some o)→R (.ok (.ret v)) { s with heap:=h',toks:=tk }):codeAny (model P w) A (.builtin "min.loop" ⟨[.ref it,.none,.ref S],[]⟩) R s:=by
 have sw:S ∉ wr:=λh=>sf (W.sub _ h)
 have nm:(toString "min"++toString ".loop":String) = "min.loop":=by decide
 have low:∀ {b:Addr},b<N→b ∉ wr∧b≠S:=λ{b} hb=>⟨λz=>absurd (nw b z) (Nat.not_le.mpr hb),λz=>absurd nS (by rw[← z];exact Nat.not_le.mpr hb)⟩
 refine codeAny_builtin F.entry_min_loop ?_;rw[Around.under_plainId F.plain_min_loop _]
 show wpAny _ A.in1 (seqItems? (.ref S) >>= _) _ _ s;refine Γa (wpAny_seqItems hS rfl ?_)
 show wpAny _ A.in1 (tryCatch (pyNext (.ref it)) _ >>= _) _ _ s;refine Γa (wpAny_tryCatch (W.item 0 s _ _ hn hst λv g tk vP st1 kk=>?_))
 have S1:=kk S _ sw hS
 show wpAny _ A.in1 (updateSeq S (λ_=>#[v,v]) >>= _) _ _ _;refine Γa (wpAny_updateSeq S1 rfl ?_);rw[nm]
 refine Γb ⟨plainId_quiet F.plain_min_loop _,b5e W C sf nw nS _ 0 _ v _ rfl hn (W.frame _ _ _ st1 λb bf o e=>(Γf _ _ (λh:S=b=>sf (by rw[h];exact bf))).trans e) vP
  (λb o l e=>(Γf _ _ (Ne.symm (low l).2)).trans (kk b o (low l).1 (kp b o l e))) (Heap.get?_update_self _ S1 rfl) λv' g' tk' p' k'=>?_⟩
 exact hR v' g' tk' p' λb o c1 c2 e=>k' b o c1 c2 ((Γf _ _ (Ne.symm c2)).trans (kk b o c1 e))
end
section
variable {P:Program}{w:World}{A:Around}{E:Value→Shared→Prop}{s:Shared}
theorem b5w {l:Addr}{xs:Array Value}{bt:Nat→Nat→Bool}{Q:Value→Shared→Prop}(hh:A.in1.handled=none)(hl:s.heap.IsList l xs)(hn:0<xs.size)(C:c9q P w A.in1 (λi v=>xs[i]?=some v) bt s.heap s.heap.objs.size)
  (K:∀ v h' tk,xs[argBest bt (xs.size-1)]?=some v→(∀ b o,s.heap.get? b=some o→h'.get? b=some o)→Q v { s with heap:=h',toks:=tk }):wpAny (model P w) A (call (.builtin "min") [.ref l]) Q E s:=by
 have nm:(toString "min"++toString ".loop":String) = "min.loop":=by decide
 have ll:l<s.heap.objs.size:=by obtain⟨_,e,_⟩:=hl;exact Γl e
 refine call_function_tree F.kind_min F.plain_min F.entry_min (F.args_min1 _) ?_
 show wpAny _ A.in1 (Builtin.Builtins.bindParams "min" ["key","default"] 0 ⟨[],[]⟩ >>= _) _ _ s
 refine Γa (wpAny_of_eq (show Builtin.Builtins.bindParams "min" ["key","default"] 0 ⟨[],[]⟩=pure [none,none] from rfl) (Γa (Γb (Γa (wpAny_pyIter_list hl ?_)))))
 have W:=Walks.list (prog:=P) (w:=w) hh s.heap.objs.size l (Γo ll) xs
 refine Γa (wpAny_newObj_type ?_)
 rw[nm]
 have z1:(s.heap.push { cls:=.type "list_iterator",data:=.fields #[.ref l,.int 0 0] }).objs.size=s.heap.objs.size+1:=Heap.size_push ..
 refine Γb ⟨plainId_quiet F.plain_min_loop _,b2s (S:=(s.heap.push { cls:=.type "list_iterator",data:=.fields #[.ref l,.int 0 0] }).objs.size) W C ?_ ?_ ?_ hn ⟨⟨_,Γc _ (Γm _ rfl),rfl,rfl⟩,(hl.push _).push _⟩
  (λb o hb e=>Γc _ (Γc _ e)) (Γm _ rfl) λv h' tk hv hk=>?_⟩
 ·rw[z1];intro z;simp only[List.mem_cons,List.not_mem_nil,or_false] at z;rcases z with z|z
  ·exact absurd z (Nat.ne_of_gt (Nat.lt_succ_self _))
  ·exact absurd z (Nat.ne_of_gt (Nat.lt_succ_of_lt ll))
 ·intro b hb;simp at hb;rw[hb];exact Γi _
 ·rw[z1];exact Nat.le_succ _
 ·refine K v h' tk hv λb o e=>hk b o (by simp;exact Γo (Γl e)) ?_ (Γc _ (Γc _ e))
  rw[z1];exact Γo (Nat.lt_succ_of_lt (Γl e))
end
end L2
end
section
namespace L2
open PySem PySem.Spec PyProof.Rows
section
variable {prog:Program}{w:World}{A:Around}{E:Value→Shared→Prop}{s:Shared}
end
section
variable {X:Cx}{a e k:Expr}{ta te tk:TE}{pos p2:Pos}
theorem RelV.bool_iff {x:V}{v:Value}{b:Bool}(r:RelV x v):(v == Value.bool b)=decide (x=.bl b):=by
 cases x with
 | non=>cases r;rfl
 | bl c=>cases r;cases c<;>cases b<;>rfl
 | int _=>obtain⟨t,rfl⟩:=r;rfl
 | str _=>obtain⟨t,rfl⟩:=r;rfl
 | byt _=>obtain⟨t,rfl⟩:=r;rfl
 | flt _=>obtain⟨t,rfl⟩:=r;rfl
 | ref _=>cases r;rfl
 | ty _=>cases r;rfl
theorem a7h {M:Model}{A:Around}{E:Value→Shared→Prop}{s:Shared}{Q:Value→Shared→Prop}{x:V}{v:Value}{b:Bool}(r:RelV x v)(h:Q (.bool (!decide (x=.bl b))) s):wpAny M A (compareOp .IsNot v (.bool b)) Q E s:=by
 rw[← r.bool_iff] at h
 cases x with
 | bl c=>cases r;exact Γb h
 | non=>cases r;exact Γb h
 | ref _=>cases r;exact Γb h
 | ty _=>cases r;exact Γb h
 | _=>obtain⟨t,rfl⟩:=r;exact Γb h
theorem c7m {b:Bool} {j pos'}(ha:PE X a ta):PC X .IsNot a (.Constant (.bool b) j pos') (λσ H Q=>ta σ H λx H1=>Q (.bl (!decide (x=.bl b))) H1):=by
 intro pins s σ H Q I h
 refine thn (ha pins s σ H _ I h) λv s1 ⟨x,H1,I1,r1,q1⟩=>?_
 exact Constant_bool (a7h r1 ⟨.bl _,H1,I1,rfl,q1⟩)
end
end L2
end
section
namespace L2
open PySem PySem.Spec PyProof.Rows
def b1u (cells:List (Str×Addr)):List (Str×NameKind)→List (Str×Addr)→List (Str×Addr)
 | [],acc=>acc
 | (n,k) :: r,acc=>if (k == NameKind.free)=true then b1u cells r ((n,(cells.lookup n).getD 0) :: acc) else b1u cells r acc
theorem b4l {env:Env}:∀ (names:List (Str×NameKind))(acc:List (Str×Addr)),(∀ p∈names,p.2=.free→∃ c,env.cells.lookup p.1=some c) →
  (forIn names acc λ(x:Str×NameKind)(cs:List (Str×Addr))=>if (x.2 == NameKind.free)=true then cellOf env x.1 >>= λc=>pure (ForInStep.yield ((x.1,c) :: cs)) else pure (ForInStep.yield cs):Sem (List (Str×Addr)))=pure (b1u env.cells names acc)
 | [],acc,_=>rfl
 | (n,k) :: r,acc,h=>by
  have ih:=b4l (env:=env) r
  rw[List.forIn_cons]
  unfold b1u
  by_cases hk:(k == NameKind.free)=true
  ·obtain⟨c,hc⟩:=h (n,k) Γn (by simpa using hk)
   have hcell:cellOf env n=pure c:=by
    have hc':env.cells.lookup n=some c:=hc
    unfold cellOf;rw[hc']
   have hc':env.cells.lookup n=some c:=hc
   simp only[hk,if_true,hcell,hc',Option.getD_some,pure_bind]
   exact ih _ λp hp=>h p (Γh _ hp)
  ·simp only[hk,if_false,pure_bind,Γp]
   exact ih _ λp hp=>h p (Γh _ hp)
theorem a8e {scope:Scope}{env:Env}(h:∀ p∈scope.names,p.2=.free→∃ c,env.cells.lookup p.1=some c):closureFor scope env=pure (b1u env.cells scope.names []):=by
 have q:=b4l (env:=env) scope.names [] h
 unfold closureFor
 first
  | exact (by rw[q];rfl)
  | (simp only[bind_pure];exact q)
theorem a4d {cells:List (Str×Addr)}{x:Str}{c:Addr}:∀ (names:List (Str×NameKind))(acc:List (Str×Addr)),(∀ p∈names,p.2=.free→∃ c,cells.lookup p.1=some c)→(∀ y d,acc.lookup y=some d→cells.lookup y=some d) →
  (b1u cells names acc).lookup x=some c→cells.lookup x=some c
 | [],acc,_,ha,h=>ha x c h
 | (n,k) :: r,acc,hn,ha,h=>by
  unfold b1u at h
  split at h
  ·rename_i hk
   refine a4d r _ (λp hp=>hn p (Γh _ hp)) (λy d hy=>?_) h
   rw[List.lookup_cons] at hy
   obtain⟨c',hc'⟩:=hn (n,k) Γn (by simpa using hk)
   have hc'':cells.lookup n=some c':=hc'
   split at hy
   ·rename_i hyn
    have e:y=n:=by simpa using hyn
    subst e
    rw[hc''] at hy ⊢
    exact hy
   ·exact ha y d hy
  ·exact a4d r _ (λp hp=>hn p (Γh _ hp)) ha h
theorem a9t {cells:List (Str×Addr)}{x:Str}:∀ (names:List (Str×NameKind))(acc:List (Str×Addr)),((x,NameKind.free)∈names ∨ ∃ c,acc.lookup x=some c)→∃ c,(b1u cells names acc).lookup x=some c
 | [],acc,h=>by
  rcases h with h|h
  ·simp at h
  ·exact h
 | (n,k) :: r,acc,h=>by
  unfold b1u
  split
  ·refine a9t r _ ?_
   by_cases hx:x=n
   ·subst hx
    exact .inr ⟨(cells.lookup x).getD 0,by rw[List.lookup_cons];simp⟩
   ·rcases h with h|⟨c,h⟩
    ·rcases List.mem_cons.mp h with h|h
     ·cases h;exact absurd rfl hx
     ·exact .inl h
    ·refine .inr ⟨c,?_⟩
     rw[List.lookup_cons]
     have:(x == n)=false:=by simpa using hx
     rw[this]
     exact h
  ·rename_i hk
   refine a9t r _ ?_
   rcases h with h|h
   ·rcases List.mem_cons.mp h with h|h
    ·cases h;simp at hk
    ·exact .inl h
   ·exact .inr h
theorem a3i {env : Env} {x : Str} : ∀ {names : List (Str × NameKind)},
    ((names.map λ(n,k)=>if (k == NameKind.free && env.scope.kind == .function && env.kindOf n == some .cell) then (n,NameKind.cell) else (n,k)).lookup x=some .cell ∨
     (names.map λ(n,k)=>if (k == NameKind.free && env.scope.kind == .function && env.kindOf n == some .cell) then (n,NameKind.cell) else (n,k)).lookup x=some .free)→names.lookup x=some .cell ∨ names.lookup x=some .free
  | [],h=>by rcases h with h|h<;>simp at h
  | (n,k) :: r,h=>by
    have ih:=@a3i env x r
    rw[List.map_cons] at h
    rw[List.lookup_cons]
    by_cases hk:(k == NameKind.free && env.scope.kind == .function && env.kindOf n == some .cell)=true
    · simp only[hk,if_true] at h
      cases hx:x == n with
      | true =>
        have : k = .free := by simp only [Bool.and_eq_true] at hk; simpa using hk.1.1
        exact .inr (by rw [this])
      | false =>
        simp only [List.lookup_cons, hx] at h
        exact ih h
    · simp only[hk,if_false,Γp] at h
      cases hx:x == n with
      | true=>simpa only[List.lookup_cons,hx] using h
      | false =>
        simp only [List.lookup_cons, hx] at h
        exact ih h
theorem a1b:∀ (names:List (Str×NameKind)) (b:Nat)(acc:List (Str×Addr)),cellsFrom b names acc=cellsFrom b names []++acc
 | [],_,_=>rfl
 | (n,k) :: r,b,acc=>by
  unfold cellsFrom
  split
  ·rw[a1b r _ ((n,b) :: acc),a1b r _ [(n,b)],List.append_assoc];rfl
  ·exact a1b r b acc
theorem a3m:∀ (names:List (Str×NameKind)) (b:Nat){x:Str}{c:Addr},(x,c)∈cellsFrom b names []→(x,NameKind.cell)∈names
 | [],_,_,_,h=>by simp[cellsFrom] at h
 | (n,k) :: r,b,x,c,h=>by
  unfold cellsFrom at h
  split at h
  ·rename_i hk
   rw[a1b] at h
   rcases List.mem_append.mp h with h|h
   ·exact Γh _ (a3m r _ h)
   ·simp at h
    have:k=.cell:=by simpa using hk
    rw[h.1,this];exact Γn
  ·exact Γh _ (a3m r _ h)
theorem a9h {x:Str}{c:Addr}:∀ {l l':List (Str×Addr)},(l++l').lookup x=some c→l.lookup x=some c ∨ (l.lookup x=none∧l'.lookup x=some c)
 | [],_,h=>.inr ⟨rfl,h⟩
 | (n,d) :: r,l',h=>by
  rw[List.cons_append,List.lookup_cons] at h
  rw[List.lookup_cons]
  cases hx:x == n with
  | true=>rw[hx] at h;exact .inl h
  | false=>rw[hx] at h;exact a9h h
theorem b8s {x:Str}:∀ {l l':List (Str×Addr)},((∃ c,l.lookup x=some c) ∨ ∃ c,l'.lookup x=some c)→∃ c,(l++l').lookup x=some c
 | [],_,h=>by
  rcases h with⟨c,h⟩|h
  ·cases h
  ·exact h
 | (n,d) :: r,l',h=>by
  rw[List.cons_append,List.lookup_cons]
  cases hx:x == n with
  | true=>exact⟨d,rfl⟩
  | false =>
   refine b8s ?_
   rcases h with⟨c,h⟩|h
   ·rw[List.lookup_cons,hx] at h;exact .inl ⟨c,h⟩
   ·exact .inr h
theorem b0n {M:Model}{A:Around}{E:Value→Shared→Prop}{s:Shared}{scope:Scope}{globals:Addr}{cl:List (Str×Addr)}{qual:Str}{env:Env}{Q:Env→Shared→Prop}
  (hQ:∀ h4:Heap,h4.Ns s.heap.objs.size (λ_=>none)→(∀ b o,s.heap.get? b=some o→h4.get? b=some o)→CellsOk h4 (s.heap.objs.size+1) (cellsFrom (s.heap.objs.size+1) scope.names []) →
   Q (newEnv scope s.heap.objs.size globals (cellsFrom (s.heap.objs.size+1) scope.names cl) qual none .none (some env) builtinsNs) { s with heap:=h4,toks:=s.toks+([]:List (Str×Value)).length }) :
  wpAny M A (newFunctionEnv scope globals cl [] qual none .none (some env)) Q E s:=by
 simp only[newFunctionEnv,Option.isSome_some,if_true]
 refine Γa (wpAny_alloc ?_)
 refine Γa (wpAny_layCells _ (λname kind cells=>by cases hkc:kind == NameKind.cell<;>simp[hkc]) _ _ _ _ ?_)
 have ok:=cellsFrom_ok scope.names (s.heap.push { cls:=.type "dict",data:=.dict #[] }) (s.heap.objs.size+1) [] ⟨λ_ _ hm=>(nomatch hm),List.Pairwise.nil⟩ (by rw[Heap.size_push];exact Γi _)
 rw[Heap.size_push] at ok
 rw[show ({ s with heap:=s.heap.push { cls:=.type "dict",data:=.dict #[] } }:Shared).heap.objs.size=s.heap.objs.size+1 from Heap.size_push ..]
 simp only[List.forIn_nil]
 exact Γa (Γb (Γb (hQ _ ((Heap.Ns.new s.heap (.type "dict")).keeps (pushCells_keeps _ _)) (λb o e=>pushCells_keeps _ _ b o (Γc _ e)) ok)))
def d5h (x:Str):Str:=Γe "#"++x
def a9d (own:List Str)(x:Str):Str:=if own.contains x then d5h x else x
def cxC (X:Cx)(scope:Scope)(own:List Str)(fp:List Addr)(C:Addr)(s:Shared)(H:Hp):Cx :=
 { X with N:=X.N.map (a9d own)++own,s₀:=s,H₀:=H,env:=compEnvC scope (cellsFrom (C+1) scope.names (b1u X.env.cells scope.names [])) C X.env,outer:=X.stack,stack:=X.stack,ex:=fp,fn:=λx=>scope.names.lookup x == some .cell,pn:=[],xe:=λ_ _=>False }
structure CScope (X:Cx)(scope:Scope)(own:List Str):Prop where
 kind:scope.kind=.function
 nocell:∀ p∈scope.names,p.2=.cell→scope.names.lookup p.1=some .cell
 names:∀ p∈scope.names,p.2=.local→scope.names.lookup p.1=some .local
 free:∀ p∈scope.names,p.2=.free→X.env.kindOf p.1=some .cell ∨ X.env.kindOf p.1=some .free
 apart:∀ x∈X.N,own.contains x=false→scope.names.lookup x≠some .local∧scope.names.lookup x≠some .cell
 hid:∀ x∈X.N,own.contains x=true→scope.names.lookup (d5h x)=none
section
variable {X:Cx}
theorem a7v {names:List (Str×NameKind)}{x:Str}{k:NameKind}(h:names.lookup x=some k):(x,k)∈names:=PySem.mem_of_lookup h
theorem a4j {env:Env}{x:Str}:∀ {names:List (Str×NameKind)},
  (names.map λ(n,k)=>if (k == NameKind.free && env.scope.kind == .function && env.kindOf n == some .cell) then (n,NameKind.cell) else (n,k)).lookup x=some .local→names.lookup x=some .local
 | [],h=>by simp at h
 | (n,k) :: r,h=>by
  have ih:=@a4j env x r
  rw[List.map_cons] at h
  rw[List.lookup_cons]
  by_cases hk:(k == NameKind.free && env.scope.kind == .function && env.kindOf n == some .cell)=true
  ·simp only[hk,if_true] at h
   cases hx:x == n with
   | true=>simp[List.lookup_cons,hx] at h
   | false =>
    simp only[List.lookup_cons,hx] at h
    exact ih h
  ·simp only[hk,if_false,Γp] at h
   cases hx:x == n with
   | true=>simpa[List.lookup_cons,hx] using h
   | false =>
    simp only[List.lookup_cons,hx] at h
    exact ih h
theorem b0e {env:Env}{scope:Scope}{x:Str}(h:scope.names.lookup x=none):(relabel scope env).names.lookup x=none:=by
 unfold relabel
 simp only
 generalize scope.names=l at h
 induction l with
 | nil=>rfl
 | cons p r ih =>
  obtain⟨n,k⟩:=p
  rw[List.lookup_cons] at h
  cases e:(x == n) with
  | true=>rw[e] at h;cases h
  | false =>
   rw[e] at h
   rw[List.map_cons]
   split
   ·rw[List.lookup_cons,e];exact ih h
   ·rw[List.lookup_cons,e];exact ih h
theorem c3h {scope:Scope}{own:List Str}{fp:List Addr}{pins:List (Addr×Obj)}{σ:St}{H:Hp}{s:Shared}{h4:Heap}{t4:Nat}(I:Inv X pins σ H s)(SC:CScope X scope own)(hc:X.calm=true)
  (hf:∀ b∈fp,b6d X pins H b)(hfo:∀ b∈fp,∃ o,s.heap.get? b=some o)
  (hns:h4.Ns s.heap.objs.size (λ_=>none))(hk:∀ b o,s.heap.get? b=some o→h4.get? b=some o)(ok:CellsOk h4 (s.heap.objs.size+1) (cellsFrom (s.heap.objs.size+1) scope.names [])) :
  Inv (cxC X scope own fp s.heap.objs.size s H) [] (σ++Γj own.length none) H { s with heap:=h4,toks:=t4 }:=by
 have fr:∀ p∈scope.names,p.2=.free→∃ c,X.env.cells.lookup p.1=some c:=λp hp hq=>I.ok.has p.1 (SC.free p hp hq)
 have cl0:∀ {x:Str}{c:Addr},(b1u X.env.cells scope.names []).lookup x=some c→X.env.cells.lookup x=some c:=λh=>a4d scope.names [] fr (λy d hy=>by simp at hy) h
 have cl:∀ {x:Str}{c:Addr},(cellsFrom (s.heap.objs.size+1) scope.names (b1u X.env.cells scope.names [])).lookup x=some c→((x,c)∈cellsFrom (s.heap.objs.size+1) scope.names []∧s.heap.objs.size+1≤c) ∨ X.env.cells.lookup x=some c:=λh=>by
  rw[a1b] at h
  rcases a9h h with z|z
  ·exact .inl ⟨PySem.mem_of_lookup z,(ok.empty _ _ (PySem.mem_of_lookup z)).2⟩
  ·exact .inr (cl0 z.2)
 have hasC:∀ {x:Str},(scope.names.lookup x=some .cell ∨ scope.names.lookup x=some .free)→∃ c,(cellsFrom (s.heap.objs.size+1) scope.names (b1u X.env.cells scope.names [])).lookup x=some c:=λ{x} h=>by
  rw[a1b]
  refine b8s ?_
  rcases h with h|h
  ·exact .inl (Option.isSome_iff_exists.mp (PySem.W.cellsFrom_some _ _ _ (.inl h)))
  ·exact .inr (a9t scope.names [] (.inl (a7v h)))
 have clt:∀ {x:Str}{c:Addr},X.env.cells.lookup x=some c→c<s.heap.objs.size:=λh=>by obtain⟨v,q⟩:=I.cell _ _ h;exact q.lt
 refine⟨⟨I.ok.mod,SC.kind,I.ok.glob,I.ok.blt,Γi _,λx y c h1 h2=>?_,λx hx=>?_,λx c hf' h=>?_,λ_=>I.ok.hd hc,I.ok.frames,.inl rfl,λb hb=>?_,
   λb o e=>I.bs b o e,Nat.le_trans I.ok.bsz I.sz,λb o e hb=>?_,λb hb hz=>?_,I.stack,I.stkFree⟩,
  rfl,I.bare,Un.kept hk,⟨_,hns,λi x v e1 e2 e3=>?_⟩,λx c h=>?_,I.fresh,λx c h=>(cl h).elim (λz=>I.hok.fresh (by lia)) (I.freeC x c),λp hp=>absurd (show p∈([]:List (Addr×Obj)) from hp) (by simp),I.hok.kept hk,?_⟩
 ·rcases cl h1 with z1|z1<;>rcases cl h2 with z2|z2
  ·exact name_of_addr ok.apart z1.1 z2.1
  ·exact absurd (clt z2) (Nat.not_lt.mpr (Nat.le_of_succ_le z1.2))
  ·exact absurd (clt z1) (Nat.not_lt.mpr (Nat.le_of_succ_le z2.2))
  ·exact I.ok.inj x y c z1 z2
 ·have hx:(relabel scope X.env).names.lookup x=some .cell ∨ (relabel scope X.env).names.lookup x=some .free:=hx
  exact hasC (a3i hx)
 ·have hf':(scope.names.lookup x == some .cell)=true:=hf'
  have h:(cellsFrom (s.heap.objs.size+1) scope.names (b1u X.env.cells scope.names [])).lookup x=some c:=h
  obtain⟨c',hc'⟩:=Option.isSome_iff_exists.mp (PySem.W.cellsFrom_some scope.names (s.heap.objs.size+1) [] (.inl (by simpa using hf')))
  rw[a1b] at h
  rcases a9h h with z|z
  ·have:=(ok.empty _ _ (PySem.mem_of_lookup z)).2
   show s.heap.objs.size≤c
   lia
  ·rw[hc'] at z;cases z.1
 ·have hb:b∈fp:=hb
  obtain⟨o,ho⟩:=hfo b hb
  exact⟨Γo (Γl ho),λx c h=>(cl h).elim (λz e=>absurd (e ▸ Γl ho:c<s.heap.objs.size) (Nat.not_lt.mpr (Nat.le_of_succ_le z.2))) ((hf b hb).2.2.2.2.1 x c)⟩
 ·have hb:b∈fp:=hb
  have e:X.base.get? b=some o:=e
  rcases (hf b hb).2.2.2.1 with z|z
  ·exact I.ok.noex b o e z
  ·exact absurd (Nat.lt_of_lt_of_le (Γl e) (Nat.le_trans I.ok.bsz z)) (Nat.lt_irrefl _)
 ·have hb:b∈fp:=hb
  have hz:b∈frs X.stack:=hz
  rcases List.mem_cons.mp (I.stkSub b hz) with z|z
  ·exact (hf b hb).2.1 z
  ·exact (hf b hb).2.2.1 z
 ·have e1:(X.N.map (a9d own)++own)[i]?=some x:=e1
  have e3:Vis (relabel scope X.env) x:=e3
  have hi:i<σ.length:=by
   by_cases hi:i<σ.length
   ·exact hi
   ·rw[List.getElem?_append_right (by lia),List.getElem?_replicate] at e2
    split at e2<;>cases e2
  rw[List.getElem?_append_left hi] at e2
  rw[List.getElem?_append_left (by rw[List.length_map,← I.len];exact hi),List.getElem?_map] at e1
  obtain⟨y,e1,ey⟩:=Option.map_eq_some_iff.mp e1
  have hny:own.contains y=false:=by
   cases hy:own.contains y with
   | false=>rfl
   | true =>
    exfalso
    have hh:=SC.hid y (List.mem_of_getElem? e1) hy
    have ex:x=d5h y:=by rw[← ey];unfold a9d;rw[if_pos hy]
    rw[← ex] at hh
    have e4:(relabel scope X.env).names.lookup x=none:=b0e hh
    rcases e3 with z|z|z<;>(rw[e4] at z;cases z)
  have ex:x=y:=by rw[← ey];unfold a9d;rw[if_neg (by rw[hny];exact Γk)]
  rw[← ex] at e1 hny
  have hnl:(relabel scope X.env).names.lookup x≠some .local:=λz=>(SC.apart x (List.mem_of_getElem? e1) hny).1 (a4j z)
  have hv:(relabel scope X.env).names.lookup x=some .cell ∨ (relabel scope X.env).names.lookup x=some .free:=by
   rcases e3 with z|z|z
   ·exact absurd z hnl
   ·exact .inl z
   ·exact .inr z
  have hfr:scope.names.lookup x=some .free:=(a3i hv).resolve_left (SC.apart x (List.mem_of_getElem? e1) hny).2
  have hm:=a7v hfr
  have hkx:=SC.free (x,.free) hm rfl
  obtain⟨m,hn,hl⟩:=I.loc
  have hkx':X.env.scope.names.lookup x=some .cell ∨ X.env.scope.names.lookup x=some .free:=hkx
  obtain⟨u,r,l⟩:=hl i x v e1 e2 (hkx'.elim (λz=>.inr (.inl z)) λz=>.inr (.inr z))
  refine⟨u,r,.inr ⟨hv,?_⟩⟩
  obtain⟨c,hcl⟩:=hasC (.inr hfr)
  refine⟨c,hcl,?_⟩
  rcases l with⟨z,_⟩|⟨z,c',hc',q⟩
  ·rcases hkx with y|y<;>(rw[z] at y;cases y)
  ·rcases cl hcl with y|y
   ·have:=SC.nocell _ (a3m _ _ y.1) rfl
    rw[hfr] at this;cases this
   ·rw[hc'] at y;cases y
    obtain⟨o,ho,hd⟩:=q
    exact⟨o,hk _ _ ho,hd⟩
 ·rcases cl h with z|z
  ·exact⟨_,(ok.empty _ _ z.1).1⟩
  obtain⟨v,o,ho,hd⟩:=I.cell x c z
  exact⟨v,o,hk _ _ ho,hd⟩
 ·show (σ++Γj own.length none).length=(X.N.map (a9d own)++own).length
  rw[List.length_append,List.length_append,List.length_map,List.length_replicate,I.len]
end
def b6r (ifs:List Expr)(env:Env):Sem Bool :=
 forIn ifs true λc r=>if r=true then do let ok ← isTrue c env (eval c env);pure (ForInStep.yield ok) else pure (ForInStep.yield r)
def PTs (X:Cx)(ifs:List Expr)(t:TT):Prop :=
 ∀ (pins:List (Addr×Obj))(s:Shared)(σ:St)(H:Hp)(Q:Bool→Hp→Prop),Inv X pins σ H s→t σ H Q→wpAny (model X.prog X.w) X.A (b6r ifs X.env) (TP X pins σ Q) X.xe s
section
variable {X:Cx}
def d6r:TT:=λ_ H Q=>Q true H
theorem c6u:PTs X [] d6r:=λ_ _ _ H _ I h=>Γb ⟨H,I,h⟩
end
section
variable {prog:Program}{w:World}{A:Around}{R:Result→Shared→Prop}{s:Shared}
def b6m (target iter:Expr)(ifs:List Expr)(it:Value)(env:Env)(fin:Sem Fin)(c:Code):Sem Fin:=do
 standAt iter.pos
 match ← pyNext it with
 | none=>pure (.done .next)
 | some v =>
  letOwnedTupleGo target it v
  assign target env v
  let mut ok:=true
  for c in ifs do
   if ok then ok ← isTrue c env (eval c env)
  if ok then fin else again c
def b9y (elt:Expr)(acc:Value)(env:Env)(c:Code):Sem Fin:=do
 (do let _ ← call (.builtin "list.append") [acc,← eval elt env])
 again c
theorem b9m {ce:Expr}{dp:Nat}{target iter:Expr}{ifs:List Expr}{it acc:Value}{env:Env}{fin:Sem Fin}(ht:compTurn ce dp it acc env=b6m target iter ifs it env fin (.compLoop ce dp it acc env))(I:Nat→Shared→Prop)
  (turn:∀ n s,I n s→wpAny (model prog w) A (pyNext it) (λr s1=>match r with
   | none=>R (.ok .next) s1
   | some v=>wpAny (model prog w) A (letOwnedTupleGo target it v) (λ_ s2=>wpAny (model prog w) A (assign target env v) (λ_ s3=>wpAny (model prog w) A (b6r ifs env) (λok s4 =>
     if ok=true then wpAny (model prog w) A fin (λf s6=>f=.again (.compLoop ce dp it acc env)∧∃ m,m<n∧I m s6) (λ_ _=>False) s4
     else ∃ m,m<n∧I m s4) (λ_ _=>False) s3) (λ_ _=>False) s2) (λ_ _=>False) s1) (λ_ _=>False) s)
  (n:Nat)(h:I n s)(hA:A.under (.compLoop ce dp it acc env)=A:=by rfl)(hd:(model prog w).den (.compLoop ce dp it acc env)=(compTurn ce dp it acc env).onRaise (λx=>do noteFrame x env;theTreesLotGoes x):=by rfl):codeAny (model prog w) A (.compLoop ce dp it acc env) R s:=by
 refine codeAny_loop rfl I (λn s hI=>?_) n h
 rw[hA,hd]
 refine wpAny_noted ?_
 rw[ht]
 unfold b6m
 have no:∀ (e:Value)(s':Shared),(λ(_:Value)(_:Shared)=>False) e s'→notedBy (model prog w) A env (λe s'=>R (.error e) s') e s':=λ_ _ z=>z.elim
 refine Γa (wpAny_standAt (Γa (wpAny_mono (turn n s hI) (λr s1 h1=>?_) no)))
 cases r with
 | none=>exact Γb h1
 | some v =>
  refine Γa (wpAny_mono h1 (λ_ s2 h2=>Γa (wpAny_mono h2 (λ_ s3 h3=>Γa (wpAny_mono h3 (λok s4 h4=>?_) no)) no)) no)
  cases ok with
  | true =>
   rw[if_pos rfl] at h4
   simp only[if_true]
   exact wpAny_mono h4 (λf s6 ⟨e6,h6⟩=>by rw[e6];exact⟨rfl,h6⟩) no
  | false =>
   rw[if_neg Γk] at h4
   simp only[Γp,if_false]
   first
    | exact Γb ⟨rfl,h4⟩
    | exact Γa (Γb (Γb ⟨rfl,h4⟩))
end
def Wk (σ σ2:St):Prop:=σ2.length=σ.length∧∀ (j:Nat)(v:V),σ[j]?=some (some v)→σ2[j]?=some (some v)
structure CKind (X:Cx)(ce tg iter:Expr)(ifs:List Expr)(scope:Scope)(mk:Sem Value)(ob:Obj)(o0:Addr→HO)(fin:Value→Env→Code→Sem Fin):Prop where
 tn:∀ it acc env,compTurn ce 0 it (.ref acc) env=b6m tg iter ifs it env (fin (.ref acc) env (.compLoop ce 0 it (.ref acc) env)) (.compLoop ce 0 it (.ref acc) env)
 un:∀ (A:Around) it acc env,A.under (.compLoop ce 0 it (.ref acc) env)=A
 dn:∀ it acc env,(model X.prog X.w).den (.compLoop ce 0 it (.ref acc) env)=(compTurn ce 0 it (.ref acc) env).onRaise (λx=>do noteFrame x env;theTreesLotGoes x)
 us:∀ env use,evalThenUse ce env use=(do let _ ← comprehension ce scope env iter.pos mk false (eval iter env) (some use))
 st:∀ {A R s it acc env},codeAny (model X.prog X.w) A (.compLoop ce 0 it acc env) R s→wpAny (model X.prog X.w) A (pyIter it) (λit' s'=>codeAny (model X.prog X.w) A (.compLoop ce 0 it' acc env) R s') (notedBy (model X.prog X.w) A env λx s'=>R (.error x) s') s→codeAny (model X.prog X.w) A (.compStart ce 0 it acc env) R s
 nw:∀ {A s}{Q E:Value→Shared→Prop},Q (.ref s.heap.objs.size) { s with heap:=s.heap.push ob }→wpAny (model X.prog X.w) A mk Q E s
 ok:∀ {pins σ H s},Inv X pins σ H s→Inv X pins σ (upd H s.heap.objs.size (o0 s.heap.objs.size)) { s with heap:=s.heap.push ob,toks:=s.toks }
 ev:∀ env,eval ce env=comprehension ce scope env iter.pos mk false (eval iter env)
 cl:clausesOf ce=[⟨tg,iter,ifs,0⟩]
def PEm (Y:Cx)(fin:Value→Env→Code→Sem Fin)(em:Addr→St→Hp→(Hp→Prop)→Prop):Prop:=∀ pins s σ H acc c K,Inv Y pins σ H s→em acc σ H K→wpAny (model Y.prog Y.w) Y.A (fin (.ref acc) Y.env c) (λf s'=>f=.again c∧∃ H',Inv Y pins σ H' s'∧K H') Y.xe s
def b3a (wi:TI)(g:TG)(tt:TT)(em:Addr→St→Hp→(Hp→Prop)→Prop)(o0:Addr→HO) (own:Nat):TE:=λσ H Q=>wi σ H λJ H1=>∀ acc,H1 acc=none→∃ W:Nat→Nat→Hp→Prop,(∃ m,W 0 m (upd H1 acc (o0 acc)))∧∀ i m H,W i m H →
 (J.stop i H∧Q (.ref acc) H) ∨ (J.go i H∧∀ x H',J.yld i H x H'→g x (σ++Γj own none) H' λσ2 H2=>Wk (σ++Γj own none) σ2∧tt σ2 H2 λb H3 =>
  if b=true then em acc σ2 H3 λH4=>∃ m',m'<m∧W (i+1) m' H4 else ∃ m',m'<m∧W (i+1) m' H3)
section
variable {X:Cx}{ce elt tg iter:Expr}{ifs:List Expr}{scope:Scope}{own:List Str}{pos:Pos}{wi:TI}{g:TG}{tt:TT}{te:TE}{mk:Sem Value}{ob:Obj}{o0:Addr→HO}{fin:Value→Env→Code→Sem Fin}{em:Addr→St→Hp→(Hp→Prop)→Prop}
theorem b1j {pins:List (Addr×Obj)}{σ:St}{H2:Hp}{s2:Shared}{Q:VK}{it:Addr}{fp:List Addr}{tn:Nat→Heap→Prop}{J:It}{RR:Value→Addr→Result→Shared→Prop}
  (hc:X.calm=true)(SC:CScope X scope own)(CK:CKind X ce tg iter ifs scope mk ob o0 fin)
  (hblock:∀ C s H,PG (cxC X scope own fp C s H) tg g∧PTs (cxC X scope own fp C s H) ifs tt∧PEm (cxC X scope own fp C s H) fin em)
  (I2:Inv X pins σ H2 s2)(T:Turn X.prog X.w X.K tg J fp it tn)(st2:tn 0 s2.heap)(f2:∀ b∈fp,b6d X pins H2 b)
  (h:∀ acc,H2 acc=none→∃ W:Nat→Nat→Hp→Prop,(∃ m,W 0 m (upd H2 acc (o0 acc)))∧∀ i m H,W i m H →
   (J.stop i H∧Q (.ref acc) H) ∨ (J.go i H∧∀ x H',J.yld i H x H'→g x (σ++Γj own.length none) H' λσ2 H2=>Wk (σ++Γj own.length none) σ2∧tt σ2 H2 λb H3 =>
    if b=true then em acc σ2 H3 λH4=>∃ m',m'<m∧W (i+1) m' H4 else ∃ m',m'<m∧W (i+1) m' H3))
  (hRR:∀ acc C H' m s',Inv X pins σ H' s'→s'.heap.Ns C m→C≠X.env.locals→(∀ x c,X.env.cells.lookup x=some c→c≠C)→s2.heap.objs.size≤C→H' C=none→Q (.ref acc) H'→RR (.ref acc) C (.ok .next) s'){E:Value→Shared→Prop} :
  wpAny (model X.prog X.w) X.A mk (λacc s3=>wpAny (model X.prog X.w) X.A (newFunctionEnv scope X.env.globals (b1u X.env.cells scope.names []) [] X.env.qual none .none (some X.env)) (λcenv s4 =>
   codeAny (model X.prog X.w) X.A (.compStart ce 0 (.ref it) acc { cenv with scope:=relabel scope X.env }) (RR acc cenv.locals) s4) E s3) E s2:=by
 have hacc:=I2.fresh
 have I3:Inv X pins σ (upd H2 s2.heap.objs.size (o0 s2.heap.objs.size)) { s2 with heap:=s2.heap.push ob,toks:=s2.toks }:=CK.ok I2
 refine CK.nw ?_
 obtain⟨W,⟨m0,w0⟩,turn⟩:=h _ hacc
 generalize hs3:({ s2 with heap:=s2.heap.push ob,toks:=s2.toks }:Shared)=s3 at I3
 have keep23:∀ b o,s2.heap.get? b=some o→s3.heap.get? b=some o:=λb o e=>by rw[← hs3];exact Γc _ e
 have hf3:∀ b∈fp,b6d X pins (upd H2 s2.heap.objs.size (o0 s2.heap.objs.size)) b:=λb hb=>by
  obtain⟨o,ho,_⟩:=T.obj _ _ st2 b hb
  exact⟨by rw[a0c (Γo (Γl ho))];exact (f2 b hb).1,(f2 b hb).2⟩
 have st3:tn 0 s3.heap:=T.keep _ _ _ st2 λb hb o e=>keep23 b o e
 refine b0n λh4 hns' keep34 ok34=>?_
 have I4:=c3h (t4:=s3.toks+([]:List (Str×Value)).length) I3 SC hc hf3 (λb hb=>by obtain⟨o,ho,_⟩:=T.obj _ _ st3 b hb;exact⟨o,ho⟩) hns' keep34 ok34
 have st4:tn 0 h4:=T.keep _ _ _ st3 λb hb o e=>keep34 b o e
 obtain⟨hg,ht,he⟩:=hblock s3.heap.objs.size s3 (upd H2 s2.heap.objs.size (o0 s2.heap.objs.size))
 have e5:(cxC X scope own fp s3.heap.objs.size s3 (upd H2 s2.heap.objs.size (o0 s2.heap.objs.size))).env=compEnvC scope (cellsFrom (s3.heap.objs.size+1) scope.names (b1u X.env.cells scope.names [])) s3.heap.objs.size X.env:=rfl
 generalize hY:cxC X scope own fp s3.heap.objs.size s3 (upd H2 s2.heap.objs.size (o0 s2.heap.objs.size))=Y at hg ht he I4 e5
 have fpY:∀ {H':Hp},(∀ b∈fp,H' b=none)→∀ b∈fp,b6d Y [] H' b:=λhn b hb=>by
  obtain⟨o,ho,_⟩:=T.obj _ _ st3 b hb
  refine⟨hn b hb,?_,?_,?_,?_,?_⟩
  ·rw[← hY];exact Γo (Γl ho)
  ·have:=I4.ok.exfs b (by rw[← hY];exact hb)
   exact this
  ·exact .inl (by rw[← hY];exact hb)
  ·exact λx c h=>(I4.ok.exf b (by rw[← hY];exact hb)).2 x c h
  ·intro p hp;rw[← hY] at hp;exact absurd (show p∈([]:List (Addr×Obj)) from hp) (by simp)
 have hYp:Y.prog=X.prog∧Y.w=X.w∧Y.K=X.K∧Y.calm=true∧Y.A=X.A∧Y.xe=(λ_ _=>False)∧Y.s₀=s3∧Y.H₀=upd H2 s2.heap.objs.size (o0 s2.heap.objs.size)∧Y.outer=X.stack∧Y.ex=fp:=by rw[← hY];exact⟨rfl,rfl,rfl,hc,rfl,rfl,rfl,rfl,rfl,rfl⟩
 obtain⟨y1,y2,y3,y4,y5,y6,y7,y8,y9,y10⟩:=hYp
 have loop:∀ s5:Shared,s5 = { s3 with heap:=h4,toks:=s3.toks+([]:List (Str×Value)).length } →
   codeAny (model X.prog X.w) X.A (.compLoop ce 0 (.ref it) (.ref s2.heap.objs.size) Y.env) (RR (.ref s2.heap.objs.size) s3.heap.objs.size) s5:=by
  rintro s5 rfl
  refine b9m (hA:=CK.un ..) (hd:=CK.dn ..) (CK.tn _ _ _) (λn s'=>∃ i H',Inv Y [] (σ++Γj own.length none) H' s'∧tn i s'.heap∧(∀ b∈fp,H' b=none)∧W i n H') ?_ m0 ⟨0,_,I4,st4,λb hb=>(hf3 b hb).1,w0⟩
  rintro n s6 ⟨i,H6,I6,st6,fr6,w6⟩
  rcases turn i n H6 w6 with⟨stop,q⟩|⟨go,step⟩
  ·have d:=T.done Y y1 y2 y3 y4 i [] s6 _ H6 (λ_ _=>False) I6 (fpY fr6) st6 stop
   rw[y5] at d
   refine thn d λr s7 ⟨hr,I7⟩=>?_
   subst hr
   obtain⟨m,hn,_⟩:=I7.loc
   have hL:Y.env.locals=s3.heap.objs.size:=by rw[e5];rfl
   rw[hL] at hn
   have b7:=I7.base
   rw[y7,y8,y10] at b7
   have b7':Un (frs X.stack) fp (upd H2 s2.heap.objs.size (o0 s2.heap.objs.size)) H6 s3.heap s7.heap:=by
    have z:Y.fs=frs X.stack:=by show frs Y.outer=_;rw[y9]
    rw[z] at b7
    exact b7
   have hok7:=I7.hok
   rw[y1,y2] at hok7
   have os7:=I7.os
   rw[y7] at os7
   have I8:Inv X pins σ H6 s7:=I3.call' os7 b7' hok7 I7.bare λb hb=>⟨(hf3 b hb).2.2.2.1,(hf3 b hb).2.1,(hf3 b hb).2.2.2.2.1,(hf3 b hb).2.2.2.2.2⟩
   have hfree:=I7.free
   rw[hL] at hfree
   refine hRR _ _ H6 m s7 I8 hn (Nat.ne_of_gt I3.lt) (λx c h z=>?_) ?_ hfree q
   ·obtain⟨v,y⟩:=I3.cell x c h
    exact absurd y.lt (by rw[z];exact Nat.lt_irrefl _)
   ·rw[← hs3,Heap.size_push];exact Nat.le_succ _
  ·have d:=T.item Y y1 y2 y3 y4 i [] s6 _ H6 (λ_ _=>False) I6 (fpY fr6) st6 go
   rw[y5] at d
   refine thn d λr s7 ⟨u,hr,h7⟩=>?_
   subst hr
   refine thn h7 λ_ s8 ⟨x,H8,I8,r8,y8',st8,fr8⟩=>?_
   have I8':=I8.pinned (fpY fr8) (T.obj _ _ st8)
   have pinK:∀ {σ':St}{H':Hp}{s':Shared},Inv Y ([]++b0j fp s8.heap) σ' H' s'→tn (i+1) s'.heap∧∀ b∈fp,H' b=none:=λ{σ' H' s'} I' =>
    ⟨T.keep _ _ _ st8 λb hb o e=>(I'.pin (b,o) (List.mem_append_right _ (List.mem_append_right _ (a3r hb e)))).1,λb hb=>by
     obtain⟨o,e,_⟩:=T.obj _ _ st8 b hb
     exact (I'.pin (b,o) (List.mem_append_right _ (List.mem_append_right _ (a3r hb e)))).2.1⟩
   have dg:=hg _ s8 _ H8 x u _ I8' r8 (step x H8 y8')
   rw[y1,y2,y5,y6] at dg
   refine thn dg λ_ s9 ⟨σ9,H9,I9,wk,q9⟩=>?_
   have dt:=ht _ s9 σ9 H9 _ I9 q9
   rw[y1,y2,y5,y6] at dt
   refine thn dt λok s10 ⟨H10,I10,q10⟩=>?_
   cases ok with
   | true =>
    rw[if_pos rfl] at q10 ⊢
    have de:=he _ s10 σ9 H10 s2.heap.objs.size (.compLoop ce 0 (.ref it) (.ref s2.heap.objs.size) Y.env) _ I10 q10
    rw[y1,y2,y5,y6] at de
    refine thn de λf s12 ⟨e12,H12,I12,m',hm,w12⟩=>⟨e12,?_⟩
    obtain⟨t12,f12⟩:=pinK I12
    exact⟨m',hm,i+1,_,(I12.unpinned).weak wk.1.symm wk.2,t12,f12,w12⟩
   | false =>
    rw[if_neg Γk] at q10 ⊢
    obtain⟨m',hm,w10⟩:=q10
    obtain⟨t10,f10⟩:=pinK I10
    exact⟨m',hm,i+1,_,(I10.unpinned).weak wk.1.symm wk.2,t10,f10,w10⟩
 rw[e5] at loop
 exact CK.st (loop _ rfl) (T.self _ 0 _ _ _ st4 (loop _ rfl))
theorem b3o (hc:X.calm=true)(SC:CScope X scope own)(CK:CKind X.nox ce tg iter ifs scope mk ob o0 fin)(hi:PI X.nox tg iter wi)
  (hblock:∀ fp C s H,PG (cxC X scope own fp C s H) tg g∧PTs (cxC X scope own fp C s H) ifs tt∧PEm (cxC X scope own fp C s H) fin em)
  (hs:∀ x,foldedSetIterable iter X.env x=pure x:=by intro _;rfl) :
  PE X.nox ce (b3a wi g tt em o0 own.length):=by
 intro pins s σ H Q I h
 have fr:∀ p∈scope.names,p.2=.free→∃ c,X.env.cells.lookup p.1=some c:=λp hp hq=>I.ok.has p.1 (SC.free p hp hq)
 rw[CK.ev]
 refine wpAny_comprehension_free (use:=none) CK.cl hs (a8e fr) SC.kind SC.names (thn (hi pins s σ H _ I h) λv s1 h1=>thn h1 λitv s2 h2=>?_)
 obtain⟨it,fp,tn,J,H2,e,I2,T,st2,f2,h2⟩:=h2
 subst e
 refine b1j (X:=X.nox) (own:=own) (RR:=λacc C=>compPost (model X.prog X.w) X.A (λ_ _=>False) none (EP X.nox pins σ Q) acc C) hc ⟨SC.kind,SC.nocell,SC.names,SC.free,SC.apart,SC.hid⟩ CK (λC s H=>hblock fp C s H) I2 T st2 f2 h2 ?_
 intro acc C H' m s' I' hn hL hcl hC hH q
 obtain⟨f0,f1,f2',f3,f4,f5⟩:=I2.fpOk hC hH
 refine⟨m,hn,λh' hsb=>⟨.ref acc,H',?_,rfl,q⟩⟩
 exact I'.turned (t':=s'.toks) (λb o hb e=>(hsb.2 b hb).trans e) f0 f1 f3 f4 f5
theorem b2d {i:Nat}{x:Str}{px:Pos}{spos:Pos}(hc:X.calm=true)(SC:CScope X scope own)(CK:CKind X.nox ce tg iter ifs scope mk ob o0 fin)(hN:X.N.Nodup)(hx:X.N[i]?=some x)(hl:X.env.scope.names.lookup x=some .local)(hi:PI X.nox tg iter wi)
  (hblock:∀ fp C s H,PG (cxC X scope own fp C s H) tg g∧PTs (cxC X scope own fp C s H) ifs tt∧PEm (cxC X scope own fp C s H) fin em)
  (hsw:swapsWith ce (some (.Name x px)) spos.line X.env=pure true)
  (hs:∀ x,foldedSetIterable iter X.env x=pure x:=by intro _;rfl) :
  PS X.nox (.Assign [.Name x px] ce spos) (c1g (b3a wi g tt em o0 own.length) (a5j i)):=by
 intro pins s σ H D I h
 have fr:∀ p∈scope.names,p.2=.free→∃ c,X.env.cells.lookup p.1=some c:=λp hp hq=>I.ok.has p.1 (SC.free p hp hq)
 show wpAny (model X.prog X.w) X.A (exec _ X.env) _ _ s
 rw[exec_Assign_Name_used _ _ _ _ hsw]
 refine Γa (wpAny_standAt (Γa ?_))
 rw[CK.us]
 refine Γa (wpAny_mono (wpAny_comprehension_free (use:=some (assign (.Name x px) X.env)) (Q:=λ_ s'=>SP X.nox pins D .next s') CK.cl hs (a8e fr) SC.kind SC.names
  (thn (hi pins s σ H _ I h) λv s1 h1=>thn h1 λitv s2 h2=>?_)) (λ_ s' hq=>Γb (Γb hq)) λ_ _ e=>e)
 obtain⟨it,fp,tn,J,H2,e,I2,T,st2,f2,h2⟩:=h2
 subst e
 refine b1j (X:=X.nox) (own:=own) (Q:=λv H1=>a5j i v σ H1 D.nx) (RR:=λacc C=>compPost (model X.prog X.w) X.A (λ_ _=>False) (some (assign (.Name x px) X.env)) (λ_ s'=>SP X.nox pins D .next s') acc C) hc ⟨SC.kind,SC.nocell,SC.names,SC.free,SC.apart,SC.hid⟩ CK (λC s H=>hblock fp C s H) I2 T st2 f2 h2 ?_
 intro acc C H' m s' I' hn hL hcl hC hH q
 obtain⟨f0,f1,f2',f3,f4,f5⟩:=I2.fpOk hC hH
 show wpAny (model X.prog X.w) X.A (assign (.Name x px) X.env (.ref acc)) _ _ s'
 refine wpAny_assign_Name (b0b (X:=X.nox) I' hN hx (.inl hl) (v:=.ref acc) rfl (λs'' I'' hch=>?_) (.inr hl))
 obtain⟨a,hsa,ha⟩:=hch
 have hCa:C≠a:=by
  rcases ha with z|z
  ·rw[z];exact hL
  ·exact λy=>hcl x a z y.symm
 refine⟨m,hn.sameBut hsa hCa,λh' hsb=>?_⟩
 exact⟨_,H',I''.turned (t':=s''.toks) (λb o hb e=>(hsb.2 b hb).trans e) f0 f1 f3 f4 f5,q⟩
def emL (te:TE):Addr→St→Hp→(Hp→Prop)→Prop:=λacc σ H K=>te σ H λv H4=>∃ ys,H4 acc=some (.lst ys)∧ys.length<sizeLine∧K (upd H4 acc (.lst (ys++[v])))
def c6c (wi:TI)(g:TG)(tt:TT)(te:TE) (own:Nat):TE:=b3a wi g tt (emL te) (λ_=>.lst []) own
theorem c0s:CKind X (.ListComp elt [⟨tg,iter,ifs,0⟩] scope pos) tg iter ifs scope (newList []) { cls:=.type "list",data:=.seq ([]:List Value).toArray } (λ_=>.lst []) (b9y elt) :=
 ⟨λ_ _ _=>rfl,λ_ _ _ _=>rfl,λ_ _ _=>rfl,λ_ _=>rfl,codeAny_compStart_list,λq=>wpAny_newObj_type q,λI=>I.lnew .nil (Nat.zero_le _),λ_=>by rw[eval_ListComp];rfl,rfl⟩
theorem b3m {Y:Cx}(he:PE Y elt te):PEm Y (b9y elt) (emL te):=by
 intro pins s σ H acc c K I q
 unfold b9y
 refine Γa (Γa (thn (he _ s σ H _ I q) λy s11 ⟨v11,H11,I11,r11,ys,hys,hz,k⟩=>Γa ?_))
 refine thn (a6d (X:=Y) _ s11 σ H11 (.ref acc) [v11] (.ref acc) [y] (λ_ H'=>H'=upd H11 acc (.lst (ys++[v11]))) I11 rfl (.cons r11 .nil) ⟨_,ys,v11,rfl,rfl,hys,hz,rfl⟩) λ_ s12 ⟨v12,H12,I12,r12,e12⟩=>?_
 subst e12
 exact Γb (Γb ⟨rfl,_,I12,k⟩)
theorem b8c (hc:X.calm=true)(SC:CScope X scope own)(hi:PI X.nox tg iter wi)
  (hblock:∀ fp C s H,PG (cxC X scope own fp C s H) tg g∧PTs (cxC X scope own fp C s H) ifs tt∧PE (cxC X scope own fp C s H) elt te)
  (hs:∀ x,foldedSetIterable iter X.env x=pure x:=by intro _;rfl) :
  PE X.nox (.ListComp elt [⟨tg,iter,ifs,0⟩] scope pos) (c6c wi g tt te own.length) :=
 b3o hc SC c0s hi (λfp C s H=>let ⟨a,b,c⟩:=hblock fp C s H;⟨a,b,b3m c⟩) hs
theorem b4u {i:Nat}{x:Str}{px:Pos}{spos:Pos}(hc:X.calm=true)(SC:CScope X scope own)(hN:X.N.Nodup)(hx:X.N[i]?=some x)(hl:X.env.scope.names.lookup x=some .local)(hi:PI X.nox tg iter wi)
  (hblock:∀ fp C s H,PG (cxC X scope own fp C s H) tg g∧PTs (cxC X scope own fp C s H) ifs tt∧PE (cxC X scope own fp C s H) elt te)
  (hsw:swapsWith (.ListComp elt [⟨tg,iter,ifs,0⟩] scope pos) (some (.Name x px)) spos.line X.env=pure true)
  (hs:∀ x,foldedSetIterable iter X.env x=pure x:=by intro _;rfl) :
  PS X.nox (.Assign [.Name x px] (.ListComp elt [⟨tg,iter,ifs,0⟩] scope pos) spos) (c1g (c6c wi g tt te own.length) (a5j i)) :=
 b2d hc SC c0s hN hx hl hi (λfp C s H=>let ⟨a,b,c⟩:=hblock fp C s H;⟨a,b,b3m c⟩) hsw hs
end
end L2
end
section
namespace L2
open PySem PySem.Spec PyProof.Rows
section
variable {X:Cx}{pins:List (Addr×Obj)}{σ:St}{H:Hp}{s:Shared}{h':Heap}
theorem Inv.turnedNew {t':Nat}{ch:List Addr}{p:Addr}{o:HO}(I:Inv X pins σ H s)(hp:s.heap.objs.size≤p)(k:∀ b ob,b ∉ ch→s.heap.get? b=some ob→h'.get? b=some ob)(hf:∀ b∈ch,b6d X pins H b)
  (new:ObjOk X.prog X.w (upd H p o) h' p o):Inv X pins σ (upd H p o) { s with heap:=h',toks:=t' }:=by
 have hn:H p=none:=I.hok.fresh hp
 have nit:∀ b u,H b=some u→b ∉ ch:=λb u e z=>by rw[(hf b z).1] at e;cases e
 have nep:∀ {b ob},s.heap.get? b=some ob→b≠p:=λe=>Γo (Nat.lt_of_lt_of_le (Γl e) hp)
 refine I.step (g':=s.gens) (d':=s.drawn) (ch:=ch) (λb hb=>⟨(hf b hb).2.2.2.1,(hf b hb).2.1,(hf b hb).2.2.2.2.1,(hf b hb).2.2.2.2.2⟩) (λb ob _ _ hc e _=>k b ob hc e) (λb ob _ _ hc e _=>⟨ob.slots,k b ob hc e⟩)
  (λb ob hc e n=>by rw[a0c (nep e)];exact n) (λb ob hc e=>⟨ob,k b ob hc e⟩) (λb xs e=>by rw[a0c (a0v e hn)];exact e) (λb u xs e=>by rw[a0c (a0v e hn)];exact e)
  (λb ps e=>⟨#[],by rw[a0c (a0v e hn),e];simp⟩) (λm hm=>?_) (λb u e=>?_) I.bare
 ·obtain⟨ob,es,ep,ho,r⟩:=hm
  exact⟨ob,es,ep,k _ ob (λz=>(hf _ z).2.1 rfl) ho,r⟩
 ·by_cases hb:b=p
  ·subst hb;rw[a0e] at e;cases e;exact new
  ·rw[a0c hb] at e
   refine (I.hok b u e).stay (λc v hc q=>k c v ?_ q) (λc q=>by rw[a0c (a0v q hn)];exact q) λc xs q=>by rw[a0c (a0v q hn)];exact q
   rcases hc with z|z
   ·rw[z];exact nit b u e
   ·exact nit c _ z
theorem Inv.turnedL {t':Nat}{ch:List Addr}(I:Inv X pins σ H s)(k:∀ b ob,b ∉ ch→s.heap.get? b=some ob→h'.get? b=some ob)(hf:∀ b∈ch,b6d X pins H b):Inv X pins σ H { s with heap:=h',toks:=t' }:=by
 have nit:∀ b u,H b=some u→b ∉ ch:=λb u e z=>by rw[(hf b z).1] at e;cases e
 refine I.step (g':=s.gens) (d':=s.drawn) (ch:=ch) (λb hb=>⟨(hf b hb).2.2.2.1,(hf b hb).2.1,(hf b hb).2.2.2.2.1,(hf b hb).2.2.2.2.2⟩) (λb ob _ _ hc e _=>k b ob hc e) (λb ob _ _ hc e _=>⟨ob.slots,k b ob hc e⟩)
  (λ_ _ _ _ n=>n) (λb ob hc e=>⟨ob,k b ob hc e⟩) (λ_ _ e=>e) (λ_ _ _ e=>e) (λb ps e=>⟨#[],by rw[e];simp⟩) (λm hm=>?_) (λb u e=>?_) I.bare
 ·obtain⟨ob,es,ep,ho,r⟩:=hm
  exact⟨ob,es,ep,k _ ob (λz=>(hf _ z).2.1 rfl) ho,r⟩
 ·refine (I.hok b u e).stay (λc v hc q=>k c v ?_ q) (λ_ q=>q) λ_ _ q=>q
  rcases hc with z|z
  ·rw[z];exact nit b u e
  ·exact nit c _ z
end
end L2
end
section
namespace L2
open PySem PySem.Spec PyProof.Rows
def SeqB (b:Bool)(h:Heap)(l:Addr)(xs:Array Value):Prop:=match b with|true=>h.IsList l xs|false=>h.IsTuple l xs
def IterB (b:Bool)(h:Heap)(it l:Addr) (i:Nat):Prop:=match b with|true=>h.IsListIter it l i|false=>h.IsTupleIter it l i
def a9k (b:Bool):String:=match b with|true=>"list_iterator" | false=>"tuple_iterator"
section
variable {b:Bool}{h h':Heap}{it l c:Addr}{i:Nat}{xs:Array Value}
theorem SeqB.move (x:SeqB b h l xs)(e:Heap.ExtBut c h h')(n:l≠c):SeqB b h' l xs:=by
 cases b
 ·exact Heap.IsTuple.extBut x e n
 ·exact Heap.IsList.extBut x e n
theorem SeqB.push {o:Obj}(x:SeqB b h l xs):SeqB b (h.push o) l xs:=by
 cases b
 ·exact Heap.IsTuple.push x o
 ·exact Heap.IsList.push x o
theorem SeqB.lt (x:SeqB b h l xs):l<h.objs.size:=by
 cases b<;>(obtain⟨_,e,_⟩:=x;exact Γl e)
theorem IterB.move (x:IterB b h it l i)(e:Heap.ExtBut c h h')(n:it≠c):IterB b h' it l i:=by
 cases b
 ·exact Heap.IsTupleIter.extBut x e n
 ·exact Heap.IsListIter.extBut x e n
theorem IterB.to (x:IterB b h it l i)(k:∀ o,h.get? it=some o→h'.get? it=some o):IterB b h' it l i:=by
 cases b<;>(obtain⟨o,e,r⟩:=x;exact⟨o,k o e,r⟩)
theorem IterB.obj (x:IterB b h it l i):∃ o,h.get? it=some o∧∀ v,o.data≠.cell v:=by
 cases b<;>(obtain⟨o,e,_,d⟩:=x;exact⟨o,e,λv z=>by rw[d] at z;cases z⟩)
theorem IterB.lt (x:IterB b h it l i):it<h.objs.size:=let ⟨_,e,_⟩:=x.obj;Γl e
end
section
variable {P:Program}{w:World}{A:Around}{E:Value→Shared→Prop}{s:Shared}{b:Bool}{it l:Addr}{i:Nat}{xs:Array Value}{Q:Value→Shared→Prop}
theorem b9a (x:SeqB b s.heap l xs)(q:Q (.ref s.heap.objs.size) { s with heap:=s.heap.push { cls:=.type (a9k b),data:=.fields #[.ref l,.int 0 0] } }):wpAny (model P w) A (pyIter (.ref l)) Q E s:=by
 cases b
 ·exact wpAny_pyIter_tuple x q
 ·exact wpAny_pyIter_list x q
theorem d8z {x:Value}(hi:s.heap.IsTupleIter it l i)(hl:s.heap.IsTuple l xs)(hx:xs[i]?=some x)(q:∀ h',h'.IsTupleIter it l (i+1)→Heap.SameBut it s.heap h'→Q x { s with heap:=h' }):wpAny (model P w) A (Builtin.SmallTypes.nextOf (.ref it)) Q E s:=by
 obtain⟨oi,ei,ci,di⟩:=id hi
 obtain⟨os,es,_,ns,ds⟩:=hl
 unfold Builtin.SmallTypes.nextOf
 refine Γa (wpAny_callSpecial?_slot (name:=Γe "__next__") hi.typeIs F.slot_tuple_iterator_next (wpAny_call_entry F.slot_tuple_iterator_next hi.typeIs F.entry_tuple_iterator_next ?_ (F.args_tuple_iterator_next_1 _)))
 show wpAny _ _ (field (.ref it) 0 >>= _) _ _ s;refine Γa (wpAny_field ei di (x:=.ref l) rfl ?_)
 show wpAny _ _ (if (Value.ref l == Value.none)=true then _ else _) _ _ s;rw[if_neg (show ¬ ((Value.ref l == Value.none)=true) from Γk)]
 show wpAny _ _ (field (.ref it) 1 >>= _) _ _ s;refine Γa (wpAny_field ei di (x:=.int i 0) rfl ?_)
 show wpAny _ _ (seqItems? (.ref l) >>= _) _ _ s;refine Γa (wpAny_seqItems es ds ?_)
 simp only[Int.toNat_natCast,hx]
 refine Γa (wpAny_setField ei di (by simp) (Γb ⟨x,rfl,Γb (q _ ⟨_,Heap.get?_update_self _ ei (Obj.isFreed_of_fields (Obj.data_mapFields di _)),(Obj.cls_mapFields ..).trans ci,?_⟩ (Heap.SameBut.update ..))⟩))
 rw[Obj.data_mapFields di];simp[rawInt]
theorem d7d (hh:A.handled=none)(hi:s.heap.IsTupleIter it l i)(hl:s.heap.IsTuple l xs)(hx:xs[i]?=none)
  (q:∀ h' e,Heap.ExtBut it s.heap h'→(∃ o,h'.get? e=some o∧o.cls=.type "StopIteration")→E (.ref e) { s with heap:=h' }):wpAny (model P w) A (Builtin.SmallTypes.nextOf (.ref it)) Q E s:=by
 obtain⟨oi,ei,ci,di⟩:=id hi
 obtain⟨os,es,_,ns,ds⟩:=hl
 unfold Builtin.SmallTypes.nextOf
 refine Γa (wpAny_callSpecial?_slot (name:=Γe "__next__") hi.typeIs F.slot_tuple_iterator_next (wpAny_call_entry F.slot_tuple_iterator_next hi.typeIs F.entry_tuple_iterator_next ?_ (F.args_tuple_iterator_next_1 _)))
 show wpAny _ _ (field (.ref it) 0 >>= _) _ _ s;refine Γa (wpAny_field ei di (x:=.ref l) rfl ?_)
 show wpAny _ _ (if (Value.ref l == Value.none)=true then _ else _) _ _ s;rw[if_neg (show ¬ ((Value.ref l == Value.none)=true) from Γk)]
 show wpAny _ _ (field (.ref it) 1 >>= _) _ _ s;refine Γa (wpAny_field ei di (x:=.int i 0) rfl ?_)
 show wpAny _ _ (seqItems? (.ref l) >>= _) _ _ s;refine Γa (wpAny_seqItems es ds ?_)
 simp only[Int.toNat_natCast,hx]
 refine Γa (wpAny_rule (Γa (wpAny_setField ei di (by simp) ?_)));show wpAny _ _ (newExc (.type "StopIteration") [] >>= _) _ _ _
 refine Γa ?_;simp only[newExc,newTuple]
 refine Γa (wpAny_newObj_type ?_ (by size_fits));refine Γa (m:=firstArgMember _ _) (wpAny_of_eq (a:=Value.none) (by first|rfl|(simp only[firstArgMember];rfl)) ?_)
 refine wpAny_newObj_type ?_ (by size_fits);simp only[raiseNew];refine Γa (wpAny_handled ?_)
 first|rw[show A.in1.handled=none from hh]|rw[hh]
 exact Γa (Γb (wpAny_throw (q _ _ (((Heap.SameBut.update ..).extBut.push _).push _) ⟨_,Γm _ rfl,rfl⟩)))
theorem c2u {x:Value}(hi:IterB b s.heap it l i)(hl:SeqB b s.heap l xs)(hx:xs[i]?=some x)(q:∀ h',IterB b h' it l (i+1)→Heap.SameBut it s.heap h'→Q x { s with heap:=h' }):wpAny (model P w) A (Builtin.SmallTypes.nextOf (.ref it)) Q E s:=by
 cases b
 ·exact d8z hi hl hx q
 ·exact wpAny_nextOf_list_item hi hl hx q
theorem c6f (hh:A.handled=none)(hi:IterB b s.heap it l i)(hl:SeqB b s.heap l xs)(hx:xs[i]?=none)
  (q:∀ h' e,Heap.ExtBut it s.heap h'→(∃ o,h'.get? e=some o∧o.cls=.type "StopIteration")→E (.ref e) { s with heap:=h' }):wpAny (model P w) A (Builtin.SmallTypes.nextOf (.ref it)) Q E s:=by
 cases b
 ·exact d7d hh hi hl hx q
 ·exact wpAny_nextOf_list_end hh hi hl hx q
end
section
variable {P:Program}{w:World}{A:Around}{E:Value→Shared→Prop}{s:Shared}{p q:Bool}{z TI TO i1 i2 l1 l2:Addr}{k1 k2:Nat}{xs ys:Array Value}{x y a b:Value}
theorem b6h {Q:Value→Shared→Prop}(D:ZipApart z TI TO i1 i2 l1 l2)(zz:IsZip s.heap z TI TO .none)(zi:IsPair s.heap TI (.ref i1) (.ref i2))(zo:IsPair s.heap TO a b)
  (t1:IterB p s.heap i1 l1 k1)(t2:IterB q s.heap i2 l2 k2)(m1:SeqB p s.heap l1 xs)(m2:SeqB q s.heap l2 ys)(ex:xs[k1]?=some x)(ey:ys[k2]?=some y)
  (K:∀ h',IsZip h' z TI TO (rawInt s.heap.objs.size)→IsPair h' TO x y→IterB p h' i1 l1 (k1+1)→IterB q h' i2 l2 (k2+1)→IsPair h' s.heap.objs.size x y →
   (∀ c o,c≠z→c≠TO→c≠i1→c≠i2→s.heap.get? c=some o→h'.get? c=some o)→Q (.ref s.heap.objs.size) { s with heap:=h' }) :
  wpAny (model P w) A (Builtin.«zip.__next__» ⟨[.ref z],[]⟩) (λfin s'=>∃ v,fin=.done (.ret v)∧Q v s') E s:=by
 show wpAny _ _ (field (.ref z) 2 >>= _) _ _ _;refine Γa (wpAny_field zz rfl (x:=.bool false) rfl ?_)
 show wpAny _ _ (field (.ref z) 3 >>= _) _ _ _;refine Γa (wpAny_field zz rfl (x:=.ref TI) rfl (Γa (wpAny_seqItems zi rfl ?_)))
 show wpAny _ _ (Builtin.SmallTypes.ownedTupleIsFree (.ref z) >>= _) _ _ _;refine Γa ?_;unfold Builtin.SmallTypes.ownedTupleIsFree
 refine Γa (wpAny_field zz rfl (x:=.none) rfl (Γb ?_));simp only[if_true]
 refine Γa (wpAny_rule (Γa (wpAny_field zz rfl (x:=.ref TO) rfl (Γa (wpAny_setField_rec zz (by simp) λg1 z1 b1=>?_)))))
 replace z1:IsZip g1 z TI TO .ellipsis:=z1
 refine Γa ?_;simp only[List.zipIdx_cons,List.zipIdx_nil,List.forIn_cons,List.forIn_nil]
 refine Γa (Γa (wpAny_onRaise ?_));show wpAny _ _ (Builtin.SmallTypes.nextOf (.ref i1) >>= _) _ _ _
 refine Γa (c2u (t1.move b1.extBut D.i1z) (m1.move b1.extBut D.l1z) ex λg2 t12 b2=>Γb ?_)
 have o2:IsPair g2 TO a b:=b2.extBut _ _ D.TOi1 (b1.extBut _ _ D.TOz zo)
 refine Γa (wpAny_seqItems o2 rfl (Γa (wpAny_updateSeq_pair o2 λg3 o3 b3=>?_)))
 replace o3:IsPair g3 TO x b:=o3
 refine Γa (wpAny_letGo (Γb (Γa (Γa (wpAny_onRaise ?_)))));show wpAny _ _ (Builtin.SmallTypes.nextOf (.ref i2) >>= _) _ _ _
 refine Γa (c2u (((t2.move b1.extBut D.i2z).move b2.extBut D.i12.symm).move b3.extBut D.TOi2.symm) (((m2.move b1.extBut D.l2z).move b2.extBut D.l2i1).move b3.extBut D.l2TO) ey λg4 t24 b4=>Γb ?_)
 have o4:IsPair g4 TO x b:=b4.extBut _ _ D.TOi2 o3
 refine Γa (wpAny_seqItems o4 rfl (Γa (wpAny_updateSeq_pair o4 λg5 o5 b5=>?_)))
 replace o5:IsPair g5 TO x y:=o5
 refine Γa (wpAny_letGo (Γb (Γb (Γa (wpAny_seqItems o5 rfl (Γa (wpAny_newTuple ?_)))))))
 have sz:g5.objs.size=s.heap.objs.size:=by rw[b5.1,b4.1,b3.1,b2.1,b1.1]
 have z5:IsZip g5 z TI TO .ellipsis:=b5.extBut _ _ D.TOz.symm (b4.extBut _ _ D.i2z.symm (b3.extBut _ _ D.TOz.symm (b2.extBut _ _ D.i1z.symm z1)))
 have kk:∀ c o,c≠z→c≠TO→c≠i1→c≠i2→s.heap.get? c=some o→g5.get? c=some o:=λc o c1 c2 c3 c4 e=>b5.extBut _ _ c2 (b4.extBut _ _ c4 (b3.extBut _ _ c2 (b2.extBut _ _ c3 (b1.extBut _ _ c1 e))))
 have t15:IterB p g5 i1 l1 (k1+1):=((t12.move b3.extBut D.TOi1.symm).move b4.extBut D.i12).move b5.extBut D.TOi1.symm
 have t25:IterB q g5 i2 l2 (k2+1):=t24.move b5.extBut D.TOi2.symm
 have zlt:z<g5.objs.size:=Γl z5
 show wpAny _ _ (Builtin.SmallTypes.ownedTupleHandOut (.ref z) (.ref g5.objs.size) >>= _) _ _ _;refine Γa ?_;unfold Builtin.SmallTypes.ownedTupleHandOut
 have z6:IsZip (g5.push { cls:=.type "tuple",data:=.seq #[x,y] }) z TI TO .ellipsis:=Γc _ z5
 refine Γa (wpAny_setField_rec z6 (by simp) λg7 z7 b7=>?_);replace z7:IsZip g7 z TI TO (rawInt g5.objs.size):=z7
 refine wpAny_setField_rec z7 (by simp) λg8 z8 b8=>?_;replace z8:IsZip g8 z TI TO (rawInt g5.objs.size):=z8
 have up:∀ c o,c≠z→g5.get? c=some o→g8.get? c=some o:=λc o c1 e=>b8.extBut _ _ c1 (b7.extBut _ _ c1 (Γc _ e))
 have tt:IsPair g8 g5.objs.size x y:=b8.extBut _ _ (Nat.ne_of_gt zlt) (b7.extBut _ _ (Nat.ne_of_gt zlt) (Γm _ rfl))
 rw[sz] at z8 tt
 refine Γb ⟨_,rfl,?_⟩;show Q (.ref g5.objs.size) _;rw[sz]
 exact K g8 z8 (up _ _ D.TOz o5) (t15.to λo e=>up _ o D.i1z e) (t25.to λo e=>up _ o D.i2z e) tt λc o c1 c2 c3 c4 e=>up c o c1 (kk c o c1 c2 c3 c4 e)
theorem c1h {Q:Fin→Shared→Prop}(hh:A.handled=none)(D:ZipApart z TI TO i1 i2 l1 l2)(zz:IsZip s.heap z TI TO .none)(zi:IsPair s.heap TI (.ref i1) (.ref i2))(zo:IsPair s.heap TO a b)
  (t1:IterB p s.heap i1 l1 k1)(t2:IterB q s.heap i2 l2 k2)(m1:SeqB p s.heap l1 xs)(m2:SeqB q s.heap l2 ys)(en:xs[k1]?=none ∨ ys[k2]?=none)
  (K:∀ h' e,(∀ c o,c≠z→c≠TO→c≠i1→c≠i2→s.heap.get? c=some o→h'.get? c=some o)→(∃ o,h'.get? e=some o∧o.cls=.type "StopIteration")→E (.ref e) { s with heap:=h' }) :
  wpAny (model P w) A (Builtin.«zip.__next__» ⟨[.ref z],[]⟩) Q E s:=by
 show wpAny _ _ (field (.ref z) 2 >>= _) _ _ _;refine Γa (wpAny_field zz rfl (x:=.bool false) rfl ?_)
 show wpAny _ _ (field (.ref z) 3 >>= _) _ _ _;refine Γa (wpAny_field zz rfl (x:=.ref TI) rfl (Γa (wpAny_seqItems zi rfl ?_)))
 show wpAny _ _ (Builtin.SmallTypes.ownedTupleIsFree (.ref z) >>= _) _ _ _;refine Γa ?_;unfold Builtin.SmallTypes.ownedTupleIsFree
 refine Γa (wpAny_field zz rfl (x:=.none) rfl (Γb ?_));simp only[if_true]
 refine Γa (wpAny_rule (Γa (wpAny_field zz rfl (x:=.ref TO) rfl (Γa (wpAny_setField_rec zz (by simp) λg1 z1 b1=>?_)))))
 replace z1:IsZip g1 z TI TO .ellipsis:=z1
 refine Γa ?_;simp only[List.zipIdx_cons,List.zipIdx_nil,List.forIn_cons,List.forIn_nil]
 refine Γa (Γa (wpAny_onRaise ?_));show wpAny _ _ (Builtin.SmallTypes.nextOf (.ref i1) >>= _) _ _ _
 have fin:∀ {g:Heap}{e:Addr}{o:Obj},IsZip g z TI TO .ellipsis→g.get? e=some o→o.cls=.type "StopIteration"→e≠z:=λh1 h2 h3 x=>by subst x;rw[h1] at h2;cases h2;simp at h3
 cases hx:xs[k1]? with
 | none =>
  refine Γa (c6f hh (t1.move b1.extBut D.i1z) (m1.move b1.extBut D.l1z) hx λg2 e b2 he=>?_)
  obtain⟨oe,e1,e2⟩:=he
  have z2:IsZip g2 z TI TO .ellipsis:=b2 _ _ D.i1z.symm z1
  exact wpAny_setField_rec z2 (by simp) λg3 _ b3=>K g3 e (λc o c1 _ c3 _ x=>b3.extBut _ _ c1 (b2 _ _ c3 (b1.extBut _ _ c1 x))) ⟨oe,b3.extBut _ _ (fin z2 e1 e2) e1,e2⟩
 | some x =>
  have hy:ys[k2]?=none:=by rcases en with h|h;rw[hx] at h;cases h;exact h
  refine Γa (c2u (t1.move b1.extBut D.i1z) (m1.move b1.extBut D.l1z) hx λg2 t12 b2=>Γb ?_)
  have o2:IsPair g2 TO a b:=b2.extBut _ _ D.TOi1 (b1.extBut _ _ D.TOz zo)
  refine Γa (wpAny_seqItems o2 rfl (Γa (wpAny_updateSeq_pair o2 λg3 o3 b3=>Γa (wpAny_letGo (Γb (Γa (Γa (wpAny_onRaise ?_))))))))
  show wpAny _ _ (Builtin.SmallTypes.nextOf (.ref i2) >>= _) _ _ _
  refine Γa (c6f hh (((t2.move b1.extBut D.i2z).move b2.extBut D.i12.symm).move b3.extBut D.TOi2.symm) (((m2.move b1.extBut D.l2z).move b2.extBut D.l2i1).move b3.extBut D.l2TO) hy λg4 e b4 he=>?_)
  obtain⟨oe,e1,e2⟩:=he
  have z4:IsZip g4 z TI TO .ellipsis:=b4 _ _ D.i2z.symm (b3.extBut _ _ D.TOz.symm (b2.extBut _ _ D.i1z.symm z1))
  exact wpAny_setField_rec z4 (by simp) λg5 _ b5=>K g5 e (λc o c1 c2 c3 c4 x=>b5.extBut _ _ c1 (b4 _ _ c4 (b3.extBut _ _ c2 (b2.extBut _ _ c3 (b1.extBut _ _ c1 x))))) ⟨oe,b5.extBut _ _ (fin z4 e1 e2) e1,e2⟩
theorem b6g {Q:Option Value→Shared→Prop}(D:ZipApart z TI TO i1 i2 l1 l2)(zz:IsZip s.heap z TI TO .none)(zi:IsPair s.heap TI (.ref i1) (.ref i2))(zo:IsPair s.heap TO a b)
  (t1:IterB p s.heap i1 l1 k1)(t2:IterB q s.heap i2 l2 k2)(m1:SeqB p s.heap l1 xs)(m2:SeqB q s.heap l2 ys)(ex:xs[k1]?=some x)(ey:ys[k2]?=some y)
  (K:∀ h',IsZip h' z TI TO (rawInt s.heap.objs.size)→IsPair h' TO x y→IterB p h' i1 l1 (k1+1)→IterB q h' i2 l2 (k2+1)→IsPair h' s.heap.objs.size x y →
   (∀ c o,c≠z→c≠TO→c≠i1→c≠i2→s.heap.get? c=some o→h'.get? c=some o)→Q (some (.ref s.heap.objs.size)) { s with heap:=h' }):wpAny (model P w) A (pyNext (.ref z)) Q E s:=by
 have ty:s.TypeIs (.ref z) "zip":=⟨_,zz,rfl⟩
 unfold pyNext
 exact Γa (wpAny_attempt (wpAny_callSpecial?_slot (name:=Γe "__next__") ty F.slot_zip_next (wpAny_call_entry F.slot_zip_next ty F.entry_zip_next (b6h D zz zi zo t1 t2 m1 m2 ex ey λh' a1 a2 a3 a4 a5 a6=>Γb (K h' a1 a2 a3 a4 a5 a6)) (F.args_zip_next_1 _))))
theorem b6f {Q:Option Value→Shared→Prop}(hh:A.handled=none)(D:ZipApart z TI TO i1 i2 l1 l2)(zz:IsZip s.heap z TI TO .none)(zi:IsPair s.heap TI (.ref i1) (.ref i2))(zo:IsPair s.heap TO a b)
  (t1:IterB p s.heap i1 l1 k1)(t2:IterB q s.heap i2 l2 k2)(m1:SeqB p s.heap l1 xs)(m2:SeqB q s.heap l2 ys)(en:xs[k1]?=none ∨ ys[k2]?=none)
  (K:∀ h',(∀ c o,c≠z→c≠TO→c≠i1→c≠i2→s.heap.get? c=some o→h'.get? c=some o)→Q none { s with heap:=h' }):wpAny (model P w) A (pyNext (.ref z)) Q E s:=by
 have ty:s.TypeIs (.ref z) "zip":=⟨_,zz,rfl⟩
 unfold pyNext
 refine Γa (wpAny_attempt (wpAny_callSpecial?_slot (name:=Γe "__next__") ty F.slot_zip_next (wpAny_call_entry F.slot_zip_next ty F.entry_zip_next (c1h hh D zz zi zo t1 t2 m1 m2 en λh' e hk he=>?_) (F.args_zip_next_1 _))))
 obtain⟨o,e1,e2⟩:=he
 exact Γa (wpAny_isInstance (T:="StopIteration") (b:=true) ⟨o,e1,e2⟩ isSubtype_stop (Γb (K _ hk)))
end
abbrev zb1 (p:Bool)(h:Heap)(l1:Addr):Heap:=h.push { cls:=.type (a9k p),data:=.fields #[.ref l1,.int 0 0] }
abbrev zb2 (p q:Bool)(h:Heap)(l1 l2:Addr):Heap:=(zb1 p h l1).push { cls:=.type (a9k q),data:=.fields #[.ref l2,.int 0 0] }
abbrev zb3 (p q:Bool)(h:Heap)(l1 l2:Addr):Heap:=(zb2 p q h l1 l2).push { cls:=.type "tuple",data:=.seq #[.ref h.objs.size,.ref (zb1 p h l1).objs.size] }
abbrev zb4 (p q:Bool)(h:Heap)(l1 l2:Addr):Heap:=(zb3 p q h l1 l2).push { cls:=.type "tuple",data:=.seq #[.none,.none] }
abbrev zb5 (p q:Bool)(h:Heap)(l1 l2:Addr):Heap:=(zb4 p q h l1 l2).push { cls:=.type "zip",data:=.fields #[.none,.bool false,.bool false,.ref (zb2 p q h l1 l2).objs.size,.ref (zb3 p q h l1 l2).objs.size] }
theorem b4y (p q:Bool)(l1 l2:Addr)(xs ys:Array Value) :
  Meets (Builtin.«zip.__new__» ⟨[.type "zip",.ref l1,.ref l2],[]⟩) (λ_ R s=>SeqB p s.heap l1 xs∧SeqB q s.heap l2 ys∧R (.ok (.ret (.ref (zb4 p q s.heap l1 l2).objs.size))) { s with heap:=zb5 p q s.heap l1 l2 }) :=
 .of_wp λprog w A R s h=>by
  obtain⟨hp,g,d,tk,os⟩:=s;obtain⟨m1,m2,h⟩:=h
  have hsub:=sub_zip
  have M1:SeqB p (Shared.heap ⟨hp,g,d,tk,os⟩) l1 xs:=m1
  have M2:SeqB q (Shared.heap ⟨hp.push { cls:=.type (a9k p),data:=.fields #[.ref l1,.int 0 0] },g,d,tk,os⟩) l2 ys:=SeqB.push m2
  wp_walk using b9a M1,b9a M2
  exact⟨_,rfl,h⟩
section
variable {P:Program}{w:World}{A:Around}{E:Value→Shared→Prop}{s:Shared}
theorem c0u {p q:Bool}{l1 l2:Addr}{xs ys:Array Value}{Q:Value→Shared→Prop}(m1:SeqB p s.heap l1 xs)(m2:SeqB q s.heap l2 ys)
  (K:∀ h',IsZip h' (s.heap.objs.size+4) (s.heap.objs.size+2) (s.heap.objs.size+3) .none→IsPair h' (s.heap.objs.size+2) (.ref s.heap.objs.size) (.ref (s.heap.objs.size+1)) →
   IsPair h' (s.heap.objs.size+3) .none .none→IterB p h' s.heap.objs.size l1 0→IterB q h' (s.heap.objs.size+1) l2 0→(∀ c o,s.heap.get? c=some o→h'.get? c=some o)→Q (.ref (s.heap.objs.size+4)) { s with heap:=h' }) :
  wpAny (model P w) A (call (.type "zip") [.ref l1,.ref l2]) Q E s:=by
 refine callType_new F.called_zip (by decide) (F.typeCall_zip_2 _ _) (F.newCall_zip_2 _ _) (λobj=>F.args_object_init_3 obj _ _) F.entry_zip_new (b4y p q l1 l2 xs ys) ⟨m1,m2,?_⟩
 have z1:(zb1 p s.heap l1).objs.size=s.heap.objs.size+1:=Heap.size_push ..
 have z2:(zb2 p q s.heap l1 l2).objs.size=s.heap.objs.size+2:=by rw[Heap.size_push,z1]
 have z3:(zb3 p q s.heap l1 l2).objs.size=s.heap.objs.size+3:=by rw[Heap.size_push,z2]
 have z4:(zb4 p q s.heap l1 l2).objs.size=s.heap.objs.size+4:=by rw[Heap.size_push,z3]
 have f5:(zb5 p q s.heap l1 l2).get? (zb4 p q s.heap l1 l2).objs.size=some _:=Γm _ rfl
 have f4:(zb5 p q s.heap l1 l2).get? (zb3 p q s.heap l1 l2).objs.size=some _:=Γc _ (Γm _ rfl)
 have f3:(zb5 p q s.heap l1 l2).get? (zb2 p q s.heap l1 l2).objs.size=some _:=Γc _ (Γc _ (Γm _ rfl))
 have f2:(zb5 p q s.heap l1 l2).get? (zb1 p s.heap l1).objs.size=some _:=Γc _ (Γc _ (Γc _ (Γm _ rfl)))
 have f1:(zb5 p q s.heap l1 l2).get? s.heap.objs.size=some _:=Γc _ (Γc _ (Γc _ (Γc _ (Γm _ rfl))))
 show _∧_
 rw[z2,z3,z4] at f5;rw[z1,z2] at f3;rw[z3] at f4;rw[z1] at f2;rw[z4]
 refine⟨⟨_,f5,rfl⟩,K _ f5 f3 f4 ?_ ?_ λc o x=>Γc _ (Γc _ (Γc _ (Γc _ (Γc _ x))))⟩
 ·cases p<;>exact⟨_,f1,rfl,rfl⟩
 ·cases q<;>exact⟨_,f2,rfl,rfl⟩
end
end L2
end
section
namespace L2
open PySem PySem.Spec PyProof.Rows
open AutoSeq1 (wpAny_loadPart')
section
variable {P:Program}{w:World}{A:Around}{E:Value→Shared→Prop}{s:Shared}{p:Bool}{e it l:Addr}{i:Nat}{xs:Array Value}{x old:Value}
theorem b5m {Q:Value→Shared→Prop}(ee:IsEnum s.heap e it i old)(t1:IterB p s.heap it l i)(m1:SeqB p s.heap l xs)(ex:xs[i]?=some x)(ne:e≠it)
  (K:∀ h',IsEnumOut h' e it ((i:Int)+1) x s.heap.objs.size→IterB p h' it l (i+1)→h'.get? s.heap.objs.size=some { cls:=.type "tuple",data:=.seq #[.int i s.toks,x] } →
   (∀ b o,b≠e→b≠it→s.heap.get? b=some o→h'.get? b=some o)→Q (.ref s.heap.objs.size) { s with heap:=h',toks:=s.toks+1 }) :
  wpAny (model P w) A (Builtin.«enumerate.__next__» ⟨[.ref e],[]⟩) (λfin s'=>∃ v,fin=.done (.ret v)∧Q v s') E s:=by
 obtain⟨hp,g,d,tk,os⟩:=s
 show wpAny _ _ (field (.ref e) 2 >>= _) _ _ _;refine Γa (wpAny_field ee rfl (x:=.ref it) rfl (Γa (c2u t1 m1 ex λg1 t11 b1=>?_)))
 replace b1:Heap.SameBut it hp g1:=b1
 have e1:IsEnum g1 e it i old:=(b1.2 e ne).trans ee
 show wpAny _ _ (field (.ref e) 3 >>= _) _ _ ⟨g1,g,d,tk,os⟩;refine Γa (wpAny_field e1 rfl (x:=rawInt i) rfl ?_)
 show wpAny _ _ (field (.ref e) 4 >>= _) _ _ ⟨g1,g,d,tk,os⟩;refine Γa (wpAny_field e1 rfl (x:=.none) rfl ?_)
 show wpAny _ _ (mkInt i >>= _) _ _ ⟨g1,g,d,tk,os⟩;refine Γa (wpAny_mkInt ?_)
 show wpAny _ _ (setField (.ref e) 3 (rawInt ((i:Int)+1)) >>= _) _ _ ⟨g1,g,d,tk+1,os⟩;refine Γa (wpAny_setField_rec e1 (by simp) λg2 e2 b2=>?_)
 replace b2:Heap.SameBut e g1 g2:=b2
 replace e2:IsEnum g2 e it ((i:Int)+1) old:=e2
 show wpAny _ _ (setField (.ref e) 4 .none >>= _) _ _ ⟨g2,g,d,tk+1,os⟩;refine Γa (wpAny_setField_rec e2 (by simp) λg3 e3 b3=>?_)
 replace b3:Heap.SameBut e g2 g3:=b3
 replace e3:IsEnum g3 e it ((i:Int)+1) old:=e3
 show wpAny _ _ (newTuple [.int i tk,x] >>= _) _ _ ⟨g3,g,d,tk+1,os⟩;refine Γa (wpAny_newTuple ?_)
 have e4:IsEnum (g3.push { cls:=.type "tuple",data:=.seq #[.int i tk,x] }) e it ((i:Int)+1) old:=Γc _ e3
 generalize hg4:g3.push { cls:=.type "tuple",data:=.seq #[.int i tk,x] } = g4 at e4
 have sz:g3.objs.size=hp.objs.size:=by rw[b3.1,b2.1,b1.1]
 have el:e<hp.objs.size:=Γl ee
 have t4:g4.get? hp.objs.size=some { cls:=.type "tuple",data:=.seq #[.int i tk,x] }:=by rw[← hg4,← sz];exact Γm _ rfl
 have k4:∀ b o,b≠e→b≠it→hp.get? b=some o→g4.get? b=some o:=λb o c1 c2 h=>by rw[← hg4];exact Γc _ (b3.extBut b o c1 (b2.extBut b o c1 (b1.extBut b o c2 h)))
 have i4:IterB p g4 it l (i+1):=by
  rw[← hg4];exact ((t11.move b2.extBut (Ne.symm ne)).move b3.extBut (Ne.symm ne)).to λo h=>Γc _ h
 show wpAny _ _ (Builtin.SmallTypes.ownedTupleIsFree (.ref e) >>= _) _ _ ⟨g4,g,d,tk+1,os⟩
 rw[sz]
 clear hg4 e3 b3 e2 b2 e1 b1 t11 sz g3 g2 g1
 refine Γa ?_;unfold Builtin.SmallTypes.ownedTupleIsFree
 refine Γa (wpAny_field e4 rfl (x:=.none) rfl (Γb ?_));simp only[if_true]
 refine Γa (wpAny_rule (Γa (wpAny_field e4 rfl (x:=old) rfl (Γa (wpAny_setField_rec e4 (by simp) λg5 e5 b5=>?_)))))
 replace b5:Heap.SameBut e g4 g5:=b5
 replace e5:IsEnum g5 e it ((i:Int)+1) x:=e5
 show wpAny _ _ (Builtin.SmallTypes.ownedTupleHandOut (.ref e) (.ref hp.objs.size) >>= _) _ _ ⟨g5,g,d,tk+1,os⟩;refine Γa ?_;unfold Builtin.SmallTypes.ownedTupleHandOut
 refine Γa (wpAny_setField_rec e5 (by simp) λg6 e6 b6=>?_)
 replace b6:Heap.SameBut e g5 g6:=b6
 replace e6:IsEnumOut g6 e it ((i:Int)+1) x hp.objs.size:=e6
 refine wpAny_setField_rec e6 (by simp) λg7 e7 b7=>?_
 replace b7:Heap.SameBut e g6 g7:=b7
 replace e7:IsEnumOut g7 e it ((i:Int)+1) x hp.objs.size:=e7
 refine Γa (wpAny_letGo (Γb ⟨_,rfl,K g7 e7 (((i4.move b5.extBut (Ne.symm ne)).move b6.extBut (Ne.symm ne)).move b7.extBut (Ne.symm ne)) ?_ λb o c1 c2 h=>b7.extBut b o c1 (b6.extBut b o c1 (b5.extBut b o c1 (k4 b o c1 c2 h)))⟩))
 exact b7.extBut _ _ (Nat.ne_of_gt el) (b6.extBut _ _ (Nat.ne_of_gt el) (b5.extBut _ _ (Nat.ne_of_gt el) t4))
theorem b5l {Q:Option Value→Shared→Prop}(ee:IsEnum s.heap e it i old)(t1:IterB p s.heap it l i)(m1:SeqB p s.heap l xs)(ex:xs[i]?=some x)(ne:e≠it)
  (K:∀ h',IsEnumOut h' e it ((i:Int)+1) x s.heap.objs.size→IterB p h' it l (i+1)→h'.get? s.heap.objs.size=some { cls:=.type "tuple",data:=.seq #[.int i s.toks,x] } →
   (∀ b o,b≠e→b≠it→s.heap.get? b=some o→h'.get? b=some o)→Q (some (.ref s.heap.objs.size)) { s with heap:=h',toks:=s.toks+1 }):wpAny (model P w) A (pyNext (.ref e)) Q E s:=by
 have ty:s.TypeIs (.ref e) "enumerate":=⟨_,ee,rfl⟩
 unfold pyNext
 exact Γa (wpAny_attempt (wpAny_callSpecial?_slot (name:=Γe "__next__") ty F.slot_enumerate_next (wpAny_call_entry F.slot_enumerate_next ty F.entry_enumerate_next (b5m ee t1 m1 ex ne λh' a b c d=>Γb (K h' a b c d)) (F.args_enumerate_next_1 _))))
theorem b5k {Q:Option Value→Shared→Prop}(hh:A.handled=none)(ee:IsEnum s.heap e it i old)(t1:IterB p s.heap it l i)(m1:SeqB p s.heap l xs)(ex:xs[i]?=none)(K:∀ h',Heap.ExtBut it s.heap h'→Q none { s with heap:=h' }):wpAny (model P w) A (pyNext (.ref e)) Q E s:=by
 have ty:s.TypeIs (.ref e) "enumerate":=⟨_,ee,rfl⟩
 unfold pyNext
 refine Γa (wpAny_attempt (wpAny_callSpecial?_slot (name:=Γe "__next__") ty F.slot_enumerate_next (wpAny_call_entry F.slot_enumerate_next ty F.entry_enumerate_next ?_ (F.args_enumerate_next_1 _))))
 show wpAny _ _ (field (.ref e) 2 >>= _) _ _ _;refine Γa (wpAny_field ee rfl (x:=.ref it) rfl (Γa (c6f hh t1 m1 ex λh' v k hv=>?_)))
 obtain⟨o,e1,e2⟩:=hv
 exact Γa (wpAny_isInstance (T:="StopIteration") (b:=true) ⟨o,e1,e2⟩ isSubtype_stop (Γb (K _ k)))
end
theorem b2m (p:Bool)(l:Addr)(xs:Array Value) :
  Meets (Builtin.«enumerate.__new__» ⟨[.type "enumerate",.ref l],[]⟩) (λ_ R s=>SeqB p s.heap l xs ∧
   R (.ok (.ret (.ref (zb1 p s.heap l).objs.size))) { s with heap:=(zb1 p s.heap l).push { cls:=.type "enumerate",data:=.fields #[.none,.bool false,.ref s.heap.objs.size,rawInt 0,.none,.none] } }) :=
 .of_wp λprog w A R s h=>by
  obtain⟨hp,g,d,tk,os⟩:=s;obtain⟨m1,h⟩:=h
  have hsub:=sub_enumerate
  have M1:SeqB p (Shared.heap ⟨hp,g,d,tk,os⟩) l xs:=m1
  have hob:∃ o,hp.get? l=some o:=by cases p<;>(obtain⟨o,e,_⟩:=m1;exact⟨o,e⟩)
  obtain⟨ob,hl⟩:=hob
  wp_walk using wpAny_loadPart' hl
  refine wpAny_stack_any λst=>Γb ?_
  split
  ·rename_i c _ _ _ _ _
   cases (c == Value.type "enumerate")
   ·wp_walk using wpAny_loadPart' hl,b9a M1
    exact⟨_,rfl,h⟩
   ·wp_walk using wpAny_loadPart' hl,b9a M1
    exact⟨_,rfl,h⟩
  ·wp_walk using wpAny_loadPart' hl,b9a M1
   exact⟨_,rfl,h⟩
section
variable {P:Program}{w:World}{A:Around}{E:Value→Shared→Prop}{s:Shared}
theorem b5x {p:Bool}{l:Addr}{xs:Array Value}{Q:Value→Shared→Prop}(m1:SeqB p s.heap l xs)
  (K:∀ h',IsEnum h' (s.heap.objs.size+1) s.heap.objs.size 0 .none→IterB p h' s.heap.objs.size l 0→(∀ b o,s.heap.get? b=some o→h'.get? b=some o)→Q (.ref (s.heap.objs.size+1)) { s with heap:=h' }) :
  wpAny (model P w) A (call (.type "enumerate") [.ref l]) Q E s:=by
 refine callType_new F.called_enumerate (by decide) (F.typeCall_enumerate_1 _) (F.newCall_enumerate_1 _) (λobj=>F.args_object_init_2 obj _) F.entry_enumerate_new (b2m p l xs) ⟨m1,?_⟩
 have z1:(zb1 p s.heap l).objs.size=s.heap.objs.size+1:=Heap.size_push ..
 show _∧_
 rw[z1]
 have f2:IsEnum ((zb1 p s.heap l).push { cls:=.type "enumerate",data:=.fields #[.none,.bool false,.ref s.heap.objs.size,rawInt 0,.none,.none] }) (s.heap.objs.size+1) s.heap.objs.size 0 .none:=by
  have:=Γm (zb1 p s.heap l) (o:={ cls:=.type "enumerate",data:=.fields #[.none,.bool false,.ref s.heap.objs.size,rawInt 0,.none,.none] }) rfl
  rw[z1] at this;exact this
 refine⟨⟨_,f2,rfl⟩,K _ f2 ?_ λb o x=>Γc _ (Γc _ x)⟩
 cases p<;>exact⟨_,Γc _ (Γm _ rfl),rfl,rfl⟩
end
def SqB (b:Bool)(K:Γd)(H:Hp)(a:Addr)(xs:List V):Prop:=match b with|true=>SqL K H a xs|false=>SqT K H a xs
section
variable {X:Cx}{pins:List (Addr×Obj)}{σ:St}{H:Hp}{s:Shared}{a:Addr}{xs ys:List V}{b:Bool}
theorem Inv.seqB (I:Inv X pins σ H s)(h:SqB b X.K H a xs):∃ its:List Value,Vals xs its∧SeqB b s.heap a its.toArray∧xs.length=its.length:=by
 cases b
 ·obtain⟨its,r,q,_⟩:=I.tuple h
  exact⟨its,r,q,r.length⟩
 ·obtain⟨its,r,q,_⟩:=I.list h
  exact⟨its,r,q.isList,r.length⟩
theorem Inv.seqB_inj (I:Inv X pins σ H s)(h:SqB b X.K H a xs)(h':SqB b X.K H a ys):xs=ys:=by
 cases b
 ·exact I.tuple_inj h h'
 ·exact I.list_inj h h'
end
def Iz2 (K:Γd) (p q:Bool) (a b:Addr):It :=
  ⟨λi H=>∃ xs ys x y,SqB p K H a xs∧SqB q K H b ys∧xs[i]?=some x∧ys[i]?=some y,
   λi H v H'=>∃ c,H c=none∧v=.ref c∧∀ xs ys x y,SqB p K H a xs→SqB q K H b ys→xs[i]?=some x→ys[i]?=some y→H'=upd H c (.tup [x,y]),
   λi H=>∃ xs ys,SqB p K H a xs∧SqB q K H b ys∧(xs.length≤i ∨ ys.length≤i)⟩
def Ien (K:Γd) (p:Bool) (a:Addr):It :=
  ⟨λi H=>∃ xs x,SqB p K H a xs∧xs[i]?=some x,
   λi H v H'=>∃ c,H c=none∧v=.ref c∧∀ xs x,SqB p K H a xs→xs[i]?=some x→H'=upd H c (.tup [.int i,x]),
   λi H=>∃ xs,SqB p K H a xs∧xs.length≤i⟩
theorem c5z {P:Program}{w:World}{K:Γd}{p q:Bool}{elts:List Expr}{k:Nat}{pos:Pos}{a b z TI TO i1 i2:Addr}(D:ZipApart z TI TO i1 i2 a b) :
  Turn P w K (.Tuple elts k pos) (Iz2 K p q a b) [z,TO,i1,i2,TI] z (λi h=>IsZip h z TI TO .none∧IsPair h TI (.ref i1) (.ref i2)∧(∃ c d,IsPair h TO c d)∧IterB p h i1 a i∧IterB q h i2 b i) where
 mem:=by simp
 obj:=λi h st c hc=>by
  obtain⟨zz,zi,⟨x,y,zo⟩,t1,t2⟩:=st
  simp only[List.mem_cons,List.not_mem_nil,or_false] at hc
  rcases hc with rfl|rfl|rfl|rfl|rfl
  ·exact⟨_,zz,λv z=>by cases z⟩
  ·exact⟨_,zo,λv z=>by cases z⟩
  ·exact t1.obj
  ·exact t2.obj
  ·exact⟨_,zi,λv z=>by cases z⟩
 keep:=λi h h' st kk=>by
  obtain⟨zz,zi,⟨x,y,zo⟩,t1,t2⟩:=st
  exact⟨kk z (by simp) _ zz,kk TI (by simp) _ zi,⟨x,y,kk TO (by simp) _ zo⟩,t1.to λo e=>kk i1 (by simp) o e,t2.to λo e=>kk i2 (by simp) o e⟩
 item:=by
  intro X hP hw hK hc i pins s σ H E I hf st hg
  subst hP hw hK
  obtain⟨xs,ys,x,y,q1,q2,hx,hy⟩:=hg
  obtain⟨zz,zi,⟨u0,v0,zo⟩,t1,t2⟩:=st
  obtain⟨its,rv,m1,_⟩:=I.seqB q1
  obtain⟨jts,rw',m2,_⟩:=I.seqB q2
  obtain⟨u,hu,ru⟩:=rv.get hx
  obtain⟨u',hu',ru'⟩:=rw'.get hy
  refine b6g D zz zi zo t1 t2 m1 m2 (x:=u) (y:=u') (by simpa using hu) (by simpa using hu') λh' a1 a2 a3 a4 a5 hk=>?_
  refine⟨_,rfl,wpAny_letOwnedTupleGo_zip a1 λh'' z'' hs''=>?_⟩
  have szn:z≠s.heap.objs.size:=Γo (Γl zz)
  have T'':IsPair h'' s.heap.objs.size u u':=hs''.extBut _ _ (Ne.symm szn) a5
  have I1:Inv X pins σ (upd H s.heap.objs.size (.tup [x,y])) { s with heap:=h'' }:=I.turnedNew (t':=s.toks) (ch:=[z,TO,i1,i2]) (Γi _)
   (λc ob hc e=>by simp only[List.mem_cons,List.not_mem_nil,or_false,not_or] at hc;exact hs''.extBut _ _ hc.1 (hk c ob hc.1 hc.2.1 hc.2.2.1 hc.2.2.2 e))
   (λc hc=>hf c (by simp only[List.mem_cons,List.not_mem_nil,or_false] at hc ⊢;rcases hc with z|z|z|z<;>simp[z])) ⟨by show 2≤sizeLine;decide,[u,u'],.cons ru (.cons ru' .nil),⟨_,T'',rfl,_,rfl⟩⟩
  refine⟨.ref s.heap.objs.size,_,I1,rfl,⟨_,I.fresh,rfl,λxs' ys' x' y' r1 r2 hx' hy'=>?_⟩,⟨z'',hs''.extBut _ _ D.TIz (hk _ _ D.TIz D.TITO D.TIi1 D.TIi2 zi),⟨_,_,hs''.extBut _ _ D.TOz a2⟩,a3.move hs''.extBut D.i1z,a4.move hs''.extBut D.i2z⟩,λc hc=>?_⟩
  ·have e1:=I.seqB_inj r1 q1
   have e2:=I.seqB_inj r2 q2
   subst e1 e2
   rw[hx] at hx';rw[hy] at hy';cases hx';cases hy';rfl
  ·have:c≠s.heap.objs.size:=by
    have hlt:c<s.heap.objs.size:=by
     simp only[List.mem_cons,List.not_mem_nil,or_false] at hc
     rcases hc with rfl|rfl|rfl|rfl|rfl
     ·exact Γl zz
     ·exact Γl zo
     ·exact t1.lt
     ·exact t2.lt
     ·exact Γl zi
    exact Γo hlt
   rw[a0c this];exact (hf c hc).1
 done:=by
  intro X hP hw hK hc i pins s σ H E I hf st hg
  subst hP hw hK
  obtain⟨xs,ys,q1,q2,hx⟩:=hg
  obtain⟨zz,zi,⟨u0,v0,zo⟩,t1,t2⟩:=st
  obtain⟨its,rv,m1,l1⟩:=I.seqB q1
  obtain⟨jts,rw',m2,l2⟩:=I.seqB q2
  refine b6f (I.ok.hd hc) D zz zi zo t1 t2 m1 m2 (hx.elim (λz=>.inl (by simp;lia)) λz=>.inr (by simp;lia)) λh' hk=>⟨rfl,?_⟩
  exact I.turnedL (t':=s.toks) (ch:=[z,TO,i1,i2]) (λc ob hc e=>by simp only[List.mem_cons,List.not_mem_nil,or_false,not_or] at hc;exact hk c ob hc.1 hc.2.1 hc.2.2.1 hc.2.2.2 e)
   (λc hc=>hf c (by simp only[List.mem_cons,List.not_mem_nil,or_false] at hc ⊢;rcases hc with z|z|z|z<;>simp[z]))
 self:=λ_ _ _ _ _ st h=>wpAny_pyIter_zip st.1 h
theorem c6a {P:Program}{w:World}{K:Γd}{p:Bool}{elts:List Expr}{k:Nat}{pos:Pos}{a e it:Addr}(ne:e≠it) :
  Turn P w K (.Tuple elts k pos) (Ien K p a) [e,it] e (λi h=>(∃ old,IsEnum h e it i old)∧IterB p h it a i) where
 mem:=by simp
 obj:=λi h st c hc=>by
  obtain⟨⟨old,ee⟩,t1⟩:=st
  simp only[List.mem_cons,List.not_mem_nil,or_false] at hc
  rcases hc with rfl|rfl
  ·exact⟨_,ee,λv z=>by cases z⟩
  ·exact t1.obj
 keep:=λi h h' st kk=>by
  obtain⟨⟨old,ee⟩,t1⟩:=st
  exact⟨⟨old,kk e (by simp) _ ee⟩,t1.to λo q=>kk it (by simp) o q⟩
 item:=by
  intro X hP hw hK hc i pins s σ H E I hf st hg
  subst hP hw hK
  obtain⟨xs,x,q1,hx⟩:=hg
  obtain⟨⟨old,ee⟩,t1⟩:=st
  obtain⟨its,rv,m1,_⟩:=I.seqB q1
  obtain⟨u,hu,ru⟩:=rv.get hx
  refine b5l ee t1 m1 (x:=u) (by simpa using hu) ne λh' a1 a2 a3 hk=>?_
  refine⟨_,rfl,wpAny_letOwnedTupleGo_enum a1 λh'' z'' hs''=>?_⟩
  have szn:e≠s.heap.objs.size:=Γo (Γl ee)
  have T'':=hs''.extBut _ _ (Ne.symm szn) a3
  have I1:Inv X pins σ (upd H s.heap.objs.size (.tup [.int i,x])) { s with heap:=h'',toks:=s.toks+1 }:=I.turnedNew (t':=s.toks+1) (ch:=[e,it]) (Γi _)
   (λc ob hc q=>by simp only[List.mem_cons,List.not_mem_nil,or_false,not_or] at hc;exact hs''.extBut _ _ hc.1 (hk c ob hc.1 hc.2 q))
   (λc hc=>hf c hc) ⟨by show 2≤sizeLine;decide,[.int i s.toks,u],.cons ⟨_,rfl⟩ (.cons ru .nil),⟨_,T'',rfl,_,rfl⟩⟩
  refine⟨.ref s.heap.objs.size,_,I1,rfl,⟨_,I.fresh,rfl,λxs' x' r1 hx'=>?_⟩,⟨⟨_,z''⟩,a2.move hs''.extBut (Ne.symm ne)⟩,λc hc=>?_⟩
  ·have e1:=I.seqB_inj r1 q1
   subst e1
   rw[hx] at hx';cases hx';rfl
  ·have:c≠s.heap.objs.size:=by
    have hlt:c<s.heap.objs.size:=by
     simp only[List.mem_cons,List.not_mem_nil,or_false] at hc
     rcases hc with rfl|rfl
     ·exact Γl ee
     ·exact t1.lt
    exact Γo hlt
   rw[a0c this];exact (hf c hc).1
 done:=by
  intro X hP hw hK hc i pins s σ H E I hf st hg
  subst hP hw hK
  obtain⟨xs,q1,hx⟩:=hg
  obtain⟨⟨old,ee⟩,t1⟩:=st
  obtain⟨its,rv,m1,l1⟩:=I.seqB q1
  refine b5k (I.ok.hd hc) ee t1 m1 (by simp;lia) λh' hk=>⟨rfl,?_⟩
  exact I.turnedL (t':=s.toks) (ch:=[it]) (λc ob hc q=>hk c ob (by simpa using hc) q) (λc hc=>hf c (by simp at hc;simp[hc]))
 self:=λ_ _ _ _ _ st h=>wpAny_pyIter_enum st.1.choose_spec h
section
variable {X:Cx}
def iZ2 (K:Γd)(ta:TA):TI:=λσ H R=>ta σ H λvs H1=>∃ p q a b,vs=[.ref a,.ref b]∧(∃ xs,SqB p K H1 a xs)∧(∃ ys,SqB q K H1 b ys)∧R (Iz2 K p q a b) H1
theorem d8j {elts:List Expr}{k:Nat}{tp:Pos}{e1 e2:Expr}{ta:TA}{p pos:Pos}(hg:Gl X "zip")(hm:X.mg "zip" = none)(ha:PA X [e1,e2] ta)
  (hs:starEach [e1,e2] X.env=[(false,eval e1 X.env),(false,eval e2 X.env)])(hs2:starEach [e2] X.env=[(false,eval e2 X.env)]):PI X (.Tuple elts k tp) (.Call (.Name "zip" p) [e1,e2] [] pos) (iZ2 X.K ta):=by
 intro pins s σ H R I h
 refine wpAny_Call_Name_kw (a3j I hg hm PyProof.Rows.boot_zip ?_ (by decide) (by decide))
 refine PyProof.Rows.callWith_type1 (thn (ha pos pins s σ H _ I h) λus s1 ⟨vs,H1,I1,r1,q1⟩=>?_) (by rw[hs,hs2]) (by rw[hs2];rfl)
 obtain⟨p,q,a,b,e,⟨xs,hq1⟩,⟨ys,hq2⟩,kk⟩:=q1
 subst e
 obtain⟨u1,u2,rfl,ra,rb⟩:=a9y r1
 cases ra;cases rb
 obtain⟨its,rv,m1,_⟩:=I1.seqB hq1
 obtain⟨jts,rw',m2,_⟩:=I1.seqB hq2
 refine c0u m1 m2 λh' zz zi zo t1 t2 hk=>wpAny_pyIter_zip (f0:=.none) zz ?_
 have I2:Inv X pins σ H1 { s1 with heap:=h' }:=I1.kept (t':=s1.toks) λc o e=>hk c o e
 refine⟨_,_,_,Iz2 X.K p q a b,H1,rfl,I2,c5z (zipApart_new m1.lt m2.lt),⟨zz,zi,⟨_,_,zo⟩,t1,t2⟩,λc hc=>?_,kk⟩
 have hge:s1.heap.objs.size≤c:=by
  simp only[List.mem_cons,List.not_mem_nil,or_false] at hc
  rcases hc with rfl|rfl|rfl|rfl|rfl<;>first|exact Γi _|exact Nat.le_add_right _ _
 exact I1.fpOk hge (I1.hok.fresh hge)
def iEn (K:Γd)(ta:TA):TI:=λσ H R=>ta σ H λvs H1=>∃ p a,vs=[.ref a]∧(∃ xs,SqB p K H1 a xs)∧R (Ien K p a) H1
theorem d8k {elts:List Expr}{k:Nat}{tp:Pos}{e1:Expr}{ta:TA}{p pos:Pos}(hg:Gl X "enumerate")(hm:X.mg "enumerate" = none)(ha:PA X [e1] ta)(hs:starEach [e1] X.env=[(false,eval e1 X.env)]) :
  PI X (.Tuple elts k tp) (.Call (.Name "enumerate" p) [e1] [] pos) (iEn X.K ta):=by
 intro pins s σ H R I h
 refine wpAny_Call_Name_kw (a3j I hg hm PyProof.Rows.boot_enumerate ?_ (by decide) (by decide))
 refine PyProof.Rows.callWith_type1 (thn (ha pos pins s σ H _ I h) λus s1 ⟨vs,H1,I1,r1,q1⟩=>?_) (by rw[hs];rfl) rfl
 obtain⟨p,a,e,⟨xs,hq1⟩,kk⟩:=q1
 subst e
 obtain⟨u1,rfl,ra⟩:=a4e r1
 cases ra
 obtain⟨its,rv,m1,_⟩:=I1.seqB hq1
 refine b5x m1 λh' ee t1 hk=>wpAny_pyIter_enum ee ?_
 have I2:Inv X pins σ H1 { s1 with heap:=h' }:=I1.kept (t':=s1.toks) λc o e=>hk c o e
 refine⟨_,_,_,Ien X.K p a,H1,rfl,I2,c6a (Nat.ne_of_gt (Nat.lt_succ_self _)),⟨⟨_,ee⟩,t1⟩,λc hc=>?_,kk⟩
 have hge:s1.heap.objs.size≤c:=by
  simp only[List.mem_cons,List.not_mem_nil,or_false] at hc
  rcases hc with rfl|rfl<;>first|exact Γi _|exact Nat.le_add_right _ _
 exact I1.fpOk hge (I1.hok.fresh hge)
end
end L2
end
section
namespace L2
open PySem PySem.Spec PyProof.Rows
def b2v (kx vx:Expr):Value→Env→Code→Sem Fin
 | .ref D,env,c=>do
  (do let kv ← eval kx env;let vv ← holding [kv] (eval vx env);standAt { kx.pos with endLine:=vx.pos.endLine,endCol:=vx.pos.endCol };holding [kv,vv] (dictSet D kv vv))
  again c
 | _,_,c=>again c
def emD (tk tv:TE):Addr→St→Hp→(Hp→Prop)→Prop:=λacc σ H K=>tk σ H λy H4=>tv σ H4 λv H5=>∃ kvs k b,H5 acc=some (.dT kvs)∧y=.ref b∧H5 b=some (.tup (k.map kV))∧kvs.length<sizeLine∧K (upd H5 acc (.dT (a6w kvs k v)))
def d0l (wi:TI)(g:TG)(tt:TT)(tk tv:TE) (own:Nat):TE:=b3a wi g tt (emD tk tv) (λ_=>.dT []) own
section
variable {X:Cx}{kx vx tg iter:Expr}{ifs:List Expr}{scope:Scope}{own:List Str}{pos:Pos}{wi:TI}{g:TG}{tt:TT}{tk tv:TE}
theorem c9g:CKind X (.DictComp kx vx [⟨tg,iter,ifs,0⟩] scope pos) tg iter ifs scope newDict { cls:=.type "dict",data:=.dict #[] } (λ_=>.dT []) (b2v kx vx) :=
 ⟨λ_ _ _=>rfl,λ_ _ _ _=>rfl,λ_ _ _=>rfl,λ_ _=>rfl,codeAny_compStart_dict,λq=>wpAny_newObj_type q,λ{_ _ _ s} I=>I.laid (a:=s.heap.objs.size) (o:=.dT []) (t':=s.toks) (λ_ _ q=>Γc _ q) (Γi _) (c3v s.heap I.big),λ_=>by rw[arm_eval_DictComp];rfl,rfl⟩
theorem c2j {Y:Cx}(hu:Y.A.units+1<cLine)(hk:PE Y kx tk)(hv:PE Y vx tv):PEm Y (b2v kx vx) (emD tk tv):=by
 intro pins s σ H acc c K I q
 unfold b2v
 refine Γa (Γa (thn (hk _ s σ H _ I q) λky s11 ⟨v11,H11,I11,r11,q11⟩=>Γa (Γg (thn (hv _ s11 σ H11 _ I11 q11) λy s12 ⟨v12,H12,I12,r12,kvs,k,b,hys,hyb,hkb,hz,kk⟩=>Γa (wpAny_standAt (Γg ?_))))))
 subst hyb
 cases (show ky=Value.ref b from r11)
 obtain⟨z,hd,xs,rel,dd⟩:=d3w I12.hok hys
 have hz':xs.length≤sizeLine:=by rw[← Paired.length rel];exact z
 have hl:(a6w kvs k v12).length≤sizeLine:=by have:=a2v kvs k v12;lia
 have ko:=a7z I12.hok hkb
 refine wpAny_dictSet_heap (knd:=tupleKind (a0w Y.prog Y.w)) (hsz:=hz') (show Y.A.units<cLine by lia) ko dd λh' dd' hs=>?_
 obtain⟨q,es,ep,hq,h2',h3',h4',h5',h6'⟩:=dd'
 refine Γb ⟨rfl,_,?_,kk⟩
 refine a9s I12 (by rw[hys];exact True.intro) hs ⟨q,hq⟩ ⟨hl,hd,_,(rel.put k hkb r12).keeps λc ys ec=>?_,q,es,ep,hq,h2',h3',h4',h6'⟩
 rw[a0c (d2g ec hys (λz=>nomatch z))]
 exact ec
theorem c2o (hu:X.A.units+1<cLine)(hc:X.calm=true)(SC:CScope X scope own)(hi:PI X.nox tg iter wi)
  (hblock:∀ fp C s H,PG (cxC X scope own fp C s H) tg g∧PTs (cxC X scope own fp C s H) ifs tt∧PE (cxC X scope own fp C s H) kx tk∧PE (cxC X scope own fp C s H) vx tv)
  (hs:∀ x,foldedSetIterable iter X.env x=pure x:=by intro _;rfl) :
  PE X.nox (.DictComp kx vx [⟨tg,iter,ifs,0⟩] scope pos) (d0l wi g tt tk tv own.length) :=
 b3o hc SC c9g hi (λfp C s H=>let ⟨a,b,c,d⟩:=hblock fp C s H;⟨a,b,c2j hu c d⟩) hs
end
end L2
end
section
namespace L2
open PySem PySem.Spec PyProof.Rows
section
variable {prog:Program}{w:World}{A:Around}{R:Result→Shared→Prop}{s:Shared}
end
section
variable {X:Cx}{elt tg iter tg2 iter2:Expr}{ifs ifs2:List Expr}{scope:Scope}{own:List Str}{pos:Pos}{wi wi2:TI}{g g2:TG}{tt tt2:TT}{te:TE}
end
end L2
end
section
namespace Kq
open PySem PySem.Spec PyProof.Rows L2
inductive D where
 | non|bl (b:Bool)|int (i:Int)|str (x:String)|tup (xs:List D)|lst (xs:List D)
mutual
noncomputable def D.eqv:D→D→Bool
 | .non,.non=>true
 | .bl a,.bl b=>a == b
 | .bl a,.int j=>(if a then 1 else 0) == j
 | .int i,.bl b=>i == (if b then 1 else 0)
 | .int a,.int b=>a == b
 | .str a,.str b=>a == b
 | .tup a,.tup b=>D.eqvs a b
 | .lst a,.lst b=>D.eqvs a b
 | _,_=>false
noncomputable def D.eqvs:List D→List D→Bool
 | [],[]=>true
 | a :: r,b :: q=>D.eqv a b && D.eqvs r q
 | _,_=>false
end
mutual
noncomputable def D.wt:D→Nat
 | .non=>0|.bl _=>0
 | .int i=>if -(2 ^ 40)<i∧i<2 ^ 40 then 41 else 151
 | .str x=>x.length
 | .tup xs=>D.wts xs
 | .lst xs=>D.wts xs
noncomputable def D.wts:List D→Nat
 | []=>0
 | a :: r=>D.wt a+1+D.wts r
end
mutual
noncomputable def D.fit:D→Bool
 | .int i=>decide (-(2 ^ 150)<i∧i<2 ^ 150)
 | .tup xs=>D.fits xs
 | .lst xs=>D.fits xs
 | _=>true
noncomputable def D.fits:List D→Bool
 | []=>true
 | a :: r=>D.fit a && D.fits r
end
inductive FV where
 | non|bl (b:Bool)|int (i:Int)|str (x:String)|tup (xs:List FV)|lst (xs:List FV)
 | scr (ns:List Int)
 | shn (d:D)
 | dct (ks:List (List Int))(vs:List FV)
 | dci (ks:List Int)(vs:List FV)
 | dcz (o:Obj)(ks:List (List Int))(vs:List FV)
 | dcn (z:Option Obj)(ks:List (List (Option Int)))(vs:List FV)
 | obj (C dx:Addr)(fs:List (Str×V))(gs:List (Addr×List V))
def big:Nat:=100000
inductive Mo where|imm|own|frz|ob|gst (i:Nat)(x:Str)
 deriving DecidableEq
def Mo.w:Mo→Bool|.imm=>false|.frz=>false|_=>true
def Mo.g:Mo→Bool|.gst _ _=>true|_=>false
theorem Mo.w_imm {m:Mo}(h:m.w=true):m≠.imm:=λz=>by rw[z] at h;cases h
theorem Mo.w_frz {m:Mo}(h:m.w=true):m≠.frz:=λz=>by rw[z] at h;cases h
theorem Mo.w_own {m:Mo}(h:m=.own):m.w=true:=by rw[h];rfl
abbrev Md:=List Mo
abbrev a0d:=List (Option FV)
def a0n:Md→Nat→Mo
 | [],_=>.imm
 | m :: _,0=>m
 | _ :: ms,n+1=>a0n ms n
def lk:a0d→Nat→Option FV
 | [],_=>none
 | x :: _,0=>x
 | _ :: L,n+1=>lk L n
theorem a4n:∀ (L:a0d) (i:Nat)(v:FV),lk L i=some v↔L[i]?=some (some v)
 | [],i,v=>by simp[lk]
 | x :: L,0,v=>by simp[lk]
 | x :: L,i+1,v=>by simpa[lk] using a4n L i v
def wp {α:Type}(r:Option α)(Q:α→Prop):Prop:=match r with
 | some x=>Q x
 | none=>False
theorem wpx {α:Type}{r:Option α}{Q:α→Prop}(h:wp r Q):∃ x,r=some x∧Q x:=by
 cases r with
 | none=>exact h.elim
 | some x=>exact⟨x,rfl,h⟩
mutual
noncomputable def dPy:D→PyData
 | .non=>.none
 | .bl b=>.bool b
 | .int i=>.int i
 | .str x=>.str (Γe x)
 | .tup xs=>.tuple (dPys xs)
 | .lst xs=>.list (dPys xs)
noncomputable def dPys:List D→List PyData
 | []=>[]
 | a :: r=>dPy a :: dPys r
end
def a1z (ks:List (List Int)):List (List (Int ⊕ Option Str)):=ks.map λk=>k.map Sum.inl
def a3u (ks:List Int):List (Int ⊕ Option Str):=ks.map Sum.inl
def oK:Option Int→Int ⊕ Option Str
 | some i=>.inl i
 | none=>.inr none
def d2h (ks:List (List (Option Int))):List (List (Int ⊕ Option Str)):=ks.map λk=>k.map oK
def hoN (u:HO):Option Obj→HO
 | none=>u
 | some o=>.frz o u
def ScrAt (K:Γd)(S:Hp)(a:Addr)(ns:List Int):Prop:=(∃ o,S a=some (.frz o (.lst (ns.map V.int)))) ∨ SqL K (λ_=>none) a (ns.map V.int)
mutual
noncomputable def RV (K:Γd)(S:Hp):FV→V→Prop
 | .non,v=>v=.non
 | .bl b,v=>v=.bl b
 | .int i,v=>v=.int i
 | .str x,v=>v=.str (Γe x)
 | .tup ps,v=>∃ a xs,v=.ref a∧S a=some (.tup xs)∧RVs K S ps xs
 | .lst ps,v=>∃ a xs,v=.ref a∧S a=some (.lst xs)∧RVs K S ps xs
 | .scr ns,v=>∃ a,v=.ref a∧ScrAt K S a ns
 | .shn d,v=>v=.str (dPy d).shown
 | .dct ks vs,v=>∃ a xs,v=.ref a∧ks.length=vs.length∧S a=some (.dT ((a1z ks).zip xs))∧RVs K S vs xs
 | .dci ks vs,v=>∃ a xs,v=.ref a∧ks.length=vs.length∧S a=some (.dK ((a3u ks).zip xs))∧RVs K S vs xs
 | .dcz o ks vs,v=>∃ a xs,v=.ref a∧ks.length=vs.length∧S a=some (.frz o (.dT ((a1z ks).zip xs)))∧RVs K S vs xs
 | .dcn z ks vs,v=>∃ a xs,v=.ref a∧ks.length=vs.length∧S a=some (hoN (.dT ((d2h ks).zip xs)) z)∧RVs K S vs xs
 | .obj C dx fs gs,v=>∃ a,v=.ref a∧S a=some (.big C dx fs gs)
noncomputable def RVs (K:Γd)(S:Hp):List FV→List V→Prop
 | [],vs=>vs=[]
 | p :: ps,vs=>∃ v r,vs=v :: r∧RV K S p v∧RVs K S ps r
end
mutual
theorem RV.mono {K:Γd}{S S':Hp}(x:Same S S'):∀ {p:FV}{v:V},RV K S p v→RV K S' p v
 | .non,v,h=>h
 | .bl b,v,h=>h
 | .int i,v,h=>h
 | .str _,v,h=>h
 | .shn _,v,h=>h
 | .tup ps,v,⟨a,xs,e,h1,h2⟩=>⟨a,xs,e,x _ _ h1,RVs.mono x h2⟩
 | .lst ps,v,⟨a,xs,e,h1,h2⟩=>⟨a,xs,e,x _ _ h1,RVs.mono x h2⟩
 | .dct ks vs,v,⟨a,xs,e,h0,h1,h2⟩=>⟨a,xs,e,h0,x _ _ h1,RVs.mono x h2⟩
 | .dci ks vs,v,⟨a,xs,e,h0,h1,h2⟩=>⟨a,xs,e,h0,x _ _ h1,RVs.mono x h2⟩
 | .dcz o ks vs,v,⟨a,xs,e,h0,h1,h2⟩=>⟨a,xs,e,h0,x _ _ h1,RVs.mono x h2⟩
 | .dcn z ks vs,v,⟨a,xs,e,h0,h1,h2⟩=>⟨a,xs,e,h0,x _ _ h1,RVs.mono x h2⟩
 | .obj _ _ _ _,v,⟨a,e,h⟩=>⟨a,e,x _ _ h⟩
 | .scr ns,v,⟨a,e,h⟩=>⟨a,e,h.elim (λ⟨o,h⟩=>.inl ⟨o,x _ _ h⟩) .inr⟩
theorem RVs.mono {K:Γd}{S S':Hp}(x:Same S S'):∀ {ps:List FV}{vs:List V},RVs K S ps vs→RVs K S' ps vs
 | [],vs,h=>h
 | p :: ps,vs,⟨v,r,e,h1,h2⟩=>⟨v,r,e,RV.mono x h1,RVs.mono x h2⟩
end
section
variable {K:Γd}{S H:Hp}
theorem RVs.length:∀ {ps:List FV}{vs:List V},RVs K S ps vs→ps.length=vs.length
 | [],vs,h=>by cases (show vs=[] from h);rfl
 | p :: ps,vs,h=>by
  obtain⟨v,r,e,_,h2⟩:=h
  subst e
  rw[List.length_cons,List.length_cons,RVs.length h2]
theorem RVs.get:∀ {ps:List FV}{vs:List V}{i:Nat}{p:FV},RVs K S ps vs→ps[i]?=some p→∃ v,vs[i]?=some v∧RV K S p v
 | [],vs,i,p,_,e=>by simp at e
 | q :: ps,vs,0,p,⟨v,r,e',h1,_⟩,e=>by
  subst e'
  simp at e;subst e
  exact⟨v,rfl,h1⟩
 | q :: ps,vs,i+1,p,⟨v,r,e',_,h2⟩,e=>by
  subst e'
  simpa using RVs.get (i:=i) (p:=p) h2 (by simpa using e)
theorem RVs.append:∀ {ps qs:List FV}{vs us:List V},RVs K S ps vs→RVs K S qs us→RVs K S (ps++qs) (vs++us)
 | [],qs,vs,us,h,g=>by cases (show vs=[] from h);exact g
 | p :: ps,qs,vs,us,⟨v,r,e,h1,h2⟩,g=>by
  subst e
  exact⟨v,r++us,rfl,h1,RVs.append h2 g⟩
theorem RVs.one {p:FV}{v:V}(h:RV K S p v):RVs K S [p] [v]:=⟨v,[],rfl,h,rfl⟩
theorem RVs.take:∀ {ps:List FV}{vs:List V} (n:Nat),RVs K S ps vs→RVs K S (ps.take n) (vs.take n)
 | [],vs,n,h=>by cases (show vs=[] from h);simp[RVs]
 | p :: ps,vs,0,h=>by simp[RVs]
 | p :: ps,vs,n+1,⟨v,r,e,h1,h2⟩=>by
  subst e
  exact⟨v,r.take n,rfl,h1,RVs.take n h2⟩
theorem RVs.drop:∀ {ps:List FV}{vs:List V} (n:Nat),RVs K S ps vs→RVs K S (ps.drop n) (vs.drop n)
 | [],vs,n,h=>by cases (show vs=[] from h);simp[RVs]
 | p :: ps,vs,0,h=>h
 | p :: ps,vs,n+1,⟨v,r,e,h1,h2⟩=>by
  subst e
  exact RVs.drop n h2
theorem RVs.set:∀ {ps:List FV}{vs:List V} (n:Nat){p:FV}{v:V},RVs K S ps vs→RV K S p v→RVs K S (ps.set n p) (vs.set n v)
 | [],vs,n,p,v,h,_=>by cases (show vs=[] from h);simp[RVs]
 | q :: ps,vs,0,p,v,⟨v',r,e,h1,h2⟩,g=>by
  subst e
  exact⟨v,r,rfl,g,h2⟩
 | q :: ps,vs,n+1,p,v,⟨v',r,e,h1,h2⟩,g=>by
  subst e
  exact⟨v',r.set n v,rfl,h1,RVs.set n h2 g⟩
theorem RVs.rev:∀ {ps:List FV}{vs:List V},RVs K S ps vs→RVs K S ps.reverse vs.reverse
 | [],vs,h=>by cases (show vs=[] from h);exact h
 | p :: ps,vs,⟨v,r,e,h1,h2⟩=>by
  subst e
  rw[List.reverse_cons,List.reverse_cons]
  exact (RVs.rev h2).append (RVs.one h1)
theorem RVs.rep {ps:List FV}{vs:List V}(h:RVs K S ps vs):∀ k:Nat,RVs K S (Γj k ps).flatten (Γj k vs).flatten
 | 0=>rfl
 | k+1=>by
  rw[List.replicate_succ,List.replicate_succ,List.flatten_cons,List.flatten_cons]
  exact h.append (h.rep k)
theorem RVs.ns:∀ (ns:List Int),RVs K S (ns.map .int) (ns.map V.int)
 | []=>rfl
 | n :: ns=>⟨_,_,rfl,rfl,RVs.ns ns⟩
theorem RVs.one_of {p:FV}{us:List V}(h:RVs K S [p] us):∃ u,us=[u]∧RV K S p u:=by
 obtain⟨v,r,rfl,h1,h2⟩:=h
 cases (show r=[] from h2)
 exact⟨v,rfl,h1⟩
theorem RVs.two_of {p q:FV}{us:List V}(h:RVs K S [p,q] us):∃ u v,us=[u,v]∧RV K S p u∧RV K S q v:=by
 obtain⟨v,r,rfl,h1,h2⟩:=h
 obtain⟨u,rfl,h3⟩:=h2.one_of
 exact⟨v,u,rfl,h1,h3⟩
def d4u:FV→Option (List FV)
 | .lst ps=>some ps
 | .dct ks vs=>if ks.length=vs.length then some vs else none
 | .dci ks vs=>if ks.length=vs.length then some vs else none
 | .dcz _ ks vs=>if ks.length=vs.length then some vs else none
 | .dcn _ ks vs=>if ks.length=vs.length then some vs else none
 | .obj _ _ _ _=>some []
 | _=>none
def c5c:FV→List V→HO
 | .dct ks _,xs=>.dT ((a1z ks).zip xs)
 | .dci ks _,xs=>.dK ((a3u ks).zip xs)
 | .dcz o ks _,xs=>.frz o (.dT ((a1z ks).zip xs))
 | .dcn z ks _,xs=>hoN (.dT ((d2h ks).zip xs)) z
 | .obj C dx fs gs,_=>.big C dx fs gs
 | _,xs=>.lst xs
def a3o (K:Γd)(S H:Hp)(a:Addr)(v:FV):Prop:=S a=none∧∃ ps xs,d4u v=some ps∧H a=some (c5c v xs)∧RVs K S ps xs
def RH (K:Γd)(S H:Hp)(v:FV)(x:V):Prop:=RV K S v x ∨ ∃ a,x=.ref a∧a3o K S H a v
theorem RH.lst {ps:List FV}{x:V}(s:Same S H)(h:RH K S H (.lst ps) x):∃ a xs,x=.ref a∧H a=some (.lst xs)∧RVs K S ps xs:=by
 rcases h with⟨a,xs,e,h1,h2⟩|⟨a,e,_,qs,xs,e2,h1,h2⟩
 ·exact⟨a,xs,e,s _ _ h1,h2⟩
 ·cases e2;exact⟨a,xs,e,h1,h2⟩
theorem RH.val {v:FV}{x:V}(h:RH K S H v x)(n:d4u v=none):RV K S v x:=by
 rcases h with h|⟨a,_,_,ps,xs,e,_⟩
 ·exact h
 ·rw[n] at e;cases e
theorem RH.tup {ps:List FV}{x:V}(s:Same S H)(h:RH K S H (.tup ps) x):∃ a xs,x=.ref a∧H a=some (.tup xs)∧RVs K S ps xs:=by
 obtain⟨a,xs,e,h1,h2⟩:=h.val rfl
 exact⟨a,xs,e,s _ _ h1,h2⟩
theorem ScrAt.sq {a:Addr}{ns:List Int}(s:Same S H)(h:ScrAt K S a ns):SqL K H a (ns.map V.int):=by
 rcases h with⟨o,h⟩|h
 ·exact .inl (.inr ⟨o,s _ _ h⟩)
 ·rcases h with (h|⟨o,h⟩)|h
  ·cases h
  ·cases h
  ·exact .inr h
def a2f:FV→Option (List FV)
 | .lst xs=>some xs
 | .scr ns=>some (ns.map .int)
 | _=>none
def a3g:FV→Option (List FV)
 | .tup xs=>some xs
 | v=>a2f v
theorem RH.list {v:FV}{ps:List FV}{x:V}(s:Same S H)(h:RH K S H v x)(e:a2f v=some ps):∃ a xs,x=.ref a∧SqL K H a xs∧RVs K S ps xs:=by
 cases v with
 | lst qs =>
  cases e
  obtain⟨a,xs,rfl,h1,h2⟩:=h.lst s
  exact⟨a,xs,rfl,SqL.of h1,h2⟩
 | scr ns =>
  cases e
  obtain⟨a,rfl,g⟩:=h.val rfl
  exact⟨a,_,rfl,ScrAt.sq s g,RVs.ns ns⟩
 | _=>cases e
def isL:FV→Bool
 | .tup _=>false
 | _=>true
theorem RH.seq {v:FV}{ps:List FV}{x:V}(s:Same S H)(h:RH K S H v x)(e:a3g v=some ps):∃ a xs,x=.ref a∧SqB (isL v) K H a xs∧RVs K S ps xs:=by
 cases v with
 | tup qs =>
  cases e
  obtain⟨a,xs,rfl,h1,h2⟩:=h.tup s
  exact⟨a,xs,rfl,SqT.of h1,h2⟩
 | lst qs=>exact h.list s e
 | scr qs=>exact h.list s e
 | _=>cases e
end
def a9l:HO→Bool
 | .tup _=>true
 | _=>false
theorem a8z (v:FV)(xs:List V):a9l (c5c v xs)=false:=by
 cases v with
 | dcn z ks vs=>cases z<;>rfl
 | _=>rfl
structure Cn where
 H0:Hp
 S0:Hp
 P0:Option Addr
 fz:List (Nat×Addr)
 pr:List (Addr×HO)
 P1:List (Nat×Addr)
structure Iv (K:Γd)(c:Cn)(md:Md)(L:a0d)(σ:L2.St)(S H:Hp):Prop where
 len:L.length=σ.length
 imm:∀ i v,a0n md i=.imm→L[i]?=some (some v)→∃ x,σ[i]?=some (some x)∧RV K S v x
 own:∀ i v,a0n md i≠.imm→L[i]?=some (some v)→∃ a,σ[i]?=some (some (.ref a))∧a3o K S H a v∧(c.P0=some a ∨ c.H0 a=none ∨ ∃ j,(j,a)∈c.P1)
 dis:∀ i j v w a,a0n md i≠.imm→a0n md j≠.imm→L[i]?=some (some v)→L[j]?=some (some w)→σ[i]?=some (some (.ref a))→σ[j]?=some (some (.ref a))→i=j
 sub:Same S H
 frame:∀ a o,c.H0 a=some o→c.P0≠some a→(∀ j,(j,a) ∉ c.P1)→H a=some o
 s0:Same c.S0 S
 grow:∀ a o,S a=some o→c.S0 a=some o ∨ c.H0 a=none ∨ a9l o=true
 lent:∀ a,c.P0=some a→a0n md 0≠.imm∧σ[0]?=some (some (.ref a))∧∃ v,L[0]?=some (some v)
 fzs:∀ p∈c.fz,a0n md p.1=.frz∧σ[p.1]?=some (some (.ref p.2))∧∃ v,L[p.1]?=some (some v)
 fzm:∀ i v,a0n md i=.frz→L[i]?=some (some v)→∃ a,(i,a)∈c.fz
 fzp:∀ p∈c.fz,∃ o,(p.2,o)∈c.pr
 prs:∀ p∈c.pr,H p.1=some p.2∧S p.1=none∧∀ i v,(a0n md i).w=true→L[i]?=some (some v)→σ[i]?≠some (some (.ref p.1))
 ntp:∀ p∈c.pr,a9l p.2=false
 lnt1:∀ q∈c.P1,(a0n md q.1).g=true∧σ[q.1]?=some (some (.ref q.2))∧∃ v,L[q.1]?=some (some v)
 tie:∀ j i x C dx fs v,a0n md j=.gst i x→a0n md i=.ob→L[i]?=some (some (.obj C dx fs []))→L[j]?=some (some v)→∃ u,fs.lookup x=some u∧σ[j]?=some (some u)
section
variable {K:Γd}{c:Cn}{md:Md}{L:a0d}{σ:L2.St}{S H S' H':Hp}
theorem Iv.h0 (I:Iv K c md L σ S H){p:Addr}(h:H p=none):c.H0 p=none:=by
 cases e:c.H0 p with
 | none=>rfl
 | some o =>
  by_cases z:c.P0=some p
  ·obtain⟨m,e1,v,e2⟩:=I.lent p z
   obtain⟨a,e3,⟨_,_,_,_,e4,_⟩,_⟩:=I.own 0 v m e2
   rw[e1] at e3;cases e3
   rw[h] at e4;cases e4
  ·by_cases z1:∃ j,(j,p)∈c.P1
   ·obtain⟨j,hj⟩:=z1
    obtain⟨g,e1,v,e2⟩:=I.lnt1 _ hj
    obtain⟨a,e3,⟨_,_,_,_,e4,_⟩,_⟩:=I.own j v (λz=>by rw[z] at g;cases g) e2
    rw[e1] at e3;cases e3
    rw[h] at e4;cases e4
   ·rw[I.frame p o e z λj hj=>z1 ⟨j,hj⟩] at h;cases h
theorem Iv.sn (I:Iv K c md L σ S H){p:Addr}(h:H p=none):S p=none:=by
 cases e:S p with
 | none=>rfl
 | some o=>rw[I.sub p o e] at h;cases h
theorem Iv.go3 (I:Iv K c md L σ S H)(s:Same S S')(sub:Same S' H')(g:∀ a o,S' a=some o→S a=some o ∨ H a=none ∨ a9l o=true)(k:∀ a o,H a=some o→H' a=some o):Iv K c md L σ S' H' where
 len:=I.len
 imm:=λi v h e=>let ⟨x,e1,r⟩:=I.imm i v h e;⟨x,e1,r.mono s⟩
 own:=λi v h e=>by
  obtain⟨a,e1,⟨h1,ps,xs,e2,h2,h3⟩,h4⟩:=I.own i v h e
  refine⟨a,e1,⟨?_,ps,xs,e2,k _ _ h2,h3.mono s⟩,h4⟩
  cases q:S' a with
  | none=>rfl
  | some o =>
   rcases g a o q with z|z|z
   ·rw[h1] at z;cases z
   ·rw[h2] at z;cases z
   ·have:=sub a o q
    rw[k _ _ h2] at this
    rw[← Option.some.inj this,a8z] at z;cases z
 dis:=I.dis
 sub:=sub
 frame:=λa o h n n1=>k _ _ (I.frame a o h n n1)
 s0:=I.s0.trans s
 grow:=λa o h=>(g a o h).elim (I.grow a o) λz=>z.elim (λz=>.inr (.inl (I.h0 z))) λz=>.inr (.inr z)
 lent:=I.lent
 fzs:=I.fzs
 fzm:=I.fzm
 fzp:=I.fzp
 prs:=λp hp=>by
  obtain⟨h1,h2,h3⟩:=I.prs p hp
  refine⟨k _ _ h1,?_,h3⟩
  cases q:S' p.1 with
  | none=>rfl
  | some o =>
   rcases g _ o q with z|z|z
   ·rw[h2] at z;cases z
   ·rw[h1] at z;cases z
   ·have:=sub _ o q
    rw[k _ _ h1] at this
    rw[← Option.some.inj this,I.ntp p hp] at z;cases z
 ntp:=I.ntp
 lnt1:=I.lnt1
 tie:=I.tie
theorem Iv.go (I:Iv K c md L σ S H)(s:Same S S')(sub:Same S' H')(g:∀ a o,S' a=some o→S a=some o ∨ H a=none)(k:∀ a o,H a=some o→H' a=some o):Iv K c md L σ S' H':=I.go3 s sub (λa o e=>(g a o e).imp_right .inl) k
theorem a0r {p:Addr}{o:HO}(h:H p=none):Same H (upd H p o):=λa u e=>by rw[a0c (a0v e h)];exact e
theorem Iv.new (I:Iv K c md L σ S H){p:Addr}(h:H p=none)(o:HO):Iv K c md L σ (upd S p o) (upd H p o) :=
 I.go (a0r (I.sn h)) (λa u e=>by
  by_cases z:a=p
  ·subst z;rw[a0e] at e ⊢;exact e
  ·rw[a0c z] at e ⊢;exact I.sub a u e) (λa u e=>by
  by_cases z:a=p
  ·subst z;exact .inr h
  ·rw[a0c z] at e;exact .inl e) (a0r h)
theorem Iv.lay (I:Iv K c md L σ S H){p:Addr}(h:H p=none)(o:HO):Iv K c md L σ S (upd H p o) :=
 I.go (Same.refl S) (I.sub.trans (a0r h)) (λa u e=>.inl e) (a0r h)
theorem Iv.back4 (I:Iv K c md L σ S H){i:Nat}{v w:FV}{a:Addr}(m:(a0n md i).w=true)(e:L[i]?=some (some v))(e1:σ[i]?=some (some (.ref a)))(s:Same S S')(sub:Same S' H')(g:∀ a o,S' a=some o→S a=some o ∨ H a=none ∨ a9l o=true)
  (k:∀ b o,H b=some o→b≠a→H' b=some o)(new:a3o K S' H' a w)(ht:∀ j x C dx fs u,a0n md j=.gst i x→a0n md i=.ob→w=.obj C dx fs []→L[j]?=some (some u)→∃ u,fs.lookup x=some u∧σ[j]?=some (some u)):Iv K c md (L.set i (some w)) σ S' H':=by
 have mi:=Mo.w_imm m
 have hi:=(List.getElem?_eq_some_iff.mp e).1
 obtain⟨a',e1',⟨h1,qs,ys,_,h2,h3⟩,h4⟩:=I.own i v mi e
 rw[e1] at e1';cases e1'
 have look:∀ j u,(L.set i (some w))[j]?=some (some u)→(j=i∧u=w) ∨ (j≠i∧L[j]?=some (some u)):=λj u z=>by
  by_cases q:j=i
  ·subst q;rw[List.getElem?_set_self hi] at z;cases z;exact .inl ⟨rfl,rfl⟩
  ·rw[List.getElem?_set_ne (Ne.symm q)] at z;exact .inr ⟨q,z⟩
 have lookx:∀ j,(∃ u,L[j]?=some (some u))→∃ u,(L.set i (some w))[j]?=some (some u):=λj h=>by
  obtain⟨u,z⟩:=h
  by_cases q:j=i
  ·subst q;exact⟨_,List.getElem?_set_self hi⟩
  ·exact⟨u,by rw[List.getElem?_set_ne (Ne.symm q)];exact z⟩
 have old:∀ j u,(L.set i (some w))[j]?=some (some u)→∃ u,L[j]?=some (some u):=λj u z=>(look j u z).elim (λq=>⟨v,by rw[q.1];exact e⟩) λq=>⟨u,q.2⟩
 refine⟨by rw[List.length_set];exact I.len,λj u hm z=>?_,λj u hm z=>?_,λj k u u2 b m1 m2 z1 z2=>?_,sub,λb o z n n1=>?_,I.s0.trans s,λb o z=>(g b o z).elim (I.grow b o) λz=>z.elim (λz=>.inr (.inl (I.h0 z))) λz=>.inr (.inr z),λb z=>?_,λp hp=>?_,λj u hm z=>?_,I.fzp,λp hp=>?_,I.ntp,λq hq=>?_,λj i' x C dx fs u h1 h2 h3 h4=>?_⟩
 ·rcases look j u z with⟨q,_⟩|⟨_,z⟩
  ·rw[q] at hm;exact absurd hm mi
  ·obtain⟨x,f1,f2⟩:=I.imm j u hm z
   exact⟨x,f1,f2.mono s⟩
 ·rcases look j u z with⟨rfl,rfl⟩|⟨q,z⟩
  ·exact⟨a,e1,new,h4⟩
  ·obtain⟨b,f1,⟨g1,rs,zs,g2,g3,g4⟩,g5⟩:=I.own j u hm z
   have hb:b≠a:=λy=>by subst y;exact q (I.dis j i u v b hm mi z e f1 e1)
   refine⟨b,f1,⟨?_,rs,zs,g2,k b _ g3 hb,g4.mono s⟩,g5⟩
   cases q':S' b with
   | none=>rfl
   | some o =>
    rcases g b o q' with z|z|z
    ·rw[g1] at z;cases z
    ·rw[g3] at z;cases z
    ·have:=sub b o q'
     rw[k b _ g3 hb] at this
     rw[← Option.some.inj this,a8z] at z;cases z
 ·obtain⟨w',z1⟩:=old j u z1
  obtain⟨u',z2⟩:=old k u2 z2
  exact I.dis j k w' u' b m1 m2 z1 z2
 ·refine k b o (I.frame b o z n n1) λy=>?_
  subst y
  rcases h4 with y|y|⟨j,y⟩
  ·exact n y
  ·rw[z] at y;cases y
  ·exact n1 j y
 ·obtain⟨g1,g2,g3⟩:=I.lent b z
  exact⟨g1,g2,lookx 0 g3⟩
 ·obtain⟨g1,g2,g4⟩:=I.fzs p hp
  exact⟨g1,g2,lookx _ g4⟩
 ·rcases look j u z with⟨q,_⟩|⟨_,z⟩
  ·rw[q] at hm;exact absurd hm (Mo.w_frz m)
  ·exact I.fzm j u hm z
 ·obtain⟨g1,g2,g3⟩:=I.prs p hp
  have kp:=k _ _ g1 λy=>g3 i v m e (by rw[y];exact e1)
  refine⟨kp,?_,λj u hm z=>let ⟨u',z'⟩:=old j u z;g3 j u' hm z'⟩
  cases q':S' p.1 with
  | none=>rfl
  | some o =>
   rcases g _ o q' with z|z|z
   ·rw[g2] at z;cases z
   ·rw[g1] at z;cases z
   ·have:=sub _ o q'
    rw[kp] at this
    rw[← Option.some.inj this,I.ntp p hp] at z;cases z
 ·obtain⟨g1,g2,g3⟩:=I.lnt1 q hq
  exact⟨g1,g2,lookx _ g3⟩
 ·obtain⟨u',h4'⟩:=old j u h4
  rcases look i' _ h3 with⟨rfl,e9⟩|⟨_,h3⟩
  ·exact ht j x C dx fs u' h1 h2 e9.symm h4'
  ·exact I.tie j i' x C dx fs u' h1 h2 h3 h4'
theorem Iv.back3 (I:Iv K c md L σ S H){i:Nat}{v w:FV}{a:Addr}(m:a0n md i=.own)(e:L[i]?=some (some v))(e1:σ[i]?=some (some (.ref a)))(s:Same S S')(sub:Same S' H')(g:∀ a o,S' a=some o→S a=some o ∨ H a=none ∨ a9l o=true)
  (k:∀ b o,H b=some o→b≠a→H' b=some o)(new:a3o K S' H' a w):Iv K c md (L.set i (some w)) σ S' H':=I.back4 (Mo.w_own m) e e1 s sub g k new λ_ _ _ _ _ _ _ z=>by rw[m] at z;cases z
theorem Iv.back (I:Iv K c md L σ S H){i:Nat}{v w:FV}{a:Addr}(m:a0n md i=.own)(e:L[i]?=some (some v))(e1:σ[i]?=some (some (.ref a)))(s:Same S S')(sub:Same S' H')(g:∀ a o,S' a=some o→S a=some o ∨ H a=none)
  (k:∀ b o,H b=some o→b≠a→H' b=some o)(new:a3o K S' H' a w):Iv K c md (L.set i (some w)) σ S' H':=I.back3 m e e1 s sub (λa o e=>(g a o e).imp_right .inl) k new
theorem Iv.write (I:Iv K c md L σ S H){i:Nat}{v:FV}{a:Addr}{ps:List FV}{xs:List V}(m:a0n md i=.own)(e:L[i]?=some (some v))(e1:σ[i]?=some (some (.ref a)))(r:RVs K S ps xs) :
  Iv K c md (L.set i (some (.lst ps))) σ S (upd H a (.lst xs)):=by
 obtain⟨a',e1',⟨h1,_⟩,_⟩:=I.own i v (λz=>by rw[m] at z;cases z) e
 rw[e1] at e1';cases e1'
 exact I.back m e e1 (Same.refl S) (λb o z=>by rw[a0c λy=>by subst y;rw[h1] at z;cases z];exact I.sub b o z) (λb o z=>.inl z) (λb o z n=>by rw[a0c n];exact z) ⟨h1,ps,xs,rfl,a0e,r⟩
theorem Iv.set (I:Iv K c md L σ S H){i:Nat}{v:FV}{x:V}(ni:∀ a,c.P0=some a→i≠0)(nf:a0n md i≠.frz)(h:(a0n md i=.imm∧RV K S v x) ∨ (a0n md i=.own∧∃ a,x=.ref a∧a3o K S H a v∧c.H0 a=none∧(∀ p∈c.pr,p.1≠a)∧∀ j w,j≠i→a0n md j≠.imm→L[j]?=some (some w)→σ[j]?≠some (some (.ref a)))) :
  Iv K c md (L.set i (some v)) (σ.set i (some x)) S H:=by
 have look:∀ j w,(L.set i (some v))[j]?=some (some w)→(j=i∧w=v∧(σ.set i (some x))[j]?=some (some x)) ∨ (j≠i∧L[j]?=some (some w)∧(σ.set i (some x))[j]?=σ[j]?):=λj w z=>by
  by_cases q:j=i
  ·subst q
   have hj:j<L.length:=by have:=(List.getElem?_eq_some_iff.mp z).1;rwa [List.length_set] at this
   rw[List.getElem?_set_self hj] at z;cases z
   exact .inl ⟨rfl,rfl,by rw[List.getElem?_set_self (by rw[← I.len];exact hj)]⟩
  ·rw[List.getElem?_set_ne (Ne.symm q)] at z
   exact .inr ⟨q,z,List.getElem?_set_ne (Ne.symm q)⟩
 have far:∀ j,j≠i→(L.set i (some v))[j]?=L[j]?∧(σ.set i (some x))[j]?=σ[j]?:=λj q=>⟨List.getElem?_set_ne (Ne.symm q),List.getElem?_set_ne (Ne.symm q)⟩
 refine⟨by rw[List.length_set,List.length_set];exact I.len,λj w hm z=>?_,λj w hm z=>?_,λj k w u b m1 m2 z1 z2 y1 y2=>?_,I.sub,I.frame,I.s0,I.grow,λb z=>?_,λp hp=>?_,λj w hm z=>?_,I.fzp,λp hp=>?_,I.ntp,λq hq=>?_,λj k y C dx fs u h1 h2 h3 h4=>?_⟩
 ·rcases look j w z with⟨rfl,rfl,y⟩|⟨q,z,y⟩
  ·rcases h with⟨_,r⟩|⟨hm',_⟩
   ·exact⟨x,y,r⟩
   ·rw[hm] at hm';cases hm'
  ·rw[y];exact I.imm j w hm z
 ·rcases look j w z with⟨rfl,rfl,y⟩|⟨q,z,y⟩
  ·rcases h with⟨hm',_⟩|⟨_,a,rfl,o,h0,_,_⟩
   ·exact absurd hm' hm
   ·exact⟨a,y,o,.inr (.inl h0)⟩
  ·rw[y];exact I.own j w hm z
 ·rcases look j w z1 with⟨p1,p2,p3⟩|⟨p1,p2,p3⟩
  ·rcases look k u z2 with⟨q1,q2,q3⟩|⟨q1,q2,q3⟩
   ·rw[p1,q1]
   ·rcases h with⟨hm',_⟩|⟨_,a,rfl,_,_,_,n⟩
    ·rw[p1] at m1;exact absurd hm' m1
    ·rw[p3] at y1;cases y1
     rw[q3] at y2
     exact absurd y2 (n k u q1 m2 q2)
  ·rw[p3] at y1
   rcases look k u z2 with⟨q1,q2,q3⟩|⟨q1,q2,q3⟩
   ·rcases h with⟨hm',_⟩|⟨_,a,rfl,_,_,_,n⟩
    ·rw[q1] at m2;exact absurd hm' m2
    ·rw[q3] at y2;cases y2
     exact absurd y1 (n j w p1 m1 p2)
   ·rw[q3] at y2
    exact I.dis j k w u b m1 m2 p2 q2 y1 y2
 ·obtain⟨g1,g2,g3⟩:=I.lent b z
  obtain⟨f1,f2⟩:=far 0 (Ne.symm (ni b z))
  rw[f1,f2];exact⟨g1,g2,g3⟩
 ·obtain⟨g1,g2,g4⟩:=I.fzs p hp
  obtain⟨f1,f2⟩:=far p.1 λy=>nf (by rw[← y];exact g1)
  rw[f1,f2];exact⟨g1,g2,g4⟩
 ·rcases look j w z with⟨rfl,_,_⟩|⟨_,z,_⟩
  ·exact absurd hm nf
  ·exact I.fzm j w hm z
 ·obtain⟨g1,g2,g3⟩:=I.prs p hp
  refine⟨g1,g2,λj w hm z=>?_⟩
  rcases look j w z with⟨q1,q2,q3⟩|⟨q1,q2,q3⟩
  ·rcases h with⟨hm',_⟩|⟨_,a,rfl,_,_,n,_⟩
   ·rw[q1,hm'] at hm;cases hm
   ·rw[q3];exact λy=>n p hp (by cases y;rfl)
  ·rw[q3];exact g3 j w hm q2
 ·obtain⟨g1,g2,g3⟩:=I.lnt1 q hq
  obtain⟨f1,f2⟩:=far q.1 λy=>by
   rw[y] at g1
   rcases h with⟨hm',_⟩|⟨hm',_⟩<;>rw[hm'] at g1<;>cases g1
  rw[f1,f2];exact⟨g1,g2,g3⟩
 ·have n1:j≠i:=λy=>by
   rw[y] at h1
   rcases h with⟨hm',_⟩|⟨hm',_⟩<;>rw[hm'] at h1<;>cases h1
  have n2:k≠i:=λy=>by
   rw[y] at h2
   rcases h with⟨hm',_⟩|⟨hm',_⟩<;>rw[hm'] at h2<;>cases h2
  rw[(far j n1).1] at h4
  rw[(far k n2).1] at h3
  rw[(far j n1).2]
  exact I.tie j k y C dx fs u h1 h2 h3 h4
end
end Kq
end
section
namespace Kq
def a4m {α β:Type}(f:α→Option β):List α→Option (List β)
 | []=>some []
 | x :: xs=>(f x).bind λy=>(a4m f xs).map (y :: ·)
def fD:Nat→FV→Option D
 | 0,_=>none
 | n+1,v=>match v with
  | .non=>some .non
  | .bl b=>some (.bl b)
  | .int i=>some (.int i)
  | .str x=>some (.str x)
  | .tup xs=>(a4m (fD n) xs).map .tup
  | .lst xs=>(a4m (fD n) xs).map .lst
  | .scr _=>none
  | .shn _=>none
  | .dct _ _=>none
  | .dci _ _=>none
  | .dcz _ _ _=>none
  | .obj _ _ _ _=>none|.dcn _ _ _=>none
def a0m:Nat:=40
def c1f:FV→Option Bool
 | .non=>some false
 | .bl b=>some b
 | .int i=>some (i != 0)
 | .str _=>none
 | .tup xs=>some (!xs.isEmpty)
 | .lst xs=>some (!xs.isEmpty)
 | .scr xs=>some (!xs.isEmpty)
 | .shn _=>none
 | .dct _ _=>none
 | .dci _ _=>none
 | .dcz _ _ _=>none
 | .obj _ _ _ _=>none|.dcn _ _ _=>none
def a2n:FV→Option Int|.int i=>some i|_=>none
def blF:FV→Option Bool|.bl b=>some b|_=>none
def a5s:FV→Option (List FV)|.tup xs=>some xs|_=>none
def a7b:FV→Option (List FV)|.lst xs=>some xs|_=>none
def a2b (i:Int):Bool:=decide (-(2 ^ 64)<i∧i<2 ^ 64)
def a1d (i:Int):Bool:=decide (-(2 ^ 62)≤i∧i<2 ^ 62)
def a8o (i:Int):Bool:=decide (-(2 ^ 40)≤i∧i≤2 ^ 40)
def eqD (a b:FV):Option Bool:=(fD a0m a).bind λx=>(fD a0m b).bind λy=>some (D.eqv x y)
def eqF (a b:FV):Option Bool:=match a,b with
 | .shn x,.shn y=>open Classical in if x=y then some true else none
 | a,b=>eqD a b
def inD:D→D→Option Bool
 | x,.lst xs=>some (xs.any λy=>D.eqv y x)
 | x,.tup xs=>some (xs.any λy=>D.eqv y x)
 | _,_=>none
def inF (a b:FV):Option Bool:=(fD a0m a).bind λx=>(fD a0m b).bind λy=>inD x y
def a0u:List FV→Option (List Int)
 | []=>some []
 | .int i :: r=>(a0u r).map (i :: ·)
 | _=>none
def a5e:List FV→Option (List Bool)
 | []=>some []
 | .bl b :: r=>(a5e r).map (b :: ·)
 | _=>none
def d0d:List FV→Option (List (List Int))
 | []=>some []
 | .tup xs :: r=>(a0u xs).bind λt=>(d0d r).map (t :: ·)
 | _=>none
def lexLt:List Int→List Int→Bool
 | [],[]=>false
 | [],_ :: _=>true
 | _ :: _,[]=>false
 | a :: r,b :: q=>if a=b then lexLt r q else decide (a<b)
def lexLe:List Int→List Int→Bool
 | [],[]=>true
 | [],_ :: _=>true
 | _ :: _,[]=>false
 | a :: r,b :: q=>if a=b then lexLe r q else decide (a≤b)
def a2q (f:Int→Int→Option FV)(v w:FV):Option FV:=(a2n v).bind λi=>(a2n w).bind λj=>f i j
def a3n (v w:FV):Option FV:=match v with
 | .tup xs=>(a5s w).bind λys=>if xs.length+ys.length≤big then some (.tup (xs++ys)) else none
 | .lst xs=>(a7b w).bind λys=>if xs.length+ys.length≤big then some (.lst (xs++ys)) else none
 | v=>a2q (λi j=>some (.int (i+j))) v w
def b3c:FV→FV→Option FV:=a2q λi j=>some (.int (i-j))
def b8m (v w:FV):Option FV:=match v with
 | .lst xs=>(a2n w).bind λk=>if -(2 ^ 63)≤k∧k<2 ^ 63∧xs.length*k.toNat≤big then some (.lst (Γj k.toNat xs).flatten) else none
 | v=>a2q (λi j=>if (a2b i || a2b j)=true then some (.int (i*j)) else none) v w
def b9s:FV→FV→Option FV:=a2q λi j=>if 0<j∧j<1073741824 then some (.int (i / j)) else none
def c5e:FV→FV→Option FV:=a2q λi j=>if 0<j then some (.int (i % j)) else none
def c2g:FV→FV→Option FV:=a2q λi j=>if 0≤j∧j≤1000∧a2b i=true then some (.int (i ^ j.toNat)) else none
def eqB (a b:FV):Option FV:=(eqF a b).map .bl
def neB (a b:FV):Option FV:=(eqF a b).map λr=>.bl (!r)
def inB (a b:FV):Option FV:=(inF a b).map .bl
def niB (a b:FV):Option FV:=(inF a b).map λr=>.bl (!r)
def ltB (v w:FV):Option FV:=match v with
 | .tup xs=>(a5s w).bind λys=>(a0u xs).bind λa=>(a0u ys).bind λb=>some (.bl (lexLt a b))
 | v=>a2q (λi j=>some (.bl (decide (i<j)))) v w
def leB (v w:FV):Option FV:=match v with
 | .tup xs=>(a5s w).bind λys=>(a0u xs).bind λa=>(a0u ys).bind λb=>some (.bl (lexLe a b))
 | v=>a2q (λi j=>some (.bl (decide (i≤j)))) v w
def gtB:FV→FV→Option FV:=a2q λi j=>some (.bl (decide (j<i)))
def geB:FV→FV→Option FV:=a2q λi j=>some (.bl (decide (j≤i)))
def ixN (n:Nat) (i:Int):Option Nat:=if 0≤i then (if i<n then some i.toNat else none) else if -(n:Int)≤i then some (i+n).toNat else none
def atF (xs:List FV) (i:Int):Option FV:=(ixN xs.length i).bind λj=>xs[j]?
def ixF (v w:FV):Option FV:=(a2n w).bind λj=>(a3g v).bind λxs=>atF xs j
def b8o:FV→FV→Option FV:=a2q λi j=>some (.int (if j<i then j else i))
def max2F:FV→FV→Option FV:=a2q λi j=>some (.int (if j > i then j else i))
def a1y:FV→Option FV|.non=>some (.bl true)|_=>some (.bl false)
def a1v:FV→Option FV|.non=>some (.bl false)|_=>some (.bl true)
def b9d (c:Bool):FV→Option FV|.bl b=>some (.bl (b == c))|_=>some (.bl false)
def a4l (c:Bool):FV→Option FV|.bl b=>some (.bl (b != c))|_=>some (.bl true)
def d4z (v:FV):Option FV:=(blF v).map λb=>.bl (!b)
def d2f (v:FV):Option FV:=(a2n v).map λi=>.int (-i)
def turnF (v:FV):Option FV:=(a5s v).map λxs=>.tup xs.reverse
def a7g (v:FV):Option FV:=(a3g v).map λxs=>.int xs.length
def d4o (v:FV):Option FV:=(a2n v).map λi=>.int (if i<0 then -i else i)
def a7n:FV→Option FV|.int i=>some (.int i)|.bl b=>some (.int (if b then 1 else 0))|_=>none
def d0o (xs:List FV):Option Int:=(a0u xs).bind λns=>if ns.length≤big∧ns.all a8o=true then some ns.sum else none
def sumF (v:FV):Option FV:=(a2f v).bind λxs=>(d0o xs).map .int
def c5u (v:FV):Option FV:=(a2f v).bind λxs=>(a5e xs).map λbs=>.bl (bs.all id)
def anyF (v:FV):Option FV:=(a2f v).bind λxs=>(a5e xs).map λbs=>.bl (bs.any id)
def c5k (b:Int):List Int→Int
 | []=>b
 | x :: r=>c5k (if x<b then x else b) r
def c5j (b:List Int):List (List Int)→List Int
 | []=>b
 | x :: r=>c5j (if lexLt x b=true then x else b) r
def minI (xs:List FV):Option FV:=(a0u xs).bind λns=>match ns with
 | n :: r=>some (.int (c5k n r))
 | []=>none
def minT (xs:List FV):Option FV:=(d0d xs).bind λns=>match ns with
 | n :: r=>some (.tup ((c5j n r).map .int))
 | []=>none
def minTF (v:FV):Option FV:=(a2f v).bind minT
def a1s (v:FV):Option FV:=(a3g v).map .tup
def d9e (v:FV):Option FV:=(a3g v).map .lst
def shnF (v:FV):Option FV:=(fD a0m v).bind λd=>if d.fit=true∧d.wt≤big then some (.shn d) else none
def strF (v:FV):Option FV:=match v with
 | .non=>some (.str "None")
 | .bl b=>some (.str (if b then "True" else "False"))
 | .str x=>some (.str x)
 | .int i=>if -(2 ^ 150)<i∧i<2 ^ 150 then some (.str (toString i)) else none
 | .tup xs=>shnF (.tup xs)
 | .lst xs=>shnF (.lst xs)
 | .scr _=>none|.shn _=>none|.dct _ _=>none|.dci _ _=>none|.dcz _ _ _=>none|.obj _ _ _ _=>none|.dcn _ _ _=>none
inductive Ty where|int|bool|str|list|tuple
 deriving DecidableEq
def a4x:FV→Ty→Option Bool
 | .non,_=>some false
 | .bl _,t=>some (t == .int || t == .bool)
 | .int _,t=>some (t == .int)
 | .str _,t=>some (t == .str)
 | .tup _,t=>some (t == .tuple)
 | .lst _,t=>some (t == .list)
 | .scr _,_=>none
 | .shn _,t=>some (t == .str)
 | .dct _ _,_=>none
 | .dci _ _,_=>none
 | .dcz _ _ _,_=>none
 | .obj _ _ _ _,_=>none
 | .dcn _ _ _,_=>none
def a9w (t:Ty)(v:FV):Option FV:=(a4x v t).map .bl
def c3g (t u:Ty)(v:FV):Option FV:=(a4x v t).bind λa=>(a4x v u).map λb=>.bl (a || b)
def sIx (n d:Nat):Option Int→Nat
 | none=>d
 | some v=>if v<0 then (v+n).toNat else min v.toNat n
def b1h {α:Type}(xs:List α)(lo hi:Option Int):List α:=(xs.drop (sIx xs.length 0 lo)).take (sIx xs.length xs.length hi-sIx xs.length 0 lo)
def a7p (v:FV)(lo hi:Option Int):Option FV:=match v with
 | .tup xs=>some (.tup (b1h xs lo hi))
 | .lst xs=>some (.lst (b1h xs lo hi))
 | _=>none
abbrev EW:=a0d→(FV→a0d→Prop)→Prop
abbrev BW:=a0d→(Bool→a0d→Prop)→Prop
abbrev AW:=a0d→(List FV→a0d→Prop)→Prop
abbrev OW:=a0d→(Option Int→a0d→Prop)→Prop
def a0b (i:Nat):EW:=λL Q=>wp (lk L i) λx=>Q x L
def eC (v:FV):EW:=λL Q=>Q v L
def eUn (f:FV→Option FV)(a:EW):EW:=λL Q=>a L λx L1=>wp (f x) λz=>Q z L1
def eOp (f:FV→FV→Option FV)(a b:EW):EW:=λL Q=>a L λx L1=>b L1 λy L2=>wp (f x y) λz=>Q z L2
def b5o (f:FV→FV→Option FV) (i:Nat)(b:EW):EW:=λL Q=>wp (lk L i) λ_=>b L λy L1=>wp (lk L1 i) λx=>wp (f x y) λz=>Q z L1
def b1f (f g:FV→FV→Option FV)(a b c:EW):EW:=λL Q=>a L λx L1=>b L1 λy L2=>wp (f x y) λr=>wp (blF r) λr=>if r=true then c L2 λz L3=>wp (g y z) λq=>Q q L3 else Q (.bl false) L2
def b4h (a b:EW):EW:=λL Q=>a L λx L1=>wp (c1f x) λr=>if r=true then b L1 Q else Q x L1
def eOr (a b:EW):EW:=λL Q=>a L λx L1=>wp (c1f x) λr=>if r=true then Q x L1 else b L1 Q
def eIf (c:BW)(a b:EW):EW:=λL Q=>c L λr L1=>if r=true then a L1 Q else b L1 Q
def a1n (a:EW):BW:=λL Q=>a L λx L1=>wp (c1f x) λb=>Q b L1
def c9y (a b:BW):BW:=λL Q=>a L λr L1=>if r=true then b L1 Q else Q false L1
def bOr (a b:BW):BW:=λL Q=>a L λr L1=>if r=true then Q true L1 else b L1 Q
def a9v (a:BW):BW:=λL Q=>a L λr L1=>Q (!r) L1
def a2a:BW:=λL Q=>Q true L
def a0i:AW:=λL Q=>Q [] L
def a0a (a:EW)(r:AW):AW:=λL Q=>a L λx L1=>r L1 λxs L2=>Q (x :: xs) L2
def a3w (a:AW):EW:=λL Q=>a L λxs L1=>xs.length≤big∧Q (.tup xs) L1
def a4b (a:AW):EW:=λL Q=>a L λxs L1=>xs.length≤big∧Q (.lst xs) L1
def a7a:OW:=λL Q=>Q none L
def a5h (a:EW):OW:=λL Q=>a L λx L1=>wp (a2n x) λi=>Q (some i) L1
def eSl (a:EW)(l h:OW):EW:=λL Q=>a L λx L1=>l L1 λi L2=>h L2 λj L3=>wp (a7p x i j) λz=>Q z L3
def eSlN (k:Nat)(l h:OW):EW:=λL Q=>wp (lk L k) λ_=>l L λi L2=>h L2 λj L3=>wp (lk L3 k) λx=>wp (a7p x i j) λz=>Q z L3
abbrev CW:=Nat→List FV→(FV×FV→Prop)→Prop
def a0l (call:CW) (f:Nat)(a:AW):EW:=λL Q=>a L λxs L1=>call f xs λz=>Q z.1 L1
def a1h (call:CW) (f i:Nat)(a:AW):EW:=λL Q=>wp (lk L i) λ_=>a L λxs L1=>wp (lk L1 i) λx=>call f (x :: xs) λz=>Q z.1 (L1.set i (some z.2))
def c5t (v y:FV):Option FV:=(a7b v).bind λxs=>if xs.length<big then some (.lst (xs++[y])) else none
def nscF:FV→Option (List FV)|.tup xs=>some xs|.lst xs=>some xs|_=>none
def extF (v y:FV):Option FV:=(a7b v).bind λxs=>(nscF y).bind λys=>if xs.length+ys.length≤big then some (.lst (xs++ys)) else none
def b1e (f:FV→FV→Option FV) (i:Nat)(a:EW):EW:=λL Q=>wp (lk L i) λv=>wp (a7b v) λ_=>a L λy L1=>wp (lk L1 i) λx=>wp (f x y) λz=>Q .non (L1.set i (some z))
def upF (lo:Int):Nat→List FV
 | 0=>[]
 | n+1=>.int lo :: upF (lo+1) n
def a4k (xs ys:List FV):List FV:=xs.zipWith (λp q=>.tup [p,q]) ys
def c8l (a:EW):AW:=λL Q=>a L λx L1=>wp (a3g x) λxs=>Q xs L1
def b4b (a:EW):AW:=λL Q=>a L λx L1=>wp (a2n x) λj=>a1d j=true∧Q (upF 0 j.toNat) L1
def iRng2 (a b:EW):AW:=λL Q=>a L λx L1=>b L1 λy L2=>wp (a2n x) λi=>wp (a2n y) λj=>(a1d i && a1d j)=true∧Q (upF i (j-i).toNat) L2
def d5d (a b:EW):AW:=λL Q=>a L λx L1=>b L1 λy L2=>wp (a3g x) λxs=>wp (a3g y) λys=>Q (a4k xs ys) L2
def b5j (a:EW):AW:=λL Q=>a L λx L1=>wp (a3g x) λxs=>Q (a4k (upF 0 xs.length) xs) L1
inductive Tg where|nm (i:Nat)|tp (is:List Nat)|tn (i:Nat)(is:List Nat)
def d8q:List FV→Option (FV×FV)|[a,b]=>some (a,b)|_=>none
def a6y:a0d→List Nat→List FV→Option a0d
 | L,[],[]=>some L
 | L,i :: is,v :: vs=>a6y (L.set i (some v)) is vs
 | _,_,_=>none
def gW (tg:Tg)(v:FV)(L:a0d)(Q:a0d→Prop):Prop:=match tg with
 | .nm i=>Q (L.set i (some v))
 | .tp is=>wp (a5s v) λxs=>wp (a6y L is xs) Q
 | .tn i is=>wp (a5s v) λxs=>wp (d8q xs) λp=>wp (a5s p.2) λys=>wp (a6y (L.set i (some p.1)) is ys) Q
def a5a (n m:Nat)(tg:Tg)(t:BW)(e:EW):List FV→List FV→a0d→(List FV→a0d→Prop)→Prop
 | [],acc,L,Q=>Q acc L
 | x :: xs,acc,L,Q=>gW tg x (L++Γj m none) λL1=>t L1 λb L2=>if b=true then e L2 λv L3=>a5a n m tg t e xs (acc++[v]) (L3.take n) Q else a5a n m tg t e xs acc (L2.take n) Q
def a2l (n m:Nat)(it:AW)(tg:Tg)(t:BW)(e:EW):EW:=λL Q=>it L λxs L1=>L1.length=n∧xs.length≤big∧a5a n m tg t e xs [] L1 λys L2=>Q (.lst ys) L2
inductive FFl where|next|ret (v:FV)|brk|cont
abbrev SW:=a0d→(FFl→a0d→Prop)→Prop
def aft (k:a0d→Prop)(Q:FFl→a0d→Prop):FFl→a0d→Prop
 | .next,L=>k L
 | .ret v,L=>Q (.ret v) L
 | .brk,L=>Q .brk L
 | .cont,L=>Q .cont L
def a3v:SW:=λL Q=>Q .next L
def a0t (s r:SW):SW:=λL Q=>s L (aft (λL1=>r L1 Q) Q)
def a1o (e:EW)(tg:Tg):SW:=λL Q=>e L λx L1=>gW tg x L1 λL2=>Q .next L2
def d7g (v j x:FV):Option FV:=(a7b v).bind λxs=>(a2n j).bind λn=>(ixN xs.length n).map λp=>.lst (xs.set p x)
def d4t (k:Nat)(i e:EW):SW:=λL Q=>wp (lk L k) λ_=>e L λx L1=>i L1 λj L2=>wp (lk L2 k) λy=>wp (d7g y j x) λz=>Q .next (L2.set k (some z))
def sAug (f:FV→FV→Option FV) (i:Nat)(e:EW):SW:=λL Q=>wp (lk L i) λa=>e L λx L1=>wp (f a x) λz=>Q .next (L1.set i (some z))
def a1j (e:EW):SW:=λL Q=>e L λx L1=>Q (.ret x) L1
def sRetN:SW:=λL Q=>Q (.ret .non) L
def b6b (e:EW):SW:=λL Q=>e L λ_ L1=>Q .next L1
def sIf (c:BW)(a b:SW):SW:=λL Q=>c L λr L1=>if r=true then a L1 Q else b L1 Q
def sBrk:SW:=λL Q=>Q .brk L
def sCont:SW:=λL Q=>Q .cont L
def b1z (k:a0d→Prop)(Q:FFl→a0d→Prop):FFl→a0d→Prop
 | .next,L=>k L
 | .cont,L=>k L
 | .brk,L=>Q .next L
 | .ret v,L=>Q (.ret v) L
def c5o (tg:Tg)(b:SW):List FV→a0d→(FFl→a0d→Prop)→Prop
 | [],L,Q=>Q .next L
 | x :: xs,L,Q=>gW tg x L λL1=>b L1 (b1z (λL2=>c5o tg b xs L2 Q) Q)
def b7b (it:AW)(tg:Tg)(b:SW):SW:=λL Q=>it L λxs L1=>c5o tg b xs L1 Q
def c9r (c:BW)(b:SW):Nat→a0d→(FFl→a0d→Prop)→Prop
 | 0,_,_=>False
 | n+1,L,Q=>c L λr L1=>if r=true then b L1 (b1z (λL2=>c9r c b n L2 Q) Q) else Q .next L1
def d4r (c:BW)(b:SW):SW:=λL Q=>∃ n,c9r c b n L Q
structure FD where
 np:Nat
 ns:Nat
 body:CW→SW
 io:Bool
 fr:Bool
def b9v (io fr:Bool)(Q:FV×FV→Prop):FFl→a0d→Prop
 | .ret v,L=>match io with
  | true=>wp (lk L 0) λx=>Q (v,x)
  | false=>Q (v,.non)
 | .next,L=>match fr with
  | true=>False
  | false=>match io with
   | true=>wp (lk L 0) λx=>Q (.non,x)
   | false=>Q (.non,.non)
 | _,_=>False
def callW (tb:List FD):Nat→CW
 | 0,_,_,_=>False
 | d+1,f,args,Q=>match tb[f]? with
  | none=>False
  | some fd=>args.length=fd.np∧fd.body (callW tb d) (args.map some++Γj (fd.ns-fd.np) none) (b9v fd.io fd.fr Q)
end Kq
end
section
namespace Kq
open PySem PySem.Spec PyProof.Rows L2
theorem b0l {x y:String}(h:Γe x=Γe y):x=y:=by
 rw[Str.ofString_eq_toList,Str.ofString_eq_toList] at h
 have h2:x.toList.map Char.toNat=y.toList.map Char.toNat:=by
  injection h with h
  simpa using congrArg Array.toList h
 have inj:∀ (a b:List Char),a.map Char.toNat=b.map Char.toNat→a=b:=by
  intro a
  induction a with
  | nil=>intro b hb;cases b<;>simp_all
  | cons c a ih =>
   intro b hb
   cases b with
   | nil=>simp at hb
   | cons d b =>
    simp only[List.map_cons,List.cons.injEq] at hb
    rw[ih b hb.2,Char.toNat_inj.mp hb.1]
 exact String.toList_inj.mp (inj _ _ h2)
theorem d0q (a b:String):(Γe a == Γe b)=(a == b):=by
 rw[Bool.eq_iff_iff]
 simp only[beq_iff_eq]
 exact⟨b0l,λh=>by rw[h]⟩
theorem a3f (x:String):PyData.strOk (Γe x)=true:=by
 rw[Str.ofString_eq_toList]
 unfold PyData.strOk
 simp only[List.all_toArray,List.all_map,List.all_eq_true,Function.comp_apply,decide_eq_true_eq]
 intro c _
 have h:c.val.toNat<0xd800 ∨ (0xdfff<c.val.toNat∧c.val.toNat<0x110000):=c.valid
 show c.val.toNat<1114112
 lia
mutual
theorem a6r:∀ d:D,(dPy d).canLay0=true
 | .non=>rfl
 | .bl _=>rfl
 | .int _=>rfl
 | .str x=>by simp only[dPy,PyData.canLay0];exact a3f x
 | .tup xs=>by simp only[dPy,PyData.canLay0];exact d_lays xs
 | .lst xs=>by simp only[dPy,PyData.canLay0];exact d_lays xs
theorem d_lays:∀ xs:List D,PyData.canLayAll0 (dPys xs)=true
 | []=>rfl
 | x :: xs=>by simp only[dPys,PyData.canLayAll0,a6r x,d_lays xs,Bool.and_self]
end
mutual
theorem c0j:∀ a b:D,PyData.eqv (dPy a) (dPy b)=D.eqv a b
 | .non,b=>by cases b<;>simp only[dPy,PyData.eqv,D.eqv]
 | .bl _,b=>by cases b<;>simp only[dPy,PyData.eqv,D.eqv]
 | .int _,b=>by cases b<;>simp only[dPy,PyData.eqv,D.eqv]
 | .str x,b=>by cases b<;>simp only[dPy,PyData.eqv,D.eqv,d0q]
 | .tup xs,b=>by cases b<;>simp only[dPy,PyData.eqv,D.eqv,d_eqvs]
 | .lst xs,b=>by cases b<;>simp only[dPy,PyData.eqv,D.eqv,d_eqvs]
theorem d_eqvs:∀ a b:List D,PyData.eqvAll (dPys a) (dPys b)=D.eqvs a b
 | [],b=>by cases b<;>simp only[dPys,PyData.eqvAll,D.eqvs]
 | x :: xs,b=>by cases b<;>simp only[dPys,PyData.eqvAll,D.eqvs,c0j,d_eqvs]
end
theorem c0k (x:D):∀ xs:List D,((dPys xs).any λy=>PyData.eqv y (dPy x))=xs.any λy=>D.eqv y x
 | []=>rfl
 | y :: r=>by simp only[dPys,List.any_cons,c0j,c0k x r]
mutual
theorem c4a:∀ d:D,(dPy d).hasDict=false
 | .non=>rfl
 | .bl _=>rfl
 | .int _=>rfl
 | .str x=>rfl
 | .tup xs=>by simp only[dPy,PyData.hasDict];exact d_nodicts xs
 | .lst xs=>by simp only[dPy,PyData.hasDict];exact d_nodicts xs
theorem d_nodicts:∀ xs:List D,PyData.hasDictAll (dPys xs)=false
 | []=>rfl
 | x :: xs=>by simp only[dPys,PyData.hasDictAll,c4a x,d_nodicts xs,Bool.or_self]
end
theorem log2_lt {i:Int}{k:Nat}(hk:0<k)(h:-(2 ^ k:Int)<i∧i<2 ^ k):i.natAbs.log2<k:=by
 by_cases h0:i.natAbs=0
 ·rw[h0];simpa using hk
 ·rw[Nat.log2_lt h0]
  have e:((2 ^ k:Nat):Int)=(2:Int) ^ k:=by rw[Int.natCast_pow];rfl
  lia
mutual
theorem e2i:∀ d:D,d.fit=true→(dPy d).showable=true∧(dPy d).intsShort 160=true∧(dPy d).weight≤d.wt
 | .non,_=>⟨rfl,rfl,Γi _⟩
 | .bl _,_=>⟨rfl,rfl,Γi _⟩
 | .int i,h=>by
  have h:-(2 ^ 150:Int)<i∧i<2 ^ 150:=by simpa[D.fit] using h
  have l1:=log2_lt (k:=150) (by decide) h
  refine⟨?_,?_,?_⟩
  ·simp only[dPy,PyData.showable,decide_eq_true_eq];lia
  ·simp only[dPy,PyData.intsShort,decide_eq_true_eq]
   have e:=int_text_length_le (k:=150) (by decide) l1
   show (Γe (toString i)).length≤160
   rw[PySem.ofString_length];lia
  ·simp only[dPy,PyData.weight,D.wt]
   split
   ·lia
   ·split
    ·rename_i hs
     have l2:=log2_lt (k:=40) (by decide) hs
     lia
    ·lia
 | .str x,_=>by
  refine⟨rfl,rfl,?_⟩
  simp only[dPy,PyData.weight,D.wt]
  have:(Γe x).length=x.length:=PySem.ofString_length x
  exact Nat.le_of_eq this
 | .tup xs,h=>by
  obtain⟨h1,h2,h3⟩:=d_fits xs (by simpa only[D.fit] using h)
  exact⟨by simpa only[dPy,PyData.showable] using h1,by simpa only[dPy,PyData.intsShort] using h2,by simpa only[dPy,PyData.weight,D.wt] using h3⟩
 | .lst xs,h=>by
  obtain⟨h1,h2,h3⟩:=d_fits xs (by simpa only[D.fit] using h)
  exact⟨by simpa only[dPy,PyData.showable] using h1,by simpa only[dPy,PyData.intsShort] using h2,by simpa only[dPy,PyData.weight,D.wt] using h3⟩
theorem d_fits:∀ xs:List D,D.fits xs=true→PyData.showableAll (dPys xs)=true∧PyData.intsShortAll 160 (dPys xs)=true∧PyData.weightAll (dPys xs)≤D.wts xs
 | [],_=>⟨rfl,rfl,Γi _⟩
 | x :: xs,h=>by
  have h:x.fit=true∧D.fits xs=true:=by simpa only[D.fits,Bool.and_eq_true] using h
  obtain⟨a1,a2,a3⟩:=e2i x h.1
  obtain⟨b1,b2,b3⟩:=d_fits xs h.2
  refine⟨?_,?_,?_⟩
  ·simp only[dPys,PyData.showableAll,a1,b1,Bool.and_self]
  ·simp only[dPys,PyData.intsShortAll,a2,b2,Bool.and_self]
  ·simp only[dPys,PyData.weightAll,D.wts];lia
end
theorem a5m {α β:Type}{f:α→Option β}:∀ {xs:List α}{ys:List β},a4m f xs=some ys→ys.length=xs.length
 | [],ys,h=>by cases h;rfl
 | x :: xs,ys,h=>by
  simp only[a4m] at h
  cases e1:f x with
  | none=>rw[e1] at h;cases h
  | some y =>
   rw[e1] at h
   cases e2:a4m f xs with
   | none=>simp only[Option.bind_some,e2] at h;cases h
   | some zs=>simp only[Option.bind_some,e2,Option.map_some] at h;cases h;rw[List.length_cons,List.length_cons,a5m e2]
theorem bnd {α β:Type}{o:Option α}{f:α→Option β}{z:β}(h:o.bind f=some z):∃ a,o=some a∧f a=some z:=Option.bind_eq_some_iff.mp h
theorem mpd {α β:Type}{o:Option α}{f:α→β}{z:β}(h:o.map f=some z):∃ a,o=some a∧f a=z:=Option.map_eq_some_iff.mp h
theorem itd {α:Type}{c:Prop} [Decidable c] {a b:α}(h:(if c then some a else none)=some b):c∧a=b:=by
 by_cases z:c
 ·rw[if_pos z] at h;exact⟨z,Option.some.inj h⟩
 ·rw[if_neg z] at h;cases h
theorem a5q:∀ {n:Nat}{p:FV}{d:D},fD n p=some d→(dPy d).depth≤n
 | 0,p,d,h=>by cases h
 | n+1,p,d,h=>by
  have ds:∀ {ps:List FV}{ds:List D},a4m (fD n) ps=some ds→PyData.depthAll (dPys ds)≤n:=by
   intro ps
   induction ps with
   | nil=>intro ds h;cases h;simp[dPys,PyData.depthAll]
   | cons q ps ih =>
    intro ds h
    obtain⟨y,e1,h⟩:=bnd h
    obtain⟨zs,e2,rfl⟩:=mpd h
    simp only[dPys,PyData.depthAll]
    exact Nat.max_le.mpr ⟨a5q e1,ih e2⟩
  cases p with
  | tup ps=>obtain⟨zs,e,rfl⟩:=mpd (show (a4m (fD n) ps).map D.tup=some d from h);simp only[dPy,PyData.depth];have:=ds e;lia
  | lst ps=>obtain⟨zs,e,rfl⟩:=mpd (show (a4m (fD n) ps).map D.lst=some d from h);simp only[dPy,PyData.depth];have:=ds e;lia
  | non=>cases h;simp[dPy,PyData.depth]
  | bl _=>cases h;simp[dPy,PyData.depth]
  | int _=>cases h;simp[dPy,PyData.depth]
  | str _=>cases h;simp[dPy,PyData.depth]
  | scr _=>cases h
  | shn _=>cases h
  | dct _ _=>cases h
  | dci _ _=>cases h
  | dcz _ _ _=>cases h
  | obj _ _ _ _=>cases h
  | dcn _ _ _=>cases h
section
variable {X:Cx}{pins:List (Addr×Obj)}{σ:L2.St}{S H:Hp}{s:Shared}
def e3p (X:Cx)(S:Hp)(s:Shared) (n:Nat):Prop:=∀ (p:FV)(v:V)(u:Value)(d:D),RV X.K S p v→RelV v u→fD n p=some d→∃ as,Reads s.heap u (dPy d) as
theorem a5z {n:Nat}(R:e3p X S s n):∀ {ps:List FV}{vs:List V}{us:List Value}{ds:List D},RVs X.K S ps vs→Vals vs us→a4m (fD n) ps=some ds→∃ as,ReadsAll s.heap us (dPys ds) as
 | [],vs,us,ds,r,q,h=>by
  cases (show vs=[] from r)
  cases q
  cases h
  exact⟨[],.nil⟩
 | p :: ps,vs,us,ds,r,rq,h=>by
  obtain⟨v1,vr,rfl,r1,r2⟩:=r
  cases rq with
  | cons q1 q2 =>
   obtain⟨y,e1,h⟩:=bnd h
   obtain⟨zs,e2,rfl⟩:=mpd h
   obtain⟨as,ra⟩:=R _ _ _ _ r1 q1 e1
   obtain⟨bs,rb⟩:=a5z R r2 q2 e2
   exact⟨as++bs,.cons ra rb⟩
theorem b0f {n:Nat}(I:Inv X pins σ H s)(R:e3p X S s n){a:Addr}{xs:List V}{ps:List FV}{d:D}(h1:H a=some (.lst xs))(h2:RVs X.K S ps xs)(h:(a4m (fD n) ps).map D.lst=some d):∃ as,Reads s.heap (.ref a) (dPy d) as:=by
 obtain⟨zs,e,rfl⟩:=mpd h
 obtain⟨its,rr,⟨o,k,e1,e2,e2',e3⟩,_⟩:=I.list (SqL.of h1)
 obtain⟨as,ra⟩:=a5z R h2 rr e
 exact⟨a :: as,.list e1 e2 e3 (by simpa using ra)⟩
theorem a8u (I:Inv X pins σ H s)(hs:Same S H):∀ n,e3p X S s n
 | 0,p,v,u,d,_,_,h=>by cases h
 | n+1,p,v,u,d,rp,rv,h=>by
  have R:=a8u I hs n
  cases p with
  | tup ps =>
   obtain⟨a,xs,rfl,h1,h2⟩:=rp
   cases (show u=Value.ref a from rv)
   obtain⟨zs,e,rfl⟩:=mpd (show (a4m (fD n) ps).map D.tup=some d from h)
   obtain⟨its,rr,⟨o,e1,e2,k,e3⟩,_⟩:=I.tuple (SqT.of (hs _ _ h1))
   obtain⟨as,ra⟩:=a5z R h2 rr e
   exact⟨as,.tuple e1 e2 e3 (by simpa using ra)⟩
  | lst ps =>
   obtain⟨a,xs,rfl,h1,h2⟩:=rp
   cases (show u=Value.ref a from rv)
   exact b0f I R (hs _ _ h1) h2 h
  | non=>cases h;cases (show v=_ from rp);cases (show u=_ from rv);exact⟨_,.none⟩
  | bl _=>cases h;cases (show v=_ from rp);cases (show u=_ from rv);exact⟨_,.bool _⟩
  | int _=>cases h;cases (show v=_ from rp);obtain⟨t,rfl⟩:=rv;exact⟨_,.int _ _⟩
  | str _=>cases h;cases (show v=_ from rp);obtain⟨t,rfl⟩:=rv;exact⟨_,.str _ _⟩
  | scr _=>cases h
  | shn _=>cases h
  | dct _ _=>cases h
  | dci _ _=>cases h
  | dcz _ _ _=>cases h
  | obj _ _ _ _=>cases h
  | dcn _ _ _=>cases h
theorem a3p (I:Inv X pins σ H s)(hs:Same S H){n:Nat}{p:FV}{v:V}{u:Value}{d:D}(rp:RH X.K S H p v)(rv:RelV v u)(h:fD n p=some d):∃ as,Reads s.heap u (dPy d) as:=by
 rcases rp with rp|⟨a,rfl,_,ps,xs,e,h1,h2⟩
 ·exact a8u I hs n p v u d rp rv h
 ·cases (show u=Value.ref a from rv)
  cases n with
  | zero=>cases h
  | succ n =>
   cases p with
   | lst qs=>cases e;exact b0f I (a8u I hs n) h1 h2 h
   | dct _ _=>cases h
   | dci _ _=>cases h
   | dcz _ _ _=>cases h
   | obj _ _ _ _=>cases h
   | dcn _ _ _=>cases h
   | _=>cases e
end
theorem a1g:big≤sizeLine:=by decide
theorem a0x {v:FV}{i:Int}(h:a2n v=some i):v=.int i:=by cases v<;>cases h;rfl
theorem d4n {v:FV}{i:Bool}(h:blF v=some i):v=.bl i:=by cases v<;>cases h;rfl
theorem a1t {v:FV}{i:List FV}(h:a5s v=some i):v=.tup i:=by cases v<;>cases h;rfl
theorem a9g {v:FV}{i:List FV}(h:a7b v=some i):v=.lst i:=by cases v<;>cases h;rfl
structure NewOr (K:Γd)(S H:Hp)(Q:VK)(z:FV):Prop where
 old:∀ x,(∀ ps,z≠.lst ps)→RV K S z x→Q x H
 tup:∀ ps xs p,z=.tup ps→RVs K S ps xs→H p=none→Q (.ref p) (upd H p (.tup xs))
 lst:∀ ps xs p,z=.lst ps→RVs K S ps xs→H p=none→Q (.ref p) (upd H p (.lst xs))
section
variable {X:Cx}{K:Γd}{S H:Hp}{Q:VK}
theorem NewOr.bl {b:Bool}(k:NewOr K S H Q (.bl b)):Q (.bl b) H:=k.old _ (λ_ z=>nomatch z) rfl
theorem NewOr.int {b:Int}(k:NewOr K S H Q (.int b)):Q (.int b) H:=k.old _ (λ_ z=>nomatch z) rfl
theorem RH.int {i:Int}{x:V}(h:RH K S H (.int i) x):x=.int i:=h.val rfl
theorem RH.bl {i:Bool}{x:V}(h:RH K S H (.bl i) x):x=.bl i:=h.val rfl
def Rq (K:Γd)(f:FV→FV→Option FV):R2:=λx y H Q=>∃ S v w z,Same S H∧RH K S H v x∧RH K S H w y∧f v w=some z∧NewOr K S H Q z
theorem a6z {g:Value→Value→Sem Value}{f:Int→Int→Option FV}{r:R2}(o:OpR X g r)(h:∀ i j z H Q,f i j=some z→(∀ x,(∀ S,RV X.K S z x)→Q x H)→r (.int i) (.int j) H Q)(n:∀ i j z,f i j=some z→∀ ps,z≠.lst ps):OpR X g (Rq X.K (a2q f)):=by
 intro pins s σ H x y u1 u2 Q I rx ry ⟨S,v,w,z,hs,hv,hw,e,k⟩
 obtain⟨i,e1,e⟩:=bnd e
 obtain⟨j,e2,e⟩:=bnd e
 cases a0x e1;cases a0x e2
 obtain rfl:=hv.int
 obtain rfl:=hw.int
 exact o pins s σ H _ _ u1 u2 Q I rx ry (h i j z H Q e λx hx=>k.old x (n i j z e) (hx S))
theorem d7z:OpR X (binaryOp .Sub) (Rq X.K b3c):=a6z d1t (λi j z H Q e k=>⟨i,j,rfl,rfl,k _ λS=>by cases e;rfl⟩) λi j z e ps=>by cases e;exact λz=>nomatch z
theorem d0z:OpR X (binaryOp .FloorDiv) (Rq X.K b9s):=a6z c7r (λi j z H Q e k=>⟨i,j,rfl,rfl,(itd e).1,k _ λS=>by cases (itd e).2;rfl⟩) λi j z e ps=>by cases (itd e).2;exact λz=>nomatch z
theorem d8c:OpR X (binaryOp .Mod) (Rq X.K c5e):=a6z d1x (λi j z H Q e k=>⟨i,j,rfl,rfl,(itd e).1,k _ λS=>by cases (itd e).2;rfl⟩) λi j z e ps=>by cases (itd e).2;exact λz=>nomatch z
theorem d8a:OpR X (binaryOp .Pow) (Rq X.K c2g):=a6z d1v (λi j z H Q e k=>⟨i,j,rfl,rfl,by
 obtain⟨h1,h2,h3⟩:=(itd e).1
 have:-(2 ^ 64)<i∧i<2 ^ 64:=by simpa[a2b] using h3
 exact⟨h1,by lia,by lia⟩,k _ λS=>by cases (itd e).2;rfl⟩) λi j z e ps=>by cases (itd e).2;exact λz=>nomatch z
theorem q_gt:OpR X (compareOp .Gt) (Rq X.K gtB):=a6z d8w (λi j z H Q e k=>⟨i,j,rfl,rfl,k _ λS=>by cases e;rfl⟩) λi j z e ps=>by cases e;exact λz=>nomatch z
theorem q_ge:OpR X (compareOp .GtE) (Rq X.K geB):=a6z d8x (λi j z H Q e k=>⟨i,j,rfl,rfl,k _ λS=>by cases e;rfl⟩) λi j z e ps=>by cases e;exact λz=>nomatch z
theorem d1c:OpR X (binaryOp .Add) (Rq X.K (a2q λi j=>some (.int (i+j)))):=a6z d2b (λi j z H Q e k=>⟨i,j,rfl,rfl,k _ λS=>by cases e;rfl⟩) λi j z e ps=>by cases e;exact λz=>nomatch z
theorem d0x:OpR X (binaryOp .Mult) (Rq X.K (a2q λi j=>if (a2b i || a2b j)=true then some (.int (i*j)) else none)):=a6z d1w (λi j z H Q e k=>⟨i,j,rfl,rfl,by
 have:=(itd e).1
 simp only[a2b,Bool.or_eq_true,decide_eq_true_eq] at this
 exact this,k _ λS=>by cases (itd e).2;rfl⟩) λi j z e ps=>by cases (itd e).2;exact λz=>nomatch z
theorem d8d:OpR X (compareOp .Lt) (Rq X.K (a2q λi j=>some (.bl (decide (i<j))))):=a6z d8u (λi j z H Q e k=>⟨i,j,rfl,rfl,k _ λS=>by cases e;rfl⟩) λi j z e ps=>by cases e;exact λz=>nomatch z
theorem d8f:OpR X (compareOp .LtE) (Rq X.K (a2q λi j=>some (.bl (decide (i≤j))))):=a6z d8v (λi j z H Q e k=>⟨i,j,rfl,rfl,k _ λS=>by cases e;rfl⟩) λi j z e ps=>by cases e;exact λz=>nomatch z
theorem d1b {xs ys:List FV}{x y:V}{z:FV}{pins:List (Addr×Obj)}{σ:L2.St}{s:Shared}{u1 u2:Value}(I:Inv X pins σ H s)(rx:RelV x u1)(ry:RelV y u2)(hs:Same S H)(hv:RH X.K S H (.tup xs) x)(hw:RH X.K S H (.tup ys) y)
  (e:(if xs.length+ys.length≤big then some (FV.tup (xs++ys)) else none)=some z)(k:NewOr X.K S H Q z):wpAny (model X.prog X.w) X.A (binaryOp .Add u1 u2) (EP X pins σ Q) X.xe s:=by
 obtain⟨hc,rfl⟩:=itd e
 have rv:=hv.val rfl
 have rw':=hw.val rfl
 obtain⟨a,as,rfl,ha,ra⟩:=hv.tup hs
 obtain⟨b,bs,rfl,hb,rb⟩:=hw.tup hs
 have l1:=ra.length
 have l2:=rb.length
 have hl:=a1g
 by_cases h0:as=[]
 ·subst h0
  have z2:xs=[]:=List.eq_nil_of_length_eq_zero (by simpa using l1)
  subst z2
  exact c2s pins s σ H _ _ u1 u2 Q I rx ry ⟨a,b,bs,rfl,rfl,SqT.of ha,SqT.of hb,k.old _ (λ_ z=>nomatch z) rw'⟩
 refine c7s pins s σ H _ _ u1 u2 Q I rx ry ⟨a,b,as,bs,rfl,rfl,SqT.of ha,SqT.of hb,h0,by lia,λz=>?_,λ_ p hp=>k.tup _ _ p rfl (ra.append rb) hp⟩
 subst z
 have z2:ys=[]:=List.eq_nil_of_length_eq_zero (by simpa using l2)
 subst z2
 exact k.old _ (λ_ z=>nomatch z) (by rw[List.append_nil];exact rv)
theorem d8h:OpR X (binaryOp .Add) (Rq X.K a3n):=by
 intro pins s σ H x y u1 u2 Q I rx ry ⟨S,v,w,z,hs,hv,hw,e,k⟩
 cases v with
 | tup xs =>
  obtain⟨ys,e1,e⟩:=bnd e
  cases a1t e1
  exact d1b I rx ry hs hv hw e k
 | lst xs =>
  obtain⟨ys,e1,e⟩:=bnd e
  cases a9g e1
  obtain⟨hc,rfl⟩:=itd e
  obtain⟨a,as,rfl,ha,ra⟩:=hv.lst hs
  obtain⟨b,bs,rfl,hb,rb⟩:=hw.lst hs
  have l1:=ra.length
  have l2:=rb.length
  have hl:=a1g
  exact d2a pins s σ H _ _ u1 u2 Q I rx ry ⟨a,b,as,bs,rfl,rfl,ha,hb,by lia,λp hp=>k.lst _ _ p rfl (ra.append rb) hp⟩
 | _=>exact d1c pins s σ H x y u1 u2 Q I rx ry ⟨S,_,w,z,hs,hv,hw,e,k⟩
theorem d8b:OpR X (binaryOp .Mult) (Rq X.K b8m):=by
 intro pins s σ H x y u1 u2 Q I rx ry ⟨S,v,w,z,hs,hv,hw,e,k⟩
 cases v with
 | lst xs =>
  obtain⟨j,e1,e⟩:=bnd e
  cases a0x e1
  obtain⟨hc,rfl⟩:=itd e
  obtain⟨a,as,rfl,ha,ra⟩:=hv.lst hs
  obtain rfl:=hw.int
  have l1:=ra.length
  have hl:=a1g
  exact d1u pins s σ H _ _ u1 u2 Q I rx ry ⟨a,j,as,rfl,rfl,ha,hc.1,hc.2.1,by rw[← l1];lia,λp hp=>k.lst _ _ p rfl (ra.rep _) hp⟩
 | _=>exact d0x pins s σ H x y u1 u2 Q I rx ry ⟨S,_,w,z,hs,hv,hw,e,k⟩
theorem a1f:∀ {ps:List FV}{xs:List V}{ns:List Int},RVs K S ps xs→a0u ps=some ns→xs=ns.map V.int
 | [],xs,ns,r,e=>by cases (show xs=[] from r);cases e;rfl
 | p :: ps,xs,ns,r,e=>by
  obtain⟨v,q,rfl,h1,h2⟩:=r
  cases p with
  | int i =>
   obtain⟨ms,z,rfl⟩:=mpd (show (a0u ps).map (i :: ·)=some ns from e)
   rw[a1f h2 z,List.map_cons,show v=.int i from h1]
  | _=>cases e
theorem a8g:∀ {ps:List FV}{xs:List V}{ns:List Bool},RVs K S ps xs→a5e ps=some ns→xs=ns.map V.bl
 | [],xs,ns,r,e=>by cases (show xs=[] from r);cases e;rfl
 | p :: ps,xs,ns,r,e=>by
  obtain⟨v,q,rfl,h1,h2⟩:=r
  cases p with
  | bl i =>
   obtain⟨ms,z,rfl⟩:=mpd (show (a5e ps).map (i :: ·)=some ns from e)
   rw[a8g h2 z,List.map_cons,show v=.bl i from h1]
  | _=>cases e
theorem c5i:∀ a b:List Int,Kq.lexLt a b=HT.lexLt a b
 | [],[]=>by simp[Kq.lexLt,HT.lexLt]
 | [],_ :: _=>by simp[Kq.lexLt,HT.lexLt]
 | _ :: _,[]=>by simp[Kq.lexLt,HT.lexLt]
 | a :: r,b :: q=>by
  simp only[Kq.lexLt,HT.lexLt,c5i r q]
  try (by_cases h:a=b<;>simp[h])
theorem b3u:∀ a b:List Int,Kq.lexLe a b=HT.lexLe a b
 | [],[]=>by simp[Kq.lexLe,HT.lexLe]
 | [],_ :: _=>by simp[Kq.lexLe,HT.lexLe]
 | _ :: _,[]=>by simp[Kq.lexLe,HT.lexLe]
 | a :: r,b :: q=>by
  simp only[Kq.lexLe,HT.lexLe,b3u r q]
  try (by_cases h:a=b<;>simp[h])
theorem d8e (hu:X.A.units+64<cLine):OpR X (compareOp .Lt) (Rq X.K ltB):=by
 intro pins s σ H x y u1 u2 Q I rx ry ⟨S,v,w,z,hs,hv,hw,e,k⟩
 cases v with
 | tup xs =>
  obtain⟨ys,e1,e⟩:=bnd e
  cases a1t e1
  obtain⟨ns,e2,e⟩:=bnd e
  obtain⟨ms,e3,e⟩:=bnd e
  cases e
  obtain⟨a,as,rfl,ha,ra⟩:=hv.tup hs
  obtain⟨b,bs,rfl,hb,rb⟩:=hw.tup hs
  cases a1f ra e2;cases a1f rb e3
  exact d1y (by lia) pins s σ H _ _ u1 u2 Q I rx ry ⟨a,b,ns,ms,rfl,rfl,SqT.of ha,SqT.of hb,by rw[← c5i];exact k.bl⟩
 | _=>exact d8d pins s σ H x y u1 u2 Q I rx ry ⟨S,_,w,z,hs,hv,hw,e,k⟩
theorem q_le (hu:X.A.units+64<cLine):OpR X (compareOp .LtE) (Rq X.K leB):=by
 intro pins s σ H x y u1 u2 Q I rx ry ⟨S,v,w,z,hs,hv,hw,e,k⟩
 cases v with
 | tup xs =>
  obtain⟨ys,e1,e⟩:=bnd e
  cases a1t e1
  obtain⟨ns,e2,e⟩:=bnd e
  obtain⟨ms,e3,e⟩:=bnd e
  cases e
  obtain⟨a,as,rfl,ha,ra⟩:=hv.tup hs
  obtain⟨b,bs,rfl,hb,rb⟩:=hw.tup hs
  cases a1f ra e2;cases a1f rb e3
  exact d1z (by lia) pins s σ H _ _ u1 u2 Q I rx ry ⟨a,b,ns,ms,rfl,rfl,SqT.of ha,SqT.of hb,by rw[← b3u];exact k.bl⟩
 | _=>exact d8f pins s σ H x y u1 u2 Q I rx ry ⟨S,_,w,z,hs,hv,hw,e,k⟩
theorem d3p {p q:FV}{b:Bool}(e:eqF p q=some b):(∃ d,p=.shn d∧q=.shn d∧b=true) ∨ ∃ x y,fD a0m p=some x∧fD a0m q=some y∧b=D.eqv x y:=by
 have gen:eqD p q=some b→∃ x y,fD a0m p=some x∧fD a0m q=some y∧b=D.eqv x y:=λe=>by
  obtain⟨x,e1,e⟩:=bnd e
  obtain⟨y,e2,e⟩:=bnd e
  cases e
  exact⟨x,y,e1,e2,rfl⟩
 unfold eqF at e
 split at e
 ·obtain⟨rfl,rfl⟩:=@itd _ _ (Classical.propDecidable _) _ _ e
  exact .inl ⟨_,rfl,rfl,rfl⟩
 ·exact .inr (gen e)
theorem d1a (hu:X.A.units+64<cLine)(neg:Bool):OpR X (compareOp (if neg then .NotEq else .Eq)) (Rq X.K λp q=>(eqF p q).map λr=>.bl (neg != r)):=by
 intro pins s σ H x y v u Q I rx ry ⟨S,p,q,z,hs,rp,rq,e,k⟩
 obtain⟨b,e',rfl⟩:=mpd (show (eqF p q).map (λr=>FV.bl (neg != r))=some z from e)
 have fin:=k.bl
 rcases d3p e' with⟨d,rfl,rfl,rfl⟩|⟨dx,dy,e1,e2,rfl⟩
 ·obtain rfl:x=.str (dPy d).shown:=rp.val rfl
  obtain rfl:y=.str (dPy d).shown:=rq.val rfl
  cases neg with
  | false=>exact d8y pins s σ H _ _ v u Q I rx ry ⟨rfl,by simpa using fin⟩
  | true=>exact d8t pins s σ H _ _ v u Q I rx ry ⟨rfl,by simpa using fin⟩
 ·obtain⟨as,ra⟩:=a3p I hs rp rx e1
  obtain⟨bs,rb⟩:=a3p I hs rq ry e2
  have hd:X.A.units+min (dPy dx).depth (dPy dy).depth<cLine:=by
   have h1:=a5q e1
   unfold a0m at h1
   lia
  cases neg with
  | false=>exact PySem.SeqAt.compareEq_reads ra rb (a6r dx) (a6r dy) hd ⟨.bl _,H,I,rfl,by rw[c0j];simpa using fin⟩
  | true=>exact PySem.SeqAt.compareNe_reads ra rb (a6r dx) (a6r dy) hd ⟨.bl _,H,I,rfl,by rw[c0j];simpa using fin⟩
theorem q_eq (hu:X.A.units+64<cLine):OpR X (compareOp .Eq) (Rq X.K eqB):=λpins s σ H x y v u Q I rx ry ⟨S,p,q,z,hs,rp,rq,e,k⟩=>d1a hu false pins s σ H x y v u Q I rx ry ⟨S,p,q,z,hs,rp,rq,by
 obtain⟨b,e1,rfl⟩:=mpd e
 show (eqF p q).map _=_
 rw[e1];cases b<;>rfl,k⟩
theorem q_ne (hu:X.A.units+64<cLine):OpR X (compareOp .NotEq) (Rq X.K neB):=λpins s σ H x y v u Q I rx ry ⟨S,p,q,z,hs,rp,rq,e,k⟩=>d1a hu true pins s σ H x y v u Q I rx ry ⟨S,p,q,z,hs,rp,rq,by
 obtain⟨b,e1,rfl⟩:=mpd e
 show (eqF p q).map _=_
 rw[e1];cases b<;>rfl,k⟩
theorem d8g (hu:X.A.units+64<cLine)(neg:Bool):OpR X (compareOp (if neg then .NotIn else .In)) (Rq X.K λp q=>(inF p q).map λr=>.bl (neg != r)):=by
 intro pins s σ H x y v u Q I rx ry ⟨S,p,q,z,hs,rp,rq,e,k⟩
 obtain⟨b,e',rfl⟩:=mpd (show (inF p q).map (λr=>FV.bl (neg != r))=some z from e)
 have fin:=k.bl
 obtain⟨dx,e1,e'⟩:=bnd e'
 obtain⟨dy,e2,e'⟩:=bnd e'
 obtain⟨as,ra⟩:=a3p I hs rp rx e1
 obtain⟨bs,rb⟩:=a3p I hs rq ry e2
 have hd:∀ ys,X.A.units+1+min (PyData.depthAll (dPys ys)) (dPy dx).depth<cLine:=λys=>by
  have h1:=a5q e1
  unfold a0m at h1
  lia
 cases dy with
 | lst ys =>
  cases e'
  simp only[dPy] at rb
  cases neg with
  | false=>exact PySem.SeqAt.in_list_reads rb ra (d_lays ys) (a6r dx) (hd ys) ⟨.bl _,H,I,rfl,by rw[c0k];simpa using fin⟩
  | true=>exact PySem.SeqAt.notIn_list_reads rb ra (d_lays ys) (a6r dx) (hd ys) ⟨.bl _,H,I,rfl,by rw[c0k];simpa using fin⟩
 | tup ys =>
  cases e'
  simp only[dPy] at rb
  cases neg with
  | false=>exact PySem.SeqAt.in_tuple_reads rb ra (d_lays ys) (a6r dx) (hd ys) ⟨.bl _,H,I,rfl,by rw[c0k];simpa using fin⟩
  | true=>exact PySem.SeqAt.notIn_tuple_reads rb ra (d_lays ys) (a6r dx) (hd ys) ⟨.bl _,H,I,rfl,by rw[c0k];simpa using fin⟩
 | _=>cases e'
theorem q_in (hu:X.A.units+64<cLine):OpR X (compareOp .In) (Rq X.K inB):=λpins s σ H x y v u Q I rx ry ⟨S,p,q,z,hs,rp,rq,e,k⟩=>d8g hu false pins s σ H x y v u Q I rx ry ⟨S,p,q,z,hs,rp,rq,by
 obtain⟨b,e1,rfl⟩:=mpd e
 show (inF p q).map _=_
 rw[e1];cases b<;>rfl,k⟩
theorem c9l {ps:List FV}{xs:List V}{i:Int}{p:FV}(r:RVs K S ps xs)(e:atF ps i=some p):∃ v,L2.atI xs i=some v∧RV K S p v:=by
 obtain⟨j,e1,e2⟩:=bnd e
 obtain⟨v,h1,h2⟩:=r.get e2
 refine⟨v,?_,h2⟩
 show (L2.ixN xs.length i).bind (λj=>xs[j]?)=some v
 rw[← r.length,show L2.ixN ps.length i=some j from e1]
 exact h1
def Ri (K:Γd):R2:=λx y H Q=>∃ S v w z,Same S H∧RH K S H v x∧RH K S H w y∧ixF v w=some z∧∀ u,RV K S z u→Q u H
theorem q_ix:IxR X (Ri X.K):=by
 intro value slice pins s σ H x y v u Q I rx ry ⟨S,p,q,z,hs,rp,rq,e,k⟩ hsl
 obtain⟨j,e1,e3⟩:=bnd e
 obtain⟨ps,e2,e4⟩:=bnd e3
 cases a0x e1
 obtain rfl:=rq.int
 obtain⟨a,xs,rfl,hq,r⟩:=rp.seq hs e2
 obtain⟨w,h1,h2⟩:=c9l r e4
 cases hb:isL p with
 | true=>rw[hb] at hq;exact c8g value slice pins s σ H _ _ v u Q I rx ry ⟨a,xs,j,w,rfl,rfl,hq,h1,k w h2⟩ hsl
 | false=>rw[hb] at hq;exact d2p value slice pins s σ H _ _ v u Q I rx ry ⟨a,xs,j,w,rfl,rfl,hq,h1,k w h2⟩ hsl
theorem b3f (n d:Nat)(o:Option Int):Kq.sIx n d o=HT.sIx n d o:=by
 cases o with
 | none=>rfl
 | some v=>simp only[Kq.sIx,HT.sIx];try (split<;>split<;>lia)
theorem c0m {ps:List FV}{xs:List V}{lo hi:Option Int}(r:RVs K S ps xs):RVs K S (b1h ps lo hi) (c5r xs lo hi):=by
 unfold b1h c5r
 rw[b3f,b3f,r.length]
 exact (r.drop _).take _
def Rsl (K:Γd):V→Option Int→Option Int→Hp→VK→Prop:=λx lo hi H Q=>∃ S v z,Same S H∧RH K S H v x∧a7p v lo hi=some z∧NewOr K S H Q z
theorem q_sl:SlR X (Rsl X.K):=by
 intro pins s σ H x v vl vu lo hi sl Q I rx hsl pl pu ⟨S,p,z,hs,rp,e,k⟩
 cases p with
 | tup ps =>
  cases e
  have rv:=rp.val rfl
  obtain⟨a,xs,rfl,ha,ra⟩:=rp.tup hs
  by_cases hc:HT.sIx xs.length 0 lo=0∧HT.sIx xs.length xs.length hi=xs.length
  ·refine c1s pins s σ H _ v vl vu lo hi sl Q I rx hsl pl pu ⟨a,xs,rfl,SqT.of ha,hc.1,hc.2,k.old _ (λ_ z=>nomatch z) ?_⟩
   have e:b1h ps lo hi=ps:=by
    unfold b1h
    rw[b3f,b3f,ra.length,hc.1,hc.2,List.drop_zero,Nat.sub_zero,List.take_of_length_le (Nat.le_of_eq ra.length)]
   rw[e];exact rv
  ·exact d0r pins s σ H _ v vl vu lo hi sl Q I rx hsl pl pu ⟨a,xs,rfl,SqT.of ha,hc,λp hp=>k.tup _ _ p rfl (c0m ra) hp⟩
 | lst ps =>
  cases e
  obtain⟨a,xs,rfl,ha,ra⟩:=rp.lst hs
  exact c6i pins s σ H _ v vl vu lo hi sl Q I rx hsl pl pu ⟨a,xs,rfl,SqL.of ha,λp hp=>k.lst _ _ p rfl (c0m ra) hp⟩
 | _=>cases e
end
section
variable {X:Cx}{K:Γd}{S H:Hp}{Q:VK}
def Rc (K:Γd)(f:FV→Option FV):List V→Hp→VK→Prop:=λxs H Q=>∃ S v x z,xs=[x]∧Same S H∧RH K S H v x∧f v=some z∧NewOr K S H Q z
def Rc2 (K:Γd)(f:FV→FV→Option FV):List V→Hp→VK→Prop:=λxs H Q=>∃ S v w x y z,xs=[x,y]∧Same S H∧RH K S H v x∧RH K S H w y∧f v w=some z∧NewOr K S H Q z
theorem d7e {b:Bool}{a:Addr}{xs:List V}(h:SqB b K H a xs):SqL K H a xs ∨ SqT K H a xs:=by cases b;exact .inr h;exact .inl h
theorem d4j:a1k X (.builtin "len") (Rc X.K a7g):=by
 rintro pins s σ H xs us Q I r ⟨S,v,x,z,rfl,hs,rv,e,k⟩
 obtain⟨ps,e1,rfl⟩:=mpd e
 obtain⟨a,ys,rfl,hq,ry⟩:=rv.seq hs e1
 refine b1l pins s σ H _ us Q I r ⟨a,ys,rfl,d7e hq,?_⟩
 rw[← ry.length]
 exact k.int
theorem e2m:a1k X (.builtin "abs") (Rc X.K d4o):=by
 rintro pins s σ H xs us Q I r ⟨S,v,x,z,rfl,hs,rv,e,k⟩
 obtain⟨i,e1,rfl⟩:=mpd e
 cases a0x e1
 obtain rfl:=rv.int
 exact c4g pins s σ H _ us Q I r ⟨i,rfl,k.int⟩
theorem e2k:a1k X (.type "int") (Rc X.K a7n):=by
 rintro pins s σ H xs us Q I r ⟨S,v,x,z,rfl,hs,rv,e,k⟩
 cases v with
 | int i =>
  cases e
  obtain rfl:=rv.int
  exact b1m pins s σ H _ us Q I r (.inl ⟨i,rfl,k.int⟩)
 | bl b =>
  cases e
  obtain rfl:=rv.bl
  exact b1m pins s σ H _ us Q I r (.inr ⟨b,rfl,k.int⟩)
 | _=>cases e
theorem c0x:a1k X (.type "tuple") (Rc X.K a1s):=by
 rintro pins s σ H xs us Q I r ⟨S,v,x,z,rfl,hs,rv,e,k⟩
 obtain⟨ps,e1,rfl⟩:=mpd e
 obtain⟨a,ys,rfl,hq,ry⟩:=rv.seq hs e1
 cases v with
 | tup qs=>cases e1;exact a2z pins s σ H _ us Q I r ⟨a,ys,rfl,.inr ⟨hq,k.old _ (λ_ z=>nomatch z) (rv.val rfl)⟩⟩
 | lst qs=>exact a2z pins s σ H _ us Q I r ⟨a,ys,rfl,.inl ⟨hq,λl hl=>k.tup _ _ l rfl ry hl⟩⟩
 | scr qs=>exact a2z pins s σ H _ us Q I r ⟨a,ys,rfl,.inl ⟨hq,λl hl=>k.tup _ _ l rfl ry hl⟩⟩
 | _=>cases e1
theorem d4h (hc:X.calm=true):a1k X (.builtin "min") (Rc2 X.K b8o):=by
 rintro pins s σ H xs us Q I r ⟨S,v,w,x,y,z,rfl,hs,rv,rw',e,k⟩
 obtain⟨i,e1,e2⟩:=bnd e
 obtain⟨j,e3,e4⟩:=bnd e2
 cases a0x e1;cases a0x e3;cases e4
 obtain rfl:=rv.int
 obtain rfl:=rw'.int
 exact c0w hc pins s σ H _ us Q I r ⟨i,j,rfl,k.int⟩
theorem Vals.mapInt {ns:List Int}:∀ {us:List Value},Vals (ns.map V.int) us→∀ i:Nat,i<ns.length→∃ t,us[i]?=some (.int (ns.getD i 0) t):=λ{us} r i hi=>by
 obtain⟨u,e,t,rfl⟩:=r.get (i:=i) (x:=.int (ns.getD i 0)) (by simp[hi])
 exact⟨t,e⟩
theorem a1u (ns:List Int):∀ j,j≤ns.length→preSum (λi=>ns.getD i 0) j=(ns.take j).sum
 | 0,_=>by simp[preSum]
 | j+1,h=>by
  have hj:j<ns.length:=h
  show preSum _ j+ns.getD j 0=_
  rw[a1u ns j (by lia),List.take_succ_eq_append_getElem hj,List.sum_append]
  simp[List.getD,hj]
theorem b6u (B:Int)(hB:0≤B):∀ ns:List Int,(∀ n∈ns,-B≤n∧n≤B)→-(B*ns.length)≤ns.sum∧ns.sum≤B*ns.length
 | [],_=>by simp
 | n :: r,h=>by
  have ih:=b6u B hB r λm hm=>h m (Γh _ hm)
  have hn:=h n Γn
  rw[List.sum_cons,List.length_cons]
  have e:B*((r.length+1:Nat):Int)=B*(r.length:Int)+B:=by rw[Int.natCast_add,Int.mul_add];simp
  rw[e]
  lia
theorem b5t (hc:X.calm=true):a1k X (.builtin "sum") (λxs H Q=>∃ (a:Addr)(ns:List Int),xs=[.ref a]∧SqL X.K H a (ns.map V.int)∧ns.length≤big∧(∀ n∈ns,-(2 ^ 40)≤n∧n≤2 ^ 40)∧Q (.int ns.sum) H):=by
 intro pins s σ H xs us Q I r h
 obtain⟨a,ns,rfl,hq,hz,hb,q⟩:=h
 obtain⟨u,rfl,rx⟩:=a4e r
 cases rx
 obtain⟨its,r',pl,hz'⟩:=I.list hq
 have hlen:ns.length=its.length:=by have:=r'.length;simpa using this
 have alt:a<s.heap.objs.size:=by obtain⟨_,e,_⟩:=pl.isList;exact Γl e
 have hh:X.A.in1.handled=none:=I.ok.hd hc
 refine call_sum_walk (wpAny_pyIter_list pl.isList ?_)
 refine⟨s.heap.objs.size,_,_,_,_,_,λi=>ns.getD i 0,rfl,Walks.list hh s.heap.objs.size a (Γo alt) its.toArray,⟨⟨_,Γm _ rfl,rfl,rfl⟩,pl.isList.at λo e=>Γc _ e⟩,?_,?_,?_,?_⟩
 ·intro b hb'
  simp at hb'
  rcases hb' with rfl|rfl
  ·show _<(s.heap.push _).objs.size;rw[Heap.size_push];exact Nat.lt_succ_self _
  ·show _<(s.heap.push _).objs.size;rw[Heap.size_push];exact Nat.lt_succ_of_lt alt
 ·intro i v hv
  have hv:its.toArray[i]?=some v:=hv
  have hi:i<ns.length:=by rw[hlen];simpa using (Array.getElem?_eq_some_iff.mp hv).1
  obtain⟨t,e⟩:=Vals.mapInt r' i hi
  refine⟨t,?_⟩
  have e':its.toArray[i]?=some (.int (ns.getD i 0) t):=by simpa using e
  rw[hv] at e'
  exact Option.some.inj e'
 ·intro j hj
  have hj':j<ns.length:=by rw[hlen];simpa using hj
  have hm:ns.getD j 0∈ns:=by simp[List.getD,hj']
  refine⟨?_,?_⟩
  ·have:=hb _ hm
   show -(2 ^ 63)≤ns.getD j 0∧ns.getD j 0<2 ^ 63
   lia
  ·rw[a1u ns (j+1) hj']
   have b2:=b6u 1099511627776 (by decide) (ns.take (j+1)) λn hn=>by have:=hb n (List.mem_of_mem_take hn);lia
   have l2:(ns.take (j+1)).length≤100000:=by rw[List.length_take];unfold big at hz;lia
   unfold InLong;lia
 ·intro h' tk t' hk
  have e:preSum (λi=>ns.getD i 0) its.toArray.size=ns.sum:=by
   rw[List.size_toArray,← hlen,a1u ns _ (Γi _),List.take_length]
  rw[e]
  refine⟨.int ns.sum,H,?_,⟨t',rfl⟩,q⟩
  exact I.kept (t':=tk) λb o e=>hk b o (by simp;exact Γo (Γl e)) (Γc _ e)
theorem c1o {prog:Program}{w:World}{A:Around}{its:List Value}{bs:List Bool}(r:Vals (bs.map V.bl) its):TruthOf prog w A (λi v=>its.toArray[i]?=some v) (λi=>bs.getD i false):=by
 intro i v s Q E hv hq
 have hlen:bs.length=its.length:=by have:=r.length;simpa using this
 have hi:i<bs.length:=by rw[hlen];simpa using (Array.getElem?_eq_some_iff.mp hv).1
 obtain⟨u,e,ru⟩:=r.get (i:=i) (x:=.bl (bs.getD i false)) (by simp[hi])
 have e':its.toArray[i]?=some u:=by simpa using e
 rw[hv] at e'
 cases e'
 cases ru
 exact Γb hq
theorem b7k (bs:List Bool):(List.range bs.length).all (λi=>bs.getD i false)=bs.all id:=by
 rw[Bool.eq_iff_iff]
 simp only[List.all_eq_true,List.mem_range,id]
 constructor
 ·intro h b hb
  obtain⟨i,hi,e⟩:=List.mem_iff_getElem.mp hb
  have:=h i hi
  simpa[List.getD,hi,e] using this
 ·intro h i hi
  have:=h bs[i] (List.getElem_mem hi)
  simpa[List.getD,hi] using this
theorem b5y (hc:X.calm=true):a1k X (.builtin "all") (λxs H Q=>∃ (a:Addr)(bs:List Bool),xs=[.ref a]∧SqL X.K H a (bs.map V.bl)∧Q (.bl (bs.all id)) H):=by
 intro pins s σ H xs us Q I r h
 obtain⟨a,bs,rfl,hq,q⟩:=h
 obtain⟨u,rfl,rx⟩:=a4e r
 cases rx
 obtain⟨its,r',pl,hz'⟩:=I.list hq
 have hlen:bs.length=its.length:=by have:=r'.length;simpa using this
 have alt:a<s.heap.objs.size:=by obtain⟨_,e,_⟩:=pl.isList;exact Γl e
 have hh:X.A.in1.handled=none:=I.ok.hd hc
 refine call_all_walk (wpAny_pyIter_list pl.isList ?_)
 refine⟨s.heap.objs.size,_,_,_,_,_,λi=>bs.getD i false,rfl,Walks.list hh s.heap.objs.size a (Γo alt) its.toArray,⟨⟨_,Γm _ rfl,rfl,rfl⟩,pl.isList.at λo e=>Γc _ e⟩,c1o r',?_⟩
 intro h' tk hk
 rw[List.size_toArray,← hlen,b7k]
 exact⟨.bl _,H,I.kept (t':=tk) λb o e=>hk b o (by simp;exact Γo (Γl e)) (Γc _ e),rfl,q⟩
theorem d4e (hc:X.calm=true):a1k X (.builtin "sum") (Rc X.K sumF):=by
 rintro pins s σ H xs us Q I r ⟨S,v,x,z,rfl,hs,rv,e,k⟩
 obtain⟨ps,e1,e2⟩:=bnd e
 obtain⟨n,e3,rfl⟩:=mpd e2
 obtain⟨ns,e4,e5⟩:=bnd e3
 obtain⟨hb,rfl⟩:=itd e5
 obtain⟨a,ys,rfl,hq,ry⟩:=rv.list hs e1
 cases a1f ry e4
 refine b5t hc pins s σ H _ us Q I r ⟨a,ns,rfl,hq,hb.1,λn hn=>?_,k.int⟩
 have:=List.all_eq_true.mp hb.2 n hn
 simpa[a8o] using this
theorem e2l (hc:X.calm=true):a1k X (.builtin "all") (Rc X.K c5u):=by
 rintro pins s σ H xs us Q I r ⟨S,v,x,z,rfl,hs,rv,e,k⟩
 obtain⟨ps,e1,e2⟩:=bnd e
 obtain⟨bs,e3,rfl⟩:=mpd e2
 obtain⟨a,ys,rfl,hq,ry⟩:=rv.list hs e1
 cases a8g ry e3
 exact b5y hc pins s σ H _ us Q I r ⟨a,bs,rfl,hq,k.bl⟩
end
structure CC where
 N:List Str
 sc:List (Str×NameKind)
 fns:List Str
 md:Md
 top:Bool
 oc:List (Str×NameKind)
 ms:List (Str×Addr×Str)
 fl:List (Addr×Str)
def CC.vis (C:CC)(x:Str):Bool:=match C.sc.lookup x with
 | some .local=>true
 | some .cell=>true
 | some .free=>true
 | _=>false
def CC.gl (C:CC)(x:Str):Bool:=decide (C.sc.lookup x=some .globalImplicit)
def CC.loc (C:CC)(x:Str):Bool:=match C.sc.lookup x with
 | some .local=>true
 | some .cell=>C.top || C.oc.lookup x == some .cell
 | _=>false
def CC.nm (C:CC) (i:Nat)(x:Str):Bool:=decide (C.N[i]?=some x) && C.vis x && !(x == ("__debug__":Str)) && !(x == ("__classdict__":Str))
def bltNames:List String:=["len","abs","int","sum","all","any","min","max","tuple","list","isinstance","range","zip","bool","str","enumerate","reversed","sorted","dict","set"]
def e3r (P:Program)(w:World)(K:Γd)(mg:Str→Option Value)(base:Heap) (n:Nat)(s:Sp)(c:Str)(Ca:Addr)(m:Str):Prop:=∃ fa fd ps,mg c=some (.ref Ca)∧Cls K Ca∧(m=("__init__":Str)→Mk K Ca fa)∧(m≠("__init__":Str)→Meth K Ca m fa)∧Binds K fd ps []∧FnOk P w K mg base CX0 n fa fd ps s
structure Good (X:Cx)(C:CC) (n:Nat)(sp:Γd→Nat→Sp):Prop where
 N:X.N=C.N
 sc:X.env.scope.names=C.sc
 kind:X.env.scope.kind=.function
 nd:C.N.Nodup
 calm:X.calm=true
 fn:∀ x,(C.top || C.oc.lookup x == some .cell)=true→X.fn x=true
 room:RoomS n X.A
 fns:∀ (f:Nat)(x:Str),C.fns[f]?=some x→∃ fa fd ps,X.mg x=some (.ref fa)∧PySem.W.keepIn X.K (.ref fa)=true∧Binds X.K fd ps []∧FnOk X.prog X.w X.K X.mg X.base CX0 n fa fd ps (sp X.K f)
 blt:∀ b∈bltNames,X.mg (Γe b)=none
 mts:∀ (k:Nat)(c:Str)(Ca:Addr)(m:Str),C.ms[k]?=some (c,Ca,m)→e3r X.prog X.w X.K X.mg X.base n (sp X.K (C.fns.length+k)) c Ca m
 fls:∀ p∈C.fl,Cls X.K p.1∧NoAttr X.K p.1 p.2
theorem b2 {a b:Bool}(h:(a && b)=true):a=true∧b=true:=by simpa using h
theorem nb {a:Bool}(h:(!a)=true):a=false:=by simpa using h
theorem de {p:Prop} [Decidable p] (h:decide p=true):p:=by simpa using h
def lv (K:Γd)(md:Md)(e:EW):TE:=λσ H Q=>∃ c L S Q0,Iv K c md L σ S H∧e L Q0∧∀ v L',Q0 v L'→∀ x S' H',RV K S' v x→Iv K c md L' σ S' H'→Same S S'→Q x H'
def lr (K:Γd)(md:Md)(e:EW):TE:=λσ H Q=>∃ c L S Q0,Iv K c md L σ S H∧e L Q0∧∀ v L',Q0 v L'→∀ x S' H',RH K S' H' v x→Iv K c md L' σ S' H'→Same S S'→Q x H'
def a6v (c:Cn)(md:Md)(L:a0d)(σ:L2.St)(a:Addr):Prop:=c.H0 a=none∧(∀ p∈c.pr,p.1≠a)∧∀ j w,a0n md j≠.imm→L[j]?=some (some w)→σ[j]?≠some (some (.ref a))
def lf (K:Γd)(md:Md)(e:EW):TE:=λσ H Q=>∃ c L S Q0,Iv K c md L σ S H∧e L Q0∧∀ v L',Q0 v L'→∀ a S' H',a3o K S' H' a v→a6v c md L' σ a→Iv K c md L' σ S' H'→Same S S'→Q (.ref a) H'
def lb (K:Γd)(md:Md)(e:BW):TT:=λσ H Q=>∃ c L S Q0,Iv K c md L σ S H∧e L Q0∧∀ v L',Q0 v L'→∀ S' H',Iv K c md L' σ S' H'→Same S S'→Q v H'
def la (K:Γd)(md:Md)(e:AW):TA:=λσ H Q=>∃ c L S Q0,Iv K c md L σ S H∧e L Q0∧∀ v L',Q0 v L'→∀ x S' H',RVs K S' v x→Iv K c md L' σ S' H'→Same S S'→Q x H'
def lo (K:Γd)(md:Md)(e:OW):TO:=λσ H Q=>∃ c L S Q0,Iv K c md L σ S H∧e L Q0∧∀ v L',Q0 v L'→∀ S' H',Iv K c md L' σ S' H'→Same S S'→Q v H'
def FE (X:Cx)(C:CC)(x:Expr)(e:EW):Prop:=PE X.nox x (lv X.K C.md e)
def FR (X:Cx)(C:CC)(x:Expr)(e:EW):Prop:=PE X.nox x (lr X.K C.md e)
def FF (X:Cx)(C:CC)(x:Expr)(e:EW):Prop:=PE X.nox x (lf X.K C.md e)
def FB (X:Cx)(C:CC)(x:Expr)(e:BW):Prop:=PT X.nox x (lb X.K C.md e)
def FW (X:Cx)(C:CC)(x:Expr)(e:BW):Prop:=PW X.nox x (lb X.K C.md e)
def FA (X:Cx)(C:CC)(x:List Expr)(e:AW):Prop:=PA X.nox x (la X.K C.md e)
def FO (X:Cx)(C:CC)(x:Option Expr)(e:OW):Prop:=L2.PO X.nox x (lo X.K C.md e)
section
variable {X:Cx}
theorem PE.imp {e:Expr}{t u:TE}(h:PE X e t)(f:∀ σ H Q,u σ H Q→t σ H Q):PE X e u:=λpins s σ H Q I hu=>h pins s σ H Q I (f σ H Q hu)
theorem PT.imp {e:Expr}{t u:TT}(h:PT X e t)(f:∀ σ H Q,u σ H Q→t σ H Q):PT X e u:=λpins s σ H Q I hu=>h pins s σ H Q I (f σ H Q hu)
theorem PW.imp {e:Expr}{t u:TT}(h:PW X e t)(f:∀ σ H Q,u σ H Q→t σ H Q):PW X e u:=λw pins s σ H Q I hu=>h w pins s σ H Q I (f σ H Q hu)
theorem PA.imp {e:List Expr}{t u:TA}(h:PA X e t)(f:∀ σ H Q,u σ H Q→t σ H Q):PA X e u:=λp pins s σ H Q I hu=>h p pins s σ H Q I (f σ H Q hu)
theorem PO.imp {e:Option Expr}{t u:TO}(h:L2.PO X e t)(f:∀ σ H Q,u σ H Q→t σ H Q):L2.PO X e u:=λpins s σ H Q I hu=>h pins s σ H Q I (f σ H Q hu)
end
section
variable {X:Cx}{C:CC}{n:Nat}{sp:Γd→Nat→Sp}
theorem Good.vis (G:Good X C n sp){x:Str}(h:C.vis x=true):Vis X.env.scope x:=by
 unfold CC.vis at h
 unfold Vis
 rw[G.sc]
 split at h
 ·rename_i e;exact .inl e
 ·rename_i e;exact .inr (.inl e)
 ·rename_i e;exact .inr (.inr e)
 ·cases h
theorem Good.gl (G:Good X C n sp){x:Str}(h:C.gl x=true):Gl X x:=by
 show X.env.scope.names.lookup x=_
 rw[G.sc];exact de h
theorem Good.loc (G:Good X C n sp){x:Str}(h:C.loc x=true):L2.Loc X.env.scope x∧(X.fn x=true ∨ X.env.scope.names.lookup x=some .local):=by
 unfold CC.loc at h
 unfold L2.Loc
 rw[G.sc]
 split at h
 ·rename_i e;exact⟨.inl e,.inr e⟩
 ·rename_i e;exact⟨.inr e,.inl (G.fn x h)⟩
 ·cases h
variable {K:Γd}{c:Cn}{md:Md}{L:a0d}{σ:L2.St}{S H:Hp}
theorem Iv.rd (I:Iv K c md L σ S H){i:Nat}{v:FV}(e:lk L i=some v):∃ x,σ[i]?=some (some x)∧RH K S H v x:=by
 rw[a4n] at e
 by_cases m:a0n md i=.imm
 ·obtain⟨x,h1,h2⟩:=I.imm i v m e
  exact⟨x,h1,.inl h2⟩
 ·obtain⟨a,h1,h2,_⟩:=I.own i v m e
  exact⟨_,h1,.inr ⟨a,rfl,h2⟩⟩
theorem b2j {Q:VK}{z:FV}(I:Iv K c md L σ S H)(k:∀ x S' H',RV K S' z x→Iv K c md L σ S' H'→Same S S'→Q x H'):NewOr K S H Q z where
 old:=λx _ r=>k x S H r I (Same.refl S)
 tup:=λps xs p e r hp=>k _ _ _ (by rw[e];exact⟨p,xs,rfl,a0e,r.mono (a0r (I.sn hp))⟩) (I.new hp _) (a0r (I.sn hp))
 lst:=λps xs p e r hp=>k _ _ _ (by rw[e];exact⟨p,xs,rfl,a0e,r.mono (a0r (I.sn hp))⟩) (I.new hp _) (a0r (I.sn hp))
theorem Iv.fresh (I:Iv K c md L σ S H){p:Addr}(h:H p=none):a6v c md L σ p:=by
 refine⟨I.h0 h,λq hq z=>?_,λj w m e z=>?_⟩
 ·rw[← z,(I.prs q hq).1] at h;cases h
 ·obtain⟨a,e1,⟨_,_,_,_,e2,_⟩,_⟩:=I.own j w m e
  rw[z] at e1;cases e1
  rw[h] at e2;cases e2
theorem d9a {Q:VK}{z:FV}(I:Iv K c md L σ S H)(hz:∃ ps,z=.lst ps)(k:∀ a S' H',a3o K S' H' a z→a6v c md L σ a→Iv K c md L σ S' H'→Same S S'→Q (.ref a) H'):NewOr K S H Q z where
 old:=λx n _=>let ⟨ps,e⟩:=hz;absurd e (n ps)
 tup:=λps xs p e r hp=>by obtain⟨qs,e2⟩:=hz;rw[e2] at e;cases e
 lst:=λps xs p e r hp=>by subst e;exact k p S _ ⟨I.sn hp,ps,xs,rfl,a0e,r⟩ (I.fresh hp) (I.lay hp _) (Same.refl S)
theorem fe_var (G:Good X C n sp){i:Nat}{x:Str}{pos:Pos}(h:C.nm i x=true)(m:a0n C.md i=.imm):FE X C (.Name x pos) (a0b i):=by
 have h:=b2 h;have h1:=b2 h.1;have h2:=b2 h1.1
 refine PE.imp (a7r (by show X.N[i]?=_;rw[G.N];exact de h2.1) (G.vis h2.2) (nb h1.2) (nb h.2)) λσ H Q ⟨c,L,S,Q0,I,h,k⟩=>?_
 obtain⟨v,e,q⟩:=wpx h
 obtain⟨x,e1,r⟩:=I.imm i v m ((a4n _ _ _).mp e)
 exact⟨x,e1,k v L q x S H r I (Same.refl S)⟩
theorem fr_var (G:Good X C n sp){i:Nat}{x:Str}{pos:Pos}(h:C.nm i x=true):FR X C (.Name x pos) (a0b i):=by
 have h:=b2 h;have h1:=b2 h.1;have h2:=b2 h1.1
 refine PE.imp (a7r (by show X.N[i]?=_;rw[G.N];exact de h2.1) (G.vis h2.2) (nb h1.2) (nb h.2)) λσ H Q ⟨c,L,S,Q0,I,h,k⟩=>?_
 obtain⟨v,e,q⟩:=wpx h
 obtain⟨x,e1,r⟩:=I.rd e
 exact⟨x,e1,k v L q x S H r I (Same.refl S)⟩
theorem fr_of {x:Expr}{e:EW}(h:FE X C x e):FR X C x e:=PE.imp h λσ H Q ⟨c,L,S,Q0,I,h,k⟩=>⟨c,L,S,Q0,I,h,λv L' q x S' H' r=>k v L' q x S' H' (.inl r)⟩
theorem d5s {x:Expr}{v:FV}{u:V}(h:PE X.nox x (tC u))(r:∀ S,RV X.K S v u):FE X C x (eC v):=PE.imp h λσ H Q ⟨c,L,S,Q0,I,h,k⟩=>k v L h u S H (r S) I (Same.refl S)
theorem fe_int {i j pos}:FE X C (.Constant (.int i) j pos) (eC (.int i)):=d5s d1p λ_=>rfl
theorem fe_bl {i j pos}:FE X C (.Constant (.bool i) j pos) (eC (.bl i)):=d5s d8o λ_=>rfl
theorem fe_non {j pos}:FE X C (.Constant .none j pos) (eC .non):=d5s d1n λ_=>rfl
theorem fe_str {i:String} {j pos}:FE X C (.Constant (.str (Γe i)) j pos) (eC (.str i)):=d5s c4y λ_=>rfl
section
variable {f:FV→FV→Option FV}{a b:Expr}{ea eb:EW}{pos:Pos}{i:Nat}{x:Str}
theorem a1c (G:Good X C n sp)(h:C.nm i x=true):PE X.nox (.Name x pos) (b6a i):=by
 have h:=b2 h;have h1:=b2 h.1;have h2:=b2 h1.1
 exact a7r (by show X.N[i]?=_;rw[G.N];exact de h2.1) (G.vis h2.2) (nb h1.2) (nb h.2)
theorem go2 {r:R2}{σ:L2.St}{H:Hp}{Q:VK}(hh:∃ (c:Cn)(L:a0d)(S:Hp)(Q0:FV→FV→a0d→Prop),Iv K c md L σ S H∧ea L (λx L1=>eb L1 λy L2=>Q0 x y L2)∧∀ v w L' S' H' x y,Q0 v w L'→RV K S' v x→RH K S' H' w y→Iv K c md L' σ S' H'→Same S S'→r x y H' Q):tOp r (lv K md ea) (lr K md eb) σ H Q:=by
 obtain⟨c,L,S,Q0,I,h,k⟩:=hh
 exact⟨c,L,S,_,I,h,λv L1 hv x S1 H1 r1 I1 s1=>⟨c,L1,S1,_,I1,hv,λw L2 hw y S2 H2 r2 I2 s2=>k v w L2 S2 H2 x y hw (r1.mono s2) r2 I2 (s1.trans s2)⟩⟩
theorem go2N {r:R2}{σ:L2.St}{H:Hp}{Q:VK}(hh:∃ (c:Cn)(L:a0d)(S:Hp)(Q0:FV→FV→a0d→Prop),Iv K c md L σ S H∧(wp (lk L i) λ_=>eb L λy L1=>wp (lk L1 i) λx=>Q0 x y L1)∧∀ v w L' S' H' x y,Q0 v w L'→RH K S' H' v x→RH K S' H' w y→Iv K c md L' σ S' H'→Same S S'→r x y H' Q):tOp r (b6a i) (lr K md eb) σ H Q:=by
 obtain⟨c,L,S,Q0,I,h,k⟩:=hh
 obtain⟨_,e,h⟩:=wpx h
 obtain⟨x,e1,_⟩:=I.rd e
 refine⟨x,e1,c,L,S,_,I,h,λw L2 hw y S2 H2 r2 I2 s2=>?_⟩
 obtain⟨v,e2,q⟩:=wpx hw
 obtain⟨x',e3,r1⟩:=I2.rd e2
 rw[e1] at e3;cases e3
 exact k v w L2 S2 H2 x y q r1 r2 I2 s2
theorem rq_v {Q0:FV→a0d→Prop}{Q:VK}{v w:FV}{x y:V}(I:Iv K c md L σ S H)(rv:RH K S H v x)(rw':RH K S H w y)(h:wp (f v w) λz=>Q0 z L)(k:∀ z,Q0 z L→∀ x S' H',RV K S' z x→Iv K c md L σ S' H'→Same S S'→Q x H'):Rq K f x y H Q:=by
 obtain⟨z,e,q⟩:=wpx h
 exact⟨S,v,w,z,I.sub,rv,rw',e,b2j I (k z q)⟩
theorem op_v (h:PE X.nox a (tOp (Rq X.K f) (lv X.K C.md ea) (lr X.K C.md eb))):FE X C a (eOp f ea eb):=PE.imp h λσ H Q ⟨c,L,S,Q0,I,h,k⟩ =>
 go2 ⟨c,L,S,λx y L2=>wp (f x y) λz=>Q0 z L2,I,h,λv w L' S' H' x y q r1 r2 I' s'=>rq_v I' (.inl r1) r2 q λz qz x S2 H2 r I2 s2=>k z L' qz x S2 H2 r I2 (s'.trans s2)⟩
variable {op:Operator}
theorem b2u (ho:OpR X.nox (binaryOp op) (Rq X.K f))(ha:FE X C a ea)(hb:FR X C b eb):FE X C (.BinOp a op b pos) (eOp f ea eb):=op_v (d8m ho ha hb)
theorem fe_add (ha:FE X C a ea)(hb:FR X C b eb):FE X C (.BinOp a .Add b pos) (eOp a3n ea eb):=b2u d8h ha hb
theorem fe_sub (ha:FE X C a ea)(hb:FR X C b eb):FE X C (.BinOp a .Sub b pos) (eOp b3c ea eb):=b2u d7z ha hb
theorem fe_mul (ha:FE X C a ea)(hb:FR X C b eb):FE X C (.BinOp a .Mult b pos) (eOp b8m ea eb):=b2u d8b ha hb
theorem e0l (ha:FE X C a ea)(hb:FR X C b eb):FE X C (.BinOp a .FloorDiv b pos) (eOp b9s ea eb):=b2u d0z ha hb
theorem fe_mod (ha:FE X C a ea)(hb:FR X C b eb):FE X C (.BinOp a .Mod b pos) (eOp c5e ea eb):=b2u d8c ha hb
theorem fe_pow (ha:FE X C a ea)(hb:FR X C b eb):FE X C (.BinOp a .Pow b pos) (eOp c2g ea eb):=b2u d8a ha hb
def d9d (f:FV→FV→Option FV)(v w:FV):Option FV:=(f v w).bind λz=>(a7b z).map λxs=>.lst xs
variable {cop:CmpOp}
theorem b0z (ho:OpR X.nox (compareOp cop) (Rq X.K f))(ha:FE X C a ea)(hb:FR X C b eb)(hm:behindInMarks cop b=false):FE X C (.Compare a [cop] [b] pos) (eOp f ea eb):=op_v (c7i ho ha hb hm)
def a4t (f:FV→FV→Option FV):Prop:=∀ v w z,f v w=some z→∃ b,z=.bl b
theorem d0f {Q0:Bool→a0d→Prop}{Q:Bool→Hp→Prop}{v w:FV}{x y:V}(tb:a4t f)(I:Iv K c md L σ S H)(rv:RH K S H v x)(rw':RH K S H w y)(h:wp (f v w) λz=>wp (c1f z) λb=>Q0 b L)(k:∀ z,Q0 z L→Q z H):Rq K f x y H (λx H'=>∃ k,x=.bl k∧Q k H'):=by
 obtain⟨z,e,q⟩:=wpx h
 obtain⟨b,rfl⟩:=tb v w z e
 exact⟨S,v,w,_,I.sub,rv,rw',e,⟨λx _ r=>⟨b,r,k b q⟩,λ_ _ _ e=>(nomatch e),λ_ _ _ e=>(nomatch e)⟩⟩
theorem a8c (tb:a4t f)(ho:OpR X.nox (compareOp cop) (Rq X.K f))(ha:FE X C a ea)(hb:FR X C b eb)(hm:behindInMarks cop b=false):FB X C (.Compare a [cop] [b] pos) (a1n (eOp f ea eb)):=PT.imp (c6v ho ha hb hm) λσ H Q ⟨c,L,S,Q0,I,h,k⟩ =>
 go2 ⟨c,L,S,λx y L2=>wp (f x y) λz=>wp (c1f z) λb=>Q0 b L2,I,h,λv w L' S' H' x y q r1 r2 I' s'=>d0f tb I' (.inl r1) r2 q λz qz=>k z L' qz S' H' I' s'⟩
end
end
def a0k:Expr→Bool|.Starred ..=>true|_=>false
def a3y:Expr→Bool|.Slice ..=>true|_=>false
def c4x:Expr→Bool
 | .UnaryOp .Not _ _=>false
 | .BoolOp ..=>false
 | .IfExp ..=>false
 | .Compare ..=>false
 | _=>true
section
variable {X:Cx}{C:CC}{n:Nat}{sp:Γd→Nat→Sp}{a b d x y z:Expr}{ea eb ec:EW}{pos:Pos}
theorem a0f {xs:List Expr}{env:Env}(h:a0k x=false):starEach (x :: xs) env=(false,eval x env) :: starEach xs env:=by
 cases x<;>first|rfl|(cases h;done)
theorem a8x (h:a3y y=false):c1e y:=by
 intro o i
 cases y<;>first|rfl|(cases h;done)
theorem b0i {env:Env}(h:c4x x=true):∀ a3d,isTrue x env a3d=(do let v ← a3d;standAt x.pos;holding [v] (PySem.truthy v)):=by
 intro a3d
 cases x<;>first|rfl|(cases h;done)|(rename_i op x pos;cases op<;>first|rfl|(cases h;done))
theorem fe_eq (G:Good X C n sp)(ha:FE X C a ea)(hb:FR X C b eb):FE X C (.Compare a [.Eq] [b] pos) (eOp eqB ea eb):=b0z (q_eq G.room.units) ha hb (a1w _ (by decide) (by decide))
theorem fe_ne (G:Good X C n sp)(ha:FE X C a ea)(hb:FR X C b eb):FE X C (.Compare a [.NotEq] [b] pos) (eOp neB ea eb):=b0z (q_ne G.room.units) ha hb (a1w _ (by decide) (by decide))
theorem fe_lt (G:Good X C n sp)(ha:FE X C a ea)(hb:FR X C b eb):FE X C (.Compare a [.Lt] [b] pos) (eOp ltB ea eb):=b0z (d8e G.room.units) ha hb (a1w _ (by decide) (by decide))
theorem fe_ge (ha:FE X C a ea)(hb:FR X C b eb):FE X C (.Compare a [.GtE] [b] pos) (eOp geB ea eb):=b0z q_ge ha hb (a1w _ (by decide) (by decide))
theorem c4r {f:FV→FV→Option Bool}{g:Bool→FV}(h:∀ b,∃ c,g b=.bl c):a4t λv w=>(f v w).map g:=λv w z e=>by
 obtain⟨b,_,rfl⟩:=mpd e
 exact h b
theorem b6s {f:Int→Int→Bool}:a4t (a2q λi j=>some (.bl (f i j))):=λv w z e=>by
 obtain⟨i,_,e⟩:=bnd e
 obtain⟨j,_,e⟩:=bnd e
 cases e;exact⟨_,rfl⟩
theorem d6q:a4t ltB:=λv w z e=>by
 cases v with
 | tup xs =>
  obtain⟨_,_,e⟩:=bnd e
  obtain⟨_,_,e⟩:=bnd e
  obtain⟨_,_,e⟩:=bnd e
  cases e;exact⟨_,rfl⟩
 | _=>exact b6s _ w z e
theorem d0g:a4t leB:=λv w z e=>by
 cases v with
 | tup xs =>
  obtain⟨_,_,e⟩:=bnd e
  obtain⟨_,_,e⟩:=bnd e
  obtain⟨_,_,e⟩:=bnd e
  cases e;exact⟨_,rfl⟩
 | _=>exact b6s _ w z e
theorem fb_eq (G:Good X C n sp)(ha:FE X C a ea)(hb:FR X C b eb):FB X C (.Compare a [.Eq] [b] pos) (a1n (eOp eqB ea eb)):=a8c (c4r λb=>⟨b,rfl⟩) (q_eq G.room.units) ha hb (a1w _ (by decide) (by decide))
theorem fb_ne (G:Good X C n sp)(ha:FE X C a ea)(hb:FR X C b eb):FB X C (.Compare a [.NotEq] [b] pos) (a1n (eOp neB ea eb)):=a8c (c4r λb=>⟨!b,rfl⟩) (q_ne G.room.units) ha hb (a1w _ (by decide) (by decide))
theorem fb_lt (G:Good X C n sp)(ha:FE X C a ea)(hb:FR X C b eb):FB X C (.Compare a [.Lt] [b] pos) (a1n (eOp ltB ea eb)):=a8c d6q (d8e G.room.units) ha hb (a1w _ (by decide) (by decide))
theorem fb_le (G:Good X C n sp)(ha:FE X C a ea)(hb:FR X C b eb):FB X C (.Compare a [.LtE] [b] pos) (a1n (eOp leB ea eb)):=a8c d0g (q_le G.room.units) ha hb (a1w _ (by decide) (by decide))
theorem fb_gt (ha:FE X C a ea)(hb:FR X C b eb):FB X C (.Compare a [.Gt] [b] pos) (a1n (eOp gtB ea eb)):=a8c b6s q_gt ha hb (a1w _ (by decide) (by decide))
variable {i:Nat}{nx:Str}{p:Pos}
section
variable {cop cop':CmpOp}{f g:FV→FV→Option FV}
theorem c4e (tf:a4t f){σ:L2.St}{S H:Hp}{Q:VK}{c:Cn}{L:a0d}{Q1:FV→a0d→Prop}(I:Iv X.K c C.md L σ S H)(h:b1f f g ea eb ec L Q1)
  (kf:∀ L' S' H',Q1 (.bl false) L'→Iv X.K c C.md L' σ S' H'→Same S S'→Q (.bl false) H')(kg:∀ w z L' S' H' y u,(wp (g w z) λq=>Q1 q L')→RV X.K S' w y→RH X.K S' H' z u→Iv X.K c C.md L' σ S' H'→Same S S'→Rq X.K g y u H' Q) :
  c4s (Rq X.K f) (Rq X.K g) (lv X.K C.md ea) (lv X.K C.md eb) (lr X.K C.md ec) σ H Q:=by
 refine⟨c,L,S,_,I,h,λv L1 hv x S1 H1 r1 I1 s1=>⟨c,L1,S1,_,I1,hv,λw L2 hw y S2 H2 r2 I2 s2=>?_⟩⟩
 obtain⟨r,e,q⟩:=wpx hw
 obtain⟨b,rfl⟩:=tf v w r e
 refine⟨S2,v,w,_,I2.sub,.inl (r1.mono s2),.inl r2,e,⟨λu _ ru=>⟨b,ru,?_⟩,λ_ _ _ e=>(nomatch e),λ_ _ _ e=>(nomatch e)⟩⟩
 have q:if b=true then ec L2 λz L3=>wp (g w z) λq=>Q1 q L3 else Q1 (.bl false) L2:=q
 cases b with
 | false=>rw[if_neg Γk] at q ⊢;exact kf L2 S2 H2 q I2 (s1.trans s2)
 | true =>
  rw[if_pos rfl] at q ⊢
  exact⟨c,L2,S2,_,I2,q,λz L3 hz u S3 H3 r3 I3 s3=>kg w z L3 S3 H3 y u hz (r2.mono s3) r3 I3 (s1.trans (s2.trans s3))⟩
theorem c3t (tf:a4t f)(ho:OpR X.nox (compareOp cop) (Rq X.K f))(ho':OpR X.nox (compareOp cop') (Rq X.K g))(ha:FE X C a ea)(hb:FE X C b eb)(hc:FR X C d ec)(hm:lastMarks [cop,cop'] [b,d]=false):FE X C (.Compare a [cop,cop'] [b,d] pos) (b1f f g ea eb ec) :=
 PE.imp (c2p ho ho' ha hb hc hm) λσ H Q ⟨c,L,S,Q0,I,h,k⟩=>c4e tf I h (λL' S' H' q I' s'=>k _ L' q _ S' H' rfl I' s') λw z L' S' H' y u q r1 r2 I' s'=>rq_v I' (.inl r1) r2 q λt qt x S4 H4 rt I4 s4=>k t L' qt x S4 H4 rt I4 (s'.trans s4)
theorem e0i (G:Good X C n sp)(ha:FE X C a ea)(hb:FE X C b eb)(hc:FR X C d ec)(hm:lastMarks [.LtE,.Lt] [b,d]=false):FE X C (.Compare a [.LtE,.Lt] [b,d] pos) (b1f leB ltB ea eb ec):=c3t d0g (q_le G.room.units) (d8e G.room.units) ha hb hc hm
end
end
section
variable {X:Cx}{C:CC}{n:Nat}{sp:Γd→Nat→Sp}{a b d x y z:Expr}{ea eb ec:EW}{ba bb:BW}{pos p:Pos}
variable {K:Γd}{c:Cn}{md:Md}{L:a0d}{σ:L2.St}{S H:Hp}
theorem c5d {v:FV}{x:V}(r1:RH K S H v x):a1y v=some (.bl (decide (x=V.non)))∧a1v v=some (.bl (!decide (x=V.non))):=by
 rcases r1 with r1|⟨a,rfl,_,ps,xs,e9,_⟩
 ·cases v<;>first|(cases (show x=_ from r1);simp[a1y,a1v];done)|(obtain⟨a,_,rfl,_⟩:=r1;simp[a1y,a1v];done)|(obtain⟨a,rfl,_⟩:=r1;simp[a1y,a1v];done)
 ·cases v<;>first|(cases e9;done)|simp[a1y,a1v]
theorem e2n {t:Bool}{v:FV}{x:V}(r1:RH K S H v x):b9d t v=some (.bl (decide (x=V.bl t)))∧a4l t v=some (.bl (!decide (x=V.bl t))):=by
 rcases r1 with r1|⟨a,rfl,_,ps,xs,e9,_⟩
 ·cases v<;>first|(cases (show x=_ from r1);simp[b9d,a4l];done)|(cases (show x=_ from r1);rename_i u;cases t<;>cases u<;>exact⟨rfl,rfl⟩)|(obtain⟨a,_,rfl,_⟩:=r1;simp[b9d,a4l];done)|(obtain⟨a,rfl,_⟩:=r1;simp[b9d,a4l];done)
 ·cases v<;>first|(cases e9;done)|simp[b9d,a4l]
theorem fb_isN {j pos'}(ha:FR X C a ea):FB X C (.Compare a [.Is] [.Constant .none j pos'] pos) (a1n (eUn a1y ea)):=PT.imp (b7q (d1r ha)) λσ H Q ⟨c,L,S,Q0,I,h,k⟩ =>
 ⟨c,L,S,_,I,h,λv L1 hv x S1 H1 r1 I1 s1=>by
  obtain⟨z,e3,q⟩:=wpx hv
  rw[(c5d r1).1] at e3;cases e3
  exact⟨_,rfl,k _ L1 q S1 H1 I1 s1⟩⟩
theorem e1n {j pos'}(ha:FR X C a ea):FB X C (.Compare a [.IsNot] [.Constant .none j pos'] pos) (a1n (eUn a1v ea)):=PT.imp (b7q (c7l ha)) λσ H Q ⟨c,L,S,Q0,I,h,k⟩ =>
 ⟨c,L,S,_,I,h,λv L1 hv x S1 H1 r1 I1 s1=>by
  obtain⟨z,e3,q⟩:=wpx hv
  rw[(c5d r1).2] at e3;cases e3
  exact⟨_,rfl,k _ L1 q S1 H1 I1 s1⟩⟩
theorem e1o {t:Bool} {j pos'}(ha:FR X C a ea):FB X C (.Compare a [.IsNot] [.Constant (.bool t) j pos'] pos) (a1n (eUn (a4l t) ea)):=PT.imp (b7q (c7m ha)) λσ H Q ⟨c,L,S,Q0,I,h,k⟩ =>
 ⟨c,L,S,_,I,h,λv L1 hv x S1 H1 r1 I1 s1=>by
  obtain⟨z,e3,q⟩:=wpx hv
  rw[(e2n r1).2] at e3;cases e3
  exact⟨_,rfl,k _ L1 q S1 H1 I1 s1⟩⟩
theorem fe_not (ha:FE X C a ea):FE X C (.UnaryOp .Not a pos) (eUn d4z ea):=PE.imp (d1m ha) λσ H Q ⟨c,L,S,Q0,I,h,k⟩ =>
 ⟨c,L,S,_,I,h,λv L1 hv x S1 H1 r1 I1 s1=>by
  obtain⟨z,e,q⟩:=wpx hv
  obtain⟨b,e1,rfl⟩:=mpd e
  cases d4n e1
  exact⟨b,r1,k _ L1 q _ S1 H1 rfl I1 s1⟩⟩
theorem fe_neg (ha:FE X C a ea):FE X C (.UnaryOp .USub a pos) (eUn d2f ea):=PE.imp (d8l d0c ha) λσ H Q ⟨c,L,S,Q0,I,h,k⟩ =>
 ⟨c,L,S,_,I,h,λv L1 hv x S1 H1 r1 I1 s1=>by
  obtain⟨z,e,q⟩:=wpx hv
  obtain⟨b,e1,rfl⟩:=mpd e
  cases a0x e1
  exact⟨b,r1,k _ L1 q _ S1 H1 rfl I1 s1⟩⟩
theorem b6o {v:FV}{u:V}{t:Bool}(s:Same S H)(r:RH K S H v u)(e:c1f v=some t):d4p K u H t:=by
 have em:∀ {ps:List FV}{xs:List V},RVs K S ps xs→(!ps.isEmpty) = !xs.isEmpty:=λ{ps xs} h=>by cases ps<;>cases xs<;>first|rfl|(have:=h.length;simp at this)
 cases v with
 | non=>cases (show u=V.non from r.val rfl);cases e;exact rfl
 | bl c=>cases r.bl;cases e;exact rfl
 | int c=>cases r.int;cases e;exact rfl
 | str c=>cases e
 | shn c=>cases e
 | dct _ _=>cases e
 | dci _ _=>cases e
 | dcz _ _ _=>cases e
 | obj _ _ _ _=>cases e
 | dcn _ _ _=>cases e
 | tup ps =>
  obtain⟨a,xs,rfl,h1,h2⟩:=r.tup s
  cases e
  exact .inr (.inl ⟨xs,SqT.of h1,em h2⟩)
 | lst l =>
  obtain⟨a,xs,rfl,h1,h2⟩:=r.lst s
  cases e
  exact .inl ⟨xs,SqL.of h1,em h2⟩
 | scr ns =>
  cases e
  obtain⟨a,xs,rfl,h1,h2⟩:=r.list s (show a2f (.scr ns)=_ from rfl)
  refine .inl ⟨_,h1,?_⟩
  rw[← em h2];cases ns<;>rfl
theorem c7k {rest:List Expr}{ta tb:TE}(ha:PE X a ta)(hb:PE X (.BoolOp .And (b :: rest) pos) tb) :
  PE X (.BoolOp .And (a :: b :: rest) pos) (λσ H Q=>ta σ H λx H1=>∃ c,d4p X.K x H1 c∧(if c=true then tb σ H1 Q else Q x H1)):=by
 intro pins s σ H Q I h
 refine BoolOp_and (thn (ha pins s σ H _ I h) λv s1 ⟨x,H1,I1,r1,c,tv,q1⟩=>?_)
 refine thn (b6p pins s1 σ H1 x v (λc' H'=>c'=c∧H'=H1) I1 r1 ⟨c,tv,rfl,rfl⟩) λb s2 ⟨H2,I2,e1,e2⟩=>?_
 subst e1 e2
 cases b with
 | true=>exact hb pins s2 σ H2 Q I2 (by simpa using q1)
 | false=>exact⟨x,H2,I2,r1,by simpa using q1⟩
theorem fe_one {op:BoolOp}(ha:FE X C a ea):FE X C (.BoolOp op [a] pos) ea:=d1l ha
theorem fe_and {rest:List Expr}(ha:FE X C a ea)(hb:FE X C (.BoolOp .And (b :: rest) pos) eb):FE X C (.BoolOp .And (a :: b :: rest) pos) (b4h ea eb):=PE.imp (c7k ha hb) λσ H Q ⟨c,L,S,Q0,I,h,k⟩ =>
 ⟨c,L,S,_,I,h,λv L1 hv x S1 H1 r1 I1 s1=>by
  obtain⟨t,e,q⟩:=wpx hv
  refine⟨t,b6o I1.sub (.inl r1) e,?_⟩
  cases t with
  | true=>exact⟨c,L1,S1,Q0,I1,q,λv L' q x S' H' r I' s'=>k v L' q x S' H' r I' (s1.trans s')⟩
  | false=>exact k v L1 q x S1 H1 r1 I1 s1⟩
theorem fe_if (hc:FB X C d ba)(ha:FE X C a ea)(hb:FE X C b eb):FE X C (.IfExp d a b pos) (eIf ba ea eb):=PE.imp (c2m hc ha hb) λσ H Q ⟨c,L,S,Q0,I,h,k⟩ =>
 ⟨c,L,S,_,I,h,λt L1 hv S1 H1 I1 s1=>by
  cases t with
  | true=>exact⟨c,L1,S1,Q0,I1,hv,λv L' q x S' H' r I' s'=>k v L' q x S' H' r I' (s1.trans s')⟩
  | false=>exact⟨c,L1,S1,Q0,I1,hv,λv L' q x S' H' r I' s'=>k v L' q x S' H' r I' (s1.trans s')⟩⟩
theorem fb_val (hp:c4x a=true)(ha:FR X C a ea):FB X C a (a1n ea):=PT.imp (c2c ha (b0i hp)) λσ H Q ⟨c,L,S,Q0,I,h,k⟩ =>
 ⟨c,L,S,_,I,h,λv L1 hv x S1 H1 r1 I1 s1=>by
  obtain⟨t,e,q⟩:=wpx hv
  exact⟨t,b6o I1.sub r1 e,k t L1 q S1 H1 I1 s1⟩⟩
theorem fb_not (ha:FB X C a ba):FB X C (.UnaryOp .Not a pos) (a9v ba):=PT.imp (b3k ha) λσ H Q ⟨c,L,S,Q0,I,h,k⟩=>⟨c,L,S,_,I,h,λt L1 hv S1 H1 I1 s1=>k _ L1 hv S1 H1 I1 s1⟩
theorem d9l (ha:FB X C a ba):FW X C (.BoolOp .And [a] pos) ba:=c6s ha
theorem fw_or1 (ha:FB X C a ba):FW X C (.BoolOp .Or [a] pos) ba:=c4u ha
theorem fw_and {rest:List Expr}(ha:FB X C a ba)(hb:FW X C (.BoolOp .And (b :: rest) pos) bb):FW X C (.BoolOp .And (a :: b :: rest) pos) (c9y ba bb):=PW.imp (d1d ha hb) λσ H Q ⟨c,L,S,Q0,I,h,k⟩ =>
 ⟨c,L,S,_,I,h,λt L1 hv S1 H1 I1 s1=>by
  cases t with
  | true=>exact⟨c,L1,S1,Q0,I1,hv,λv L' q S' H' I' s'=>k v L' q S' H' I' (s1.trans s')⟩
  | false=>exact k _ L1 hv S1 H1 I1 s1⟩
theorem fw_or {rest:List Expr}(ha:FB X C a ba)(hb:FW X C (.BoolOp .Or (b :: rest) pos) bb):FW X C (.BoolOp .Or (a :: b :: rest) pos) (bOr ba bb):=PW.imp (c6r ha hb) λσ H Q ⟨c,L,S,Q0,I,h,k⟩ =>
 ⟨c,L,S,_,I,h,λt L1 hv S1 H1 I1 s1=>by
  cases t with
  | false=>exact⟨c,L1,S1,Q0,I1,hv,λv L' q S' H' I' s'=>k v L' q S' H' I' (s1.trans s')⟩
  | true=>exact k _ L1 hv S1 H1 I1 s1⟩
theorem fb_w (h:FW X C a ba):FB X C a ba:=PW.pt h
theorem fa_nil:FA X C [] a0i:=PA.imp a0y λσ H Q ⟨c,L,S,Q0,I,h,k⟩=>k [] L h [] S H rfl I (Same.refl S)
theorem e1q {xs:List Expr}{as:AW}(hs:a0k a=false)(ha:FE X C a ea)(hr:FA X C xs as):FA X C (a :: xs) (a0a ea as):=PA.imp (a0h ha hr (a0f hs)) λσ H Q ⟨c,L,S,Q0,I,h,k⟩ =>
 ⟨c,L,S,_,I,h,λv L1 hv x S1 H1 r1 I1 s1=>⟨c,L1,S1,_,I1,hv,λvs L2 hvs us S2 H2 r2 I2 s2=>k _ L2 hvs _ S2 H2 ⟨x,us,rfl,r1.mono s2,r2⟩ I2 (s1.trans s2)⟩⟩
theorem fe_tup {xs:List Expr}{as:AW}{m:Nat}(h:FA X C xs as):FE X C (.Tuple xs m pos) (a3w as):=PE.imp (b3n h) λσ H Q ⟨c,L,S,Q0,I,h,k⟩ =>
 ⟨c,L,S,_,I,h,λvs L1 hv us S1 H1 r1 I1 s1=>⟨by have:=a1g;rw[← r1.length];exact Nat.le_trans hv.1 this,λp hp=>(b2j I1 λx S' H' r I' s'=>k _ L1 hv.2 x S' H' r I' (s1.trans s')).tup _ _ p rfl r1 hp⟩⟩
theorem fe_lst {xs:List Expr}{as:AW}(h:FA X C xs as):FE X C (.List xs pos) (a4b as):=PE.imp (b8a h) λσ H Q ⟨c,L,S,Q0,I,h,k⟩ =>
 ⟨c,L,S,_,I,h,λvs L1 hv us S1 H1 r1 I1 s1=>⟨by have:=a1g;rw[← r1.length];exact Nat.le_trans hv.1 this,λp hp=>(b2j I1 λx S' H' r I' s'=>k _ L1 hv.2 x S' H' r I' (s1.trans s')).lst _ _ p rfl r1 hp⟩⟩
theorem ff_lst {xs:List Expr}{as:AW}(h:FA X C xs as):FF X C (.List xs pos) (a4b as):=PE.imp (b8a h) λσ H Q ⟨c,L,S,Q0,I,h,k⟩ =>
 ⟨c,L,S,_,I,h,λvs L1 hv us S1 H1 r1 I1 s1=>⟨by have:=a1g;rw[← r1.length];exact Nat.le_trans hv.1 this,λp hp=>(d9a I1 ⟨vs,rfl⟩ λa S' H' o fr I' s'=>k _ L1 hv.2 a S' H' o fr I' (s1.trans s')).lst _ _ p rfl r1 hp⟩⟩
theorem fe_ix (hs:a3y b=false)(ha:FE X C a ea)(hb:FR X C b eb):FE X C (.Subscript a b pos) (eOp ixF ea eb):=PE.imp (d1o q_ix ha hb (a8x hs)) λσ H Q ⟨c,L,S,Q0,I,h,k⟩ =>
 go2 ⟨c,L,S,λx y L2=>wp (ixF x y) λz=>Q0 z L2,I,h,λv w L' S' H' x y q r1 r2 I' s'=>by
  obtain⟨z,e,q⟩:=wpx q
  exact⟨S',v,w,z,I'.sub,.inl r1,r2,e,λu r=>k z L' q u S' H' r I' s'⟩⟩
theorem fe_ixN (G:Good X C n sp){i:Nat}{nx:Str}(hs:a3y b=false)(h:C.nm i nx=true)(hb:FR X C b eb):FE X C (.Subscript (.Name nx p) b pos) (b5o ixF i eb):=PE.imp (d1o q_ix (a1c G h) hb (a8x hs)) λσ H Q ⟨c,L,S,Q0,I,h,k⟩ =>
 go2N ⟨c,L,S,λx y L2=>wp (ixF x y) λz=>Q0 z L2,I,h,λv w L' S' H' x y q r1 r2 I' s'=>by
  obtain⟨z,e,q⟩:=wpx q
  exact⟨S',v,w,z,I'.sub,r1,r2,e,λu r=>k z L' q u S' H' r I' s'⟩⟩
theorem d9t:FO X C none a7a:=PO.imp c7c λσ H Q ⟨c,L,S,Q0,I,h,k⟩=>k none L h S H I (Same.refl S)
theorem d9s (h:FE X C a ea):FO X C (some a) (a5h ea):=PO.imp (c7b h) λσ H Q ⟨c,L,S,Q0,I,h,k⟩ =>
 ⟨c,L,S,_,I,h,λv L1 hv x S1 H1 r1 I1 s1=>by
  obtain⟨i,e,q⟩:=wpx hv
  cases a0x e
  exact⟨i,r1,k _ L1 q S1 H1 I1 s1⟩⟩
variable {xl xh:Option Expr}{wl wh:OW}{p2:Pos}
theorem fe_sl (ha:FE X C a ea)(hl:FO X C xl wl)(hh:FO X C xh wh):FE X C (.Subscript a (.Slice xl xh none p2) pos) (eSl ea wl wh):=PE.imp (c2k q_sl ha hl hh) λσ H Q ⟨c,L,S,Q0,I,h,k⟩ =>
 ⟨c,L,S,_,I,h,λv L1 hv x S1 H1 r1 I1 s1=>⟨c,L1,S1,_,I1,hv,λo1 L2 h1 S2 H2 I2 s2=>⟨c,L2,S2,_,I2,h1,λo2 L3 h2 S3 H3 I3 s3=>by
  obtain⟨z,e,q⟩:=wpx h2
  exact⟨S3,v,z,I3.sub,.inl (r1.mono (s2.trans s3)),e,b2j I3 λx S' H' r I' s'=>k z L3 q x S' H' r I' (s1.trans (s2.trans (s3.trans s')))⟩⟩⟩⟩
end
section
variable {X:Cx}{C:CC}{n:Nat}{sp:Γd→Nat→Sp}{a b d x y z:Expr}{ea eb ec:EW}{ba bb:BW}{pos p:Pos}
variable {K:Γd}{c:Cn}{md:Md}{L:a0d}{σ:L2.St}{S H:Hp}{i:Nat}{nx:Str}
variable {xl xh:Option Expr}{wl wh:OW}{p2:Pos}
def sliceL (k:Nat)(l h:OW):EW:=λL Q=>eSlN k l h L λz L'=>isL z=true∧(∃ ps,z=.lst ps)∧Q z L'
theorem d4b {f:FV→Option FV}{Q:VK}(hh:lv K md (eUn f ea) σ H Q):tCB (Rc K f) (c1p (lr K md ea) d6w) σ H Q:=by
 obtain⟨c,L,S,Q0,I,h,k⟩:=hh
 refine⟨c,L,S,_,I,h,λv L1 hv x S1 H1 r1 I1 s1=>?_⟩
 obtain⟨z,e,q⟩:=wpx hv
 exact⟨S1,v,x,z,rfl,I1.sub,r1,e,b2j I1 λx S' H' r I' s'=>k z L1 q x S' H' r I' (s1.trans s')⟩
theorem b1a {id nm:String}{f:FV→Option FV}(hc:a1k X.nox (.builtin id) (Rc X.K f))(G:Good X C n sp)(hb:nm∈bltNames)(hv:bootBuiltins (Γe nm)=some (.builtin id))(h1:Γe nm≠"__name__")(h2:(Γe nm == ("__debug__":Str))=false)(hg:C.gl (Γe nm)=true)(hs:a0k a=false)(ha:FR X C a ea) :
  FE X C (.Call (.Name (Γe nm) p) [a] [] pos) (eUn f ea):=PE.imp (a2i hc (G.gl hg) (G.blt nm hb) hv (a0h ha a0y (a0f hs)) h1 h2 (a0f hs) rfl) λσ H Q h=>d4b h
theorem d3m {T nm:String}{f:FV→Option FV}(hc:a1k X.nox (.type T) (Rc X.K f))(G:Good X C n sp)(hb:nm∈bltNames)(hv:bootBuiltins (Γe nm)=some (.type T))(h1:Γe nm≠"__name__")(h2:(Γe nm == ("__debug__":Str))=false)(hg:C.gl (Γe nm)=true)(hs:a0k a=false)(ha:FR X C a ea) :
  FE X C (.Call (.Name (Γe nm) p) [a] [] pos) (eUn f ea):=PE.imp (b0k hc (G.gl hg) (G.blt nm hb) hv (a0h ha a0y (a0f hs)) h1 h2 (a0f hs) rfl) λσ H Q h=>d4b h
theorem fe_len (G:Good X C n sp)(hg:C.gl (Γe "len")=true)(hs:a0k a=false)(ha:FR X C a ea):FE X C (.Call (.Name (Γe "len") p) [a] [] pos) (eUn a7g ea):=b1a d4j G (by decide) (by nofun) (by nofun) (by nofun) hg hs ha
theorem fe_abs (G:Good X C n sp)(hg:C.gl (Γe "abs")=true)(hs:a0k a=false)(ha:FR X C a ea):FE X C (.Call (.Name (Γe "abs") p) [a] [] pos) (eUn d4o ea):=b1a e2m G (by decide) (by nofun) (by nofun) (by nofun) hg hs ha
theorem fe_all (G:Good X C n sp)(hg:C.gl (Γe "all")=true)(hs:a0k a=false)(ha:FR X C a ea):FE X C (.Call (.Name (Γe "all") p) [a] [] pos) (eUn c5u ea):=b1a (e2l G.calm) G (by decide) (by nofun) (by nofun) (by nofun) hg hs ha
theorem d5o (G:Good X C n sp)(hg:C.gl (Γe "int")=true)(hs:a0k a=false)(ha:FR X C a ea):FE X C (.Call (.Name (Γe "int") p) [a] [] pos) (eUn a7n ea):=d3m e2k G (by decide) (by nofun) (by nofun) (by nofun) hg hs ha
theorem d5n (G:Good X C n sp)(hg:C.gl (Γe "tuple")=true)(hs:a0k a=false)(ha:FR X C a ea):FE X C (.Call (.Name (Γe "tuple") p) [a] [] pos) (eUn a1s ea):=d3m c0x G (by decide) (by nofun) (by nofun) (by nofun) hg hs ha
theorem e0o {id nm:String}{f:FV→FV→Option FV}(hc:a1k X.nox (.builtin id) (Rc2 X.K f))(G:Good X C n sp)(hb:nm∈bltNames)(hv:bootBuiltins (Γe nm)=some (.builtin id))(h1:Γe nm≠"__name__")(h2:(Γe nm == ("__debug__":Str))=false)(hg:C.gl (Γe nm)=true)(hs:a0k a=false)(hs2:a0k b=false)(ha:FE X C a ea)(hb':FR X C b eb) :
  FE X C (.Call (.Name (Γe nm) p) [a,b] [] pos) (eOp f ea eb):=PE.imp (a2i hc (G.gl hg) (G.blt nm hb) hv (a0h ha (a0h hb' a0y (a0f hs2)) (a0f hs)) h1 h2 (a0f hs) (by rw[a0f hs2];rfl)) λσ H Q ⟨c,L,S,Q0,I,h,k⟩ =>
 ⟨c,L,S,_,I,h,λv L1 hv x S1 H1 r1 I1 s1=>⟨c,L1,S1,_,I1,hv,λw L2 hw y S2 H2 r2 I2 s2=>by
  obtain⟨z,e,q⟩:=wpx hw
  exact⟨S2,v,w,x,y,z,rfl,I2.sub,.inl (r1.mono s2),r2,e,b2j I2 λx S' H' r I' s'=>k z L2 q x S' H' r I' (s1.trans (s2.trans s'))⟩⟩⟩
theorem e0f (G:Good X C n sp)(hg:C.gl (Γe "min")=true)(hs:a0k a=false)(hs2:a0k b=false)(ha:FE X C a ea)(hb':FR X C b eb):FE X C (.Call (.Name (Γe "min") p) [a,b] [] pos) (eOp b8o ea eb):=e0o (d4h G.calm) G (by decide) (by nofun) (by nofun) (by nofun) hg hs hs2 ha hb'
def a2p:Ty→String|.int=>"int" | .bool=>"bool" | .str=>"str" | .list=>"list" | .tuple=>"tuple"
theorem a8i {v:FV}{u:V}{t:Ty}{r:Bool}(s:Same S H)(rv:RH K S H v u)(e:a4x v t=some r):∃ T,TyOf K H u (.type T)∧PySem.W.kitOne K (.type T) (.type (a2p t))=some r:=by
 cases v with
 | non=>cases (show u=V.non from rv.val rfl);exact⟨_,.non,by cases e;cases t<;>rfl⟩
 | bl c=>cases rv.bl;exact⟨_,.bl _,by cases e;cases t<;>rfl⟩
 | int c=>cases rv.int;exact⟨_,.int _,by cases e;cases t<;>rfl⟩
 | str c=>cases (show u=V.str _ from rv.val rfl);exact⟨_,.str _,by cases e;cases t<;>rfl⟩
 | tup ps =>
  obtain⟨a,xs,rfl,h1,h2⟩:=rv.tup s
  exact⟨_,.tup h1,by cases e;cases t<;>rfl⟩
 | lst l =>
  obtain⟨a,xs,rfl,h1,h2⟩:=rv.lst s
  exact⟨_,.lst h1,by cases e;cases t<;>rfl⟩
 | scr ns=>cases e
 | dct _ _=>cases e
 | dci _ _=>cases e
 | dcz _ _ _=>cases e
 | obj _ _ _ _=>cases e
 | dcn _ _ _=>cases e
 | shn d=>cases (show u=V.str _ from rv.val rfl);exact⟨_,.str _,by cases e;cases t<;>rfl⟩
theorem fe_isi {t:Ty}{tn:Str}(G:Good X C n sp)(hg:C.gl (Γe "isinstance")=true)(ht:tn=Γe (a2p t))(hg2:C.gl tn=true)(hs:a0k a=false)(ha:FR X C a ea) :
  FE X C (.Call (.Name (Γe "isinstance") p) [a,.Name tn p2] [] pos) (eUn (a9w t) ea):=by
 subst ht
 have cc:a1k X.nox (.builtin "isinstance") (λxs H Q=>∃ v c b T,xs=[v,.ty c]∧TyOf X.K H v (.type T)∧PySem.W.kitOne X.K (.type T) (.type c)=some b∧Q (.bl b) H):=by
  rintro pins s σ H xs us Q I r ⟨v,c,b,T,rfl,h1,h2,q⟩
  obtain⟨u,u',rfl,ru,ru'⟩:=a9y r
  obtain rfl:u'=.type c:=ru'
  exact b9b I ru h1 h2 λtk=>⟨.bl b,H,I.tok _,rfl,q⟩
 have tt:PE X.nox (.Name (Γe (a2p t)) p2) (tC (.ty (a2p t))):=by
  cases t<;>exact b2g (G.gl hg2) (G.blt _ (by decide)) (by nofun) rfl (by nofun) (by nofun)
 refine PE.imp (a2i cc (G.gl hg) (G.blt "isinstance" (by decide)) (by nofun) (a0h ha (a0h tt a0y rfl) (a0f hs)) (by nofun) (by nofun) (a0f hs) rfl) λσ H Q ⟨c,L,S,Q0,I,h,k⟩ =>
  ⟨c,L,S,_,I,h,λv L1 hv x S1 H1 r1 I1 s1=>?_⟩
 obtain⟨z,e,q⟩:=wpx hv
 obtain⟨r,e1,rfl⟩:=mpd e
 obtain⟨T,t1,t2⟩:=a8i I1.sub r1 e1
 exact⟨x,_,_,T,rfl,t1,t2,k _ L1 q _ S1 H1 rfl I1 s1⟩
def c5s (apos cpos:Pos):Bool:=apos.endLine == cpos.line
theorem fe_app (G:Good X C n sp){apos cpos:Pos}(h:C.nm i nx=true)(m:a0n C.md i=.own)(hl:c5s apos cpos=true)(hs:a0k a=false)(ha:FE X C a ea):FE X C (.Call (.Attribute (.Name nx p) (Γe "append") apos) [a] [] cpos) (b1e c5t i ea):=by
 refine PE.imp (d8n PySem.F.plainAttrs_list PySem.F.slot_list_append PySem.F.type_list_append a6d (a1c G h) (a0h ha a0y (a0f hs)) rfl (by rw[a0f hs];rfl) hl (a0f hs) rfl) λσ H Q ⟨c,L,S,Q0,I,h,k⟩=>?_
 obtain⟨v,e,h⟩:=wpx h
 obtain⟨v9,e9,h⟩:=wpx h
 cases a9g e9
 have e':=(a4n _ _ _).mp e
 have mi:a0n C.md i≠.imm:=λz=>by rw[m] at z;cases z
 obtain⟨l,e1,⟨_,ps,xs,e8,h1,_⟩,_⟩:=I.own i _ mi e'
 refine⟨_,e1,.inl ⟨rfl,xs,SqL.of h1⟩,c,L,S,_,I,h,λw L1 hw y S1 H1 r1 I1 s1=>?_⟩
 obtain⟨v1,e2,hw⟩:=wpx hw
 obtain⟨z,e3,q⟩:=wpx hw
 have e2':=(a4n _ _ _).mp e2
 obtain⟨qs,e4,e5⟩:=bnd e3
 cases a9g e4
 obtain⟨hb,rfl⟩:=itd e5
 obtain⟨l',f1,⟨f2,rs,zs,f3,f4,f5⟩,_⟩:=I1.own i _ mi e2'
 rw[e1] at f1;cases f1
 cases f3
 have:=a1g
 exact⟨l,zs,y,rfl,rfl,f4,by rw[← f5.length];lia,k _ _ q .non S1 _ rfl (I1.write m e2' e1 (f5.append (RVs.one r1))) s1⟩
end
def ArgsOk (K:Γd)(S H:Hp)(args:List FV)(vs:List V):Bool→Prop
 | false=>RVs K S args vs
 | true=>∃ v r a us,args=v :: r∧vs=.ref a :: us∧a3o K S H a v∧RVs K S r us
def c9p (K:Γd)(S' H' H:Hp)(v:FV)(x:V):Bool→Prop
 | false=>RV K S' v x
 | true=>∃ a,x=.ref a∧a3o K S' H' a v∧H a=none
def b3v (vs:List V):Bool→Option Addr
 | false=>none
 | true=>match vs with
  | .ref a :: _=>some a
  | _=>none
structure Kept (K:Γd)(S H S' H':Hp)(P:Option Addr)(w:FV):Prop where
 same:Same S S'
 sub:Same S' H'
 grow:∀ a o,S' a=some o→S a=some o ∨ H a=none ∨ a9l o=true
 keep:∀ a o,H a=some o→P≠some a→H' a=some o
 back:∀ a,P=some a→a3o K S' H' a w
def spQ (K:Γd)(call:CW)(io fr:Bool) (f:Nat):Sp:=λvs H Q E=>∃ S args Q0,Same S H∧ArgsOk K S H args vs io∧call f args Q0∧∀ z,Q0 z→∀ x S' H',Kept K S H S' H' (b3v vs io) z.2→c9p K S' H' H z.1 x fr→Q x H'
section
variable {X:Cx}{C:CC}{n:Nat}{sp:Γd→Nat→Sp}{a b d x y z:Expr}{ea eb ec:EW}{pos p:Pos}{call:CW}
variable {K:Γd}{c:Cn}{md:Md}{L:a0d}{σ:L2.St}{S H S' H':Hp}{i f:Nat}{nx:Str}{xs:List Expr}{as:AW}
def a1q (xs:List Expr):Bool:=xs.all λx=>!a0k x
theorem a8n:∀ {xs:List Expr}{env:Env},a1q xs=true→(backTo pos (starEach xs env)).any (·.1)=false
 | [],_,_=>rfl
 | x :: xs,env,h=>by
  have h:=b2 (show (!a0k x && a1q xs)=true from h)
  rw[a0f (nb h.1)]
  show (false || (backTo pos (starEach xs env)).any (·.1))=false
  rw[a8n h.2];rfl
theorem Kept.iv (I:Iv K c md L σ S H){w:FV}(k:Kept K S H S' H' none w):Iv K c md L σ S' H':=I.go3 k.same k.sub k.grow λa o e=>k.keep a o e (by simp)
theorem b2y (G:Good X C n sp){t:TA}(hf:C.fns[f]?=some nx)(hg:C.gl nx=true)(hd:(nx == ("__debug__":Str))=false)(hs:a1q (a :: xs)=true)(ha:PA X.nox (a :: xs) t):PE X.nox (.Call (.Name nx p) (a :: xs) [] pos) (λσ H Q=>t σ H λvs H1=>sp X.K f vs H1 Q E0):=by
 obtain⟨fa,fd,ps,h1,h2,h3,h4⟩:=G.fns f nx hf
 have h:=b2 (show (!a0k a && a1q xs)=true from hs)
 refine PE.imp (c7j (X:=X.nox) h4 G.room.toRoom (G.gl hg) h1 h2 h3 .nil b8d ha hd (a0f (nb h.1)) (a8n h.2)) λσ H Q q=>?_
 show t σ H λvs H1=>sp X.K f (vs++[]) H1 Q E0
 have e:(λvs H1=>sp X.K f (vs++[]) H1 Q E0)=λvs H1=>sp X.K f vs H1 Q E0:=by funext vs H1;rw[List.append_nil]
 rw[e];exact q
theorem e0n (G:Good X C n sp)(e:sp X.K f=spQ X.K call false false f)(hf:C.fns[f]?=some nx)(hg:C.gl nx=true)(hd:(nx == ("__debug__":Str))=false)(hs:a1q (a :: xs)=true)(ha:FA X C (a :: xs) as):FE X C (.Call (.Name nx p) (a :: xs) [] pos) (a0l call f as) :=
 PE.imp (b2y G hf hg hd hs ha) λσ H Q ⟨c,L,S,Q0,I,h,k⟩=>⟨c,L,S,_,I,h,λvs L1 hv us S1 H1 r1 I1 s1=>by
  rw[e]
  exact⟨S1,vs,_,I1.sub,r1,hv,λz q x S' H' kp r=>k _ L1 q x S' H' r (kp.iv I1) (s1.trans kp.same)⟩⟩
theorem d9z (G:Good X C n sp)(e:sp X.K f=spQ X.K call false true f)(hf:C.fns[f]?=some nx)(hg:C.gl nx=true)(hd:(nx == ("__debug__":Str))=false)(hs:a1q (a :: xs)=true)(ha:FA X C (a :: xs) as):FF X C (.Call (.Name nx p) (a :: xs) [] pos) (a0l call f as) :=
 PE.imp (b2y G hf hg hd hs ha) λσ H Q ⟨c,L,S,Q0,I,h,k⟩=>⟨c,L,S,_,I,h,λvs L1 hv us S1 H1 r1 I1 s1=>by
  rw[e]
  refine⟨S1,vs,_,I1.sub,r1,hv,λz q x S' H' kp r=>?_⟩
  obtain⟨a,rfl,o,hn⟩:=r
  exact k _ L1 q a S' H' o (I1.fresh hn) (kp.iv I1) (s1.trans kp.same)⟩
theorem b8l {v:FV}{q:Addr}(I:Iv K c md L σ S H)(o:a3o K S H q v)(fr:a6v c md L σ q):∃ u,H q=some u∧Iv K c md L σ (upd S q u) H∧RV K (upd S q u) v (.ref q):=by
 obtain⟨h1,ps,us,e0,h2,h3⟩:=o
 have s:=a0r (o:=c5c v us) h1
 refine⟨_,h2,⟨I.len,λi v h e=>let ⟨x,e1,r⟩:=I.imm i v h e;⟨x,e1,r.mono s⟩,λi v h e=>?_,I.dis,λa u e=>?_,I.frame,I.s0.trans s,λa u e=>?_,I.lent,I.fzs,I.fzm,I.fzp,λp hp=>let ⟨g1,g2,g3⟩:=I.prs p hp;⟨g1,by rw[a0c (fr.2.1 p hp)];exact g2,g3⟩,I.ntp,I.lnt1,I.tie⟩,?_⟩
 ·obtain⟨b,e1,⟨g1,rs,zs,g2,g3,g4⟩,g5⟩:=I.own i v h e
  have hb:b≠q:=λz=>by subst z;exact fr.2.2 i v h e e1
  exact⟨b,e1,⟨by rw[a0c hb];exact g1,rs,zs,g2,g3,g4.mono s⟩,g5⟩
 ·by_cases z:a=q
  ·subst z;rw[a0e] at e;cases e;exact h2
  ·rw[a0c z] at e;exact I.sub a u e
 ·by_cases z:a=q
  ·subst z;exact .inr (.inl fr.1)
  ·rw[a0c z] at e;exact I.grow a u e
 ·cases v with
  | lst qs=>cases e0;exact⟨q,us,rfl,a0e,h3.mono s⟩
  | dct ks vs=>obtain⟨hl,rfl⟩:=itd e0;exact⟨q,us,rfl,hl,a0e,h3.mono s⟩
  | dci ks vs=>obtain⟨hl,rfl⟩:=itd e0;exact⟨q,us,rfl,hl,a0e,h3.mono s⟩
  | dcz o ks vs=>obtain⟨hl,rfl⟩:=itd e0;exact⟨q,us,rfl,hl,a0e,h3.mono s⟩
  | obj C dx fs gs=>cases e0;exact⟨q,rfl,a0e⟩
  | dcn z ks vs=>obtain⟨hl,rfl⟩:=itd e0;exact⟨q,us,rfl,hl,a0e,h3.mono s⟩
  | _=>cases e0
theorem a4a (h:FF X C a ea):FE X C a ea:=PE.imp h λσ H Q ⟨c,L,S,Q0,I,h,k⟩=>⟨c,L,S,Q0,I,h,λv L' q a S' H' o fr I' s'=>by
 obtain⟨u,hu,I2,r⟩:=b8l I' o fr
 exact k v L' q _ _ H' r I2 (s'.trans (a0r o.1))⟩
theorem c7n (G:Good X C n sp){t:TA}(h:C.nm i nx=true)(hr:PA X.nox xs t):PA X.nox (.Name nx p :: xs) (c1p (b6a i) t):=a0h (a1c G h) hr rfl
theorem a9u {Q:VK}{fr:Bool}{Q1:FV→a0d→Prop}(I:Iv K c md L σ S H)(m:a0n md i=.own)(h:a1h call f i as L Q1)
  (k:∀ v L' x H1 S' H',Q1 v L'→c9p K S' H' H1 v x fr→Iv K c md L' σ S' H'→Same S S'→(∀ a,H1 a=none→a6v c md L' σ a)→Q x H'):c1p (b6a i) (la K md as) σ H λvs H1=>spQ K call true fr f vs H1 Q E0:=by
 obtain⟨v0,e,h⟩:=wpx h
 have mi:a0n md i≠.imm:=λz=>by rw[m] at z;cases z
 obtain⟨l,e1,_⟩:=I.own i v0 mi ((a4n _ _ _).mp e)
 refine⟨_,e1,c,L,S,_,I,h,λvs L1 hv us S1 H1 r1 I1 s1=>?_⟩
 obtain⟨v1,e2,q⟩:=wpx hv
 have e2:=(a4n _ _ _).mp e2
 obtain⟨l',f1,o,_⟩:=I1.own i v1 mi e2
 rw[e1] at f1;cases f1
 refine⟨S1,v1 :: vs,_,I1.sub,⟨v1,vs,l,us,rfl,rfl,o,r1⟩,q,λz q x S' H' kp r=>?_⟩
 have I2:=I1.back3 m e2 e1 kp.same kp.sub kp.grow (λb o e n=>kp.keep b o e λz=>n (by cases z;rfl)) (kp.back l rfl)
 refine k _ _ x H1 S' H' q r I2 (s1.trans kp.same) λa ha=>⟨I1.h0 ha,(I1.fresh ha).2.1,λj w mj ej z=>?_⟩
 obtain⟨_,_,g2⟩:=I1.fresh ha
 by_cases hj:j=i
 ·subst hj;exact g2 j v1 mj e2 z
 ·rw[List.getElem?_set_ne (Ne.symm hj)] at ej;exact g2 j w mj ej z
theorem d5q (G:Good X C n sp){np:Str}{pp:Pos}(e:sp X.K f=spQ X.K call true false f)(hf:C.fns[f]?=some np)(hg:C.gl np=true)(hd:(np == ("__debug__":Str))=false)(h:C.nm i nx=true)(m:a0n C.md i=.own)(hs:a1q xs=true)(ha:FA X C xs as):FE X C (.Call (.Name np pp) (.Name nx p :: xs) [] pos) (a1h call f i as) :=
 PE.imp (b2y G hf hg hd (show (true && a1q xs)=true by rw[hs];rfl) (c7n G h ha)) λσ H Q ⟨c,L,S,Q0,I,h,k⟩=>by
  rw[e]
  exact a9u I m h λv L' x H1 S' H' q r I' s' _=>k v L' q x S' H' r I' s'
end
section
variable {K:Γd}{c:Cn}{md:Md}{L:a0d}{σ:L2.St}{S H:Hp}{i:Nat}{v:FV}{x:V}{a:Addr}
theorem Iv.setI (I:Iv K c md L σ S H)(m:a0n md i=.imm)(r:RV K S v x):Iv K c md (L.set i (some v)) (σ.set i (some x)) S H :=
 I.set (λa h z=>by subst z;exact (I.lent a h).1 m) (λz=>by rw[m] at z;cases z) (.inl ⟨m,r⟩)
theorem Iv.prot (I:Iv K c md L σ S H){o:HO}(h:H a=some o)(hs:S a=none)(ho:∀ i v,(a0n md i).w=true→L[i]?=some (some v)→σ[i]?≠some (some (.ref a)))(nt:a9l o=false:=by first|rfl|exact a8z _ _):Iv K { c with pr:=(a,o) :: c.pr } md L σ S H :=
 ⟨I.len,I.imm,I.own,I.dis,I.sub,I.frame,I.s0,I.grow,I.lent,I.fzs,I.fzm,λp hp=>let ⟨xs,h⟩:=I.fzp p hp;⟨xs,Γh _ h⟩,λp hp=>(List.mem_cons.mp hp).elim (λe=>e ▸ ⟨h,hs,ho⟩) (I.prs p),λp hp=>(List.mem_cons.mp hp).elim (λe=>e ▸ nt) (I.ntp p),I.lnt1,I.tie⟩
end
def ItR (K:Γd)(c:Cn)(md:Md)(J:It)(xs:List FV)(S1:Hp):Prop :=
 ∀ (i:Nat)(L:a0d)(σ:L2.St)(S H:Hp),Iv K c md L σ S H→Same S1 S→(xs[i]?=none→J.stop i H)∧∀ p,xs[i]?=some p→J.go i H∧∀ v H',J.yld i H v H'→∃ S',Same S S'∧(∀ c md L σ,Iv K c md L σ S H→Iv K c md L σ S' H')∧RV K S' p v
def li (K:Γd)(md md':Md)(it:AW):TI:=λσ H R=>∃ c L S Q0,Iv K c md L σ S H∧it L Q0∧∀ xs L',Q0 xs L'→∀ J c' S' H',Iv K c' md' L' σ S' H'→(∀ L σ S H,Iv K c' md' L σ S H→Iv K c md L σ S H)→c'.H0=c.H0→ItR K c' md' J xs S'→Same S S'→R J H'
def FI (X:Cx)(C:CC)(md':Md)(tg iter:Expr)(it:AW):Prop:=PI X.nox tg iter (li X.K C.md md' it)
section
variable {X:Cx}{C:CC}{n:Nat}{sp:Γd→Nat→Sp}{a b d x y z tg:Expr}{ea eb ec:EW}{pos p:Pos}
variable {K:Γd}{c:Cn}{md:Md}{L:a0d}{σ:L2.St}{S H:Hp}{i:Nat}{nx:Str}
theorem PI.imp {X:Cx}{tg it:Expr}{t u:TI}(h:PI X tg it t)(f:∀ σ H R,u σ H R→t σ H R):PI X tg it u:=λpins s σ H R I hu=>h pins s σ H R I (f σ H R hu)
def Its (K:Γd):Bool→Addr→It
 | true,a=>Itl K a
 | false,a=>Itt K a
theorem d1i {X:Cx}{tg it:Expr}{te:TE}(h:PE X it te):PI X tg it (λσ H R=>te σ H λv H1=>∃ b a xs,v=.ref a∧SqB b X.K H1 a xs∧R (Its X.K b a) H1):=by
 intro pins s σ H R I hh
 refine thn (h pins s σ H _ I hh) λv s1 ⟨x,H1,I1,r1,b,a,xs,e,hq,q⟩=>?_
 subst e
 cases r1
 cases b with
 | true =>
  obtain⟨its,rv,p,hz⟩:=I1.list hq
  refine wpAny_pyIter_list p.isList ?_
  refine⟨s1.heap.objs.size,[s1.heap.objs.size],_,_,H1,rfl,I1.kept (t':=s1.toks) λb o e=>Γc _ e,b6k a _,⟨_,Γm _ rfl,rfl,rfl⟩,λb hb=>?_,q⟩
  have e:b=s1.heap.objs.size:=by simpa using hb
  subst e
  exact I1.fpOk (Γi _) (I1.hok.fresh (Γi _))
 | false =>
  obtain⟨its,rv,p,hz⟩:=I1.tuple hq
  refine wpAny_pyIter_tuple p ?_
  refine⟨s1.heap.objs.size,[s1.heap.objs.size],_,_,H1,rfl,I1.kept (t':=s1.toks) λb o e=>Γc _ e,b4r a _,⟨_,Γm _ rfl,rfl,rfl⟩,λb hb=>?_,q⟩
  have e:b=s1.heap.objs.size:=by simpa using hb
  subst e
  exact I1.fpOk (Γi _) (I1.hok.fresh (Γi _))
theorem d2r {t:Bool}{q:Addr}{ps:List FV}{S1:Hp}(h:∀ L σ S H,Iv K c md L σ S H→Same S1 S→∃ vs,SqB t K H q vs∧RVs K S ps vs):ItR K c md (Its K t q) ps S1:=by
 intro i L σ S H I s
 obtain⟨vs,h1,h2⟩:=h L σ S H I s
 cases t with
 | true =>
  refine⟨λe=>⟨vs,h1,by rw[← h2.length];exact List.getElem?_eq_none_iff.mp e⟩,λp ep=>?_⟩
  obtain⟨v,e1,r1⟩:=h2.get ep
  refine⟨⟨vs,v,h1,e1⟩,λw H' ⟨eh,y⟩=>?_⟩
  have:=y vs h1
  rw[e1] at this;cases this
  subst eh
  exact⟨S,Same.refl S,λ_ _ _ _ I=>I,r1⟩
 | false =>
  refine⟨λe=>⟨vs,h1,by rw[← h2.length];exact List.getElem?_eq_none_iff.mp e⟩,λp ep=>?_⟩
  obtain⟨v,e1,r1⟩:=h2.get ep
  refine⟨⟨vs,v,h1,e1⟩,λw H' ⟨eh,y⟩=>?_⟩
  have:=y vs h1
  rw[e1] at this;cases this
  subst eh
  exact⟨S,Same.refl S,λ_ _ _ _ I=>I,r1⟩
theorem RV.stays {v:FV}{ps:List FV}{u:V}{S1:Hp}(r:RV K S1 v u)(e:a3g v=some ps):∃ q,u=.ref q∧∀ S H,Same S1 S→Same S H→∃ vs,SqB (isL v) K H q vs∧RVs K S ps vs:=by
 cases v with
 | tup qs=>cases e;obtain⟨q,vs,rfl,h1,h2⟩:=r;exact⟨q,rfl,λS H s s'=>⟨vs,SqT.of (s' _ _ (s _ _ h1)),h2.mono s⟩⟩
 | lst qs=>cases e;obtain⟨q,vs,rfl,h1,h2⟩:=r;exact⟨q,rfl,λS H s s'=>⟨vs,SqL.of (s' _ _ (s _ _ h1)),h2.mono s⟩⟩
 | scr ns=>cases e;obtain⟨q,rfl,h⟩:=r;exact⟨q,rfl,λS H s s'=>⟨_,h.sq (s.trans s'),RVs.ns ns⟩⟩
 | _=>cases e
theorem fi_seq (ha:FE X C a ea):FI X C C.md tg a (c8l ea):=PI.imp (d1i ha) λσ H R ⟨c,L,S,Q0,I,h,k⟩ =>
 ⟨c,L,S,_,I,h,λv L1 hv x S1 H1 r1 I1 s1=>by
  obtain⟨ps,e,q⟩:=wpx hv
  obtain⟨l,rfl,st⟩:=r1.stays e
  obtain⟨vs,h1,h2⟩:=st S1 H1 (Same.refl _) I1.sub
  exact⟨isL v,l,vs,rfl,h1,k ps L1 q _ c S1 H1 I1 (λ_ _ _ _ I=>I) rfl (d2r λL σ S H I s=>st S H s I.sub) s1⟩⟩
theorem b1y:∀ (n:Nat) (lo:Int) (i:Nat),(upF lo n)[i]?=if i<n then some (.int (lo+i)) else none
 | 0,lo,i=>by simp[upF]
 | n+1,lo,0=>by simp[upF]
 | n+1,lo,i+1=>by
  show (upF (lo+1) n)[i]?=_
  rw[b1y n (lo+1) i]
  have e:lo+1+(i:Int)=lo+((i+1:Nat):Int):=by lia
  rw[e]
  simp
theorem c5m {lo:Int}{m:Nat}{S1:Hp}:ItR K c md (Itr lo m) (upF lo m) S1:=by
 intro i L σ S H I s
 rw[b1y]
 by_cases h:i<m
 ·rw[if_pos h]
  refine⟨λe=>(nomatch e),λp e=>?_⟩
  cases e
  exact⟨h,λv H' ⟨e1,e2⟩=>⟨S,Same.refl S,by rw[e1];exact λ_ _ _ _ I=>I,e2⟩⟩
 ·rw[if_neg h]
  exact⟨λ_=>show m≤i by lia,λp e=>(nomatch e)⟩
theorem fi_rng (G:Good X C n sp)(hg:C.gl (Γe "range")=true)(hs:a0k a=false)(ha:FE X C a ea):FI X C C.md tg (.Call (.Name (Γe "range") p) [a] [] pos) (b4b ea):=PI.imp (b7x (G.gl hg) (G.blt "range" (by decide)) (a0h ha a0y (a0f hs)) (a0f hs)) λσ H R ⟨c,L,S,Q0,I,h,k⟩ =>
 ⟨c,L,S,_,I,h,λv L1 hv x S1 H1 r1 I1 s1=>by
  obtain⟨j,e,hb,q⟩:=wpx hv
  cases a0x e
  have hb:=de hb
  exact⟨j,by rw[show x=.int j from r1],hb.1,hb.2,k _ L1 q _ c S1 H1 I1 (λ_ _ _ _ I=>I) rfl c5m s1⟩⟩
theorem d9u (G:Good X C n sp)(hg:C.gl (Γe "range")=true)(hs:a0k a=false)(hs2:a0k b=false)(ha:FE X C a ea)(hb:FE X C b eb):FI X C C.md tg (.Call (.Name (Γe "range") p) [a,b] [] pos) (iRng2 ea eb) :=
 PI.imp (b7w (G.gl hg) (G.blt "range" (by decide)) (a0h ha (a0h hb a0y (a0f hs2)) (a0f hs)) (by rw[a0f hs,a0f hs2];rfl) (a0f hs2)) λσ H R ⟨c,L,S,Q0,I,h,k⟩ =>
 ⟨c,L,S,_,I,h,λv L1 hv x S1 H1 r1 I1 s1=>⟨c,L1,S1,_,I1,hv,λw L2 hw y S2 H2 r2 I2 s2=>by
  obtain⟨j,e,hw⟩:=wpx hw
  obtain⟨j',e',hb,q⟩:=wpx hw
  cases a0x e;cases a0x e'
  have hb:=b2 hb
  have h1:=de hb.1
  have h2:=de hb.2
  exact⟨j,j',by rw[show x=.int j from r1,show y=.int j' from r2],⟨h1.1,h1.2,h2.1,h2.2⟩,k _ L2 q _ c S2 H2 I2 (λ_ _ _ _ I=>I) rfl c5m (s1.trans s2)⟩⟩⟩
theorem b3p {P Q:FV}{u w:V}{pp:Addr}(I:Iv K c md L σ S H)(hp:H pp=none)(r1:RV K S P u)(r2:RV K S Q w):∃ S',Same S S'∧(∀ c md L σ,Iv K c md L σ S H→Iv K c md L σ S' (upd H pp (.tup [u,w])))∧RV K S' (.tup [P,Q]) (.ref pp) :=
 ⟨upd S pp (.tup [u,w]),a0r (I.sn hp),λ_ _ _ _ I=>I.new hp _,pp,[u,w],rfl,a0e,u,[w],rfl,r1.mono (a0r (I.sn hp)),w,[],rfl,r2.mono (a0r (I.sn hp)),rfl⟩
theorem d2q {t t':Bool}{q q':Addr}{ps qs:List FV}{S1:Hp}(h:∀ L σ S H,Iv K c md L σ S H→Same S1 S→∃ vs,SqB t K H q vs∧RVs K S ps vs)(h':∀ L σ S H,Iv K c md L σ S H→Same S1 S→∃ vs,SqB t' K H q' vs∧RVs K S qs vs):ItR K c md (Iz2 K t t' q q') (a4k ps qs) S1:=by
 intro i L σ S H I s
 obtain⟨vs,h1,h2⟩:=h L σ S H I s
 obtain⟨ws,g1,g2⟩:=h' L σ S H I s
 unfold a4k
 rw[List.getElem?_zipWith]
 refine⟨λz=>⟨vs,ws,h1,g1,?_⟩,λy ey=>?_⟩
 ·rw[← h2.length,← g2.length]
  cases c1:ps[i]? with
  | none=>exact .inl (List.getElem?_eq_none_iff.mp c1)
  | some _ =>
   cases c2:qs[i]? with
   | none=>exact .inr (List.getElem?_eq_none_iff.mp c2)
   | some _=>rw[c1,c2] at z;cases z
 ·cases c1:ps[i]? with
  | none=>rw[c1] at ey;cases ey
  | some p1 =>
   cases c2:qs[i]? with
   | none=>rw[c1,c2] at ey;cases ey
   | some q1 =>
    rw[c1,c2] at ey
    cases ey
    obtain⟨v,f1,f2⟩:=h2.get c1
    obtain⟨w,f3,f4⟩:=g2.get c2
    refine⟨⟨vs,ws,v,w,h1,g1,f1,f3⟩,λz H' ⟨pp,hp,ez,yy⟩=>?_⟩
    have:=yy vs ws v w h1 g1 f1 f3
    subst this ez
    exact b3p I hp f2 f4
theorem c8h {t:Bool}{q:Addr}{ps:List FV}{S1:Hp}(h:∀ L σ S H,Iv K c md L σ S H→Same S1 S→∃ vs,SqB t K H q vs∧RVs K S ps vs):ItR K c md (Ien K t q) (a4k (upF 0 ps.length) ps) S1:=by
 intro i L σ S H I s
 obtain⟨vs,h1,h2⟩:=h L σ S H I s
 unfold a4k
 rw[List.getElem?_zipWith,b1y]
 refine⟨λz=>⟨vs,h1,?_⟩,λy ey=>?_⟩
 ·rw[← h2.length]
  by_cases hi:i<ps.length
  ·rw[if_pos hi,List.getElem?_eq_getElem hi] at z;cases z
  ·lia
 ·by_cases hi:i<ps.length
  ·rw[if_pos hi,List.getElem?_eq_getElem hi] at ey
   cases ey
   obtain⟨v,f1,f2⟩:=h2.get (List.getElem?_eq_getElem hi)
   refine⟨⟨vs,v,h1,f1⟩,λz H' ⟨pp,hp,ez,yy⟩=>?_⟩
   have:=yy vs v h1 f1
   subst this ez
   exact b3p I hp (show RV K S (.int (0+i)) (.int i) by show V.int i=V.int (0+i);rw[Int.zero_add]) f2
  ·rw[if_neg hi] at ey;cases ey
variable {elts:List Expr}{kk:Nat}{tp:Pos}
theorem fi_zip (G:Good X C n sp)(hg:C.gl (Γe "zip")=true)(hs:a0k a=false)(hs2:a0k b=false)(ha:FE X C a ea)(hb:FE X C b eb):FI X C C.md (.Tuple elts kk tp) (.Call (.Name (Γe "zip") p) [a,b] [] pos) (d5d ea eb) :=
 PI.imp (d8j (G.gl hg) (G.blt "zip" (by decide)) (a0h ha (a0h hb a0y (a0f hs2)) (a0f hs)) (by rw[a0f hs,a0f hs2];rfl) (a0f hs2)) λσ H R ⟨c,L,S,Q0,I,h,k⟩ =>
 ⟨c,L,S,_,I,h,λv L1 hv x S1 H1 r1 I1 s1=>⟨c,L1,S1,_,I1,hv,λw L2 hw y S2 H2 r2 I2 s2=>by
  obtain⟨ps,e,hw⟩:=wpx hw
  obtain⟨qs,e',q⟩:=wpx hw
  obtain⟨l,rfl,st⟩:=(r1.mono s2).stays e
  obtain⟨l',rfl,st'⟩:=r2.stays e'
  obtain⟨vs,h1,_⟩:=st S2 H2 (Same.refl _) I2.sub
  obtain⟨ws,h2,_⟩:=st' S2 H2 (Same.refl _) I2.sub
  exact⟨_,_,l,l',rfl,⟨vs,h1⟩,⟨ws,h2⟩,k _ L2 q _ c S2 H2 I2 (λ_ _ _ _ I=>I) rfl (d2q (λL σ S H I s=>st S H s I.sub) λL σ S H I s=>st' S H s I.sub) (s1.trans s2)⟩⟩⟩
theorem d9w (G:Good X C n sp)(hg:C.gl (Γe "enumerate")=true)(hs:a0k a=false)(ha:FE X C a ea):FI X C C.md (.Tuple elts kk tp) (.Call (.Name (Γe "enumerate") p) [a] [] pos) (b5j ea) :=
 PI.imp (d8k (G.gl hg) (G.blt "enumerate" (by decide)) (a0h ha a0y (a0f hs)) (a0f hs)) λσ H R ⟨c,L,S,Q0,I,h,k⟩ =>
 ⟨c,L,S,_,I,h,λv L1 hv x S1 H1 r1 I1 s1=>by
  obtain⟨ps,e,q⟩:=wpx hv
  obtain⟨l,rfl,st⟩:=r1.stays e
  obtain⟨vs,h1,_⟩:=st S1 H1 (Same.refl _) I1.sub
  exact⟨_,l,rfl,⟨vs,h1⟩,k _ L1 q _ c S1 H1 I1 (λ_ _ _ _ I=>I) rfl (c8h λL σ S H I s=>st S H s I.sub) s1⟩⟩
end
def gTs:List Nat→TGs
 | []=>d9k
 | i :: is=>c3o (a5j i) (gTs is)
def gT (K:Γd):Tg→TG
 | .nm i=>a5j i
 | .tp is=>d5i K is.length (gTs is)
 | .tn i is=>d5i K 2 (c3o (a5j i) (c3o (d5i K is.length (gTs is)) d9k))
def a4u (md:Md):Tg→Bool
 | .nm i=>decide (a0n md i=.imm)
 | .tp is=>is.all λi=>decide (a0n md i=.imm)
 | .tn i is=>decide (a0n md i=.imm) && is.all λi=>decide (a0n md i=.imm)
def b0a (n:Nat):Tg→Bool
 | .nm i=>decide (n≤i)
 | .tp is=>is.all λi=>decide (n≤i)
 | .tn i is=>decide (n≤i) && is.all λi=>decide (n≤i)
def FG (X:Cx)(t:Expr)(tg:Tg):Prop:=PG X.nox t (gT X.K tg)
section
variable {K:Γd}{c:Cn}{md:Md}{L:a0d}{σ:L2.St}{S H:Hp}
theorem a8q:∀ {is:List Nat}{ps:List FV}{vs:List V}{L L':a0d}{σ:L2.St},(is.all λi=>decide (a0n md i=.imm))=true→Iv K c md L σ S H→RVs K S ps vs→a6y L is ps=some L' →
  ∃ σ',(∀ Q:L2.St→Hp→Prop,Q σ' H→gTs is vs σ H Q)∧Iv K c md L' σ' S H∧σ'.length=σ.length∧is.length=vs.length∧∀ n,(is.all λi=>decide (n≤i))=true→∀ j,j<n→σ'[j]?=σ[j]?
 | [],[],vs,L,L',σ,_,I,r,e=>by cases (show vs=[] from r);cases e;exact⟨σ,λQ q=>⟨rfl,q⟩,I,rfl,rfl,λ_ _ _ _=>rfl⟩
 | i :: is,p :: ps,vs,L,L',σ,hm,I,r,e=>by
  obtain⟨v,q,rfl,h1,h2⟩:=r
  have hm:=b2 (show (decide (a0n md i=.imm) && is.all λi=>decide (a0n md i=.imm))=true from hm)
  obtain⟨σ',g,I',l1,l2,far⟩:=a8q (is:=is) (ps:=ps) (vs:=q) hm.2 (I.setI (de hm.1) h1) h2 e
  refine⟨σ',λQ q'=>⟨v,q,rfl,g Q q'⟩,I',by rw[l1,List.length_set],by rw[List.length_cons,List.length_cons,l2],λn hn j hj=>?_⟩
  have hn:=b2 (show (decide (n≤i) && is.all λi=>decide (n≤i))=true from hn)
  have:=de hn.1
  rw[far n hn.2 j hj,List.getElem?_set_ne (by lia)]
 | [],p :: ps,_,_,_,_,_,_,_,e=>by cases e
 | i :: is,[],_,_,_,_,_,_,_,e=>by cases e
theorem b9n {tg:Tg}{v:FV}{x:V}{Q:a0d→Prop}(hm:a4u md tg=true)(I:Iv K c md L σ S H)(r:RV K S v x)(h:gW tg v L Q) :
  ∃ σ' L',(∀ Q':L2.St→Hp→Prop,Q' σ' H→gT K tg x σ H Q')∧Q L'∧Iv K c md L' σ' S H∧σ'.length=σ.length∧∀ n,b0a n tg=true→∀ j,j<n→σ'[j]?=σ[j]?:=by
 cases tg with
 | nm i =>
  refine⟨σ.set i (some x),L.set i (some v),λQ q=>q,h,I.setI (de hm) r,List.length_set ..,λn hn j hj=>?_⟩
  have:n≤i:=de hn
  exact List.getElem?_set_ne (by lia)
 | tp is =>
  obtain⟨ps,e,h⟩:=wpx h
  obtain⟨L',e1,q⟩:=wpx h
  cases a1t e
  obtain⟨a,vs,rfl,h1,h2⟩:=r
  obtain⟨σ',g,I',l1,l2,far⟩:=a8q hm I h2 e1
  exact⟨σ',L',λQ q=>⟨a,vs,rfl,SqT.of (I.sub _ _ h1),l2.symm,g Q q⟩,q,I',l1,far⟩
 | tn i is =>
  have hm:=b2 hm
  obtain⟨ps,e,h⟩:=wpx h
  obtain⟨p,e1,h⟩:=wpx h
  obtain⟨qs,e2,h⟩:=wpx h
  obtain⟨L',e3,q⟩:=wpx h
  cases a1t e
  obtain⟨p1,p2⟩:=p
  obtain rfl:ps=[p1,p2]:=by
   rcases ps with _|⟨a,_|⟨b,_|⟨c,r⟩⟩⟩<;>first|(cases e1;done)|(cases e1;rfl)
  obtain⟨a,vs,rfl,h1,h2⟩:=r
  obtain⟨u,w,rfl,r1,r2⟩:=h2.two_of
  cases a1t e2
  obtain⟨b,ws,rfl,h3,h4⟩:=r2
  obtain⟨σ',g,I',l1,l2,far⟩:=a8q hm.2 (I.setI (de hm.1) r1) h4 e3
  refine⟨σ',L',λQ q=>⟨a,_,rfl,SqT.of (I.sub _ _ h1),rfl,_,_,rfl,_,_,rfl,b,ws,rfl,SqT.of (I.sub _ _ h3),l2.symm,g _ ⟨rfl,q⟩⟩,q,I',by rw[l1,List.length_set],λn hn j hj=>?_⟩
  have hn:=b2 hn
  have:=de hn.1
  rw[far n hn.2 j hj,List.getElem?_set_ne (by lia)]
theorem Iv.regrow {a:Addr}{o o':HO}(I:Iv K { c with pr:=(a,o) :: c.pr } md L σ S H)(h0:c.H0 a=none)(hp:∀ p∈c.pr,p.1≠a)(hz:∀ p∈c.fz,∃ o,(p.2,o)∈c.pr)(nt:a9l o'=false:=by first|rfl|exact a8z _ _):Iv K { c with pr:=(a,o') :: c.pr } md L σ S (upd H a o'):=by
 obtain⟨_,sa,na⟩:=I.prs (a,o) Γn
 have oa:∀ j w b,a0n md j≠.imm→L[j]?=some (some w)→σ[j]?=some (some (.ref b))→b≠a:=λj w b hm hj hs z=>by
  subst z
  by_cases m:(a0n md j).w=true
  ·exact na j w m hj hs
  ·have m:a0n md j=.frz:=by cases q:a0n md j with|imm=>exact absurd q hm|frz=>rfl|_=>rw[q] at m;exact absurd rfl m
   obtain⟨b',g1⟩:=I.fzm j w m hj
   obtain⟨_,g2,_⟩:=I.fzs _ g1
   rw[hs] at g2;cases g2
   obtain⟨xs,g3⟩:=hz _ g1
   exact hp _ g3 rfl
 refine⟨I.len,I.imm,λj w hm hj=>?_,I.dis,λb u e=>?_,λb u e n n1=>?_,I.s0,I.grow,I.lent,I.fzs,I.fzm,λp hpz=>let ⟨xs,g⟩:=hz p hpz;⟨xs,Γh _ g⟩,λp hpr=>?_,λp hpr=>(List.mem_cons.mp hpr).elim (λz=>by rw[z];exact nt) λz=>I.ntp p (Γh _ z),I.lnt1,I.tie⟩
 ·obtain⟨b,e1,⟨g1,ps,xs,g2,g3,g4⟩,g5⟩:=I.own j w hm hj
  exact⟨b,e1,⟨g1,ps,xs,g2,by rw[a0c (oa j w b hm hj e1)];exact g3,g4⟩,g5⟩
 ·rw[a0c λz=>by subst z;rw[sa] at e;cases e];exact I.sub b u e
 ·rw[a0c λz=>by subst z;rw[h0] at e;cases e];exact I.frame b u e n n1
 ·rcases List.mem_cons.mp hpr with rfl|hpr
  ·exact⟨a0e,sa,na⟩
  ·obtain⟨g1,g2,g3⟩:=I.prs p (Γh _ hpr)
   exact⟨by rw[a0c (hp p hpr)];exact g1,g2,g3⟩
theorem Iv.unprot {a:Addr}{o:HO}(I:Iv K { c with pr:=(a,o) :: c.pr } md L σ S H)(hz:∀ p∈c.fz,∃ o,(p.2,o)∈c.pr):Iv K c md L σ S H :=
 ⟨I.len,I.imm,I.own,I.dis,I.sub,I.frame,I.s0,I.grow,I.lent,I.fzs,I.fzm,hz,λp hp=>I.prs p (Γh _ hp),λp hp=>I.ntp p (Γh _ hp),I.lnt1,I.tie⟩
theorem c5f:∀ {md:Md}{i:Nat},md.length≤i→a0n md i=.imm
 | [],i,_=>rfl
 | a :: md,0,h=>absurd h (by simp)
 | a :: md,i+1,h=>c5f (md:=md) (i:=i) (by simpa using h)
theorem Iv.more (I:Iv K c md L σ S H) (m:Nat):Iv K c md (L++Γj m none) (σ++Γj m none) S H:=by
 have look:∀ j w,(L++Γj m none)[j]?=some (some w)→L[j]?=some (some w)∧(σ++Γj m none)[j]?=σ[j]?:=λj w z=>by
  by_cases h:j<L.length
  ·rw[List.getElem?_append_left h] at z
   exact⟨z,List.getElem?_append_left (by rw[← I.len];exact h)⟩
  ·rw[List.getElem?_append_right (by lia),List.getElem?_replicate] at z
   split at z<;>cases z
 have up:∀ j w,L[j]?=some (some w)→(L++Γj m none)[j]?=some (some w)∧(σ++Γj m none)[j]?=σ[j]?:=λj w z=>by
  have h:=(List.getElem?_eq_some_iff.mp z).1
  exact⟨by rw[List.getElem?_append_left h];exact z,List.getElem?_append_left (by rw[← I.len];exact h)⟩
 refine⟨by simp[I.len],λj w hm z=>?_,λj w hm z=>?_,λj k w u b m1 m2 z1 z2 y1 y2=>?_,I.sub,I.frame,I.s0,I.grow,λb hb=>?_,λp hp=>?_,λj w hm z=>I.fzm j w hm (look j w z).1,I.fzp,λp hp=>?_,I.ntp,λq hq=>?_,λj k x C dx fs w h1 h2 h3 h4=>?_⟩
 ·obtain⟨z,y⟩:=look j w z;rw[y];exact I.imm j w hm z
 ·obtain⟨z,y⟩:=look j w z;rw[y];exact I.own j w hm z
 ·obtain⟨z1,q1⟩:=look j w z1
  obtain⟨z2,q2⟩:=look k u z2
  rw[q1] at y1;rw[q2] at y2
  exact I.dis j k w u b m1 m2 z1 z2 y1 y2
 ·obtain⟨g1,g2,w,g3⟩:=I.lent b hb
  obtain⟨f1,f2⟩:=up 0 w g3
  exact⟨g1,by rw[f2];exact g2,w,f1⟩
 ·obtain⟨g1,g2,w,g3⟩:=I.fzs p hp
  obtain⟨f1,f2⟩:=up p.1 w g3
  exact⟨g1,by rw[f2];exact g2,w,f1⟩
 ·obtain⟨g1,g2,g3⟩:=I.prs p hp
  refine⟨g1,g2,λj w hm z=>?_⟩
  obtain⟨z,y⟩:=look j w z
  rw[y];exact g3 j w hm z
 ·obtain⟨g1,g2,w,g3⟩:=I.lnt1 q hq
  obtain⟨f1,f2⟩:=up q.1 w g3
  exact⟨g1,by rw[f2];exact g2,w,f1⟩
 ·obtain⟨z4,y4⟩:=look j w h4
  rw[y4]
  exact I.tie j k x C dx fs w h1 h2 (look k _ h3).1 z4
theorem Iv.take {n:Nat}{σ2:L2.St}(I:Iv K c md L σ2 S H)(hmd:md.length≤n)(hs:σ.length=n)(hl:n≤σ2.length)(e:∀ j,j<n→σ2[j]?=σ[j]?):Iv K c md (L.take n) σ S H:=by
 have look:∀ j w,(L.take n)[j]?=some (some w)→L[j]?=some (some w)∧σ[j]?=σ2[j]?:=λj w z=>by
  have h:=(List.getElem?_eq_some_iff.mp z).1
  rw[List.length_take] at h
  rw[List.getElem?_take_of_lt (by lia)] at z
  exact⟨z,(e j (by lia)).symm⟩
 have up:∀ j w,a0n md j≠.imm→L[j]?=some (some w)→(L.take n)[j]?=some (some w)∧σ[j]?=σ2[j]?:=λj w hm z=>by
  have h:j<n:=by
   by_cases h:j<n
   ·exact h
   ·exact absurd (c5f (by lia)) hm
  exact⟨by rw[List.getElem?_take_of_lt h];exact z,(e j h).symm⟩
 refine⟨by rw[List.length_take,I.len,hs];lia,λj w hm z=>?_,λj w hm z=>?_,λj k w u b m1 m2 z1 z2 y1 y2=>?_,I.sub,I.frame,I.s0,I.grow,λb hb=>?_,λp hp=>?_,λj w hm z=>I.fzm j w hm (look j w z).1,I.fzp,λp hp=>?_,I.ntp,λq hq=>?_,λj k x C dx fs w h1 h2 h3 h4=>?_⟩
 ·obtain⟨z,y⟩:=look j w z;rw[y];exact I.imm j w hm z
 ·obtain⟨z,y⟩:=look j w z;rw[y];exact I.own j w hm z
 ·obtain⟨z1,q1⟩:=look j w z1
  obtain⟨z2,q2⟩:=look k u z2
  rw[q1] at y1;rw[q2] at y2
  exact I.dis j k w u b m1 m2 z1 z2 y1 y2
 ·obtain⟨g1,g2,w,g3⟩:=I.lent b hb
  obtain⟨f1,f2⟩:=up 0 w g1 g3
  exact⟨g1,by rw[f2];exact g2,w,f1⟩
 ·obtain⟨g1,g2,w,g3⟩:=I.fzs p hp
  obtain⟨f1,f2⟩:=up p.1 w (λz=>by rw[g1] at z;cases z) g3
  exact⟨g1,by rw[f2];exact g2,w,f1⟩
 ·obtain⟨g1,g2,g3⟩:=I.prs p hp
  refine⟨g1,g2,λj w hm z=>?_⟩
  obtain⟨z,y⟩:=look j w z
  rw[y];exact g3 j w hm z
 ·obtain⟨g1,g2,w,g3⟩:=I.lnt1 q hq
  obtain⟨f1,f2⟩:=up q.1 w (λz=>by rw[z] at g1;cases g1) g3
  exact⟨g1,by rw[f2];exact g2,w,f1⟩
 ·obtain⟨z4,y4⟩:=look j w h4
  rw[y4]
  exact I.tie j k x C dx fs w h1 h2 (look k _ h3).1 z4
theorem b1i {α β:Type}{J:It}{xs:List FV}{n m:Nat}{tg:Tg}{t:BW}{QH:Hp→Prop}{fr:β→Cn}{P:α→β→Hp→Prop}{N:α→Nat}{Cm:List FV→α→a0d→Prop}{em:α→a0d→(α→a0d→Prop)→Prop}{eh:L2.St→Hp→(Hp→Prop)→Prop}{a0:α}{b0:β}
  (I:Iv K (fr b0) md L σ S H)(hJ:ItR K c md J xs S)(hL:L.length=n)(hmd:md.length≤n)(ht:a4u md tg=true)(hg:b0a n tg=true)(p0:P a0 b0 S)(n0:N a0=0)(h:Cm xs a0 L)
  (hU:∀ a b L σ S H,Iv K (fr b) md L σ S H→P a b S→Iv K c md L σ S H)(hP:∀ a b S S',P a b S→Same S S'→P a b S')
  (hC:∀ x xs a L,Cm (x :: xs) a L→gW tg x (L++Γj m none) λL1=>t L1 λb L2=>if b=true then em a L2 (λa' L4=>Cm xs a' (L4.take n)) else Cm xs a (L2.take n))
  (hE:∀ a b L3 σ2 S3 H3 K' Z,N a<xs.length→Iv K (fr b) md L3 σ2 S3 H3→P a b S3→em a L3 K'→(∀ a' b' L4 S4 H4,K' a' L4→Iv K (fr b') md L4 σ2 S4 H4→P a' b' S4→Same S3 S4→N a'≤N a+1→Z H4)→eh σ2 H3 Z)
  (k:∀ a b L' S' H',Cm [] a L'→Iv K (fr b) md L' σ S' H'→P a b S'→Same S S'→QH H') :
  ∃ W:Nat→Nat→Hp→Prop,(∃ m,W 0 m H)∧∀ i j H,W i j H →
   (J.stop i H∧QH H) ∨ (J.go i H∧∀ x H',J.yld i H x H'→gT K tg x (σ++Γj m none) H' λσ2 H2=>Wk (σ++Γj m none) σ2∧lb K md t σ2 H2 λb H3 =>
    if b=true then eh σ2 H3 λH4=>∃ m',m'<j∧W (i+1) m' H4 else ∃ m',m'<j∧W (i+1) m' H3):=by
 have hl:σ.length=n:=by rw[← I.len];exact hL
 refine⟨λi j H1=>∃ L S1 a b,j=(xs.drop i).length∧Iv K (fr b) md L σ S1 H1∧P a b S1∧Same S S1∧L.length=n∧N a≤i∧Cm (xs.drop i) a L,⟨_,L,S,a0,b0,rfl,I,p0,Same.refl S,hL,Nat.le_of_eq n0,by rw[List.drop_zero];exact h⟩,?_⟩
 rintro i j H1 ⟨L,S1,a,b,rfl,I,r,s,hL,hps,hc⟩
 obtain⟨j1,j2⟩:=hJ i L σ S1 H1 (hU _ _ _ _ _ _ I r) s
 cases hd:xs.drop i with
 | nil =>
  left
  rw[hd] at hc
  exact⟨j1 (List.getElem?_eq_none_iff.mpr (List.drop_eq_nil_iff.mp hd)),k a b L S1 H1 hc I r s⟩
 | cons p rest =>
  right
  rw[hd] at hc
  have hi:xs[i]?=some p:=by
   have:=congrArg (·[0]?) hd
   simpa using this
  have hd':xs.drop (i+1)=rest:=by
   have:=congrArg List.tail hd
   simpa[List.tail_drop] using this
  have hix:i<xs.length:=(List.getElem?_eq_some_iff.mp hi).1
  obtain⟨go,yl⟩:=j2 p hi
  refine⟨go,λx H2 y=>?_⟩
  obtain⟨S2,s2,tr,rx⟩:=yl x H2 y
  have I2:=(tr _ _ _ _ I).more m
  obtain⟨σ2,L2,gq,q2,I2,len2,far⟩:=b9n ht I2 rx (hC _ _ _ _ hc)
  have l2:n≤σ2.length:=by rw[len2,List.length_append,hl];lia
  have far':∀ q,q<n→σ2[q]?=σ[q]?:=λq hq=>by rw[far n hg q hq,List.getElem?_append_left (by rw[hl];exact hq)]
  refine gq _ ⟨⟨len2,λq v hv=>?_⟩,?_⟩
  ·have hq:q<n:=by
    by_cases h:q<σ.length
    ·rw[← hl];exact h
    ·rw[List.getElem?_append_right (by lia),List.getElem?_replicate] at hv
     split at hv<;>cases hv
   rw[far n hg q hq];exact hv
  ·refine⟨_,L2,S2,_,I2,q2,λb1 L3 hb3 S3 H3 I3 s3=>?_⟩
   have ln:∀ {c':Cn}{L4:a0d}{S4 H4:Hp},Iv K c' md L4 σ2 S4 H4→(L4.take n).length=n:=λI4=>by rw[List.length_take,I4.len];lia
   show ite _ _ _
   cases b1 with
   | false =>
    rw[if_neg Γk] at hb3 ⊢
    exact⟨rest.length,by simp,L3.take n,S3,a,b,by rw[hd'],I3.take hmd hl l2 far',hP _ _ _ _ r (s2.trans s3),s.trans (s2.trans s3),ln I3,by lia,by rw[hd'];exact hb3⟩
   | true =>
    rw[if_pos rfl] at hb3 ⊢
    exact hE a b L3 σ2 S3 H3 _ _ (by lia) I3 (hP _ _ _ _ r (s2.trans s3)) hb3 λa' b' L4 S4 H4 hv I4 r4 s4 n4=>⟨rest.length,by simp,L4.take n,S4,a',b',by rw[hd'],I4.take hmd hl l2 far',r4,s.trans (s2.trans (s3.trans s4)),ln I4,by lia,by rw[hd'];exact hv⟩
theorem Iv.newPr {acc:Addr}{o:HO}(I:Iv K { c with pr:=(acc,o) :: c.pr } md L σ S H)(h0:c.H0 acc=none)(hp:∀ p∈c.pr,p.1≠acc)(hz:∀ p∈c.fz,∃ o,(p.2,o)∈c.pr):H acc=some o∧S acc=none∧a6v c md L σ acc:=by
 obtain⟨g1,g2,g3⟩:=I.prs (acc,o) Γn
 refine⟨g1,g2,h0,hp,λq w hm hq hs=>?_⟩
 by_cases mo:(a0n md q).w=true
 ·exact g3 q w mo hq hs
 ·have mo:a0n md q=.frz:=by cases z:a0n md q with|imm=>exact absurd z hm|frz=>rfl|_=>rw[z] at mo;exact absurd rfl mo
  obtain⟨b,f1⟩:=I.fzm q w mo hq
  obtain⟨_,f2,_⟩:=I.fzs _ f1
  rw[hs] at f2;cases f2
  obtain⟨ys,f3⟩:=hz _ f1
  exact hp _ f3 rfl
theorem c4d {J:It}{xs:List FV}{n m:Nat}{tg:Tg}{t:BW}{e:EW}{Q:VK}{Q1:List FV→a0d→Prop}(I:Iv K c md L σ S H)(hJ:ItR K c md J xs S)(hL:L.length=n)(hmd:md.length≤n)(ht:a4u md tg=true)(hg:b0a n tg=true)(hb:xs.length≤big)(h:a5a n m tg t e xs [] L Q1)
  (k:∀ acc ps L' S' H',H acc=none→Q1 ps L'→a3o K S' H' acc (.lst ps)→a6v c md L' σ acc→Iv K c md L' σ S' H'→Same S S'→Q (.ref acc) H') :
  ∀ acc,H acc=none→∃ W:Nat→Nat→Hp→Prop,(∃ m,W 0 m (upd H acc (.lst [])))∧∀ i j H,W i j H →
   (J.stop i H∧Q (.ref acc) H) ∨ (J.go i H∧∀ x H',J.yld i H x H'→gT K tg x (σ++Γj m none) H' λσ2 H2=>Wk (σ++Γj m none) σ2∧lb K md t σ2 H2 λb H3 =>
    if b=true then emL (lv K md e) acc σ2 H3 λH4=>∃ m',m'<j∧W (i+1) m' H4 else ∃ m',m'<j∧W (i+1) m' H3):=by
 intro acc hacc
 have h0:=I.h0 hacc
 have hp:∀ p∈c.pr,p.1≠acc:=(I.fresh hacc).2.1
 have hz:=I.fzp
 have hbl:=a1g
 refine b1i (fr:=λus=>{ c with pr:=(acc,.lst us) :: c.pr }) (P:=λps us S=>RVs K S ps us) (N:=List.length) (Cm:=λxs ps L=>a5a n m tg t e xs ps L Q1) (em:=λps L3 K'=>e L3 λv L4=>K' (ps++[v]) L4) (a0:=[]) (b0:=[]) ((I.lay hacc _).prot a0e (I.sn hacc) λj w hm hj=>(I.fresh hacc).2.2 j w (Mo.w_imm hm) hj) hJ hL hmd ht hg rfl rfl h (λ_ _ _ _ _ _ I _=>I.unprot hz) (λ_ _ _ _ r s=>r.mono s) (λ_ _ _ _ h=>h) (λps us L3 σ2 S3 H3 K' Z hn I3 r hv kz=>?_) λps us L' S' H' q I' r s'=>?_
 ·refine⟨_,L3,S3,_,I3,hv,λv L4 hv u S4 H4 r4 I4 s4=>?_⟩
  have lr:=r.length
  exact⟨us,(I4.prs (acc,.lst us) Γn).1,by lia,kz _ (us++[u]) L4 S4 _ hv (I4.regrow h0 hp hz) ((r.mono s4).append (RVs.one r4)) s4 (by simp)⟩
 ·obtain⟨g1,g2,f⟩:=I'.newPr h0 hp hz
  exact k acc ps L' S' H' hacc q ⟨g2,ps,us,rfl,g1,r⟩ f (I'.unprot hz) s'
end
def b5h:Expr→Bool
 | .Set ..=>true
 | _=>false
theorem b9o {x:Expr}{env:Env}(h:b5h x=false):∀ v,foldedSetIterable x env v=pure v:=by
 intro v
 cases x<;>first|rfl|(cases h;done)
def CC.tn (C:CC) (i:Nat)(x:Str):Bool:=decide (C.N[i]?=some x) && C.loc x
def d7v (outer:List (Str×NameKind))(names:List (Str×NameKind)):List (Str×NameKind) :=
 names.map λ(n,k)=>if (k == NameKind.free && outer.lookup n == some .cell) then (n,NameKind.cell) else (n,k)
def CC.sub (C:CC)(scope:Scope)(own:List Str)(md:Md):CC:=⟨C.N.map (a9d own)++own,d7v C.sc scope.names,C.fns,md,false,scope.names,C.ms,C.fl⟩
def CC.scOk (C:CC)(scope:Scope)(own:List Str):Bool :=
 decide (scope.kind=.function) && scope.names.all (λp=>decide (p.2=.cell→scope.names.lookup p.1=some .cell)) && scope.names.all (λp=>decide (p.2=.local→scope.names.lookup p.1=some .local)) &&
 scope.names.all (λp=>decide (p.2=.free→(C.sc.lookup p.1=some .cell ∨ C.sc.lookup p.1=some .free))) && C.N.all (λx=>if own.contains x then decide (scope.names.lookup (d5h x)=none) else decide (scope.names.lookup x≠some .local∧scope.names.lookup x≠some .cell)) && decide ((C.N.map (a9d own)++own).Nodup)
def d2j:Md→Md→Bool
 | [],_=>true
 | a :: md,[]=>decide (a=.imm) && d2j md []
 | a :: md,b :: md'=>(decide (a=.imm) || !decide (b=.imm)) && d2j md md'
theorem a9c:∀ {md md':Md},d2j md md'=true→∀ j,a0n md j≠.imm→a0n md' j≠.imm
 | [],_,_,j,h=>absurd rfl h
 | a :: md,[],h,0,h0=>absurd (de (b2 h).1) h0
 | a :: md,[],h,j+1,h0=>a9c (md:=md) (md':=[]) (b2 h).2 j h0
 | a :: md,b :: md',h,0,h0=>λz=>by
  have h:=(b2 h).1
  have h0:a≠.imm:=h0
  have z:b=.imm:=z
  simp[h0,z] at h
 | a :: md,b :: md',h,j+1,h0=>a9c (md:=md) (md':=md') (b2 h).2 j h0
def FGs (X:Cx)(es:List Expr)(is:List Nat):Prop:=PGs X.nox es (gTs is)∧(assignEach es X.env).length=is.length∧(assignEach es X.env).findIdx? (·.1)=none
def FTs (X:Cx)(C:CC)(xs:List Expr)(t:BW):Prop:=PTs X.nox xs (lb X.K C.md t)
section
variable {X:Cx}{C:CC}{n:Nat}{sp:Γd→Nat→Sp}{a b x:Expr}{xs:List Expr}{pos p:Pos}{i k:Nat}{nx:Str}{is:List Nat}{t u:BW}
theorem Good.ix (G:Good X C n sp){y:Str}(h:decide (C.N[i]?=some y)=true):X.N[i]?=some y:=by rw[G.N];exact de h
theorem Good.nd' (G:Good X C n sp):X.N.Nodup:=by rw[G.N];exact G.nd
theorem d9y (G:Good X C n sp)(h:C.tn i nx=true):FG X (.Name nx p) (.nm i):=by
 have h:=b2 h
 obtain⟨l1,l2⟩:=G.loc h.2
 exact c7f (X:=X.nox) G.nd' (G.ix h.1) l1 l2
theorem d9x:FGs X [] []:=⟨c7e,rfl,rfl⟩
theorem d5l (G:Good X C n sp)(h:C.tn i nx=true)(r:FGs X xs is):FGs X (.Name nx p :: xs) (i :: is):=by
 obtain⟨h1,h2,h3⟩:=r
 refine⟨c2i (d9y G h) h1 rfl,?_,?_⟩
 ·show (assignEach xs X.env).length+1=is.length+1
  rw[h2]
 ·show ((false,assign (.Name nx p) X.env) :: assignEach xs X.env).findIdx? (·.1)=none
  rw[List.findIdx?_cons]
  simp[h3]
theorem d3g (G:Good X C n sp)(r:FGs X xs is):FG X (.Tuple xs k p) (.tp is):=d1j (X:=X.nox) G.calm r.1 r.2.1 r.2.2
theorem PTs.imp {e:List Expr}{t u:TT}(h:PTs X e t)(f:∀ σ H Q,u σ H Q→t σ H Q):PTs X e u:=λpins s σ H Q I hu=>h pins s σ H Q I (f σ H Q hu)
theorem d9m:FTs X C [] a2a:=PTs.imp c6u λσ H Q ⟨c,L,S,Q0,I,h,k⟩=>k true L h S H I (Same.refl S)
theorem Good.sub (G:Good X C n sp){scope:Scope}{own:List Str}(h:C.scOk scope own=true)(md:Md):CScope X scope own∧∀ fp D s H,Good (cxC X scope own fp D s H) (C.sub scope own md) n sp:=by
 simp only[CC.scOk,Bool.and_eq_true,decide_eq_true_eq,List.all_eq_true] at h
 obtain⟨⟨⟨⟨⟨h1,h2⟩,h3⟩,h4⟩,h5⟩,h6⟩:=h
 refine⟨⟨h1,λp hp=>by simpa using h2 p hp,λp hp=>by simpa using h3 p hp,λp hp hk=>?_,λx hx hw=>?_,λx hx hw=>?_⟩,λfp D s H=>⟨?_,?_,h1,h6,G.calm,(λx z=>z),G.room,G.fns,G.blt,G.mts,G.fls⟩⟩
 ·have:=h4 p hp
  show X.env.scope.names.lookup p.1=_ ∨ X.env.scope.names.lookup p.1=_
  rw[G.sc];exact this hk
 ·have:=h5 x (by rw[← G.N];exact hx)
  rw[if_neg (by rw[hw];exact Γk)] at this
  exact de this
 ·have:=h5 x (by rw[← G.N];exact hx)
  rw[if_pos hw] at this
  exact de this
 ·show X.N.map (a9d own)++own=C.N.map (a9d own)++own
  rw[G.N]
 ·show (relabel scope X.env).names=d7v C.sc scope.names
  unfold relabel d7v
  simp only
  refine List.map_congr_left λp hp=>?_
  obtain⟨nm,kd⟩:=p
  show (if (kd == NameKind.free && X.env.scope.kind == .function && X.env.scope.names.lookup nm == some .cell)=true then (nm,NameKind.cell) else (nm,kd))=_
  rw[G.kind,G.sc]
  simp
variable {scope:Scope}{own:List Str}{elt tgx iter:Expr}{ifs:List Expr}{it:AW}{tg:Tg}{e:EW}{nn m:Nat}{md':Md}
structure CompOk (X:Cx)(C:CC) (n:Nat)(sp:Γd→Nat→Sp)(scope:Scope)(own:List Str)(elt tgx iter:Expr)(ifs:List Expr) (nn m:Nat)(md':Md)(it:AW)(tg:Tg)(t:BW)(e:EW):Prop where
 st:(C.scOk scope own && decide (C.N.length=nn) && decide (own.length=m) && decide (md'.length≤nn) && d2j C.md md' && a4u md' tg && b0a nn tg && !b5h iter)=true
 it:FI X C md' tgx iter it
 tg:∀ X',Good X' (C.sub scope own md') n sp→FG X' tgx tg
 ts:∀ X',Good X' (C.sub scope own md') n sp→FTs X' (C.sub scope own md') ifs t
 el:∀ X',Good X' (C.sub scope own md') n sp→FE X' (C.sub scope own md') elt e
theorem CompOk.run (G:Good X C n sp)(h:CompOk X C n sp scope own elt tgx iter ifs nn m md' it tg t e){σ:L2.St}{H:Hp}{Q:VK}(hq:lf X.K C.md (a2l nn m it tg t e) σ H Q):c6c (li X.K C.md md' it) (gT X.K tg) (lb X.K md' t) (lv X.K md' e) own.length σ H Q:=by
 have h0:=b2 h.st;have h1:=b2 h0.1;have h2:=b2 h1.1;have h3:=b2 h2.1;have h4:=b2 h3.1;have h5:=b2 h4.1;have h6:=b2 h5.1
 obtain⟨c,L,S,Q0,I,hh,k⟩:=hq
 refine⟨c,L,S,_,I,hh,λxs L1 hx J c' S1 H1 I1 un e0 hJ s1=>?_⟩
 obtain⟨hl,hb,hc⟩:=hx
 rw[de h5.2]
 refine c4d I1 hJ hl (de h4.2) h2.2 h1.2 hb hc λacc ps L' S' H' hn q o fr I' s'=>k _ L' q acc S' H' o ⟨by rw[← e0];exact fr.1,((un _ _ _ _ I1).fresh hn).2.1,λj w hm=>fr.2.2 j w (a9c h3.2 j hm)⟩ (un _ _ _ _ I') (s1.trans s')
theorem CompOk.blk (G:Good X C n sp)(h:CompOk X C n sp scope own elt tgx iter ifs nn m md' it tg t e):CScope X scope own∧(∀ fp D s H,PG (cxC X scope own fp D s H) tgx (gT X.K tg)∧PTs (cxC X scope own fp D s H) ifs (lb X.K md' t)∧PE (cxC X scope own fp D s H) elt (lv X.K md' e))∧∀ v,foldedSetIterable iter X.env v=pure v:=by
 have h0:=b2 h.st;have h1:=b2 h0.1;have h2:=b2 h1.1;have h3:=b2 h2.1;have h4:=b2 h3.1;have h5:=b2 h4.1;have h6:=b2 h5.1
 obtain⟨s1,s2⟩:=G.sub h6.1 md'
 exact⟨s1,λfp D s H=>⟨h.tg _ (s2 fp D s H),h.ts _ (s2 fp D s H),h.el _ (s2 fp D s H)⟩,b9o (nb h0.2)⟩
theorem a1r (G:Good X C n sp)(h:CompOk X C n sp scope own elt tgx iter ifs nn m md' it tg t e):FF X C (.ListComp elt [⟨tgx,iter,ifs,0⟩] scope pos) (a2l nn m it tg t e):=by
 obtain⟨s1,s2,s3⟩:=h.blk G
 exact PE.imp (b8c G.calm s1 h.it s2 s3) λσ H Q q=>h.run G q
end
def e3o (K:Γd)(c:Cn)(S H:Hp)(v:FV)(x:V):Bool→Prop
 | false=>RV K S v x
 | true=>∃ a,x=.ref a∧a3o K S H a v∧c.H0 a=none
def EndQ (K:Γd)(c:Cn)(fr:Bool)(D:Ends)(σ:L2.St)(S H:Hp):FFl→Prop
 | .next=>D.nx σ H
 | .brk=>D.bk σ H
 | .cont=>D.ct σ H
 | .ret v=>∀ x,e3o K c S H v x fr→D.rt x H
def ls (K:Γd)(md:Md)(fr:Bool)(s:SW):TS:=λD σ H=>∃ c L S Q0,Iv K c md L σ S H∧s L Q0∧∀ fl L',Q0 fl L'→∀ σ' S' H',Iv K c md L' σ' S' H'→Same S S'→EndQ K c fr D σ' S' H' fl
def FS (X:Cx)(C:CC)(fr:Bool)(x:Stmt)(s:SW):Prop:=PS X.nox x (ls X.K C.md fr s)
def FSs (X:Cx)(C:CC)(fr:Bool)(x:List Stmt)(s:SW):Prop:=PSs X.nox x (ls X.K C.md fr s)
def CC.wmd (C:CC)(md:Md):CC:=⟨C.N,C.sc,C.fns,md,C.top,C.oc,C.ms,C.fl⟩
section
variable {X:Cx}{C:CC}{n:Nat}{sp:Γd→Nat→Sp}{fr:Bool}{a b x y:Expr}{e ea eb:EW}{pos p px py:Pos}{i j k:Nat}{nx ny:Str}{is:List Nat}{st:Stmt}{sts:List Stmt}{s r:SW}
variable {K:Γd}{c:Cn}{md:Md}{L:a0d}{σ:L2.St}{S H:Hp}
theorem Good.wmd (G:Good X C n sp)(md:Md):Good X (C.wmd md) n sp:=⟨G.N,G.sc,G.kind,G.nd,G.calm,G.fn,G.room,G.fns,G.blt,G.mts,G.fls⟩
theorem PS.imp {e:Stmt}{t u:TS}(h:PS X e t)(f:∀ D σ H,u D σ H→t D σ H):PS X e u:=λpins s σ H D I hu=>h pins s σ H D I (f D σ H hu)
theorem PSs.imp {e:List Stmt}{t u:TS}(h:PSs X e t)(f:∀ D σ H,u D σ H→t D σ H):PSs X e u:=λpins s σ H D I hu=>h pins s σ H D I (f D σ H hu)
theorem fs_nil:FSs X C fr [] a3v:=PSs.imp b7r λD σ H ⟨c,L,S,Q0,I,h,k⟩=>k .next L h σ S H I (Same.refl S)
theorem a3b (h:FS X C fr st s):FSs X C fr [st] s:=b2c h
theorem a0p (h:FS X C fr st s)(h2:FSs X C fr sts r):FSs X C fr (st :: sts) (a0t s r):=PSs.imp (b3l h h2) λD σ H ⟨c,L,S,Q0,I,h,k⟩ =>
 ⟨c,L,S,_,I,h,λfl L1 q σ1 S1 H1 I1 s1=>by
  cases fl with
  | next=>exact⟨c,L1,S1,_,I1,q,λfl L2 q σ2 S2 H2 I2 s2=>k fl L2 q σ2 S2 H2 I2 (s1.trans s2)⟩
  | brk=>exact k _ L1 q σ1 S1 H1 I1 s1
  | cont=>exact k _ L1 q σ1 S1 H1 I1 s1
  | ret v=>exact k _ L1 q σ1 S1 H1 I1 s1⟩
def a6l:Expr→Bool
 | .ListComp ..=>true
 | .SetComp ..=>true
 | .DictComp ..=>true
 | _=>false
theorem a2s {e:Expr}{t:Option Expr}{n:Nat}{env:Env}(h:a6l e=false):swapsWith e t n env=pure false:=by
 cases e<;>first|rfl|(cases h;done)
theorem d9q (hc:a6l a=false)(h:FE X C a e):FS X C fr (.Expr a pos) (b6b e):=PS.imp (c6x h (a2s hc)) λD σ H ⟨c,L,S,Q0,I,h,k⟩ =>
 ⟨c,L,S,_,I,h,λv L1 q x S1 H1 r I1 s1=>k .next L1 q σ S1 H1 I1 s1⟩
theorem fs_ret (h:FE X C a e):FS X C false (.Return (some a) pos) (a1j e):=PS.imp (c4w h) λD σ H ⟨c,L,S,Q0,I,h,k⟩ =>
 ⟨c,L,S,_,I,h,λv L1 q x S1 H1 r I1 s1=>k (.ret v) L1 q σ S1 H1 I1 s1 x r⟩
theorem d9o (h:FF X C a e):FS X C true (.Return (some a) pos) (a1j e):=PS.imp (c4w h) λD σ H ⟨c,L,S,Q0,I,h,k⟩ =>
 ⟨c,L,S,_,I,h,λv L1 q l S1 H1 o fr I1 s1=>k (.ret v) L1 q σ S1 H1 I1 s1 _ ⟨l,rfl,o,fr.1⟩⟩
theorem fs_if {t:BW}{xa xb:List Stmt}(h:FB X C a t)(ha:FSs X C fr xa s)(hb:FSs X C fr xb r):FS X C fr (.If a xa xb pos) (sIf t s r):=PS.imp (d1f h ha hb) λD σ H ⟨c,L,S,Q0,I,h,k⟩ =>
 ⟨c,L,S,_,I,h,λv L1 q S1 H1 I1 s1=>by
  cases v with
  | true=>rw[if_pos rfl] at q ⊢;exact⟨c,L1,S1,_,I1,q,λfl L2 q σ2 S2 H2 I2 s2=>k fl L2 q σ2 S2 H2 I2 (s1.trans s2)⟩
  | false=>rw[if_neg Γk] at q ⊢;exact⟨c,L1,S1,_,I1,q,λfl L2 q σ2 S2 H2 I2 s2=>k fl L2 q σ2 S2 H2 I2 (s1.trans s2)⟩⟩
theorem c1d {tg:Tg}{te:TE}(ht:a4u C.md tg=true)(hte:∀ σ H Q,lv X.K C.md e σ H Q→te σ H Q)(h:PS X.nox st (c1g te (gT X.K tg))):FS X C fr st (a1o e tg):=PS.imp h λD σ H ⟨c,L,S,Q0,I,h,k⟩=>hte _ _ _
 ⟨c,L,S,_,I,h,λv L1 q x S1 H1 r I1 s1=>by
  obtain⟨σ',L',g,q,I2,_⟩:=b9n ht I1 r q
  exact g _ (k .next L' q σ' S1 H1 I2 s1)⟩
theorem c9n {te:TE}(m:a0n C.md i=.imm)(hte:∀ σ H Q,lf X.K C.md e σ H Q→te σ H Q)(h:PS X.nox st (c1g te (a5j i))):FS X C fr st (a1o e (.nm i)):=PS.imp h λD σ H ⟨c,L,S,Q0,I,h,k⟩=>hte _ _ _
 ⟨c,L,S,_,I,h,λv L1 q l S1 H1 o f I1 s1=>by
  obtain⟨u,hu,I2,r⟩:=b8l I1 o f
  exact k .next _ q _ _ H1 (I2.setI m r) (s1.trans (a0r o.1))⟩
theorem c9m {te:TE}(m:(decide (a0n C.md i=.own) && decide (i≠0))=true)(hte:∀ σ H Q,lf X.K C.md e σ H Q→te σ H Q)(h:PS X.nox st (c1g te (a5j i))):FS X C fr st (a1o e (.nm i)):=PS.imp h λD σ H ⟨c,L,S,Q0,I,h,k⟩=>hte _ _ _
 ⟨c,L,S,_,I,h,λv L1 q l S1 H1 o f I1 s1=>by
  have m:=b2 m
  exact k .next _ q _ _ H1 (I1.set (λ_ _=>de m.2) (λz=>by rw[de m.1] at z;cases z) (.inr ⟨de m.1,l,rfl,o,f.1,f.2.1,λj w _ hm hj=>f.2.2 j w hm hj⟩)) s1⟩
theorem c6w (G:Good X C n sp){te:TE}(ht:C.tn i nx=true)(hs:swapsWith a (some (.Name nx px)) pos.line X.env=pure false)(h:PE X.nox a te):PS X.nox (.Assign [.Name nx px] a pos) (c1g te (a5j i)):=by
 have ht:=b2 ht
 obtain⟨l1,l2⟩:=G.loc ht.2
 exact c4v (X:=X.nox) G.nd' (G.ix ht.1) l1 h hs l2
theorem fs_set (G:Good X C n sp)(ht:C.tn i nx=true)(m:a0n C.md i=.imm)(hc:a6l a=false)(h:FE X C a e):FS X C fr (.Assign [.Name nx px] a pos) (a1o e (.nm i)) :=
 c1d (tg:=.nm i) (by simpa[a4u] using m) (λ_ _ _ z=>z) (c6w G ht (a2s hc) h)
theorem d9n (G:Good X C n sp)(ht:C.tn i nx=true)(m:(decide (a0n C.md i=.own) && decide (i≠0))=true)(hc:a6l a=false)(h:FF X C a e):FS X C fr (.Assign [.Name nx px] a pos) (a1o e (.nm i)) :=
 c9m m (λ_ _ _ z=>z) (c6w G ht (a2s hc) h)
def swC (C:CC)(x:Str)(px:Pos)(scope:Scope)(p:Pos):Bool:=decide (C.sc.lookup x=some .local) && (px.line == p.line) && !(scope.names.any λ(n,k)=>n == x && (k == .local || k == .cell))
theorem c6d {elt:Expr}{gs:List Comprehension}{scope:Scope}{p px:Pos}{x:Str}{n:Nat}{env:Env}(hk:env.scope.kind=.function) :
  swapsWith (.ListComp elt gs scope p) (some (.Name x px)) n env=pure (decide (env.scope.names.lookup x=some .local) && (px.line == p.line) && !(scope.names.any λ(n,k)=>n == x && (k == .local || k == .cell))):=by
 have hb:env.blockKind=.function:=by unfold Env.blockKind;rw[hk];rfl
 have:(env.kindOf x == some .local)=decide (env.scope.names.lookup x=some .local):=by
  rw[Bool.eq_iff_iff];simp[Env.kindOf]
 unfold swapsWith
 simp only[hb,this]
 rfl
variable {scope:Scope}{own:List Str}{elt tgx iter:Expr}{ifs:List Expr}{it:AW}{tg:Tg}{t:BW}{nn m:Nat}{md':Md}
theorem c4c (G:Good X C n sp)(ht:C.tn i nx=true)(h:CompOk X C n sp scope own elt tgx iter ifs nn m md' it tg t e):∃ te:TE,(∀ σ H Q,lf X.K C.md (a2l nn m it tg t e) σ H Q→te σ H Q)∧PS X.nox (.Assign [.Name nx px] (.ListComp elt [⟨tgx,iter,ifs,0⟩] scope p) pos) (c1g te (a5j i)):=by
 have hsw:swapsWith (.ListComp elt [⟨tgx,iter,ifs,0⟩] scope p) (some (.Name nx px)) pos.line X.env=pure (swC C nx px scope p):=by rw[c6d G.kind,G.sc];rfl
 obtain⟨s1,s2,s3⟩:=h.blk G
 cases hb:swC C nx px scope p with
 | false =>
  rw[hb] at hsw
  exact⟨_,λσ H Q q=>h.run G q,c6w G ht hsw (b8c G.calm s1 h.it s2 s3)⟩
 | true =>
  rw[hb] at hsw
  have hlo:X.env.scope.names.lookup nx=some .local:=by
   rw[G.sc]
   have hb:=b2 hb
   exact de (b2 hb.1).1
  exact⟨_,λσ H Q q=>h.run G q,b4u G.calm s1 G.nd' (G.ix (b2 ht).1) hlo h.it s2 hsw s3⟩
theorem b9p (G:Good X C n sp)(ht:C.tn i nx=true)(hm:a0n C.md i=.imm)(h:CompOk X C n sp scope own elt tgx iter ifs nn m md' it tg t e):FS X C fr (.Assign [.Name nx px] (.ListComp elt [⟨tgx,iter,ifs,0⟩] scope p) pos) (a1o (a2l nn m it tg t e) (.nm i)) :=
 let ⟨te,h1,h2⟩:=c4c G ht h
 c9n hm h1 h2
def tupX:Expr→Bool
 | .Tuple ..=>true
 | _=>false
def b4t:Expr→Bool
 | .Starred ..=>true
 | _=>false
theorem fs_tup (G:Good X C n sp){ts:List Expr}(hm:a4u C.md (.tp is)=true)(hn:tupX a=false)(hg:FGs X ts is)(h:FE X C a e):FS X C fr (.Assign [.Tuple ts k p] a pos) (a1o e (.tp is)) :=
 c1d (tg:=.tp is) hm (λ_ _ _ z=>z) (b7u (X:=X.nox) h (d3g G hg) (by cases a<;>rfl) (by cases a<;>first|rfl|(cases hn;done)) rfl)
def a7s (sc:List (Str×NameKind))(t:Expr):Bool:=match t with
 | .Name x _=>!(decide (sc.lookup x=some .local))
 | _=>true
theorem d7b {ts vs:List Expr}{k k2:Nat}{tp tp2:Pos}{env:Env}(h:4≤ts.length ∨ ∃ t∈ts,a7s env.scope.names t=true):swappedStores [.Tuple ts k tp] (.Tuple vs k2 tp2) env=pure none:=by
 unfold swappedStores
 simp only
 split
 ·rfl
 ·rename_i h1
  split
  ·rfl
  ·have hlen:ts.length=2 ∨ ts.length=3:=by
    simp only[Bool.or_eq_true,Bool.not_eq_true',bne_iff_ne,ne_eq,not_or,Bool.not_eq_false] at h1
    simpa using h1.1.1
   obtain⟨t,ht,hn⟩:∃ t∈ts,a7s env.scope.names t=true:=by
    rcases h with h|h
    ·lia
    ·exact h
   have lt:∀ (l:List Expr)(f:Expr→Option Str),t∈l→f t=none→(l.filterMap f).length<l.length:=by
    intro l f
    induction l with
    | nil=>intro h;cases h
    | cons a r ih =>
     intro hm hf
     have le:=List.length_filterMap_le f r
     rcases List.mem_cons.mp hm with rfl|hm
     ·rw[List.filterMap_cons,hf,List.length_cons];show (List.filterMap f r).length<_;lia
     ·rw[List.filterMap_cons]
      have:=ih hm hf
      split<;>simp only[List.length_cons]<;>lia
   have:=lt ts (fun
    | .Name id pos=>if env.kindOf id == some .local && pos.line == (ts.head?.map (·.pos.line)).getD 0 then some id else none
    | _=>none) ht (by
     cases t with
     | Name x p =>
      have hx:¬ env.scope.names.lookup x=some .local:=by simpa[a7s] using hn
      have hk:(env.kindOf x == some NameKind.local)=false:=by
       cases hq:(env.kindOf x == some NameKind.local) with
       | false=>rfl
       | true=>exact absurd (show env.kindOf x=some .local by simpa using hq) hx
      simp only[hk,Bool.false_and,Γp,if_false]
     | _=>rfl)
   rw[if_pos]
   simp only[Bool.or_eq_true,bne_iff_ne,ne_eq]
   left
   exact Γo this
theorem sw2 {x y:Str}{px py pt pt2:Pos}{kt k2:Nat}{a b:Expr}{env:Env}(hk:env.scope.kind=.function)(hx:env.scope.names.lookup x=some .local)(hy:env.scope.names.lookup y=some .local)(hxy:x≠y)(hl:(py.line == px.line)=true)
  (sa:b4t a=false)(sb:b4t b=false)(hf:(foldedForSure 8 a && foldedForSure 8 b)=false)(hc:(constantsAlone 8 a && constantsAlone 8 b)=false) :
  swappedStores [.Tuple [.Name x px,.Name y py] kt pt] (.Tuple [a,b] k2 pt2) env=pure (some [x,y]):=by
 have hb:env.blockKind=.function:=by unfold Env.blockKind;rw[hk];rfl
 have kx:env.kindOf x=some .local:=hx
 have ky:env.kindOf y=some .local:=hy
 unfold swappedStores
 have hyx:¬ y=x:=λz=>hxy z.symm
 have hs:([a,b].any fun|.Starred ..=>true|_=>false)=false:=by
  show (b4t a || (b4t b || false))=false
  rw[sa,sb];rfl
 have hf':[a,b].all (foldedForSure 8)=false:=by simpa using hf
 have hc':[a,b].all (constantsAlone 8)=false:=by simpa using hc
 have hlx:((some (Expr.Name x px)).map (·.pos.line)).getD 0=px.line:=rfl
 simp only[List.length_cons,List.length_nil,hb,hs,hf',hc',List.head?_cons,hlx,List.filterMap_cons,List.filterMap_nil,kx,ky,hl,beq_self_eq_true,Bool.and_self,if_true]
 simp[List.eraseDups_cons,hyx,bne,hxy]
 intro h
 exfalso
 rcases h with h|h
 ·cases a<;>first|(cases h;done)|(cases sa;done)
 ·cases b<;>first|(cases h;done)|(cases sb;done)
def c2r (C:CC) (i j:Nat)(x y:Str)(px py:Pos)(a b:Expr):Bool:=decide (C.N[i]?=some x) && decide (C.N[j]?=some y) && decide (i≠j) && decide (x≠y) && decide (C.sc.lookup x=some .local) && decide (C.sc.lookup y=some .local) && (py.line == px.line) && !b4t a && !b4t b && !(foldedForSure 8 a && foldedForSure 8 b) && !(constantsAlone 8 a && constantsAlone 8 b)
theorem c1t {xo xi : Expr} {p : Pos} {env : Env} (h : a3y xi = false) : ∀ v, assign (.Subscript xo xi p) env v = (do
      let ov ← holding [v] (eval xo env)
      let iv ← holding [v,ov] (eval xi env)
      standAt p
      holding [v,ov,iv] (setItem ov iv v)
      release [v,ov,iv] []):=by
  intro v
  cases xi<;>first|rfl|(cases h;done)
theorem fs_ix (G:Good X C n sp)(hn:C.nm i nx=true)(m:a0n C.md i=.own)(hc:(!a6l a && !a3y b)=true)(ha:FE X C a ea)(hb:FE X C b eb):FS X C fr (.Assign [.Subscript (.Name nx px) b p] a pos) (d4t i eb ea):=by
 have hc:=b2 hc
 refine PS.imp (b7u (X:=X.nox) ha (d1k (a1c (pos:=px) G hn) hb c1v (c1t (nb hc.2))) (by simp only[swapsWithSole];exact a2s (nb hc.1)) rfl rfl) λD σ H ⟨c,L,S,Q0,I,h,k⟩=>?_
 have mi:a0n C.md i≠.imm:=λz=>by rw[m] at z;cases z
 obtain⟨v0,e,h⟩:=wpx h
 obtain⟨l,e1,_⟩:=I.own i v0 mi ((a4n _ _ _).mp e)
 refine⟨c,L,S,_,I,h,λv L1 q x S1 H1 r1 I1 s1=>⟨_,e1,c,L1,S1,_,I1,q,λw L2 q y S2 H2 r2 I2 s2=>?_⟩⟩
 obtain⟨v1,e2,q2⟩:=wpx q
 obtain⟨z,e3,q3⟩:=wpx q2
 have e2:=(a4n _ _ _).mp e2
 obtain⟨l',f1,⟨o1,ps,us,e9,o2,o3⟩,_⟩:=I2.own i v1 mi e2
 rw[e1] at f1;cases f1
 obtain⟨xs,g1,e3⟩:=bnd e3
 obtain⟨nn,g2,e3⟩:=bnd e3
 obtain⟨pp,g3,rfl⟩:=mpd e3
 cases a9g g1
 cases e9
 obtain rfl:w=.int nn:=by cases w<;>cases g2;rfl
 obtain rfl:y=.int nn:=r2
 refine⟨l,us,nn,pp,rfl,rfl,o2,by rw[← o3.length];exact g3,?_⟩
 exact k .next _ q3 σ S2 _ (I2.write m e2 e1 (o3.set pp (r1.mono s2))) (s1.trans s2)
def augF (f:Int→Int→Int):FV→FV→Option FV
 | .int a,.int b=>some (.int (f a b))
 | _,_=>none
theorem c8t {J:It}{xs:List FV}{D:Ends}{Q0:FFl→a0d→Prop}(I:Iv K c md L σ S H)(hJ:ItR K c md J xs S)(ht:a4u md tg=true)(h:c5o tg s xs L Q0)
  (k:∀ fl L',Q0 fl L'→∀ σ' S' H',Iv K c md L' σ' S' H'→Same S S'→EndQ K c fr D σ' S' H' fl) :
  ∃ W:Nat→Nat→L2.St→Hp→Prop,(∃ m,W 0 m σ H)∧∀ i m σ H,W i m σ H →
   (J.stop i H∧D.nx σ H) ∨ (J.go i H∧∃ N:L2.St→Hp→Prop,(∀ σ' H',N σ' H'→∃ m',m'<m∧W (i+1) m' σ' H')∧∀ x H',J.yld i H x H'→gT K tg x σ H' λσ2 H2=>ls K md fr s { D with nx:=N,ct:=N,bk:=D.nx } σ2 H2):=by
 let W:Nat→Nat→L2.St→Hp→Prop:=λi j σ1 H1=>∃ L S1,j=(xs.drop i).length∧Iv K c md L σ1 S1 H1∧Same S S1∧c5o tg s (xs.drop i) L Q0
 refine⟨W,⟨_,L,S,rfl,I,Same.refl S,by rw[List.drop_zero];exact h⟩,?_⟩
 rintro i m σ1 H1 ⟨L,S1,rfl,I,s1,h⟩
 obtain⟨j1,j2⟩:=hJ i L σ1 S1 H1 I s1
 cases hd:xs.drop i with
 | nil =>
  rw[hd] at h
  exact .inl ⟨j1 (List.getElem?_eq_none_iff.mpr (List.drop_eq_nil_iff.mp hd)),k .next L h σ1 S1 H1 I s1⟩
 | cons p rest =>
  right
  rw[hd] at h
  have hi:xs[i]?=some p:=by
   have:=congrArg (·[0]?) hd
   simpa using this
  have hd':xs.drop (i+1)=rest:=by
   have:=congrArg List.tail hd
   simpa[List.tail_drop] using this
  obtain⟨go,yl⟩:=j2 p hi
  refine⟨go,λσ' H'=>∃ m',m'<rest.length+1∧W (i+1) m' σ' H',λσ' H' h=>h,λx H2 y=>?_⟩
  obtain⟨S2,s2,tr,rx⟩:=yl x H2 y
  have I2:=tr _ _ _ _ I
  obtain⟨σ2,L2,g,q,I3,_⟩:=b9n ht I2 rx h
  refine g _ ⟨c,L2,S2,_,I3,q,λfl L3 q σ3 S3 H3 I4 s3=>?_⟩
  have ss:=s1.trans (s2.trans s3)
  cases fl with
  | next=>exact⟨_,Nat.lt_succ_self _,L3,S3,by rw[hd'],I4,ss,by rw[hd'];exact q⟩
  | cont=>exact⟨_,Nat.lt_succ_self _,L3,S3,by rw[hd'],I4,ss,by rw[hd'];exact q⟩
  | brk=>exact k .next L3 q σ3 S3 H3 I4 ss
  | ret v=>exact k (.ret v) L3 q σ3 S3 H3 I4 ss
theorem a4q (G:Good X C n sp){body:List Stmt}(hc:(a4u md' tg && !b5h iter)=true)(hi:FI X C md' tgx iter it)(hg:FG X tgx tg)(hb:Good X (C.wmd md') n sp→FSs X (C.wmd md') fr body s):FS X C fr (.For tgx iter body [] pos) (b7b it tg s):=by
 have hc:=b2 hc
 refine PS.imp (d1g (X:=X.nox) PassesOwn.never G.calm hi hg (hb (G.wmd md')) (b9o (nb hc.2))) λD σ H ⟨c,L,S,Q0,I,h,k⟩=>?_
 refine⟨c,L,S,_,I,h,λxs L1 q J c' S1 H1 I1 un e0 hJ s1=>?_⟩
 refine c8t I1 hJ hc.1 q λfl L2 q σ2 S2 H2 I2 s2=>?_
 have:=k fl L2 q σ2 S2 H2 (un _ _ _ _ I2) (s1.trans s2)
 cases fl with
 | next=>exact this
 | brk=>exact this
 | cont=>exact this
 | ret v =>
  intro x r
  refine this x ?_
  cases fr with
  | false=>exact r
  | true =>
   obtain⟨a,r1,r2,r3⟩:=r
   exact⟨a,r1,r2,by rw[← e0];exact r3⟩
theorem fs_whl {body:List Stmt}(hc:FB X C a t)(hb:FSs X C fr body s):FS X C fr (.While a body [] pos) (d4r t s):=by
 refine PS.imp (c2d (X:=X.nox) PassesOwn.never hc hb) λD σ H ⟨c,L,S,Q0,I,⟨m,h⟩,k⟩=>?_
 refine⟨λm σ1 H1=>∃ L S1,Iv X.K c C.md L σ1 S1 H1∧Same S S1∧c9r t s m L Q0,⟨m,L,S,I,Same.refl S,h⟩,?_⟩
 rintro m σ1 H1 ⟨L,S1,I1,s1,h⟩
 cases m with
 | zero=>exact h.elim
 | succ m =>
  refine⟨c,L,S1,_,I1,h,λv L1 q S2 H2 I2 s2=>?_⟩
  cases v with
  | false =>
   rw[if_neg Γk] at q ⊢
   exact k .next L1 q σ1 S2 H2 I2 (s1.trans s2)
  | true =>
   rw[if_pos rfl] at q ⊢
   refine⟨λσ' H'=>∃ m',m'<m+1∧∃ L S1,Iv X.K c C.md L σ' S1 H'∧Same S S1∧c9r t s m' L Q0,λσ' H' h=>h,c,L1,S2,_,I2,q,λfl L3 q σ3 S3 H3 I4 s3=>?_⟩
   have ss:=s1.trans (s2.trans s3)
   cases fl with
   | next=>exact⟨m,Nat.lt_succ_self _,L3,S3,I4,ss,q⟩
   | cont=>exact⟨m,Nat.lt_succ_self _,L3,S3,I4,ss,q⟩
   | brk=>exact k .next L3 q σ3 S3 H3 I4 ss
   | ret v=>exact k (.ret v) L3 q σ3 S3 H3 I4 ss
end
structure Df where
 name:String
 st:Stmt
 ps:List Str
 N:List Str
 md:Md
structure Fns where
 f:List Str
 ms:List (Str×Addr×Str)
 fl:List (Addr×Str)
def Df.cc (d:Df)(fns:Fns):CC:=⟨d.N,(a0o d.st).names,fns.f,d.md,true,[],fns.ms,fns.fl⟩
def d8p (io:Bool)(md:Md) (np:Nat):Bool:=(List.range np).all λi=>decide (a0n md i=if (io && decide (i=0))=true then .own else .imm)
def Df.ok (d:Df) (np ns:Nat)(io:Bool):Bool :=
 decide ((a0o d.st).kind=.function) && !(a0o d.st).isCoroutine && !(a0o d.st).isGenerator && decide (d.N.Nodup) && decide (d.N.take d.ps.length=d.ps) && d.ps.all (λx=>decide ((a0o d.st).names.lookup x=some .local ∨ (a0o d.st).names.lookup x=some .cell)) &&
 (a0o d.st).names.all (λp=>decide (p.2≠.free)) && decide (np=d.ps.length) && decide (ns=d.N.length) && d8p io d.md np
def spT (K:Γd)(tb:List FD)(call:CW) (f:Nat):Sp:=match tb[f]? with
 | some fd=>spQ K call fd.io fd.fr f
 | none=>λ_ _ _ _=>False
def spK (tb:List FD)(call:CW)(K:Γd):Nat→Sp:=spT K tb call
theorem Df.sc {d:Df}{np ns:Nat}{io:Bool}(h:d.ok np ns io=true):FnScope d.N d.ps (a0o d.st)∧np=d.ps.length∧ns=d.N.length∧∀ i,i<np→a0n d.md i=if (io && decide (i=0))=true then .own else .imm:=by
 have h0:=b2 h;have h1:=b2 h0.1;have h2:=b2 h1.1;have h3:=b2 h2.1;have h4:=b2 h3.1;have h5:=b2 h4.1;have h6:=b2 h5.1;have h7:=b2 h6.1;have h8:=b2 h7.1
 exact⟨⟨de h8.1,nb h8.2,nb h7.2,de h6.2,de h5.2,λx hx=>de (List.all_eq_true.mp h4.2 x hx),λy hy=>de (List.all_eq_true.mp h3.2 y hy)⟩,de h2.2,de h1.2,λi hi=>de (List.all_eq_true.mp h0.2 i (List.mem_range.mpr hi))⟩
section
variable {P:Program}{w:World}{K:Γd}{mg:Str→Option Value}{base:Heap}{tb:List FD}{fns:Fns}
theorem ArgsOk.len {S H:Hp}{args:List FV}{vs:List V}{io:Bool}(h:ArgsOk K S H args vs io):args.length=vs.length:=by
 cases io with
 | false=>exact RVs.length h
 | true =>
  obtain⟨v,r,a,us,rfl,rfl,_,h⟩:=h
  rw[List.length_cons,List.length_cons,h.length]
theorem c3e {S H:Hp}{args:List FV}{vs:List V}{io:Bool}{md:Md}{N:List Str}{np ns:Nat}(h:ArgsOk K S H args vs io)(hs:Same S H)(hn:args.length=np)(hN:ns=N.length)(hm:∀ i,i<np→a0n md i=if (io && decide (i=0))=true then .own else .imm) :
  Iv K ⟨H,S,b3v vs io,[],[],[]⟩ md (args.map some++Γj (ns-np) none) (L2.start N vs) S H:=by
 have hl:=h.len
 have look:∀ i v,(args.map some++Γj (ns-np) none)[i]?=some (some v)→args[i]?=some v∧i<np:=λi v e=>by
  by_cases hi:i<args.length
  ·rw[List.getElem?_append_left (by rw[List.length_map];exact hi),List.getElem?_map] at e
   cases ea:args[i]? with
   | none=>rw[ea] at e;cases e
   | some q=>rw[ea] at e;cases e;exact⟨rfl,by lia⟩
  ·rw[List.getElem?_append_right (by rw[List.length_map];lia),List.getElem?_replicate] at e
   split at e<;>cases e
 have st:∀ i,i<np→(L2.start N vs)[i]?=vs[i]?.map some:=λi hi=>by
  unfold L2.start
  rw[List.getElem?_append_left (by rw[List.length_map];lia),List.getElem?_map]
 have own:∀ i v,a0n md i≠.imm→(args.map some++Γj (ns-np) none)[i]?=some (some v)→i=0∧io=true∧a0n md 0=.own:=λi v hm' e=>by
  obtain⟨_,hi⟩:=look i v e
  have:=hm i hi
  cases io with
  | false=>exact absurd (by simpa using this) hm'
  | true =>
   by_cases h0:i=0
   ·subst h0;exact⟨rfl,rfl,by simpa using this⟩
   ·exact absurd (by simpa[h0] using this) hm'
 have lent:∀ a,b3v vs io=some a→io=true∧0<np∧a0n md 0=.own∧vs[0]?=some (.ref a)∧∃ v,args[0]?=some v∧a3o K S H a v:=λa e=>by
  cases io with
  | false=>cases e
  | true =>
   obtain⟨v,r,a',us,rfl,rfl,o,_⟩:=h
   cases e
   have hp:0<np:=by rw[← hn];exact Nat.succ_pos _
   exact⟨rfl,hp,by simpa using hm 0 hp,rfl,v,rfl,o⟩
 refine⟨?_,λi v hm' e=>?_,λi v hm' e=>?_,λi j v w a m1 m2 e1 e2 _ _=>?_,hs,λa o e _ _=>e,Same.refl S,λa o e=>.inl e,λa e=>?_,λp hp=>absurd hp List.not_mem_nil,λi v hf e=>?_,λp hp=>absurd hp List.not_mem_nil,λp hp=>absurd hp List.not_mem_nil,λp hp=>absurd hp List.not_mem_nil,λq hq=>absurd hq List.not_mem_nil,λj i x C dx fs v h1 h2 h3 h4=>?_⟩
 ·unfold L2.start
  rw[List.length_append,List.length_append,List.length_map,List.length_map,List.length_replicate,List.length_replicate,hN]
  lia
 ·obtain⟨ea,hi⟩:=look i v e
  rw[st i hi]
  cases io with
  | false =>
   obtain⟨x,e1,r⟩:=RVs.get (show RVs K S args vs from h) ea
   exact⟨x,by rw[e1];rfl,r⟩
  | true =>
   obtain⟨v0,r,a',us,rfl,rfl,o,hr⟩:=h
   cases i with
   | zero=>rw[show a0n md 0=.own by simpa using hm 0 hi] at hm';cases hm'
   | succ i =>
    obtain⟨x,e1,r1⟩:=RVs.get hr (by simpa using ea)
    exact⟨x,by simp[e1],r1⟩
 ·obtain⟨rfl,rfl,m0⟩:=own i v hm' e
  obtain⟨ea,hi⟩:=look 0 v e
  obtain⟨v0,r,a',us,rfl,rfl,o,hr⟩:=h
  cases ea
  exact⟨a',by rw[st 0 hi];rfl,o,.inl rfl⟩
 ·rw[(own i v m1 e1).1,(own j w m2 e2).1]
 ·obtain⟨rfl,hp,m0,e1,v,ea,_⟩:=lent a e
  refine⟨λz=>(nomatch (m0.symm.trans z)),by rw[st 0 hp,e1];rfl,v,?_⟩
  rw[List.getElem?_append_left (by rw[List.length_map];lia),List.getElem?_map,ea];rfl
 ·have:=own i v (λz=>by rw[z] at hf;cases hf) e
  rw[this.1,this.2.2] at hf;cases hf
 ·have:=own j v (λz=>by rw[z] at h1;cases h1) h4
  rw[this.1,this.2.2] at h1;cases h1
theorem law_sp {d f:Nat}{H:Hp}{a:Addr}{ns:List Int}{fd:FD}(hf:tb[f]?=some fd)(hio:fd.io=false)(hfr:fd.fr=false)(hO:d6m H)(hS:SqL K H a (ns.map V.int))(h:callW tb d f [.scr ns] λz=>z.1=.bl true) :
  spT K tb (callW tb d) f [.ref a] H (λv _=>v=.bl true) λ_ _ _=>False:=by
 have e0:spT K tb (callW tb d) f=spQ K (callW tb d) false false f:=by unfold spT;rw[hf];show spQ K (callW tb d) fd.io fd.fr f=_;rw[hio,hfr]
 rw[e0]
 refine⟨H,[.scr ns],_,Same.refl H,RVs.one ⟨a,rfl,?_⟩,h,λz e x S' H' _ r=>?_⟩
 ·rcases hS with (h|⟨o,h⟩)|h
  ·rcases hO a with z|⟨o,xs,z⟩
   ·rw[z] at h;cases h
   ·rw[z] at h;cases h
  ·exact .inl ⟨o,h⟩
  ·exact .inr (.inr h)
 ·have r:RV K S' z.1 x:=r
  rw[e] at r;exact r
end
def EachI {α:Type}(P:Nat→α→Prop):Nat→List α→Prop
 | _,[]=>True
 | i,x :: xs=>P i x∧EachI P (i+1) xs
theorem EachI.get {α:Type}{P:Nat→α→Prop}:∀ {xs:List α}{k:Nat},EachI P k xs→∀ (f:Nat)(x:α),xs[f]?=some x→P (k+f) x
 | _ :: _,_,h,0,x,e=>(Option.some.inj e) ▸ h.1
 | _ :: xs,k,h,f+1,x,e=>by
  have:=EachI.get h.2 f x e
  rw[Nat.add_assoc,Nat.add_comm 1 f] at this
  exact this
theorem us0 {P:List Value→Prop}{us:List Value}(h:us.length=0)(H:P []):P us:=match us,h with|[],_=>H
theorem us1 {P:List Value→Prop}{us:List Value}(h:us.length=1)(H:∀ a,P [a]):P us:=match us,h with|[_],_=>H _
theorem us2 {P:List Value→Prop}{us:List Value}(h:us.length=2)(H:∀ a b,P [a,b]):P us:=match us,h with|[_,_],_=>H _ _
theorem us3 {P:List Value→Prop}{us:List Value}(h:us.length=3)(H:∀ a b c,P [a,b,c]):P us:=match us,h with|[_,_,_],_=>H _ _ _
end Kq
end
section
namespace Kq
open PySem PySem.Spec PySem.Calls PyProof.Rows L2 PySem.W
theorem a2j:∀ {K:Frag}{a:Addr}{o:Obj},K.lookup a=some o→(a,o)∈K
 | [],a,o,h=>by simp at h
 | (b,u) :: K,a,o,h=>by
  rw[List.lookup_cons] at h
  split at h
  ·rename_i e;cases h;rw[beq_iff_eq.mp e];exact Γn
  ·exact Γh _ (a2j h)
theorem b8r {K:Frag}{a:Addr}{o:Obj}(h:(a,o)∈K):∃ u,K.lookup a=some u:=by
 induction K with
 | nil=>exact absurd h List.not_mem_nil
 | cons p K ih =>
  obtain⟨b,u⟩:=p
  rw[List.lookup_cons]
  split
  ·exact⟨_,rfl⟩
  ·rename_i e
   rcases List.mem_cons.mp h with z|z
   ·rw[(Prod.mk.inj z).1,beq_self_eq_true] at e;cases e
   ·exact ih z
def AllIn (K:Frag)(h:Heap):Prop:=∀ p∈K,h.get? p.1=some p.2
theorem AllIn.to {K:Frag}{h:Heap}(x:AllIn K h):K.In h:=λa o e=>x _ (a2j e)
theorem AllIn.look {K:Frag}{h:Heap}(x:AllIn K h){a:Addr}{o:Obj}(m:(a,o)∈K):K.lookup a=some o:=by
 obtain⟨u,e⟩:=b8r m
 have h1:=x _ (a2j e)
 rw[show h.get? a=some o from x _ m] at h1
 cases h1;exact e
def CIn (K:Frag)(cd:Value)(q:Str):Prop:=∃ c oc vs t,cd=.ref c∧(c,oc)∈K∧oc.data=.fields vs∧vs[1]?=some (.str q t)
def DIn (K:Frag)(mg:Str→Option Value)(d:DefRec):Prop:=∃ fa o pm cd doc,mg d.name=some (.ref fa)∧(fa,o)∈K∧o.data=.func (docDef d.name d.params d.body d.scope pm cd doc)∧CIn K cd d.name
theorem DIn.fn {K:Frag}{h:Heap}(A:AllIn K h){mg:Str→Option Value}{x:Str}{st:Stmt}{pos:Pos}(D:DIn K mg ⟨x,a4c st,a1i st,a0o st,pos⟩):∃ fa fd,mg x=some (.ref fa)∧Fun K x x st fa fd:=by
 obtain⟨fa,o,pm,cd,doc,h1,h2,h3,c,oc,vs,t,rfl,h5,h6,h7⟩:=D
 have l:=A.look h2
 have lc:=A.look h5
 obtain⟨k1,k2,k3,k4⟩:=o
 obtain⟨j1,j2,j3,j4⟩:=oc
 cases h3;cases h6
 refine⟨fa,_,h1,c5n (kV:=.none) (doc:=doc) (pm:=pm) (an:=none) (cdv:=.ref c) (ct:=.none) l ?_ ?_⟩
 ·show (match K.lookup c with|some ⟨_,_,.fields vs,_⟩=>_|_=>_)=true
  rw[lc]
  obtain⟨l⟩:=vs
  match l,h7 with
  | [],h7=>simp at h7
  | [a],h7=>simp at h7
  | a :: b :: r,h7 =>
   simp at h7;subst h7
   exact beq_self_eq_true _
 ·show (match K.lookup fa with|some ⟨_,_,.func _,_⟩=>true|some ⟨_,_,.cls _,_⟩=>_|_=>false)=true
  rw[l]
def d3z:Stmt→Pos
 | .FunctionDef _ _ _ _ _ _ _ _ _ p=>p
 | _=>⟨0,0,0,0⟩
def freeIn (q:Program)(loose:List Str)(x:Str):Bool:=!startupNames.contains x && !loose.contains x && !((recsOf q).map (·.name)).contains x && !((litsOf q).map (·.1)).contains x && !((clssOf q loose).map (·.name)).contains x
theorem c8s {q:Program}{loose:List Str}{mean:ExcName→Option Value}{mg mb:Str→Option Value}{h:Heap}(T:Top q loose mean mg mb h){x:Str}(e:freeIn q loose x=true):mg x=none:=by
 unfold freeIn at e
 simp only[Bool.and_eq_true,Bool.not_eq_true',List.contains_eq_mem,decide_eq_false_iff_not] at e
 exact T.free x e.1.1.1.1 e.1.1.1.2 e.1.1.2 e.1.2 e.2
end Kq
end
set_option maxHeartbeats 1000000
section
namespace Kq
@[scoped simp ↓] theorem a0g {α:Type}(x:α)(Q:α→Prop):wp (some x) Q=Q x:=propext Iff.rfl
@[scoped simp ↓] theorem d6o {α:Type}(Q:α→Prop):wp (none:Option α) Q=False:=propext Iff.rfl
theorem a2e {α β:Type}(r:Option α)(f:α→Option β)(Q:β→Prop):wp (r.bind f) Q↔wp r (λx=>wp (f x) Q):=by cases r<;>rfl
@[scoped simp ↓] theorem a2o {α β:Type}(r:Option α)(f:α→β)(Q:β→Prop):wp (r.map f) Q↔wp r (λx=>Q (f x)):=by cases r<;>rfl
@[scoped simp ↓] theorem a3c {α:Type}(c:Prop) [Decidable c] (a:α)(Q:α→Prop):wp (if c then some a else none) Q↔c∧Q a:=by
 by_cases h:c<;>simp[h]
@[scoped simp ↓] theorem e1w (i:Nat)(L:a0d)(Q:FV→a0d→Prop):a0b i L Q=(wp (lk L i) λx=>Q x L):=propext Iff.rfl
@[scoped simp ↓] theorem eC_eq (v:FV)(L:a0d)(Q:FV→a0d→Prop):eC v L Q=(Q v L):=propext Iff.rfl
@[scoped simp ↓] theorem eUn_eq (f:FV→Option FV)(a:EW)(L:a0d)(Q:FV→a0d→Prop):eUn f a L Q=(a L λx L1=>wp (f x) λz=>Q z L1):=propext Iff.rfl
@[scoped simp ↓] theorem eOp_eq (f:FV→FV→Option FV)(a b:EW)(L:a0d)(Q:FV→a0d→Prop):eOp f a b L Q=(a L λx L1=>b L1 λy L2=>wp (f x y) λz=>Q z L2):=propext Iff.rfl
@[scoped simp ↓] theorem e2c (f:FV→FV→Option FV) (i:Nat)(b:EW)(L:a0d)(Q:FV→a0d→Prop):b5o f i b L Q=(wp (lk L i) λ_=>b L λy L1=>wp (lk L1 i) λx=>wp (f x y) λz=>Q z L1):=propext Iff.rfl
@[scoped simp ↓] theorem d3u (f g:FV→FV→Option FV)(a b c:EW)(L:a0d)(Q:FV→a0d→Prop):b1f f g a b c L Q=(a L λx L1=>b L1 λy L2=>wp (f x y) λr=>wp (blF r) λr=>if r=true then c L2 λz L3=>wp (g y z) λq=>Q q L3 else Q (.bl false) L2):=propext Iff.rfl
@[scoped simp ↓] theorem e2g (a b:EW)(L:a0d)(Q:FV→a0d→Prop):b4h a b L Q=(a L λx L1=>wp (c1f x) λr=>if r=true then b L1 Q else Q x L1):=propext Iff.rfl
@[scoped simp ↓] theorem eIf_eq (c:BW)(a b:EW)(L:a0d)(Q:FV→a0d→Prop):eIf c a b L Q=(c L λr L1=>if r=true then a L1 Q else b L1 Q):=propext Iff.rfl
@[scoped simp ↓] theorem e3h (a:EW)(L:a0d)(Q:Bool→a0d→Prop):a1n a L Q=(a L λx L1=>wp (c1f x) λb=>Q b L1):=propext Iff.rfl
@[scoped simp ↓] theorem e3j (a b:BW)(L:a0d)(Q:Bool→a0d→Prop):c9y a b L Q=(a L λr L1=>if r=true then b L1 Q else Q false L1):=propext Iff.rfl
@[scoped simp ↓] theorem bOr_eq (a b:BW)(L:a0d)(Q:Bool→a0d→Prop):bOr a b L Q=(a L λr L1=>if r=true then Q true L1 else b L1 Q):=propext Iff.rfl
@[scoped simp ↓] theorem e3i (a:BW)(L:a0d)(Q:Bool→a0d→Prop):a9v a L Q=(a L λr L1=>Q (!r) L1):=propext Iff.rfl
@[scoped simp ↓] theorem d6j (L:a0d)(Q:Bool→a0d→Prop):a2a  L Q=(Q true L):=propext Iff.rfl
@[scoped simp ↓] theorem e3l (L:a0d)(Q:List FV→a0d→Prop):a0i  L Q=(Q [] L):=propext Iff.rfl
@[scoped simp ↓] theorem d6l (a:EW)(r:AW)(L:a0d)(Q:List FV→a0d→Prop):a0a a r L Q=(a L λx L1=>r L1 λxs L2=>Q (x :: xs) L2):=propext Iff.rfl
@[scoped simp ↓] theorem e1x (a:AW)(L:a0d)(Q:FV→a0d→Prop):a3w a L Q=(a L λxs L1=>xs.length≤big∧Q (.tup xs) L1):=propext Iff.rfl
@[scoped simp ↓] theorem e2d (a:AW)(L:a0d)(Q:FV→a0d→Prop):a4b a L Q=(a L λxs L1=>xs.length≤big∧Q (.lst xs) L1):=propext Iff.rfl
@[scoped simp ↓] theorem d4y (L:a0d)(Q:Option Int→a0d→Prop):a7a  L Q=(Q none L):=propext Iff.rfl
@[scoped simp ↓] theorem d4x (a:EW)(L:a0d)(Q:Option Int→a0d→Prop):a5h a L Q=(a L λx L1=>wp (a2n x) λi=>Q (some i) L1):=propext Iff.rfl
@[scoped simp ↓] theorem eSl_eq (a:EW)(l h:OW)(L:a0d)(Q:FV→a0d→Prop):eSl a l h L Q=(a L λx L1=>l L1 λi L2=>h L2 λj L3=>wp (a7p x i j) λz=>Q z L3):=propext Iff.rfl
@[scoped simp ↓] theorem d5z (call:CW) (f:Nat)(a:AW)(L:a0d)(Q:FV→a0d→Prop):a0l call f a L Q=(a L λxs L1=>call f xs λz=>Q z.1 L1):=propext Iff.rfl
@[scoped simp ↓] theorem d3v (call:CW) (f i:Nat)(a:AW)(L:a0d)(Q:FV→a0d→Prop):a1h call f i a L Q=(wp (lk L i) λ_=>a L λxs L1=>wp (lk L1 i) λx=>call f (x :: xs) λz=>Q z.1 (L1.set i (some z.2))):=propext Iff.rfl
@[scoped simp ↓] theorem d5v (f:FV→FV→Option FV) (i:Nat)(a:EW)(L:a0d)(Q:FV→a0d→Prop):b1e f i a L Q=(wp (lk L i) λv=>wp (a7b v) λ_=>a L λy L1=>wp (lk L1 i) λx=>wp (f x y) λz=>Q .non (L1.set i (some z))):=propext Iff.rfl
@[scoped simp ↓] theorem d9h (a:EW)(L:a0d)(Q:List FV→a0d→Prop):c8l a L Q=(a L λx L1=>wp (a3g x) λxs=>Q xs L1):=propext Iff.rfl
@[scoped simp ↓] theorem d9i (a:EW)(L:a0d)(Q:List FV→a0d→Prop):b4b a L Q=(a L λx L1=>wp (a2n x) λj=>a1d j=true∧Q (upF 0 j.toNat) L1):=propext Iff.rfl
@[scoped simp ↓] theorem d5e (a b:EW)(L:a0d)(Q:List FV→a0d→Prop):iRng2 a b L Q=(a L λx L1=>b L1 λy L2=>wp (a2n x) λi=>wp (a2n y) λj=>(a1d i && a1d j)=true∧Q (upF i (j-i).toNat) L2):=propext Iff.rfl
@[scoped simp ↓] theorem d9g (a b:EW)(L:a0d)(Q:List FV→a0d→Prop):d5d a b L Q=(a L λx L1=>b L1 λy L2=>wp (a3g x) λxs=>wp (a3g y) λys=>Q (a4k xs ys) L2):=propext Iff.rfl
@[scoped simp ↓] theorem d5g (a:EW)(L:a0d)(Q:List FV→a0d→Prop):b5j a L Q=(a L λx L1=>wp (a3g x) λxs=>Q (a4k (upF 0 xs.length) xs) L1):=propext Iff.rfl
@[scoped simp ↓] theorem d5y (n m:Nat)(it:AW)(tg:Tg)(t:BW)(e:EW)(L:a0d)(Q:FV→a0d→Prop):a2l n m it tg t e L Q=(it L λxs L1=>L1.length=n∧xs.length≤big∧a5a n m tg t e xs [] L1 λys L2=>Q (.lst ys) L2):=propext Iff.rfl
@[scoped simp ↓] theorem d7o (L:a0d)(Q:FFl→a0d→Prop):a3v  L Q=(Q .next L):=propext Iff.rfl
@[scoped simp ↓] theorem d7l (s r:SW)(L:a0d)(Q:FFl→a0d→Prop):a0t s r L Q=(s L (aft (λL1=>r L1 Q) Q)):=propext Iff.rfl
@[scoped simp ↓] theorem d7u (e:EW)(tg:Tg)(L:a0d)(Q:FFl→a0d→Prop):a1o e tg L Q=(e L λx L1=>gW tg x L1 λL2=>Q .next L2):=propext Iff.rfl
@[scoped simp ↓] theorem d7k (k:Nat)(i e:EW)(L:a0d)(Q:FFl→a0d→Prop):d4t k i e L Q=(wp (lk L k) λ_=>e L λx L1=>i L1 λj L2=>wp (lk L2 k) λy=>wp (d7g y j x) λz=>Q .next (L2.set k (some z))):=propext Iff.rfl
@[scoped simp ↓] theorem d7m (e:EW)(L:a0d)(Q:FFl→a0d→Prop):a1j e L Q=(e L λx L1=>Q (.ret x) L1):=propext Iff.rfl
@[scoped simp ↓] theorem d7s (e:EW)(L:a0d)(Q:FFl→a0d→Prop):b6b e L Q=(e L λ_ L1=>Q .next L1):=propext Iff.rfl
@[scoped simp ↓] theorem sIf_eq (c:BW)(a b:SW)(L:a0d)(Q:FFl→a0d→Prop):sIf c a b L Q=(c L λr L1=>if r=true then a L1 Q else b L1 Q):=propext Iff.rfl
@[scoped simp ↓] theorem d7r (it:AW)(tg:Tg)(b:SW)(L:a0d)(Q:FFl→a0d→Prop):b7b it tg b L Q=(it L λxs L1=>c5o tg b xs L1 Q):=propext Iff.rfl
@[scoped simp ↓] theorem d7h (c:BW)(b:SW)(L:a0d)(Q:FFl→a0d→Prop):d4r c b L Q=(∃ n,c9r c b n L Q):=propext Iff.rfl
@[scoped simp ↓] theorem lk_z (x:Option FV)(L:a0d)(Q:FV→Prop):wp (lk (x :: L) 0) Q=wp x Q:=propext Iff.rfl
@[scoped simp ↓] theorem gw_nm (i:Nat)(v:FV)(L:a0d)(Q:a0d→Prop):gW (.nm i) v L Q=Q (L.set i (some v)):=propext Iff.rfl
@[scoped simp ↓] theorem gw_tp (is:List Nat)(v:FV)(L:a0d)(Q:a0d→Prop):gW (.tp is) v L Q=wp (a5s v) λxs=>wp (a6y L is xs) Q:=propext Iff.rfl
@[scoped simp ↓] theorem sa_n (L:a0d)(Q:a0d→Prop):wp (a6y L [] []) Q=Q L:=propext Iff.rfl
@[scoped simp ↓] theorem sa_c (L:a0d) (i:Nat)(is:List Nat)(v:FV)(vs:List FV)(Q:a0d→Prop):wp (a6y L (i :: is) (v :: vs)) Q=wp (a6y (L.set i (some v)) is vs) Q:=propext Iff.rfl
section
variable (L:a0d)(k:a0d→Prop)(Q:FFl→a0d→Prop)
@[scoped simp ↓] theorem e3k:aft k Q .next L=k L:=propext Iff.rfl
@[scoped simp ↓] theorem af_ret (v:FV):aft k Q (.ret v) L=Q (.ret v) L:=propext Iff.rfl
@[scoped simp ↓] theorem tq_n:b1z k Q .next L=k L:=propext Iff.rfl
@[scoped simp ↓] theorem tq_r (v:FV):b1z k Q (.ret v) L=Q (.ret v) L:=propext Iff.rfl
end
@[scoped simp ↓] theorem en_rt (fr:Bool)(Q:FV×FV→Prop)(v:FV)(L:a0d):b9v true fr Q (.ret v) L=wp (lk L 0) λx=>Q (v,x):=propext Iff.rfl
@[scoped simp ↓] theorem en_rf (fr:Bool)(Q:FV×FV→Prop)(v:FV)(L:a0d):b9v false fr Q (.ret v) L=Q (v,.non):=propext Iff.rfl
@[scoped simp ↓] theorem en_nt (Q:FV×FV→Prop)(L:a0d):b9v true false Q .next L=wp (lk L 0) λx=>Q (.non,x):=propext Iff.rfl
section
variable (Q:FV→Prop)(B:Bool→Prop) (i j:Int)
@[scoped simp ↓] theorem tr_b (b:Bool):wp (c1f (.bl b)) B=B b:=propext Iff.rfl
@[scoped simp ↓] theorem tr_l (xs:List FV):wp (c1f (.lst xs)) B=B (!xs.isEmpty):=propext Iff.rfl
@[scoped simp ↓] theorem in_i (Q:Int→Prop):wp (a2n (.int i)) Q=Q i:=propext Iff.rfl
@[scoped simp ↓] theorem bl_b (b:Bool):wp (blF (.bl b)) B=B b:=propext Iff.rfl
@[scoped simp ↓] theorem tp_t (xs:List FV)(Q:List FV→Prop):wp (a5s (.tup xs)) Q=Q xs:=propext Iff.rfl
@[scoped simp ↓] theorem ls_l (xs:List FV)(Q:List FV→Prop):wp (a7b (.lst xs)) Q=Q xs:=propext Iff.rfl
@[scoped simp ↓] theorem sq_t (xs:List FV)(Q:List FV→Prop):wp (a3g (.tup xs)) Q=Q xs:=propext Iff.rfl
@[scoped simp ↓] theorem sq_l (xs:List FV)(Q:List FV→Prop):wp (a3g (.lst xs)) Q=Q xs:=propext Iff.rfl
@[scoped simp ↓] theorem sq_s (ns:List Int)(Q:List FV→Prop):wp (a3g (.scr ns)) Q=Q (ns.map .int):=propext Iff.rfl
@[scoped simp ↓] theorem li_l (xs:List FV)(Q:List FV→Prop):wp (a2f (.lst xs)) Q=Q xs:=propext Iff.rfl
@[scoped simp ↓] theorem b_add:wp (a3n (.int i) (.int j)) Q=Q (.int (i+j)):=propext Iff.rfl
@[scoped simp ↓] theorem b_sub:wp (b3c (.int i) (.int j)) Q=Q (.int (i-j)):=propext Iff.rfl
@[scoped simp ↓] theorem b_mul:wp (b8m (.int i) (.int j)) Q↔(a2b i || a2b j)=true∧Q (.int (i*j)):=a3c _ _ _
@[scoped simp ↓] theorem b_fdiv:wp (b9s (.int i) (.int j)) Q↔(0<j∧j<1073741824)∧Q (.int (i / j)):=a3c _ _ _
@[scoped simp ↓] theorem b_mod:wp (c5e (.int i) (.int j)) Q↔0<j∧Q (.int (i % j)):=a3c _ _ _
@[scoped simp ↓] theorem b_pow:wp (c2g (.int i) (.int j)) Q↔(0≤j∧j≤1000∧a2b i=true)∧Q (.int (i ^ j.toNat)):=a3c _ _ _
@[scoped simp ↓] theorem b_addt (xs ys:List FV):wp (a3n (.tup xs) (.tup ys)) Q↔xs.length+ys.length≤big∧Q (.tup (xs++ys)):=a3c _ _ _
@[scoped simp ↓] theorem b_addl (xs ys:List FV):wp (a3n (.lst xs) (.lst ys)) Q↔xs.length+ys.length≤big∧Q (.lst (xs++ys)):=a3c _ _ _
@[scoped simp ↓] theorem b_rep (xs:List FV) (k:Int):wp (b8m (.lst xs) (.int k)) Q↔(-(2 ^ 63)≤k∧k<2 ^ 63∧xs.length*k.toNat≤big)∧Q (.lst (Γj k.toNat xs).flatten):=a3c _ _ _
@[scoped simp ↓] theorem k_eq (a b:FV):wp (eqB a b) Q↔wp (eqF a b) λr=>Q (.bl r):=a2o _ _ _
@[scoped simp ↓] theorem k_ne (a b:FV):wp (neB a b) Q↔wp (eqF a b) λr=>Q (.bl (!r)):=a2o _ _ _
@[scoped simp ↓] theorem k_lt:wp (ltB (.int i) (.int j)) Q=Q (.bl (decide (i<j))):=propext Iff.rfl
@[scoped simp ↓] theorem k_le:wp (leB (.int i) (.int j)) Q=Q (.bl (decide (i≤j))):=propext Iff.rfl
@[scoped simp ↓] theorem k_gt:wp (gtB (.int i) (.int j)) Q=Q (.bl (decide (j<i))):=propext Iff.rfl
@[scoped simp ↓] theorem k_ge:wp (geB (.int i) (.int j)) Q=Q (.bl (decide (j≤i))):=propext Iff.rfl
@[scoped simp ↓] theorem k_ltt (xs ys:List FV):wp (ltB (.tup xs) (.tup ys)) Q↔wp (a0u xs) λa=>wp (a0u ys) λb=>Q (.bl (lexLt a b)):=by
 show wp ((a0u xs).bind _) Q↔_;simp only[a2e,a0g]
@[scoped simp ↓] theorem e_ii:wp (eqF (.int i) (.int j)) B=B (i == j):=propext Iff.rfl
@[scoped simp ↓] theorem e_ss (a b:String):wp (eqF (.str a) (.str b)) B=B (a == b):=propext Iff.rfl
@[scoped simp ↓] theorem e_bb (a b:Bool):wp (eqF (.bl a) (.bl b)) B=B (a == b):=propext Iff.rfl
@[scoped simp ↓] theorem e_nn:wp (eqF .non .non) B=B true:=propext Iff.rfl
@[scoped simp ↓] theorem ix_eq (v:FV):wp (ixF v (.int i)) Q↔wp (a3g v) λxs=>wp (atF xs i) Q:=by
 show wp ((a3g v).bind _) Q↔_;rw[a2e]
@[scoped simp ↓] theorem f_min:wp (b8o (.int i) (.int j)) Q=Q (.int (if j<i then j else i)):=propext Iff.rfl
@[scoped simp ↓] theorem f_not (b:Bool):wp (d4z (.bl b)) Q=Q (.bl (!b)):=propext Iff.rfl
@[scoped simp ↓] theorem f_neg:wp (d2f (.int i)) Q=Q (.int (-i)):=propext Iff.rfl
@[scoped simp ↓] theorem f_len (v:FV):wp (a7g v) Q↔wp (a3g v) λxs=>Q (.int xs.length):=a2o _ _ _
@[scoped simp ↓] theorem f_abs:wp (d4o (.int i)) Q=Q (.int (if i<0 then -i else i)):=propext Iff.rfl
@[scoped simp ↓] theorem f_intb (b:Bool):wp (a7n (.bl b)) Q=Q (.int (if b then 1 else 0)):=propext Iff.rfl
@[scoped simp ↓] theorem f_all (v:FV):wp (c5u v) Q↔wp (a2f v) λxs=>wp (a5e xs) λbs=>Q (.bl (bs.all id)):=by
 show wp ((a2f v).bind _) Q↔_;rw[a2e];simp only[a2o]
@[scoped simp ↓] theorem e1r (v:FV):wp (a1s v) Q↔wp (a3g v) λxs=>Q (.tup xs):=a2o _ _ _
@[scoped simp ↓] theorem f_isi (t:Ty)(v:FV):wp (a9w t v) Q↔wp (a4x v t) λb=>Q (.bl b):=a2o _ _ _
@[scoped simp ↓] theorem y_non (t:Ty):wp (a4x .non t) B=B false:=propext Iff.rfl
@[scoped simp ↓] theorem y_bl (b:Bool)(t:Ty):wp (a4x (.bl b) t) B=B (t == .int || t == .bool):=propext Iff.rfl
@[scoped simp ↓] theorem y_int (t:Ty):wp (a4x (.int i) t) B=B (t == .int):=propext Iff.rfl
@[scoped simp ↓] theorem y_str (b:String)(t:Ty):wp (a4x (.str b) t) B=B (t == .str):=propext Iff.rfl
@[scoped simp ↓] theorem y_tup (b:List FV)(t:Ty):wp (a4x (.tup b) t) B=B (t == .tuple):=propext Iff.rfl
@[scoped simp ↓] theorem y_lst (b:List FV)(t:Ty):wp (a4x (.lst b) t) B=B (t == .list):=propext Iff.rfl
@[scoped simp ↓] theorem iN_n:wp (a1y .non) Q=Q (.bl true):=propext Iff.rfl
@[scoped simp ↓] theorem iN_b (b:Bool):wp (a1y (.bl b)) Q=Q (.bl false):=propext Iff.rfl
@[scoped simp ↓] theorem iN_i:wp (a1y (.int i)) Q=Q (.bl false):=propext Iff.rfl
@[scoped simp ↓] theorem nN_n:wp (a1v .non) Q=Q (.bl false):=propext Iff.rfl
@[scoped simp ↓] theorem nN_i:wp (a1v (.int i)) Q=Q (.bl true):=propext Iff.rfl
@[scoped simp ↓] theorem nB_b (b c:Bool):wp (a4l c (.bl b)) Q=Q (.bl (b != c)):=propext Iff.rfl
@[scoped simp ↓] theorem m_app (xs:List FV)(v:FV):wp (c5t (.lst xs) v) Q↔xs.length<big∧Q (.lst (xs++[v])):=a3c _ _ _
@[scoped simp ↓] theorem s_t (xs:List FV)(lo hi:Option Int):wp (a7p (.tup xs) lo hi) Q=Q (.tup (b1h xs lo hi)):=propext Iff.rfl
@[scoped simp ↓] theorem s_l (xs:List FV)(lo hi:Option Int):wp (a7p (.lst xs) lo hi) Q=Q (.lst (b1h xs lo hi)):=propext Iff.rfl
@[scoped simp ↓] theorem st_l (xs:List FV)(v:FV):wp (d7g (.lst xs) (.int j) v) Q↔wp (ixN xs.length j) λp=>Q (.lst (xs.set p v)):=a2o _ _ _
end
theorem a3x {xs:List FV}{i:Int}{n:Nat}{v:FV}{Q:FV→Prop}(h:i=n)(hv:xs[n]?=some v):wp (atF xs i) Q↔Q v:=by
 subst h
 have:=(List.getElem?_eq_some_iff.mp hv).1
 simp only[atF,ixN,Int.natCast_nonneg,if_true,Int.ofNat_lt,this,Option.bind_some,Int.toNat_natCast,hv,a0g]
@[scoped simp ↓] theorem at_0 (x:FV)(r:List FV)(Q:FV→Prop):wp (atF (x :: r) 0) Q↔Q x:=a3x (n:=0) rfl rfl
@[scoped simp ↓] theorem at_1 (x y:FV)(r:List FV)(Q:FV→Prop):wp (atF (x :: y :: r) 1) Q↔Q y:=a3x (n:=1) rfl rfl
@[scoped simp ↓] theorem at_2 (x y z:FV)(r:List FV)(Q:FV→Prop):wp (atF (x :: y :: z :: r) 2) Q↔Q z:=a3x (n:=2) rfl rfl
theorem c1b {xs:List FV}{u:Int}{Q:FV→Prop}(h0:0≤u)(h1:u<xs.length)(h:∀ x∈xs,Q x):wp (atF xs u) Q:=by
 have hu:u.toNat<xs.length:=by lia
 rw[a3x (show u=u.toNat by lia) (List.getElem?_eq_getElem hu)]
 exact h _ (List.getElem_mem hu)
theorem a2h {α:Type}(p:α→Bool):∀ xs:List α,a5e (xs.map λx=>.bl (p x))=some (xs.map p)
 | []=>rfl
 | x :: r=>by simp only[List.map_cons,a5e,a2h p r,Option.map_some]
theorem a4p:∀ ns:List Int,a0u (ns.map .int)=some ns
 | []=>rfl
 | x :: r=>by simp only[List.map_cons,a0u,a4p r,Option.map_some]
@[scoped simp] theorem ty_10:(Ty.bool == Ty.int)=false:=by decide
@[scoped simp] theorem ty_20:(Ty.str == Ty.int)=false:=by decide
@[scoped simp] theorem ty_21:(Ty.str == Ty.bool)=false:=by decide
@[scoped simp] theorem ty_30:(Ty.list == Ty.int)=false:=by decide
@[scoped simp] theorem ty_31:(Ty.list == Ty.bool)=false:=by decide
@[scoped simp] theorem ty_32:(Ty.list == Ty.str)=false:=by decide
@[scoped simp] theorem ty_34:(Ty.list == Ty.tuple)=false:=by decide
@[scoped simp] theorem ty_40:(Ty.tuple == Ty.int)=false:=by decide
@[scoped simp] theorem ty_41:(Ty.tuple == Ty.bool)=false:=by decide
@[scoped simp] theorem ty_42:(Ty.tuple == Ty.str)=false:=by decide
@[scoped simp] theorem ty_43:(Ty.tuple == Ty.list)=false:=by decide
theorem a0j {tb:List FD}{d f:Nat}{args:List FV}{fd:FD}{Q:FV×FV→Prop}(h:tb[f]?=some fd)(hl:args.length=fd.np)
  (H:fd.body (callW tb d) (args.map some++Γj (fd.ns-fd.np) none) (b9v fd.io fd.fr Q)):callW tb (d+1) f args Q:=by
 show (match tb[f]? with
  | none=>False
  | some fd=>args.length=fd.np∧fd.body (callW tb d) (args.map some++Γj (fd.ns-fd.np) none) (b9v fd.io fd.fr Q))
 rw[h];exact⟨hl,H⟩
theorem a3t {tb:List FD}{d f:Nat}{args:List FV}{fd:FD}{Q:FV×FV→Prop}(h:tb[f]?=some fd)(hl:args.length=fd.np) :
  callW tb (d+1) f args Q↔fd.body (callW tb d) (args.map some++Γj (fd.ns-fd.np) none) (b9v fd.io fd.fr Q):=by
 show (match tb[f]? with
  | none=>False
  | some fd=>args.length=fd.np∧fd.body (callW tb d) (args.map some++Γj (fd.ns-fd.np) none) (b9v fd.io fd.fr Q))↔_
 rw[h];exact⟨λz=>z.2,λz=>⟨hl,z⟩⟩
theorem a5p {α:Type}{tg:Tg}{b:SW}{f:α→FV}{I:List α→a0d→Prop}{Q:FFl→a0d→Prop}(all:List α) :
  ∀ (rest done:List α)(L:a0d),all=done++rest→I done L →
  (∀ d x r L (K:a0d→Prop),all=d++x :: r→I d L→(∀ L',I (d++[x]) L'→K L')→gW tg (f x) L λL1=>b L1 (b1z K Q)) →
  (∀ L,I all L→Q .next L)→c5o tg b (rest.map f) L Q
 | [],done,L,e,h,_,E=>by
  rw[List.append_nil] at e
  exact E L (e ▸ h)
 | x :: rest,done,L,e,h,B,E=>B done x rest L _ e h λL' h'=>a5p all rest (done++[x]) L' (by simp[e]) h' B E
theorem a2y {tg:Tg}{b:SW}{I:Nat→a0d→Prop}{Q:FFl→a0d→Prop}:∀ (n i:Nat)(L:a0d),I i L →
  (∀ j L (K:a0d→Prop),i≤j→j<i+n→I j L→(∀ L',I (j+1) L'→K L')→gW tg (.int (j:Int)) L λL1=>b L1 (b1z K Q)) →
  (∀ L,I (i+n) L→Q .next L)→c5o tg b (upF (i:Int) n) L Q
 | 0,i,L,h,_,E=>E L h
 | n+1,i,L,h,B,E=>B i L _ (Γi _) (by lia) h λL' h'=>by
  have:=a2y n (i+1) L' h' (λj L K hj hj'=>B j L K (by lia) (by lia)) (λL h=>E L (by rw[show i+(n+1)=i+1+n by lia];exact h))
  simpa using this
theorem c1j {c:BW}{b:SW}{I:Nat→a0d→Prop}{Q:FFl→a0d→Prop}(B:∀ m L (K:a0d→Prop),I m L→(∀ m' L',m'<m→I m' L'→K L')→c L λt L1=>if t=true then b L1 (b1z K Q) else Q .next L1){m:Nat}{L:a0d}(h:I m L):d4r c b L Q:=by
 have go:∀ n m L,m<n→I m L→c9r c b n L Q:=by
  intro n
  induction n with
  | zero=>intro m L hm;lia
  | succ n ih=>intro m L hm h;exact B m L _ h λm' L' h1 h2=>ih m' L' (by lia) h2
 exact⟨m+1,go _ m L (Nat.lt_succ_self _) h⟩
theorem a4r {α:Type}{tg:Tg}{n m:Nat}{t:BW}{e:EW}{f:α→FV}{I:List α→List FV→a0d→Prop}{Q:List FV→a0d→Prop}(all:List α) :
  ∀ (rest done:List α)(acc:List FV)(L:a0d),all=done++rest→I done acc L →
  (∀ d x r acc L (K:List FV→a0d→Prop),all=d++x :: r→I d acc L→(∀ acc' L',I (d++[x]) acc' L'→K acc' L')→gW tg (f x) (L++Γj m none) λL1=>t L1 λb L2=>if b=true then e L2 λv L3=>K (acc++[v]) (L3.take n) else K acc (L2.take n)) →
  (∀ ys L,I all ys L→Q ys L)→a5a n m tg t e (rest.map f) acc L Q
 | [],done,acc,L,e,h,_,E=>by
  rw[List.append_nil] at e
  exact E acc L (e ▸ h)
 | x :: rest,done,acc,L,e,h,B,E=>B done x rest acc L (λacc' L'=>a5a _ _ _ _ _ (rest.map f) acc' L' Q) e h λacc' L' h'=>a4r all rest (done++[x]) acc' L' (by simp[e]) h' B E
theorem a1a {α:Type}{tg:Tg}{n m:Nat}{e:EW}{f:α→FV}{g:α→FV}{Q:List FV→a0d→Prop}{L:a0d}:∀ (xs:List α)(acc:List FV),
  (∀ x∈xs,∀ K:FV→a0d→Prop,K (g x) L→gW tg (f x) (L++Γj m none) λL1=>e L1 λv L3=>K v (L3.take n))→Q (acc++xs.map g) L→a5a n m tg a2a e (xs.map f) acc L Q
 | [],acc,_,E=>by
  show Q acc L
  simpa using E
 | x :: xs,acc,B,E=>B x Γn (λv L'=>a5a n m tg a2a e (xs.map f) (acc++[v]) L' Q) (a1a xs (acc++[g x]) (λy hy=>B y (Γh _ hy)) (by simpa using E))
theorem c4o:∀ n lo:Nat,upF (lo:Int) n=(List.range' lo n).map λi:Nat=>FV.int i
 | 0,lo=>rfl
 | n+1,lo=>by simp only[upF,List.range'_succ,List.map_cons];rw[← c4o n (lo+1)];simp
theorem a1l (n:Nat):upF 0 n=(List.range n).map λi:Nat=>FV.int i:=by
 have:=c4o n 0
 rw[List.range_eq_range'];exact_mod_cast this
theorem c3f {c A B:Prop} [Decidable c] (h1:c→A)(h2:¬ c→B):if c then A else B:=by
 by_cases h:c
 ·rw[if_pos h];exact h1 h
 ·rw[if_neg h];exact h2 h
end Kq
end
set_option maxHeartbeats 4000000
section
namespace Kq
open PySem PySem.Spec PyProof.Rows L2
section
variable {X:Cx}{C:CC}{n:Nat}{sp:Γd→Nat→Sp}{a:Expr}{ea:EW}{p p2 p3 p4 pos:Pos}
theorem d4m:a1k X (.builtin "isinstance") (λxs H Q=>∃ v d c c' b b' T,xs=[v,.ref d]∧H d=some (.tup [.ty c,.ty c'])∧TyOf X.K H v (.type T)∧PySem.W.kitOne X.K (.type T) (.type c)=some b∧PySem.W.kitOne X.K (.type T) (.type c')=some b'∧Q (.bl (b || b')) H):=by
 intro pins s σ H xs us Q I r hh
 obtain⟨v,d,c,c',b,b',T,rfl,hd,h1,h2,h3,q⟩:=hh
 obtain⟨u,u',rfl,ru,ru'⟩:=a9y r
 obtain rfl:u'=.ref d:=ru'
 obtain⟨_,its,rv,o,ho,hcl,nn,hdt⟩:=(show ObjOk X.prog X.w H s.heap d (.tup [.ty c,.ty c']) from I.hok d _ hd)
 obtain⟨w1,w2,rfl,rw1,rw2⟩:=a9y rv
 obtain rfl:w1=.type c:=rw1
 obtain rfl:w2=.type c':=rw2
 have fin:∀ tk,EP X pins σ Q (.bool (b || b')) { s with toks:=tk }:=λtk=>⟨.bl (b || b'),H,I.tok _,rfl,q⟩
 have hany:PySem.W.kitAny X.K (.type T) [.type c,.type c']=some (b || b'):=by
  show (match PySem.W.kitOne X.K (.type T) (.type c) with|some true=>some true|some false=>PySem.W.kitAny X.K (.type T) [.type c']|none=>none)=_
  rw[h2]
  cases b with
  | true=>rfl
  | false =>
   show (match PySem.W.kitOne X.K (.type T) (.type c') with|some true=>some true|some false=>PySem.W.kitAny X.K (.type T) []|none=>none)=_
   rw[h3];cases b'<;>rfl
 obtain⟨oc,od,odt,osl⟩:=o
 simp only at hcl hdt
 subst hcl hdt
 cases h1 with
 | non=>cases (show u=Value.none from ru);exact PySem.W.kia_tup PySem.W.kitx_none I.kIn True.intro ho hany (λz=>nomatch z) fin
 | bl y=>cases (show u=Value.bool y from ru);exact PySem.W.kia_tup PySem.W.kitx_bool I.kIn True.intro ho hany (λz=>nomatch z) fin
 | int i=>obtain⟨t,rfl⟩:=(show ∃ t,u=Value.int i t from ru);exact PySem.W.kia_tup PySem.W.kitx_int I.kIn True.intro ho hany (λz=>nomatch z) fin
 | str y=>obtain⟨t,rfl⟩:=(show ∃ t,u=Value.str y t from ru);exact PySem.W.kia_tup PySem.W.kitx_str I.kIn True.intro ho hany (λz=>nomatch z) fin
 | flt y=>obtain⟨t,rfl⟩:=(show ∃ t,u=Value.float y t from ru);exact PySem.W.kia_tup PySem.W.kitx_float I.kIn True.intro ho hany (λz=>nomatch z) fin
 | @lst a xs ea =>
  cases (show u=Value.ref a from ru)
  obtain⟨_,_,n,_,h1⟩:=(show ObjOk X.prog X.w H s.heap a (.lst xs) from I.hok a _ ea)
  exact PySem.W.kia_tup PySem.W.kitx_list I.kIn ⟨_,h1,rfl⟩ ho hany (λz=>nomatch z) fin
 | @frz a ob xs ea =>
  cases (show u=Value.ref a from ru)
  obtain⟨_,_,_,n,_,h1⟩:=(show ObjOk X.prog X.w H s.heap a (.frz ob (.lst xs)) from I.hok a _ ea)
  exact PySem.W.kia_tup PySem.W.kitx_list I.kIn ⟨_,h1,rfl⟩ ho hany (λz=>nomatch z) fin
 | @tup a xs ea =>
  cases (show u=Value.ref a from ru)
  obtain⟨_,_,_,o,h1,h2,_⟩:=(show ObjOk X.prog X.w H s.heap a (.tup xs) from I.hok a _ ea)
  exact PySem.W.kia_tup PySem.W.kitx_tuple I.kIn ⟨o,h1,h2⟩ ho hany (λz=>nomatch z) fin
 | @dK a kvs ea =>
  cases (show u=Value.ref a from ru)
  obtain⟨_,_,vs,_,o,es,ep,h1,h2,_⟩:=(show ObjOk X.prog X.w H s.heap a (.dK kvs) from I.hok a _ ea)
  exact PySem.W.kia_tup PySem.W.kitx_dict I.kIn ⟨o,h1,h2.1⟩ ho hany (λz=>nomatch z) fin
 | @dT a kvs ea =>
  cases (show u=Value.ref a from ru)
  obtain⟨_,_,xs,_,o,es,ep,h1,h2,_⟩:=(show ObjOk X.prog X.w H s.heap a (.dT kvs) from I.hok a _ ea)
  exact PySem.W.kia_tup PySem.W.kitx_dict I.kIn ⟨o,h1,h2.1⟩ ho hany (λz=>nomatch z) fin
theorem e0j {t t':Ty}{tn tn':Str}{m:Nat}(G:Good X C n sp)(hg:C.gl (Γe "isinstance")=true)(ht:tn=Γe (a2p t))(ht':tn'=Γe (a2p t'))(hg2:(C.gl tn && C.gl tn')=true)(hs:a0k a=false)(ha:FR X C a ea) :
  FE X C (.Call (.Name (Γe "isinstance") p) [a,.Tuple [.Name tn p2,.Name tn' p3] m p4] [] pos) (eUn (c3g t t') ea):=by
 subst ht ht'
 have hg2:=b2 hg2
 have tt:∀ (t:Ty)(p2:Pos),C.gl (Γe (a2p t))=true→PE X.nox (.Name (Γe (a2p t)) p2) (tC (.ty (a2p t))):=λt p2 hg=>by
  cases t<;>exact b2g (G.gl hg) (G.blt _ (by decide)) (by nofun) rfl (by nofun) (by nofun)
 have tup:=b3n (x1:=m) (pos:=p4) (a0h (tt t p2 hg2.1) (a0h (tt t' p3 hg2.2) a0y rfl) rfl)
 refine PE.imp (a2i d4m (G.gl hg) (G.blt "isinstance" (by decide)) (by nofun) (a0h ha (a0h tup a0y rfl) (a0f hs)) (by nofun) (by nofun) (a0f hs) rfl) λσ H Q ⟨c,L,S,Q0,I,h,k⟩ =>
  ⟨c,L,S,_,I,h,λv L1 hv x S1 H1 r1 I1 s1=>?_⟩
 refine⟨by show 2≤sizeLine;decide,λd hd=>?_⟩
 obtain⟨z,e,q⟩:=wpx hv
 obtain⟨r,e1,e2⟩:=bnd e
 obtain⟨r',e3,rfl⟩:=mpd e2
 have I2:=I1.lay hd (.tup [.ty (a2p t),.ty (a2p t')])
 have rr:RH X.K S1 (upd H1 d (.tup [.ty (a2p t),.ty (a2p t')])) v x:=by
  rcases r1 with r1|⟨b,rfl,o1,ps,us,e4,o2,o3⟩
  ·exact .inl r1
  ·exact .inr ⟨b,rfl,o1,ps,us,e4,by rw[a0c (a0v o2 hd)];exact o2,o3⟩
 obtain⟨T,t1,t2⟩:=a8i I2.sub rr e1
 obtain⟨T',t3,t4⟩:=a8i I2.sub rr e3
 have hT:T=T':=by cases t1<;>cases t3<;>first|rfl|(simp_all)
 subst hT
 exact⟨x,d,_,_,_,_,T,rfl,a0e,t1,t2,t4,k _ L1 q _ S1 _ rfl I2 s1⟩
end
@[scoped simp ↓] theorem f_isi2 (t u:Ty)(v:FV)(Q:FV→Prop):wp (c3g t u v) Q↔wp (a4x v t) λa=>wp (a4x v u) λb=>Q (.bl (a || b)):=by
 unfold c3g;rw[a2e];simp only[a2o]
section
variable {X:Cx}{C:CC}{n:Nat}{sp:Γd→Nat→Sp}{fr:Bool}{a b:Expr}{ea eb:EW}{pos px py pt p2:Pos}{i j kt k2:Nat}{nx ny:Str}
theorem c5a (G:Good X C n sp){ta:TA}(h:c2r C i j nx ny px py a b=true)(ha:PA X.nox [a,b] ta):PS X.nox (.Assign [.Tuple [.Name nx px,.Name ny py] kt pt] (.Tuple [a,b] k2 p2) pos) (tPar i j ta):=by
 have g0:=b2 h;have g1:=b2 g0.1;have g2:=b2 g1.1;have g3:=b2 g2.1;have g4:=b2 g3.1;have g5:=b2 g4.1;have g6:=b2 g5.1;have g7:=b2 g6.1;have g8:=b2 g7.1;have g9:=b2 g8.1
 have lx:X.env.scope.names.lookup nx=some .local:=by rw[G.sc];exact de g6.2
 have ly:X.env.scope.names.lookup ny=some .local:=by rw[G.sc];exact de g5.2
 exact d1e (X:=X.nox) G.calm G.nd' (G.ix g9.1) (G.ix g9.2) (de g8.2) lx ly ha (sw2 (env:=X.env) G.kind lx ly (de g7.2) g4.2 (nb g3.2) (nb g2.2) (nb g1.2) (nb g0.2))
theorem c4z (h:c2r C i j nx ny px py a b=true):a0k a=false∧a0k b=false∧i≠j:=by
 have g0:=b2 h;have g1:=b2 g0.1;have g2:=b2 g1.1;have g3:=b2 g2.1;have g4:=b2 g3.1;have g5:=b2 g4.1;have g6:=b2 g5.1;have g7:=b2 g6.1;have g8:=b2 g7.1
 exact⟨by cases a<;>first|rfl|(exact nb g3.2),by cases b<;>first|rfl|(exact nb g2.2),de g8.2⟩
theorem d9p (G:Good X C n sp)(hm:(decide (a0n C.md i=.own) && decide (i≠0) && decide (a0n C.md j=.imm))=true)(h:c2r C i j nx ny px py a b=true)(ha:FF X C a ea)(hb:FE X C b eb):FS X C fr (.Assign [.Tuple [.Name nx px,.Name ny py] kt pt] (.Tuple [a,b] k2 p2) pos) (a1o (a3w (a0a ea (a0a eb a0i))) (.tp [i,j])):=by
 obtain⟨sa,sb,hij⟩:=c4z h
 refine PS.imp (c5a G h (a0h ha (a0h hb a0y (a0f sb)) (a0f sa))) λD σ H ⟨c,L,S,Q0,I,h,k⟩=>?_
 have hm:=b2 hm;have hm2:=b2 hm.1
 refine⟨c,L,S,_,I,h,λv L1 q l S1 H1 o f I1 s1=>?_⟩
 obtain⟨o1,ps,us,e9,o2,o3⟩:=o
 have I2:=I1.prot o2 o1 λy u hy hu=>f.2.2 y u (Mo.w_imm hy) hu
 refine⟨_,L1,S1,_,I2,q,λw L2 q y S2 H2 r2 I3 s2=>⟨.ref l,y,rfl,?_⟩⟩
 obtain⟨g1,g2,g3⟩:=I3.prs (l,c5c v us) Γn
 have I4:=I3.unprot I1.fzp
 have nf:∀ y u,a0n C.md y≠.imm→L2[y]?=some (some u)→σ[y]?≠some (some (.ref l)):=λy u hy hu hs=>by
  by_cases mo:(a0n C.md y).w=true
  ·exact g3 y u mo hu hs
  ·have mo:a0n C.md y=.frz:=by cases z:a0n C.md y with|imm=>exact absurd z hy|frz=>rfl|_=>rw[z] at mo;exact absurd rfl mo
   obtain⟨b',f1⟩:=I4.fzm y u mo hu
   obtain⟨_,f2,_⟩:=I4.fzs _ f1
   rw[hs] at f2;cases f2
   obtain⟨ys,f3⟩:=I1.fzp _ f1
   exact f.2.1 _ f3 rfl
 have I5:=I4.set (x:=.ref l) (v:=v) (λ_ _=>de hm2.2) (λz=>by rw[de hm2.1] at z;cases z) (.inr ⟨de hm2.1,l,rfl,⟨g2,ps,us,e9,g1,o3.mono s2⟩,f.1,f.2.1,λy u _ hy hu=>nf y u hy hu⟩)
 exact k .next _ q.2 _ S2 H2 (I5.setI (de hm.2) r2) (s1.trans s2)
end
def Itd (lo:Int) (n:Nat):It:=⟨λi _=>i<n,λi H x H'=>H'=H∧x=.int (lo-i),λi _=>n≤i⟩
theorem b6l {P:Program}{w:World}{K:Γd}{tg:Expr}(it:Addr) (lo:Int) (n:Nat):Turn P w K tg (Itd lo n) [it] it (λi h=>IsRangeIter h it (lo+(i:Nat)*(-1)) ((n:Int)-(i:Nat)) (-1)) where
 mem:=by simp
 obj:=λi h st b hb=>by
  have e:b=it:=by simpa using hb
  subst e
  exact⟨_,st,λv z=>by
   have z':Data.fields _=Data.cell v:=z
   cases z'⟩
 keep:=λi h h' st k=>k it (by simp) _ st
 item:=by
  intro X hP hw hK hc i pins s σ H E I hf st hg
  subst hP hw hK
  obtain⟨f0,f1,f2,f3,f4,f5⟩:=hf it (by simp)
  have W:=Walks.range (prog:=X.prog) (w:=X.w) (I.ok.hd hc) it lo (-1) n
  refine W.item i s _ _ hg st λv h' tk hv st' kk=>?_
  obtain⟨t,rfl⟩:=hv
  have I1:Inv X pins σ H { s with heap:=h',toks:=tk }:=I.turned (λb o hb e=>kk b o (by simpa using hb) e) f0 f1 f3 f4 f5
  refine⟨_,rfl,c3l (s:={ s with heap:=h',toks:=tk }) (n:="range_iterator") st' rfl rfl (by decide) ⟨.int (lo-i),H,I1,⟨t,?_⟩,⟨rfl,rfl⟩,st',λb hb=>(hf b hb).1⟩⟩
  rw[Int.mul_neg,Int.mul_one,Int.sub_eq_add_neg]
 done:=by
  intro X hP hw hK hc i pins s σ H E I hf st hg
  subst hP hw hK
  obtain⟨f0,f1,f2,f3,f4,f5⟩:=hf it (by simp)
  exact wpAny_pyNext_range_end (I.ok.hd hc) st (by have:n≤i:=hg;lia) λh' eb=>⟨rfl,I.turned (t':=s.toks) (λb o hb e=>eb b o hb e) f0 f1 f3 f4 f5⟩
 self:=λ_ _ _ _ _ st h=>wpAny_pyIter_rangeiter st h
section
variable {X:Cx}{tg:Expr}
end
def a6q (hi:Int):Nat→List FV
 | 0=>[]
 | n+1=>.int hi :: a6q (hi-1) n
def iDown (a b:EW):AW:=λL Q=>a L λx L1=>b L1 λy L2=>wp (a2n x) λi=>wp (a2n y) λj=>(a1d i && a1d j)=true∧Q (a6q i (i-j).toNat) L2
theorem b1g:∀ (n:Nat) (lo:Int) (i:Nat),(a6q lo n)[i]?=if i<n then some (.int (lo-i)) else none
 | 0,lo,i=>by simp[a6q]
 | n+1,lo,0=>by simp[a6q]
 | n+1,lo,i+1=>by
  show (a6q (lo-1) n)[i]?=_
  rw[b1g n (lo-1) i]
  have e:lo-1-(i:Int)=lo-((i+1:Nat):Int):=by lia
  simp[e]
section
variable {X:Cx}{C:CC}{n:Nat}{sp:Γd→Nat→Sp}{a b tg:Expr}{ea eb:EW}{p p3 p4 pos:Pos}{kk:Nat}
variable {K:Γd}{c:Cn}{md:Md}
theorem c8i {lo:Int}{m:Nat}{S1:Hp}:ItR K c md (Itd lo m) (a6q lo m) S1:=by
 intro i L σ S H I s
 rw[b1g]
 by_cases h:i<m
 ·rw[if_pos h]
  refine⟨λe=>(nomatch e),λp e=>?_⟩
  cases e
  exact⟨h,λv H' ⟨e1,e2⟩=>⟨S,Same.refl S,by rw[e1];exact λ_ _ _ _ I=>I,e2⟩⟩
 ·rw[if_neg h]
  exact⟨λ_=>show m≤i by lia,λp e=>(nomatch e)⟩
end
end Kq
end
section
namespace PySem
open PySem.Spec
theorem F.sub_rit_reversed:isSubtype (.type "range_iterator") (.type "reversed")=pure false:=by rw[isSubtype_type];kernel_rfl
theorem b7g (r:Addr) (a b c:Int)(t u v:Tok)(hc0:¬(!(Builtin.Range.rangeFitsLong a && Builtin.Range.rangeFitsLong b && Builtin.Range.rangeFitsLong c && Builtin.Range.rangeFitsLong (-c) && Builtin.Range.rangeFitsLong (a-c) && Builtin.Range.rangeFitsLong (Builtin.Range.rangeSize a b c)))=true) :
  Meets (Builtin.«range.__reversed__» ⟨[.ref r],[]⟩) (λ_ R s=>s.heap.get? r=some { cls:=.type "range",dict:=none,data:=.fields #[.int a t,.int b u,.int c v],slots:=#[] }∧R (.ok (.ret (Value.ref s.heap.objs.size))) { s with heap:=s.heap.push { cls:=Value.type (if (Builtin.Range.rangeFitsLong a && Builtin.Range.rangeFitsLong b && Builtin.Range.rangeFitsLong c && Builtin.Range.rangeFitsLong (-c) && Builtin.Range.rangeFitsLong (a-c) && Builtin.Range.rangeFitsLong (Builtin.Range.rangeSize a b c))=true then "range_iterator" else "longrange_iterator"),data:=Data.fields #[rawInt (a+(Builtin.Range.rangeSize a b c-1)*c),rawInt (Builtin.Range.rangeSize a b c),rawInt (-c)] },toks:=s.toks }) :=
 .of_wp λprog w A R s h=>by obtain⟨hp,g,d,tk,os⟩:=s;obtain⟨hl,h⟩:=h;wp_walk;exact⟨_,rfl,h⟩
section
variable {prog:Program}{w:World}{A:Around}{E:Value→Shared→Prop}{s:Shared}
def a5y (a n:Int):Obj:={ cls:=.type "range_iterator",data:=.fields #[rawInt a,rawInt n,rawInt (-1)] }
theorem a7m {r:Addr}{b:Int}{t u v:Tok}{Q:Value→Shared→Prop}(hr:IsRange s.heap r 0 b 1 t u v)(h1:-(2 ^ 62)≤b)(h2:b<2 ^ 62)
  (h:Q (.ref s.heap.objs.size) { s with heap:=s.heap.push (a5y ((b.toNat:Int)-1) b.toNat) }):wpAny (model prog w) A (call (.builtin "range.__reversed__") [.ref r]) Q E s:=by
 have hT:s.TypeIs (.ref r) "range":=⟨_,hr,rfl⟩
 have hn:Builtin.Range.rangeSize 0 b 1=(b.toNat:Int):=by rw[rangeSize_one];split<;>lia
 have hs:(Builtin.Range.rangeFitsLong 0 && Builtin.Range.rangeFitsLong b && Builtin.Range.rangeFitsLong 1 && Builtin.Range.rangeFitsLong (-1) && Builtin.Range.rangeFitsLong (0-1) && Builtin.Range.rangeFitsLong (Builtin.Range.rangeSize 0 b 1))=true:=by
  rw[hn]
  simp only[Builtin.Range.rangeFitsLong,Bool.and_eq_true,decide_eq_true_eq]
  lia
 refine call_meets F.slot_range_reversed hT F.entry_range_reversed (F.args_range_reversed_1 _) (b7g r 0 b 1 t u v (by rw[hs];decide)) ⟨hr,?_⟩
 rw[hs,if_pos rfl,hn]
 have e:(0:Int)+((b.toNat:Int)-1)*1=(b.toNat:Int)-1:=by lia
 rw[e]
 exact h
theorem a7j {r:Addr}{b:Int}{t u v:Tok}{Q₁:Value→Shared→Prop}(hr:IsRange s.heap r 0 b 1 t u v)(h1:-(2 ^ 62)≤b)(h2:b<2 ^ 62)
  (h:Q₁ (.ref s.heap.objs.size) { s with heap:=s.heap.push (a5y ((b.toNat:Int)-1) b.toNat) }) :
  codeAny (model prog w) A (.call (.builtin "reversed.__new__") ⟨[.type "reversed",.ref r],[]⟩) (wants Q₁ E) s:=by
 have hT:s.TypeIs (.ref r) "range":=⟨_,hr,rfl⟩
 refine codeAny_of_tree ?_
 show wpAny _ A.in1 (do checkBuiltinCall "reversed.__new__" ⟨[.type "reversed",.ref r],[]⟩;again (.builtin "reversed.__new__" ⟨[.type "reversed",.ref r],[]⟩)) _ _ s
 refine Γa (wpAny_of_eq (F.newCall_reversed_1 _) (Γb ⟨plainId_quiet F.plain_reversed_new _,codeAny_builtin F.entry_reversed_new ?_⟩))
 rw[Around.under_plainId F.plain_reversed_new _]
 unfold Builtin.«reversed.__new__»
 refine Γa (wpAny_of_eq (newClass_reversed _) ?_)
 try dsimp only
 refine Γa (wpAny_of_eq (a:=()) (by first|rfl|kernel_rfl) ?_)
 refine Γa (wpAny_of_eq (a:=()) (by first|rfl|kernel_rfl) ?_)
 try dsimp only
 refine Γa (wpAny_specialOf hT F.slot_range_reversed.lookup ?_)
 try dsimp only
 refine Γa (wpAny_of_eq (F.slot_range_reversed.bind _) ?_)
 try dsimp only
 first
 | rw[if_neg (show ¬ ((Value.builtin "range.__reversed__" == Value.none)=true) from Γk)]
 | (show wpAny _ _ (if (Value.builtin "range.__reversed__" == Value.none)=true then _ else _) _ _ _;rw[if_neg (show ¬ ((Value.builtin "range.__reversed__" == Value.none)=true) from Γk)])
 refine Γa (wpAny_rule ?_)
 refine Γa (m:=runValue (.call (.builtin "range.__reversed__") ⟨[.ref r],[]⟩)) (show wpAny _ _ (call (.builtin "range.__reversed__") [.ref r]) _ _ _ from a7m hr h1 h2 ?_)
 first
 | exact Γb h
 | exact Γa (Γb (Γb h))
theorem a7l {r:Addr}{b:Int}{t u v:Tok}{Q:Value→Shared→Prop}(hr:IsRange s.heap r 0 b 1 t u v)(h1:-(2 ^ 62)≤b)(h2:b<2 ^ 62)
  (h:Q (.ref s.heap.objs.size) { s with heap:=s.heap.push (a5y ((b.toNat:Int)-1) b.toNat) }):wpAny (model prog w) A (call (.type "reversed") [.ref r]) Q E s:=by
 refine callType_other (U:="range_iterator") (Q₁:=λobj s₁=>obj=.ref s.heap.objs.size∧s₁ = { s with heap:=s.heap.push (a5y ((b.toNat:Int)-1) b.toNat) }) (by nofun) F.create_reversed ⟨_,_,F.mro_reversed⟩ F.made_reversed F.sub_rit_reversed (F.typeCall_reversed_1 _) (a7j hr h1 h2 ⟨rfl,rfl⟩) ?_
 rintro obj s₁ ⟨rfl,rfl⟩
 exact⟨⟨_,Γm _ rfl,rfl⟩,h⟩
end
end PySem
end
section
namespace Kq
open PySem PySem.Spec PyProof.Rows L2
section
variable {X:Cx}{tg:Expr}
theorem c7d {a:Expr}{ta:TA}{p p2 pos pos2:Pos}(hg:Gl X "range")(hm:X.mg "range" = none)(hg2:Gl X "reversed")(hm2:X.mg "reversed" = none)(ha:PA X [a] ta)(hs:starEach [a] X.env=[(false,eval a X.env)]) :
  PI X tg (.Call (.Name "reversed" p) [.Call (.Name "range" p2) [a] [] pos2] [] pos) (λσ H R=>ta σ H λvs H1=>∃ j:Int,vs=[.int j]∧-(2 ^ 62)≤j∧j<2 ^ 62∧R (Itd ((j.toNat:Int)-1) j.toNat) H1):=by
 intro pins s σ H R I h
 refine Call_ (a3j I hg2 hm2 (by nofun) (PyProof.Rows.callWith_type1 (T:="reversed") ?_ rfl rfl))
 show wpAny _ _ (spliced ((false,eval (.Call (.Name "range" p2) [a] [] pos2) X.env) :: backTo pos [])) _ _ s
 refine Calls.spliced_cons (Call_ (a3j I hg hm boot_range (PyProof.Rows.callWith_type1 (thn (ha pos2 pins s σ H _ I h) λus s1 ⟨vs,H1,I1,r1,q1⟩=>?_) hs rfl)))
 obtain⟨j,e,q1,q2,q⟩:=q1
 subst e
 cases r1 with
 | cons r rr =>
  cases rr
  obtain⟨t,rfl⟩:=r
  refine call_range_1 (Calls.spliced_nil (a7l (IsRange.new ..) q1 q2 ?_))
  let h0:Heap:=s1.heap.push { cls:=.type "range",data:=.fields #[.int 0 s1.toks,.int j t,.int 1 (s1.toks+1)] }
  have I2:Inv X pins σ H1 { s1 with heap:=h0,toks:=s1.toks+1+1 }:=I1.kept λb o e=>Γc _ e
  have st:IsRangeIter (h0.push (a5y ((j.toNat:Int)-1) j.toNat)) h0.objs.size ((j.toNat:Int)-1) j.toNat (-1):=Γm _ rfl
  refine wpAny_pyIter_rangeiter st ?_
  refine⟨h0.objs.size,[h0.objs.size],_,_,H1,rfl,I2.kept (t':=s1.toks+1+1) λb o e=>Γc _ e,b6l _ ((j.toNat:Int)-1) j.toNat,?_,λb hb=>?_,q⟩
  ·have e1:((j.toNat:Int)-1)+((0:Nat):Int)*(-1)=(j.toNat:Int)-1:=by simp
   have e2:((j.toNat:Nat):Int)-((0:Nat):Int)=j.toNat:=by simp
   rw[e1,e2]
   exact st
  ·have e:b=h0.objs.size:=by simpa using hb
   subst e
   exact I2.fpOk (Γi _) (I2.hok.fresh (Γi _))
end
def c8m (a:EW):AW:=λL Q=>a L λx L1=>wp (a2n x) λj=>a1d j=true∧Q (a6q ((j.toNat:Int)-1) j.toNat) L1
@[scoped simp ↓] theorem d5f (a:EW)(L:a0d)(Q:List FV→a0d→Prop):c8m a L Q=(a L λx L1=>wp (a2n x) λj=>a1d j=true∧Q (a6q ((j.toNat:Int)-1) j.toNat) L1):=propext Iff.rfl
theorem d9v {X:Cx}{C:CC}{n:Nat}{sp:Γd→Nat→Sp}{a tg:Expr}{ea:EW}{p p2 pos pos2:Pos}(G:Good X C n sp)(hg:(C.gl (Γe "range") && C.gl (Γe "reversed"))=true)(hs:a0k a=false)(ha:FE X C a ea):FI X C C.md tg (.Call (.Name (Γe "reversed") p) [.Call (.Name (Γe "range") p2) [a] [] pos2] [] pos) (c8m ea) :=
 PI.imp (c7d (G.gl (b2 hg).1) (G.blt "range" (by decide)) (G.gl (b2 hg).2) (G.blt "reversed" (by decide)) (a0h ha a0y (a0f hs)) (a0f hs)) λσ H R ⟨c,L,S,Q0,I,h,k⟩ =>
 ⟨c,L,S,_,I,h,λv L1 hv x S1 H1 r1 I1 s1=>by
  obtain⟨j,e,hb,q⟩:=wpx hv
  cases a0x e
  have h1:=de hb
  exact⟨j,by rw[show x=.int j from r1],h1.1,h1.2,k _ L1 q _ c S1 H1 I1 (λ_ _ _ _ I=>I) rfl c8i s1⟩⟩
theorem b4i:∀ n:Nat,a6q ((n:Int)-1) n=(List.range n).reverse.map λi:Nat=>FV.int i
 | 0=>rfl
 | n+1=>by
  have:=b4i n
  rw[List.range_succ,List.reverse_append,List.map_append,← this]
  simp[a6q]
def c4l (P:Program)(w:World)(A:Around)(I:Nat→Value→Prop)(bt:Nat→Nat→Bool)(h0:Heap) (N:Nat):Prop :=
 ∀ i j u v (s:Shared)(Q:Value→Shared→Prop)(E:Value→Shared→Prop),L2.Kept h0 s.heap N→I i u→I j v→Q (.bool (bt i j)) s→wpAny (model P w) A (richCompare .Gt u v) Q E s
section
variable {P:Program}{w:World}{A:Around}{R:Result→Shared→Prop}{it S N:Addr}{fp wr:List Addr}{n:Nat}{V:Nat→Value→Prop}{St:Nat→Heap→Prop}{bt:Nat→Nat→Bool}{h0:Heap}{kw:List (Str×Value)}
theorem b8n (W:Walks P w A.in1 it fp wr n V St)(C:c4l P w A.in1 V bt h0 N)(sf:S ∉ fp)(nw:∀ b∈wr,N≤b)(nS:N≤S) :
  ∀ (k j:Nat)(s:Shared)(best:Value) (c:Nat),n-(j+1)=k→j+1≤n→St (j+1) s.heap→V (argBest bt j) best→L2.Kept h0 s.heap N→s.heap.get? S=some { cls:=.type "list",dict:=none,data:=.seq #[best,best] c,slots:=#[] } →
  (∀ v h' tk,V (argBest bt (n-1)) v→(∀ b o,b ∉ wr→b≠S→s.heap.get? b=some o→h'.get? b=some o)→R (.ok (.ret v)) { s with heap:=h',toks:=tk })→codeAny (model P w) A (.builtin "max.loop" ⟨[.ref it,.none,.ref S],kw⟩) R s:=by
 have sw:S ∉ wr:=λh=>sf (W.sub _ h)
 have nm:(toString "max"++toString ".loop":String) = "max.loop":=by decide
 have low:∀ {b:Addr},b<N→b ∉ wr∧b≠S:=λ{b} hb=>⟨λz=>absurd (nw b z) (Nat.not_le.mpr hb),λz=>absurd nS (by rw[← z];exact Nat.not_le.mpr hb)⟩
 intro k
 induction k with
 | zero =>
  intro j s best c hk hj hst hV kp hS hR
  have en:j+1=n:=by lia
  refine codeAny_builtin F.entry_max_loop ?_;rw[PySem.Around.under_plainId F.plain_max_loop _]
  show wpAny _ A.in1 (seqItems? (.ref S) >>= _) _ _ s;refine Γa (wpAny_seqItems hS rfl ?_)
  show wpAny _ A.in1 (tryCatch (pyNext (.ref it)) _ >>= _) _ _ s;refine Γa (wpAny_tryCatch (W.done s _ _ (en ▸ hst) λg tk kk=>?_))
  have S1:=kk S _ sw hS
  show wpAny _ A.in1 (updateSeq S (λ_=>#[]) >>= _) _ _ _;refine Γa (wpAny_updateSeq S1 rfl (Γa (wpAny_letGo (Γb ?_))))
  exact hR best _ tk (by rw[← en];exact hV) λb o c1 c2 e=>(Γf _ _ (Ne.symm c2)).trans (kk b o c1 e)
 | succ k ih =>
  intro j s best c hk hj hst hV kp hS hR
  have lt:j+1<n:=by lia
  refine codeAny_builtin F.entry_max_loop ?_;rw[PySem.Around.under_plainId F.plain_max_loop _]
  show wpAny _ A.in1 (seqItems? (.ref S) >>= _) _ _ s;refine Γa (wpAny_seqItems hS rfl ?_)
  show wpAny _ A.in1 (tryCatch (pyNext (.ref it)) _ >>= _) _ _ s;refine Γa (wpAny_tryCatch (W.item (j+1) s _ _ lt hst λv g tk vP st1 kk=>?_))
  have S1:=kk S _ sw hS
  have kp1:L2.Kept h0 g N:=λb o hb e=>kk b o (low hb).1 (kp b o hb e)
  show wpAny _ A.in1 (tryCatch (holding [v,v] (richCompare .Gt v best >>= _)) _ >>= _) _ _ _
  refine Γa (wpAny_tryCatch (Γg (Γa (C (j+1) (argBest bt j) v best _ _ _ kp1 vP hV (Γa (Γg (wpAny_truthy_bool (Γa (wpAny_letGo (Γb ?_))))))))))
  cases hb:bt (j+1) (argBest bt j) with
  | true =>
   simp only[if_true];refine Γa (wpAny_updateSeq S1 rfl (Γa (wpAny_letGo ?_)));rw[nm]
   refine Γb ⟨plainId_quiet F.plain_max_loop _,ih (j+1) _ v _ (by lia) lt (W.frame _ _ _ st1 λb bf o e=>(Γf _ _ (λh:S=b=>sf (by rw[h];exact bf))).trans e) (by simp only[argBest,hb,if_true];exact vP)
    (λb o l e=>(Γf _ _ (Ne.symm (low l).2)).trans (kp1 b o l e)) (Heap.get?_update_self _ S1 rfl) λv' g' tk' p' k'=>?_⟩
   exact hR v' g' tk' p' λb o c1 c2 e=>k' b o c1 c2 ((Γf _ _ (Ne.symm c2)).trans (kk b o c1 e))
  | false =>
   simp only[Γp,if_false];refine Γa (wpAny_letGo ?_);rw[nm]
   refine Γb ⟨plainId_quiet F.plain_max_loop _,ih (j+1) _ best c (by lia) lt st1 (by simp only[argBest,hb,Γp,if_false];exact hV) kp1 S1 λv' g' tk' p' k'=>?_⟩
   exact hR v' g' tk' p' λb o c1 c2 e=>k' b o c1 c2 (kk b o c1 e)
theorem a7t (W:Walks P w A.in1 it fp wr n V St)(C:c4l P w A.in1 V bt h0 N)(sf:S ∉ fp)(nw:∀ b∈wr,N≤b)(nS:N≤S)(hn:0<n){s:Shared}{c:Nat}(hst:St 0 s.heap)(kp:L2.Kept h0 s.heap N)
  (hS:s.heap.get? S=some { cls:=.type "list",dict:=none,data:=.seq #[] c,slots:=#[] })
  (hR:∀ v h' tk,V (argBest bt (n-1)) v→(∀ b o,b ∉ wr→b≠S→s.heap.get? b=some o→h'.get? b=some o)→R (.ok (.ret v)) { s with heap:=h',toks:=tk }):codeAny (model P w) A (.builtin "max.loop" ⟨[.ref it,.none,.ref S],kw⟩) R s:=by
 have sw:S ∉ wr:=λh=>sf (W.sub _ h)
 have nm:(toString "max"++toString ".loop":String) = "max.loop":=by decide
 have low:∀ {b:Addr},b<N→b ∉ wr∧b≠S:=λ{b} hb=>⟨λz=>absurd (nw b z) (Nat.not_le.mpr hb),λz=>absurd nS (by rw[← z];exact Nat.not_le.mpr hb)⟩
 refine codeAny_builtin F.entry_max_loop ?_;rw[PySem.Around.under_plainId F.plain_max_loop _]
 show wpAny _ A.in1 (seqItems? (.ref S) >>= _) _ _ s;refine Γa (wpAny_seqItems hS rfl ?_)
 show wpAny _ A.in1 (tryCatch (pyNext (.ref it)) _ >>= _) _ _ s;refine Γa (wpAny_tryCatch (W.item 0 s _ _ hn hst λv g tk vP st1 kk=>?_))
 have S1:=kk S _ sw hS
 show wpAny _ A.in1 (updateSeq S (λ_=>#[v,v]) >>= _) _ _ _;refine Γa (wpAny_updateSeq S1 rfl ?_);rw[nm]
 refine Γb ⟨plainId_quiet F.plain_max_loop _,b8n W C sf nw nS _ 0 _ v _ rfl hn (W.frame _ _ _ st1 λb bf o e=>(Γf _ _ (λh:S=b=>sf (by rw[h];exact bf))).trans e) vP
  (λb o l e=>(Γf _ _ (Ne.symm (low l).2)).trans (kk b o (low l).1 (kp b o l e))) (Heap.get?_update_self _ S1 rfl) λv' g' tk' p' k'=>?_⟩
 exact hR v' g' tk' p' λb o c1 c2 e=>k' b o c1 c2 ((Γf _ _ (Ne.symm c2)).trans (kk b o c1 e))
end
section
variable {P:Program}{w:World}{A:Around}{E:Value→Shared→Prop}{s:Shared}
end
section
variable {P:Program}{w:World}{A:Around}{E:Value→Shared→Prop}{s:Shared}
end
def a2c (b:Int):List Int→Int
 | []=>b
 | x :: r=>a2c (if b<x then x else b) r
def mostD (d:Int):List Int→Int
 | []=>d
 | n :: r=>a2c n r
theorem b0o:∀ (xs:List Int) (b x:Int),a2c b (xs++[x])=if a2c b xs<x then x else a2c b xs
 | [],b,x=>rfl
 | y :: ys,b,x=>by
  show a2c (if b<y then y else b) (ys++[x])=_
  rw[b0o ys];rfl
theorem a9b (n:Int)(r:List Int):∀ k,k≤r.length→(n :: r)[argBest (λi j=>decide ((n :: r).getD j 0<(n :: r).getD i 0)) k]?=some (a2c n (r.take k))
 | 0,_=>by simp[argBest,a2c]
 | k+1,h=>by
  have ih:=a9b n r k (by lia)
  have hk:k<r.length:=h
  have e1:(n :: r).getD (argBest (λi j=>decide ((n :: r).getD j 0<(n :: r).getD i 0)) k) 0=a2c n (r.take k):=by rw[List.getD_eq_getElem?_getD,ih];rfl
  have e2:(n :: r).getD (k+1) 0=r[k]:=by simp[List.getD,hk]
  rw[List.take_succ_eq_append_getElem hk,b0o]
  simp only[argBest,e1,e2,decide_eq_true_eq]
  split
  ·simp[hk]
  ·exact ih
section
variable {X:Cx}
variable {x:Str}{p pos kp:Pos}{e v:Expr}{t:TA}{tv:TE}{id:String}{kn:Str}{r:V→V→Hp→VK→Prop}
end
section
variable {X:Cx}{C:CC}{n:Nat}{sp:Γd→Nat→Sp}{a b:Expr}{ea eb:EW}{pos p kp:Pos}
end
section
variable (Q:FV→Prop)
end
section
variable {P:Program}{w:World}{A:Around}{E:Value→Shared→Prop}
end
section
variable {X:Cx}{pos:Pos}
end
def sUnp (e:EW)(is:List Nat):SW:=λL Q=>e L λx L1=>wp (a7b x) λxs=>wp (a6y L1 is xs) λL2=>Q .next L2
section
variable {X:Cx}{C:CC}{n:Nat}{sp:Γd→Nat→Sp}{fr:Bool}{a:Expr}{e:EW}{pos p:Pos}{is:List Nat}{k:Nat}
end
theorem b3w {α:Type}(xs:List α):∀ k:Nat,(Γj k xs).flatten.length=k*xs.length
 | 0=>by simp
 | k+1=>by rw[List.replicate_succ,List.flatten_cons,List.length_append,b3w xs k,Nat.add_mul,Nat.one_mul,Nat.add_comm]
theorem a5i:fillsNumberSlot (.type "tuple") "mul" = pure false :=
 PySem.fillsNumberSlot_seq (id:="tuple.__mul__") (r:=some (.builtin "tuple.__rmul__")) F.slot_tuple_mul.lookup (by nofun) F.slot_tuple_rmul.lookup (by nofun)
theorem b0d:seqRepeat? (.type "tuple")=pure (some (.builtin "tuple.__mul__")):=by
 unfold seqRepeat?
 rw[PySem.seqSlot_of (T:="tuple") (name:="__mul__") (id:="tuple.__mul__") F.slot_tuple_mul.lookup (by nofun),PySem.seqSlot_of (T:="tuple") (name:="__rmul__") (id:="tuple.__rmul__") F.slot_tuple_rmul.lookup (by nofun)]
 rfl
section
variable {prog:Program}{w:World}{A:Around}{E:Value→Shared→Prop}{s:Shared}
theorem c7w {t:Addr}{its:List Value}{k:Int}{u:Tok}{Q:Value→Shared→Prop}(ht:IsTup s.heap t its.toArray)(h1:-(2 ^ 63)≤k)(h2:k<2 ^ 63)(hz:its.length*k.toNat≤sizeLine)
  (hs:(its=[] ∨ k=1)→Q (.ref t) s)
  (hn:¬ (its=[] ∨ k=1)→Q (.ref s.heap.objs.size) { s with heap:=s.heap.push { cls:=.type "tuple",data:=.seq (Γj k.toNat its).flatten.toArray } }):wpAny (model prog w) A (binaryOp .Mult (.ref t) (.int k u)) Q E s:=by
 refine wpAny_binaryOp_repeat_ref (T:="tuple") (U:="int") (by decide) ht.typeIs (λs'=>typeIs_int s' k u) a5i F.fills_int_mul F.slot_int_rmul b0d F.slot_int_index.lookup ?_
 refine wpAny_call_entry F.slot_int_rmul (typeIs_int s k u) F.entry_int_rmul ?_ (F.args_int_rmul_2 _ _)
 have h3:wpAny (model prog w) A.in1 (Builtin.«int.__rmul__» ⟨[.int k u,.ref t],[]⟩) (λfin s'=>fin=.done (.ret .notImplemented)∧s'=s) E s:=by
  obtain⟨o,ho,hcl,n,hd⟩:=ht
  show wpAny _ A.in1 (asInt? (.ref t) >>= _) _ _ s
  unfold asInt?
  show wpAny _ A.in1 ((load t >>= _) >>= _) _ _ s
  refine Γa (Γa (wpAny_load ho ?_))
  rw[hd]
  exact Γb (Γa (wpAny_rule (Γb ⟨rfl,rfl⟩)))
 refine wpAny_mono h3 ?_ λ_ _ e=>e
 rintro _ _ ⟨rfl,rfl⟩
 refine⟨_,rfl,rfl,ht.typeIs,?_⟩
 refine wpAny_call_entry F.slot_tuple_mul ht.typeIs F.entry_tuple_mul ?_ (F.args_tuple_mul_2 _ _)
 show wpAny _ A.in1 (asIndex (.int k u) >>= _) _ _ _
 refine Γa (wpAny_of_eq (a:=k) rfl ?_)
 rw[if_neg (by simp;lia)]
 refine Γa (tupleItemsOf_ ht ?_)
 by_cases h0:its=[] ∨ k=1
 ·have e:(its.toArray.isEmpty || k == 1)=true:=by
   rcases h0 with h0|h0
   ·subst h0;rfl
   ·subst h0;simp
  rw[e]
  simp only[if_true]
  refine Γa (m:=Builtin.Tuple.tupleIsExact (.ref t)) ?_
  unfold Builtin.Tuple.tupleIsExact
  refine Γa (wpAny_typeOf ht.typeIs (Γb ?_))
  rw[if_pos (by decide)]
  exact Γa (wpAny_rule (Γb ⟨_,rfl,hs h0⟩))
 ·have hi:its≠[]:=λz=>h0 (.inl z)
  have hk:k≠1:=λz=>h0 (.inr z)
  have e:(its.toArray.isEmpty || k == 1)=false:=by simp[hi,hk]
  have e0:its.toArray.isEmpty=false:=by simp[hi]
  rw[e]
  simp only[Γp,if_false,e0,Bool.or_false]
  by_cases hp:k≤0
  ·rw[if_pos (by simpa using hp)]
   have hr:=hn h0
   rw[show k.toNat=0 by lia] at hr
   exact Γa (wpAny_newObj_type (Γb ⟨_,rfl,hr⟩))
  ·rw[if_neg (by simpa using hp)]
   have hk:((its.toArray.size:Int)*k)=((its.length*k.toNat:Nat):Int):=by
    rw[List.size_toArray,Int.natCast_mul];congr 1;lia
   have hl:(sizeLine:Nat)≤(2 ^ 63-1) / 8:=by decide
   rw[hk,if_neg (by lia)]
   have h4:Builtin.Tuple.tupleTooMany ((its.length*k.toNat:Nat):Int)=false:=by
    unfold Builtin.Tuple.tupleTooMany
    generalize its.length*k.toNat=m at hz
    exact decide_eq_false (by lia)
   rw[h4]
   simp only[Γp,if_false]
   have hr:=hn h0
   have f0:List.foldl (λx1 x2=>x1++x2) #[] (Γj k.toNat its.toArray)=(Γj k.toNat its).flatten.toArray:=by
    have:=a6o its k.toNat []
    rw[List.nil_append] at this
    exact this
   rw[f0]
   refine Γa (wpAny_newObj_type (Γb ⟨_,rfl,hr⟩) ?_)
   show ((Γj k.toNat its).flatten.toArray).size≤sizeLine
   rw[List.size_toArray,b3w,Nat.mul_comm];exact hz
end
section
variable {X:Cx}{S H:Hp}{Q:VK}
theorem c7q {pins:List (Addr×Obj)}{σ:L2.St}{s:Shared}{u1 u2:Value}{a:Addr}{as:List V}{k:Int}(I:Inv X pins σ H s)(rx:RelV (.ref a) u1)(ry:RelV (.int k) u2)(ha:SqT X.K H a as)(h1:-(2 ^ 63)≤k)(h2:k<2 ^ 63)(hz:as.length*k.toNat≤sizeLine)
  (q1:(as=[] ∨ k=1)→Q (.ref a) H)(q2:∀ p,H p=none→Q (.ref p) (upd H p (.tup (Γj k.toNat as).flatten))):wpAny (model X.prog X.w) X.A (binaryOp .Mult u1 u2) (EP X pins σ Q) X.xe s:=by
 cases rx
 obtain⟨t,rfl⟩:=ry
 obtain⟨its,r1,p1,_⟩:=I.tuple ha
 refine c7w p1 h1 h2 (by rw[← r1.length];exact hz) (λz=>⟨.ref a,H,I,rfl,q1 (z.imp_left λz=>r1.nil_iff.mp z)⟩) λz=>?_
 refine⟨.ref s.heap.objs.size,_,I.laid (t':=s.toks) (o:=.tup (Γj k.toNat as).flatten) (λb ob q=>Γc _ q) (Γi _) ?_,rfl,q2 _ (I.hok.fresh (Γi _))⟩
 exact⟨by rw[b8u,Nat.mul_comm];exact hz,_,r1.rep _,IsTup.new _ _⟩
def b6q (v w:FV):Option FV:=(a5s v).bind λxs=>(a2n w).bind λk=>if -(2 ^ 63)≤k∧k<2 ^ 63∧xs.length*k.toNat≤big then some (.tup (Γj k.toNat xs).flatten) else none
theorem d0w:OpR X (binaryOp .Mult) (Rq X.K b6q):=by
 intro pins s σ H x y u1 u2 Q I rx ry ⟨S,v,w,z,hs,hv,hw,e,k⟩
 obtain⟨xs,e1,e⟩:=bnd e
 obtain⟨j,e2,e⟩:=bnd e
 cases a1t e1
 cases a0x e2
 obtain⟨hc,rfl⟩:=itd e
 have rv:=hv.val rfl
 obtain⟨a,as,rfl,ha,ra⟩:=hv.tup hs
 obtain rfl:=hw.int
 have l1:=ra.length
 have hl:=a1g
 refine c7q I rx ry (SqT.of ha) hc.1 hc.2.1 (by rw[← l1];lia) (λz=>k.old _ (λ_ z=>nomatch z) ?_) λp hp=>k.tup _ _ p rfl (ra.rep _) hp
 rcases z with z|z
 ·subst z
  have z2:xs=[]:=List.eq_nil_of_length_eq_zero (by simpa using l1)
  subst z2
  simpa using rv
 ·subst z;simpa using rv
end
section
variable {X:Cx}{C:CC}{a b:Expr}{ea eb:EW}{pos:Pos}
theorem e0b (ha:FE X C a ea)(hb:FR X C b eb):FE X C (.BinOp a .Mult b pos) (eOp b6q ea eb):=b2u d0w ha hb
@[scoped simp ↓] theorem b_tmul (xs:List FV) (k:Int)(Q:FV→Prop):wp (b6q (.tup xs) (.int k)) Q↔(-(2 ^ 63)≤k∧k<2 ^ 63∧xs.length*k.toNat≤big)∧Q (.tup (Γj k.toNat xs).flatten):=by
 show wp (if _ then some _ else none) Q↔_;exact a3c _ _ _
end
end Kq
end
section
namespace PySem
section
variable {prog:Program}{w:World}{A:Around}{E:Value→Shared→Prop}{s:Shared}
end
end PySem
end
section
namespace Kq
open PySem PySem.Spec PyProof.Rows L2
section
variable {X:Cx}
variable {a b:Expr}{ta:TA}{p p2 pos pos2:Pos}{T:Str}{Tn:String}{ho:List V→HO}
end
def rngF (c:List FV→FV)(v:FV):Option FV:=(a2n v).bind λj=>if a1d j=true∧j.toNat≤big then some (c (upF 0 j.toNat)) else none
def rng2F (c:List FV→FV)(v w:FV):Option FV:=(a2n v).bind λi=>(a2n w).bind λj=>if (a1d i && a1d j)=true∧(j-i).toNat≤big then some (c (upF i (j-i).toNat)) else none
section
variable {X:Cx}{C:CC}{n:Nat}{sp:Γd→Nat→Sp}{a b:Expr}{ea eb:EW}{pos p p2 pos2:Pos}
end
end Kq
end
section
namespace PySem
def e3s (A:Around)(s:Shared)(x y:Value)(b:Bool):Prop :=
 ∀ (prog:Program)(w:World)(E:Value→Shared→Prop)(Q:Value→Shared→Prop),Q (.bool b) s→wpAny (model prog w) A (richCompare .Lt x y) Q E s
inductive LexAt (A:Around)(s:Shared):List Value→List Value→Bool→Prop
 | nn:LexAt A s [] [] false
 | nc {y ys}:LexAt A s [] (y :: ys) true
 | cn {x xs}:LexAt A s (x :: xs) [] false
 | eq {x y xs ys r}:SeqAt.EqAt A s x y true→LexAt A s xs ys r→LexAt A s (x :: xs) (y :: ys) r
 | ne {x y xs ys r}:SeqAt.EqAt A s x y false→e3s A s x y r→LexAt A s (x :: xs) (y :: ys) r
section
open PySem.SeqAt
open PySem.AutoSeq1 (wpAny_loadPart')
open PySem.MeetsSeq PySem.MeetsSeq2 PySem.MeetsSeq3
theorem a9z (l b:Addr)(items items2:Array Value) (n n2:Nat)(dd dd2:Option Addr)(sl sl2:Array (Option Value)) :
  Meets (Builtin.«tuple.__lt__» ⟨[.ref l,.ref b],[]⟩)
   (λA R s=>s.heap.get? l=some { cls:=.type "tuple",dict:=dd,data:=.seq items n,slots:=sl }∧s.heap.get? b=some { cls:=.type "tuple",dict:=dd2,data:=.seq items2 n2,slots:=sl2 } ∧
    ∃ r,LexAt A.in1 s items.toList items2.toList r∧R (.ok (.ret (.bool r))) s) :=
 .of_wp λprog w A R s h=>by
  obtain⟨hp,g,d,tk,os⟩:=s;obtain⟨hl,hb,r,hlex,h⟩:=h
  have f2:=AutoSeq1.sub_tuple_tuple
  wp_walk using wpAny_loadPart' hl,wpAny_loadPart' hb,wpAny_forIn_list _ (λrest b s'=>b.1=none∧s'=⟨hp,g,d,tk,os⟩∧∃ (vs ws:List Value),rest=vs.zip ws ∧
   LexAt A.in1 ⟨hp,g,d,tk,os⟩ vs ws r∧vs.length+items2.size=ws.length+items.size) _
  case turn =>
   rintro⟨y,x⟩ rest b s' ⟨hb',rfl,vs,ws,hz,hlx,hlen⟩
   cases hlx with
   | nn=>cases hz
   | nc=>cases hz
   | cn=>rw[List.zip_nil_right] at hz;cases hz
   | eq he hr =>
    rw[List.zip_cons_cons] at hz
    injection hz with hyx hrest
    injection hyx with hy hx
    subst hy hx
    simp only[List.length_cons] at hlen
    refine Γa (he prog w _ _ ?_)
    wp_walk
    exact⟨rfl,rfl,_,_,hrest,hr,by lia⟩
   | ne he hr =>
    rw[List.zip_cons_cons] at hz
    injection hz with hyx hrest
    injection hyx with hy hx
    subst hy hx
    refine Γa (he prog w _ _ ?_)
    have hri:=hr prog w
    wp_walk using hri
    exact⟨_,rfl,by simpa using h⟩
  case fin =>
   rintro⟨b1,b2⟩ s' ⟨hb',rfl,vs,ws,hz,hlx,hlen⟩
   simp only at hb'
   subst hb'
   have hv:r=decide (items.size<items2.size):=by
    cases hlx with
    | nn=>simp only[List.length_nil] at hlen;exact (decide_eq_false (by lia)).symm
    | nc=>simp only[List.length_nil,List.length_cons] at hlen;exact (decide_eq_true (by lia)).symm
    | cn=>simp only[List.length_nil,List.length_cons] at hlen;exact (decide_eq_false (by lia)).symm
    | eq=>rw[List.zip_cons_cons] at hz;cases hz
    | ne=>rw[List.zip_cons_cons] at hz;cases hz
   rw[hv] at h
   wp_walk
   exact⟨_,rfl,by simpa[Builtin.Tuple.tupleCompareSizes] using h⟩
  case h =>
   exact⟨rfl,rfl,items.toList,items2.toList,rfl,hlex,by simp;lia⟩
end
theorem c2z {A:Around}{s:Shared}{l b:Addr}{o o2:Obj}{items items2:Array Value}{n n2:Nat}{r:Bool}(h1:s.heap.get? l=some o)(h2:o.cls=.type "tuple")(h3:o.data=.seq items n)(g1:s.heap.get? b=some o2)(g2:o2.cls=.type "tuple")(g3:o2.data=.seq items2 n2)
  (hlex:LexAt A.in1 s items.toList items2.toList r)(hu:A.units<cLine):e3s A s (.ref l) (.ref b) r:=by
 intro prog w E Q h
 obtain⟨cls,dd,data,sl⟩:=o
 obtain⟨cls2,dd2,data2,sl2⟩:=o2
 simp only at h2 h3 g2 g3
 subst h2 h3 g2 g3
 exact richCompare_meets_room (op:=.Lt) ⟨_,h1,rfl⟩ ⟨_,g1,rfl⟩ PySem.F.slot_tuple_lt PySem.F.entry_tuple_lt (PySem.F.args_tuple_lt_2 _ _) (a9z l b items items2 n n2 dd dd2 sl sl2)
  ⟨h1,g1,r,hlex,show Value.bool r≠Value.notImplemented∧Q (.bool r) s from ⟨(λx=>nomatch x),h⟩⟩ hu
end PySem
namespace Kq
open PySem PySem.Spec PyProof.Rows L2
def d7c (a b:String):Bool:=decide ((Γe a).cps.toList<(Γe b).cps.toList)
mutual
noncomputable def ltD:D→D→Option Bool
 | .int a,.int b=>some (decide (a<b))
 | .str a,.str b=>some (d7c a b)
 | .tup a,.tup b=>ltDs a b
 | _,_=>none
noncomputable def ltDs:List D→List D→Option Bool
 | [],[]=>some false
 | [],_ :: _=>some true
 | _ :: _,[]=>some false
 | a :: r,b :: q=>if D.eqv a b=true then ltDs r q else ltD a b
end
mutual
theorem c5g:∀ (x y:D)(A:Around)(s:Shared)(v u:Value)(as bs:List Addr)(r:Bool),Reads s.heap v (dPy x) as→Reads s.heap u (dPy y) bs→ltD x y=some r→A.units+(dPy x).depth<cLine→e3s A s v u r
 | .int a,y,A,s,v,u,as,bs,r,h1,h2,e,hu=>by
  cases y with
  | int b =>
   cases e
   simp only[dPy] at h1 h2
   cases h1;cases h2
   exact λprog w E Q h=>PyProof.Rows.lt_int h
  | _=>cases e
 | .str a,y,A,s,v,u,as,bs,r,h1,h2,e,hu=>by
  cases y with
  | str b =>
   cases e
   simp only[dPy] at h1 h2
   cases h1;cases h2
   exact λprog w E Q h=>PySem.P.lt_str h
  | _=>cases e
 | .tup xs,y,A,s,v,u,as,bs,r,h1,h2,e,hu=>by
  cases y with
  | tup ys =>
   simp only[dPy] at h1 h2
   simp only[dPy,PyData.depth] at hu
   cases h1 with
   | tuple a1 a2 a3 a4 =>
    cases h2 with
    | tuple b1 b2 b3 b4 =>
     exact c2z a1 a2 a3 b1 b2 b3 (lexAt_D xs ys A.in1 s _ _ _ _ r a4 b4 e (by show A.units+1+_<_;lia)) (by lia)
  | _=>cases e
 | .non,y,A,s,v,u,as,bs,r,h1,h2,e,hu=>by cases y<;>cases e
 | .bl _,y,A,s,v,u,as,bs,r,h1,h2,e,hu=>by cases y<;>cases e
 | .lst _,y,A,s,v,u,as,bs,r,h1,h2,e,hu=>by cases y<;>cases e
theorem lexAt_D:∀ (xs ys:List D)(A:Around)(s:Shared)(vs us:List Value)(as bs:List Addr)(r:Bool),ReadsAll s.heap vs (dPys xs) as→ReadsAll s.heap us (dPys ys) bs→ltDs xs ys=some r→A.units+PyData.depthAll (dPys xs)<cLine→LexAt A s vs us r
 | [],[],A,s,vs,us,as,bs,r,h1,h2,e,hu=>by cases h1;cases h2;cases e;exact .nn
 | [],y :: ys,A,s,vs,us,as,bs,r,h1,h2,e,hu=>by cases h1;cases h2;cases e;exact .nc
 | x :: xs,[],A,s,vs,us,as,bs,r,h1,h2,e,hu=>by cases h1;cases h2;cases e;exact .cn
 | x :: xs,y :: ys,A,s,vs,us,as,bs,r,h1,h2,e,hu=>by
  simp only[dPys] at h1 h2
  simp only[dPys,PyData.depthAll] at hu
  cases h1 with
  | cons a1 a2 =>
   cases h2 with
   | cons b1 b2 =>
    have he:=PySem.SeqAt.eqAt_reads _ _ A s _ _ _ _ a1 b1 (a6r x) (a6r y) (by lia)
    rw[c0j] at he
    simp only[ltDs] at e
    split at e
    ·rename_i hq
     rw[hq] at he
     exact .eq he (lexAt_D xs ys A s _ _ _ _ r a2 b2 e (by lia))
    ·rename_i hq
     have hq:D.eqv x y=false:=by simpa using hq
     rw[hq] at he
     exact .ne he (c5g x y A s _ _ _ _ r a1 b1 e (by lia))
end
end Kq
end
section
namespace Kq
open PySem PySem.Spec PyProof.Rows L2
theorem b3r {α β:Type}{f:α→Option β}:∀ {xs:List α}{ys:List β},a4m f xs=some ys→∀ (i:Nat)(x:α),xs[i]?=some x→∃ y,ys[i]?=some y∧f x=some y
 | [],ys,h,i,x,e=>by simp at e
 | a :: r,ys,h,i,x,e=>by
  simp only[a4m] at h
  obtain⟨b,h1,h2⟩:=bnd h
  obtain⟨q,h3,rfl⟩:=mpd h2
  cases i with
  | zero=>simp at e;subst e;exact⟨b,rfl,h1⟩
  | succ i=>exact b3r h3 i x (by simpa using e)
def btD (ds:List D) (i j:Nat):Bool:=(ltD (ds.getD i .non) (ds.getD j .non)).getD false
open Classical in
def b4x (v:FV):Option FV:=(a2f v).bind λxs=>(a4m (fD a0m) xs).bind λds =>
 if 0<ds.length∧(∀ x∈ds,∀ y∈ds,(ltD x y).isSome=true)∧∀ ps,xs[argBest (btD ds) (ds.length-1)]?≠some (.lst ps) then xs[argBest (btD ds) (ds.length-1)]? else none
section
variable {X:Cx}
theorem d4g (hc:X.calm=true)(hu:X.A.units+64<cLine):a1k X (.builtin "min") (Rc X.K b4x):=by
 rintro pins s σ H xs us Q I r ⟨S,v,x,z,rfl,hs,rv,e,k⟩
 obtain⟨qs,e1,e2⟩:=bnd e
 obtain⟨ds,e3,e4⟩:=bnd e2
 obtain⟨⟨hpos,hall,hnl⟩,e5⟩:(0<ds.length∧(∀ x∈ds,∀ y∈ds,(ltD x y).isSome=true)∧∀ ps,qs[argBest (btD ds) (ds.length-1)]?≠some (.lst ps))∧qs[argBest (btD ds) (ds.length-1)]?=some z:=by
  split at e4
  ·rename_i h;exact⟨h,e4⟩
  ·cases e4
 obtain⟨a,ys,rfl,hq,ry⟩:=rv.list hs e1
 obtain⟨u,rfl,ru⟩:=a4e r
 cases (show u=Value.ref a from ru)
 obtain⟨its,r',pl,hz'⟩:=I.list hq
 have hh:X.A.in1.handled=none:=I.ok.hd hc
 have hlen:ys.length=its.length:=r'.length
 have hql:=ry.length
 have hdl:=a5m e3
 have hl2:its.length=ds.length:=by rw[← hlen,← hql,hdl]
 have it:∀ (i:Nat)(v:Value),its.toArray[i]?=some v→∃ (p:FV)(y:V)(d:D),qs[i]?=some p∧ds[i]?=some d∧fD a0m p=some d∧RV X.K S p y∧RelV y v:=λi v hv=>by
  have hv:its[i]?=some v:=by simpa using hv
  have hi:=(List.getElem?_eq_some_iff.mp hv).1
  have hi':i<qs.length:=by lia
  obtain⟨d,f3,f4⟩:=b3r e3 i qs[i] (List.getElem?_eq_getElem hi')
  obtain⟨y,f1,f2⟩:=ry.get (i:=i) (List.getElem?_eq_getElem hi')
  obtain⟨u,g1,g2⟩:=r'.get f1
  rw[hv] at g1;cases g1
  exact⟨_,y,d,List.getElem?_eq_getElem hi',f3,f4,f2,g2⟩
 refine b5w (bt:=btD ds) hh pl.isList (by simp;lia) (λi j u v s1 Q1 E1 kp hi hj q1=>?_) λv h' tk hv hk=>?_
 ·obtain⟨p1,y1,d1,a1,a2,a3,a4,a5⟩:=it i u hi
  obtain⟨p2,y2,d2,b1,b2,b3,b4,b5⟩:=it j v hj
  obtain⟨as,ra⟩:=a3p I hs (.inl a4) a5 a3
  obtain⟨bs,rb⟩:=a3p I hs (.inl b4) b5 b3
  have hk:∀ b o,s.heap.get? b=some o→s1.heap.get? b=some o:=λb o e=>kp b o (Γl e) e
  have hcmp:=hall d1 (List.mem_of_getElem? a2) d2 (List.mem_of_getElem? b2)
  cases hr:ltD d1 d2 with
  | none=>rw[hr] at hcmp;cases hcmp
  | some c =>
   have hb:btD ds i j=c:=by simp only[btD,List.getD_eq_getElem?_getD,a2,b2,Option.getD_some,hr]
   rw[hb] at q1
   have hd:=a5q a3
   unfold a0m at hd
   exact c5g d1 d2 X.A.in1 s1 u v as bs c (PyProof.Rows.Reads.keeps hk ra) (PyProof.Rows.Reads.keeps hk rb) hr (by show X.A.units+1+_<_;lia) X.prog X.w _ _ q1
 ·have hv:its[argBest (btD ds) (its.toArray.size-1)]?=some v:=by simpa using hv
  have hsz:its.toArray.size-1=ds.length-1:=by simp;lia
  rw[hsz] at hv
  obtain⟨p,y,d,a1,a2,a3,a4,a5⟩:=it _ v (by simpa using hv)
  rw[e5] at a1;cases a1
  exact⟨y,H,I.kept (t':=tk) hk,a5,k.old _ (λps hz=>hnl ps (by rw[e5,hz])) a4⟩
end
section
variable {X:Cx}{C:CC}{n:Nat}{sp:Γd→Nat→Sp}{a:Expr}{ea:EW}{pos p:Pos}
theorem e0e (G:Good X C n sp)(hg:C.gl (Γe "min")=true)(hs:a0k a=false)(ha:FR X C a ea):FE X C (.Call (.Name (Γe "min") p) [a] [] pos) (eUn b4x ea):=b1a (d4g G.calm G.room.units) G (by decide) (by nofun) (by nofun) (by nofun) hg hs ha
end
def a1e {α:Type}(lt:α→α→Bool):α→List α→α
 | b,[]=>b
 | b,x :: r=>a1e lt (if lt x b=true then x else b) r
theorem a6h {α:Type}(lt:α→α→Bool):∀ (xs:List α)(b x:α),a1e lt b (xs++[x])=if lt x (a1e lt b xs)=true then x else a1e lt b xs
 | [],b,x=>rfl
 | y :: ys,b,x=>by
  show a1e lt (if lt y b=true then y else b) (ys++[x])=_
  rw[a6h lt ys];rfl
theorem a7w {α:Type}(lt:α→α→Bool)(bt:Nat→Nat→Bool)(n:α)(r:List α)(h:∀ i j x y,(n :: r)[i]?=some x→(n :: r)[j]?=some y→bt i j=lt x y):∀ k,k≤r.length→(n :: r)[argBest bt k]?=some (a1e lt n (r.take k))
 | 0,_=>by simp[argBest,a1e]
 | k+1,hk=>by
  have ih:=a7w lt bt n r h k (by lia)
  have hk:k<r.length:=hk
  have e2:(n :: r)[k+1]?=some r[k]:=by simp[hk]
  rw[List.take_succ_eq_append_getElem hk,a6h]
  simp only[argBest,h (k+1) (argBest bt k) _ _ e2 ih]
  split
  ·exact e2
  ·exact ih
theorem c7x {α:Type}(enc:α→FV)(encD:α→D)(lt:α→α→Bool)(h1:∀ a,fD a0m (enc a)=some (encD a))(h2:∀ a b,ltD (encD a) (encD b)=some (lt a b))(h3:∀ a ps,enc a≠.lst ps)(n:α)(r:List α)(Q:FV→Prop):wp (b4x (.lst ((n :: r).map enc))) Q↔Q (enc (a1e lt n r)):=by
 have hm:∀ xs:List α,a4m (fD a0m) (xs.map enc)=some (xs.map encD):=by
  intro xs
  induction xs with
  | nil=>rfl
  | cons x r ih=>simp only[List.map_cons,a4m,h1,ih,Option.bind_some,Option.map_some]
 have hb:∀ i j x y,(n :: r)[i]?=some x→(n :: r)[j]?=some y→btD ((n :: r).map encD) i j=lt x y:=λi j x y hx hy=>by
  simp only[btD,List.getD_eq_getElem?_getD,List.getElem?_map,hx,hy,Option.map_some,Option.getD_some,h2]
 have ha:=a7w lt _ n r hb r.length (Γi _)
 rw[List.take_length] at ha
 have hx:((n :: r).map enc)[argBest (btD ((n :: r).map encD)) (((n :: r).map encD).length-1)]?=some (enc (a1e lt n r)):=by
  rw[List.length_map,List.length_cons,Nat.add_sub_cancel,List.getElem?_map,ha];rfl
 have he:b4x (.lst ((n :: r).map enc))=some (enc (a1e lt n r)):=by
  show ((some ((n :: r).map enc)).bind λxs=>(a4m (fD a0m) xs).bind _)=_
  rw[Option.bind_some,hm,Option.bind_some,if_pos,hx]
  refine⟨by simp,?_,?_⟩
  ·intro x hx y hy
   obtain⟨a,-,rfl⟩:=List.mem_map.mp hx
   obtain⟨b,-,rfl⟩:=List.mem_map.mp hy
   rw[h2];rfl
  ·intro ps z
   rw[hx] at z
   exact h3 _ ps (Option.some.inj z)
 rw[he];exact Iff.rfl
def a3a {κ α:Type} [DecidableEq κ] (ks:List κ)(vs:List α)(k:κ)(v:α):List κ×List α :=
 if k∈ks then (ks,List.zipWith (λk' v'=>if k'=k then v else v') ks vs) else (ks++[k],vs++[v])
def a2d {κ α:Type} [DecidableEq κ]:List κ→List α→κ→Option α
 | k' :: ks,v :: vs,k=>if k'=k then some v else a2d ks vs k
 | _,_,_=>none
theorem b9f {a b:List Int}(h:a.map (Sum.inl:Int→Int ⊕ Option Str)=b.map Sum.inl):a=b:=by
 induction a generalizing b with
 | nil=>cases b with|nil=>rfl|cons=>cases h
 | cons x r ih=>cases b with
  | nil=>cases h
  | cons y q =>
   simp only[List.map_cons,List.cons.injEq,Sum.inl.injEq] at h
   rw[h.1,ih h.2]
theorem a6n:∀ (ks:List (List Int))(us:List V)(k:List Int),b1r ((a1z ks).zip us) (k.map Sum.inl)=a2d ks us k
 | [],us,k=>by cases us<;>rfl
 | k' :: ks,[],k=>rfl
 | k' :: ks,u :: us,k=>by
  show b1r ((k'.map Sum.inl,u) :: (a1z ks).zip us) (k.map Sum.inl)=if k'=k then some u else a2d ks us k
  by_cases e:k'=k
  ·subst e;rw[a4f rfl,if_pos rfl]
  ·rw[a4g λz=>e (b9f z),if_neg e];exact a6n ks us k
theorem a2k {κ α:Type} [DecidableEq κ]:∀ {ks:List κ}{vs:List α}(k:κ),ks.length=vs.length→((a2d ks vs k).isSome=true↔k∈ks)
 | [],vs,k,h=>by simp[a2d]
 | k' :: ks,[],k,h=>by simp at h
 | k' :: ks,v :: vs,k,h=>by
  simp only[a2d]
  by_cases e:k'=k
  ·simp[e]
  ·simp only[e,if_false,List.mem_cons,Ne.symm e,false_or]
   rw[a2k k (by simpa using h)]
theorem b7l (ks:List (List Int))(us:List V)(k:List Int)(u:V)(hl:ks.length=us.length):a6w ((a1z ks).zip us) (k.map Sum.inl) u=(a1z (a3a ks us k u).1).zip (a3a ks us k u).2:=by
 have hany:(((a1z ks).zip us).any λkv=>decide (kv.1=k.map Sum.inl))=true↔k∈ks:=by
  rw[a5k,a6n,a2k k hl]
 unfold a6w a3a
 by_cases e:k∈ks
 ·rw[if_pos (hany.mpr e),if_pos e]
  clear e hany
  induction ks generalizing us with
  | nil=>cases us<;>rfl
  | cons k' ks ih=>cases us with
   | nil=>rfl
   | cons u' us =>
    have:=ih us (by simpa using hl)
    show (if k'.map Sum.inl=k.map Sum.inl then (k'.map Sum.inl,u) else (k'.map Sum.inl,u')) :: ((a1z ks).zip us).map _=(k'.map Sum.inl,if k'=k then u else u') :: (a1z ks).zip _
    rw[this]
    congr 1
    by_cases e:k'=k
    ·subst e;simp
    ·rw[if_neg λz=>e (b9f z),if_neg e]
 ·rw[if_neg λz=>e (hany.mp z),if_neg e]
  show _=(a1z (ks++[k])).zip (us++[u])
  have:a1z (ks++[k])=a1z ks++[k.map Sum.inl]:=by simp[a1z]
  rw[this,List.zip_append (by simpa[a1z] using hl)];rfl
theorem a5l {κ α:Type} [DecidableEq κ] (ks:List κ)(vs:List α)(k:κ)(v:α)(h:ks.length=vs.length):(a3a ks vs k v).1.length=(a3a ks vs k v).2.length∧(a3a ks vs k v).1.length≤ks.length+1:=by
 unfold a3a
 split
 ·simp[h]
 ·simp[h]
section
variable {K:Γd}{S H:Hp}
theorem b7m {κ:Type} [DecidableEq κ] {k:κ}{v:FV}{u:V}(r2:RV K S v u):∀ {ks:List κ}{vs:List FV}{us:List V},RVs K S vs us→RVs K S (List.zipWith (λk' v'=>if k'=k then v else v') ks vs) (List.zipWith (λk' v'=>if k'=k then u else v') ks us)
 | [],vs,us,_=>rfl
 | k' :: ks,[],us,r=>by cases (show us=[] from r);rfl
 | k' :: ks,p :: vs,us,⟨x,q,e,h1,h2⟩=>by
  subst e
  refine⟨_,_,rfl,?_,b7m r2 h2⟩
  by_cases e:k'=k
  ·simp only[e,if_true];exact r2
  ·simp only[e,if_false];exact h1
theorem a8v {κ:Type} [DecidableEq κ] {ks:List κ}{vs:List FV}{us:List V}{k:κ}{v:FV}{u:V}(r:RVs K S vs us)(r2:RV K S v u):(a3a ks vs k v).1=(a3a ks us k u).1∧RVs K S (a3a ks vs k v).2 (a3a ks us k u).2:=by
 unfold a3a
 split
 ·exact⟨rfl,b7m r2 r⟩
 ·exact⟨rfl,r.append (RVs.one r2)⟩
theorem a9p {κ:Type} [DecidableEq κ]:∀ {ks:List κ}{vs:List FV}{us:List V}{k:κ}{v:FV},RVs K S vs us→a2d ks vs k=some v→∃ u,a2d ks us k=some u∧RV K S v u
 | [],vs,us,k,v,r,e=>by simp[a2d] at e
 | k' :: ks,[],us,k,v,r,e=>by simp[a2d] at e
 | k' :: ks,p :: vs,us,k,v,⟨x,q,e',h1,h2⟩,e=>by
  subst e'
  simp only[a2d] at e ⊢
  by_cases e0:k'=k
  ·rw[if_pos e0] at e ⊢;cases e;exact⟨x,rfl,h1⟩
  ·rw[if_neg e0] at e ⊢;exact a9p h2 e
theorem b0w {ps:List FV}{k:List Int}{x:V}(r:RV K S (.tup ps) x)(e:a0u ps=some k):∃ b,x=.ref b∧S b=some (.tup ((k.map (Sum.inl:Int→Int ⊕ Option Str)).map kV)):=by
 obtain⟨b,xs,rfl,h1,h2⟩:=r
 refine⟨b,rfl,?_⟩
 rw[h1,a1f h2 e,List.map_map];rfl
variable {c:Cn}{md:Md}{L:a0d}{σ:L2.St}
theorem c7v {q:Addr}{ks:List (List Int)}{vs:List FV}{us:List V}(I:Iv K c md L σ S H)(h1:S q=none)(h2:H q=some (.dT ((a1z ks).zip us)))(hl:ks.length=vs.length)(h3:RVs K S vs us)(fr:a6v c md L σ q):∃ u,H q=some u∧Iv K c md L σ (upd S q u) H∧RV K (upd S q u) (.dct ks vs) (.ref q):=by
 have s:=a0r (o:=.dT ((a1z ks).zip us)) h1
 refine⟨_,h2,⟨I.len,λi v h e=>let ⟨x,e1,r⟩:=I.imm i v h e;⟨x,e1,r.mono s⟩,λi v h e=>?_,I.dis,λa u e=>?_,I.frame,I.s0.trans s,λa u e=>?_,I.lent,I.fzs,I.fzm,I.fzp,λp hp=>let ⟨g1,g2,g3⟩:=I.prs p hp;⟨g1,by rw[a0c (fr.2.1 p hp)];exact g2,g3⟩,I.ntp,I.lnt1,I.tie⟩,q,us,rfl,hl,a0e,h3.mono s⟩
 ·obtain⟨b,e1,⟨g1,rs,zs,g2,g3,g4⟩,g5⟩:=I.own i v h e
  have hb:b≠q:=λz=>by subst z;exact fr.2.2 i v h e e1
  exact⟨b,e1,⟨by rw[a0c hb];exact g1,rs,zs,g2,g3,g4.mono s⟩,g5⟩
 ·by_cases z:a=q
  ·subst z;rw[a0e] at e;cases e;exact h2
  ·rw[a0c z] at e;exact I.sub a u e
 ·by_cases z:a=q
  ·subst z;exact .inr (.inl fr.1)
  ·rw[a0c z] at e;exact I.grow a u e
end
def a5d (n m:Nat)(tg:Tg)(t:BW)(ek ev:EW):List FV→List (List Int)→List FV→a0d→(List (List Int)→List FV→a0d→Prop)→Prop
 | [],ks,vs,L,Q=>Q ks vs L
 | x :: xs,ks,vs,L,Q=>gW tg x (L++Γj m none) λL1=>t L1 λb L2=>if b=true then ek L2 λkx L3=>wp (a5s kx) λps=>wp (a0u ps) λk=>ev L3 λv L4=>a5d n m tg t ek ev xs (a3a ks vs k v).1 (a3a ks vs k v).2 (L4.take n) Q else a5d n m tg t ek ev xs ks vs (L2.take n) Q
def c0a (n m:Nat)(it:AW)(tg:Tg)(t:BW)(ek ev:EW):EW:=λL Q=>it L λxs L1=>L1.length=n∧xs.length≤big∧a5d n m tg t ek ev xs [] [] L1 λks vs L2=>Q (.dct ks vs) L2
section
variable {K:Γd}{c:Cn}{md:Md}{L:a0d}{σ:L2.St}{S H:Hp}
theorem c0n {J:It}{xs:List FV}{n m:Nat}{tg:Tg}{t:BW}{ek ev:EW}{Q:VK}{Q1:List (List Int)→List FV→a0d→Prop}(I:Iv K c md L σ S H)(hJ:ItR K c md J xs S)(hL:L.length=n)(hmd:md.length≤n)(ht:a4u md tg=true)(hg:b0a n tg=true)(hb:xs.length≤big)(h:a5d n m tg t ek ev xs [] [] L Q1)
  (k:∀ acc ks vs us L' S' H',H acc=none→Q1 ks vs L'→S' acc=none→H' acc=some (.dT ((a1z ks).zip us))→ks.length=vs.length→RVs K S' vs us→a6v c md L' σ acc→Iv K c md L' σ S' H'→Same S S'→Q (.ref acc) H') :
  ∀ acc,H acc=none→∃ W:Nat→Nat→Hp→Prop,(∃ m,W 0 m (upd H acc (.dT [])))∧∀ i j H,W i j H →
   (J.stop i H∧Q (.ref acc) H) ∨ (J.go i H∧∀ x H',J.yld i H x H'→gT K tg x (σ++Γj m none) H' λσ2 H2=>Wk (σ++Γj m none) σ2∧lb K md t σ2 H2 λb H3 =>
    if b=true then emD (lv K md ek) (lv K md ev) acc σ2 H3 λH4=>∃ m',m'<j∧W (i+1) m' H4 else ∃ m',m'<j∧W (i+1) m' H3):=by
 intro acc hacc
 have h0:=I.h0 hacc
 have hp:∀ p∈c.pr,p.1≠acc:=(I.fresh hacc).2.1
 have hz:=I.fzp
 have hbl:=a1g
 refine b1i (α:=List (List Int)×List FV) (β:=List (List Int)×List V) (fr:=λb=>{ c with pr:=(acc,.dT ((a1z b.1).zip b.2)) :: c.pr }) (P:=λa b S=>a.1=b.1∧a.1.length=a.2.length∧RVs K S a.2 b.2) (N:=λa=>a.1.length) (Cm:=λxs a L=>a5d n m tg t ek ev xs a.1 a.2 L Q1) (em:=λa L3 K'=>ek L3 λkx L4=>wp (a5s kx) λps=>wp (a0u ps) λk=>ev L4 λv L5=>K' (a3a a.1 a.2 k v) L5) (a0:=([],[])) (b0:=([],[])) ((I.lay hacc _).prot a0e (I.sn hacc) λj w hm hj=>(I.fresh hacc).2.2 j w (Mo.w_imm hm) hj) hJ hL hmd ht hg ⟨rfl,rfl,rfl⟩ rfl h (λ_ _ _ _ _ _ I _=>I.unprot hz) (λ_ _ _ _ ⟨e,l,r⟩ s=>⟨e,l,r.mono s⟩) (λ_ _ _ _ h=>h) (λ⟨ks,vs⟩ ⟨ks',us⟩ L3 σ2 S3 H3 K' Z hn I3 ⟨e,hkl,r⟩ hv kz=>?_) λ⟨ks,vs⟩ ⟨ks',us⟩ L' S' H' q I' ⟨e,hkl,r⟩ s'=>?_
 ·cases (show ks=ks' from e)
  dsimp only at hn hkl r
  refine⟨_,L3,S3,_,I3,hv,λkx L4 hk u S4 H4 r4 I4 s4=>?_⟩
  obtain⟨ps,e1,hk1⟩:=wpx hk
  obtain⟨kk,e2,hk2⟩:=wpx hk1
  cases a1t e1
  obtain⟨b,rfl,hb4⟩:=b0w r4 e2
  refine⟨_,L4,S4,_,I4,hk2,λv L5 hv u S5 H5 r5 I5 s5=>?_⟩
  have lr:=r.length
  obtain⟨pe,pr⟩:=a8v (ks:=ks) (k:=kk) (r.mono (s4.trans s5)) r5
  obtain⟨pl1,pl2⟩:=a5l ks vs kk v hkl
  refine⟨_,kk.map Sum.inl,b,(I5.prs (acc,_) Γn).1,rfl,I5.sub _ _ (s5 _ _ hb4),by rw[List.length_zip,show (a1z ks).length=ks.length by simp[a1z]];lia,?_⟩
  rw[b7l ks us kk u (by lia)]
  exact kz _ (a3a ks us kk u) L5 S5 _ hv (I5.regrow h0 hp hz) ⟨pe,pl1,pr⟩ (s4.trans s5) pl2
 ·cases (show ks=ks' from e)
  obtain⟨g1,g2,f⟩:=I'.newPr h0 hp hz
  exact k acc ks vs us L' S' H' hacc q g2 g1 hkl r f (I'.unprot hz) s'
end
section
variable {X:Cx}{C:CC}{n:Nat}{sp:Γd→Nat→Sp}{pos:Pos}{scope:Scope}{own:List Str}{kx vx tgx iter:Expr}{ifs:List Expr}{it:AW}{tg:Tg}{t:BW}{ek ev:EW}{nn m:Nat}{md':Md}
theorem c3s (G:Good X C n sp)(h:CompOk X C n sp scope own kx tgx iter ifs nn m md' it tg t ek)(hv:∀ X',Good X' (C.sub scope own md') n sp→FE X' (C.sub scope own md') vx ev):FE X C (.DictComp kx vx [⟨tgx,iter,ifs,0⟩] scope pos) (c0a nn m it tg t ek ev):=by
 have h0:=b2 h.st;have h1:=b2 h0.1;have h2:=b2 h1.1;have h3:=b2 h2.1;have h4:=b2 h3.1;have h5:=b2 h4.1;have h6:=b2 h5.1
 obtain⟨s1,s2⟩:=G.sub h6.1 md'
 have hu:X.A.units+1<cLine:=by have:=G.room.units;lia
 have blk:∀ fp D s H,PG (cxC X scope own fp D s H) tgx (gT X.K tg)∧PTs (cxC X scope own fp D s H) ifs (lb X.K md' t)∧PE (cxC X scope own fp D s H) kx (lv X.K md' ek)∧PE (cxC X scope own fp D s H) vx (lv X.K md' ev):=λfp D s H=>⟨h.tg _ (s2 fp D s H),h.ts _ (s2 fp D s H),h.el _ (s2 fp D s H),hv _ (s2 fp D s H)⟩
 refine PE.imp (c2o (X:=X) hu G.calm s1 h.it blk (b9o (nb h0.2))) λσ H Q ⟨c,L,S,Q0,I,hh,k⟩=>?_
 refine⟨c,L,S,_,I,hh,λxs L1 hx J c' S1 H1 I1 un e0 hJ s1=>?_⟩
 obtain⟨hl,hb,hc⟩:=hx
 rw[de h5.2]
 refine c0n I1 hJ hl (de h4.2) h2.2 h1.2 hb hc λacc ks vs us L' S' H' hn q g1 g2 g3 g4 fr I' s'=>?_
 obtain⟨u,hu,I2,r⟩:=c7v (un _ _ _ _ I') g1 g2 g3 g4 ⟨by rw[← e0];exact fr.1,((un _ _ _ _ I1).fresh hn).2.1,λj w hm=>fr.2.2 j w (a9c h3.2 j hm)⟩
 exact k _ L' q _ _ H' r I2 ((s1.trans s').trans (a0r g1))
end
def b1t (a b:FV):Option FV:=match b with
 | .dct ks _=>(a5s a).bind λps=>(a0u ps).bind λk=>some (.bl (decide (k∈ks)))
 | .dci ks _=>(a2n a).bind λk=>some (.bl (decide (k∈ks)))
 | b=>inB a b
def ni2B (a b:FV):Option FV:=match b with
 | .dct ks _=>(a5s a).bind λps=>(a0u ps).bind λk=>some (.bl (!decide (k∈ks)))
 | .dci ks _=>(a2n a).bind λk=>some (.bl (!decide (k∈ks)))
 | b=>niB a b
def c9d (v w:FV):Option FV:=match v with
 | .dct ks vs=>(a5s w).bind λps=>(a0u ps).bind λk=>a2d ks vs k
 | _=>none
section
variable {X:Cx}
theorem RH.dct {K:Γd}{S H:Hp}{ks:List (List Int)}{vs:List FV}{y:V}(hs:Same S H)(rq:RH K S H (.dct ks vs) y):∃ a us,y=.ref a∧ks.length=vs.length∧H a=some (.dT ((a1z ks).zip us))∧RVs K S vs us:=by
 rcases rq with⟨a,us,e,hl,h1,h2⟩|⟨a,e,_,ps,us,e9,h1,h2⟩
 ·exact⟨a,us,e,hl,hs _ _ h1,h2⟩
 ·obtain⟨hl,rfl⟩:=itd e9
  exact⟨a,us,e,hl,h1,h2⟩
theorem b4j {S H:Hp}{ks:List (List Int)}{vs:List FV}{ps:List FV}{k:List Int}{x y:V}(hs:Same S H)(rp:RH X.K S H (.tup ps) x)(rq:RH X.K S H (.dct ks vs) y)(e:a0u ps=some k):∃ a us,y=.ref a∧ks.length=us.length∧RVs X.K S vs us∧L2.DGet H a x (a2d ks us k):=by
 obtain⟨a,us,rfl,hl,h1,h2⟩:=rq.dct hs
 obtain⟨b,rfl,hb⟩:=b0w (rp.val rfl) e
 refine⟨a,us,rfl,by rw[hl,h2.length],h2,?_⟩
 rw[← a6n]
 exact .t h1 (hs _ _ hb)
theorem a5o:∀ (ks:List Int)(us:List V) (k:Int),b1r ((a3u ks).zip us) (Sum.inl k)=a2d ks us k
 | [],us,k=>by cases us<;>rfl
 | k' :: ks,[],k=>rfl
 | k' :: ks,u :: us,k=>by
  show b1r ((Sum.inl k',u) :: (a3u ks).zip us) (Sum.inl k)=if k'=k then some u else a2d ks us k
  by_cases e:k'=k
  ·subst e;rw[a4f rfl,if_pos rfl]
  ·rw[a4g λz=>e (Sum.inl.inj z),if_neg e];exact a5o ks us k
theorem RH.dci {K:Γd}{S H:Hp}{ks:List Int}{vs:List FV}{y:V}(hs:Same S H)(rq:RH K S H (.dci ks vs) y):∃ a us,y=.ref a∧ks.length=vs.length∧H a=some (.dK ((a3u ks).zip us))∧RVs K S vs us:=by
 rcases rq with⟨a,us,e,hl,h1,h2⟩|⟨a,e,_,ps,us,e9,h1,h2⟩
 ·exact⟨a,us,e,hl,hs _ _ h1,h2⟩
 ·obtain⟨hl,rfl⟩:=itd e9
  exact⟨a,us,e,hl,h1,h2⟩
theorem c0c {S H:Hp}{ks:List Int}{vs:List FV}{k:Int}{y:V}(hs:Same S H)(rq:RH X.K S H (.dci ks vs) y):∃ a us,y=.ref a∧ks.length=us.length∧RVs X.K S vs us∧L2.DGet H a (.int k) (a2d ks us k):=by
 obtain⟨a,us,rfl,hl,h1,h2⟩:=rq.dci hs
 refine⟨a,us,rfl,by rw[hl,h2.length],h2,?_⟩
 rw[← a5o]
 exact .k (k:=Sum.inl k) h1
theorem d0y (hu:X.A.units+64<cLine):OpR X (compareOp .In) (Rq X.K b1t):=by
 intro pins s σ H x y v u Q I rx ry ⟨S,p,q,z,hs,rp,rq,e,k⟩
 cases q with
 | dct ks vs =>
  obtain⟨ps,e1,e2⟩:=bnd e
  obtain⟨kk,e3,e4⟩:=bnd e2
  cases a1t e1
  cases e4
  obtain⟨a,us,rfl,hl,h2,g⟩:=b4j hs rp rq e3
  cases (show u=Value.ref a from ry)
  refine d_in (by lia) I g rx λs' I'=>⟨.bl _,H,I',rfl,?_⟩
  have:(a2d ks us kk).isSome=decide (kk∈ks):=by rw[Bool.eq_iff_iff,a2k kk hl];simp
  rw[this]
  exact k.bl
 | dci ks vs =>
  obtain⟨kk,e1,e4⟩:=bnd e
  cases a0x e1
  cases e4
  cases rp.int
  obtain⟨a,us,rfl,hl,h2,g⟩:=c0c (k:=kk) hs rq
  cases (show u=Value.ref a from ry)
  refine d_in (by lia) I g rx λs' I'=>⟨.bl _,H,I',rfl,?_⟩
  have:(a2d ks us kk).isSome=decide (kk∈ks):=by rw[Bool.eq_iff_iff,a2k kk hl];simp
  rw[this]
  exact k.bl
 | _=>exact q_in hu pins s σ H x y v u Q I rx ry ⟨S,p,_,z,hs,rp,rq,e,k⟩
end
theorem d0h:a4t b1t:=by
 intro v w z e
 cases w with
 | dct ks vs =>
  obtain⟨ps,_,e⟩:=bnd e
  obtain⟨k,_,e⟩:=bnd e
  cases e;exact⟨_,rfl⟩
 | dci ks vs =>
  obtain⟨k,_,e⟩:=bnd e
  cases e;exact⟨_,rfl⟩
 | _ =>
  obtain⟨b,_,rfl⟩:=mpd (show (inF v _).map FV.bl=some z from e)
  exact⟨_,rfl⟩
section
variable {X:Cx}{C:CC}{n:Nat}{sp:Γd→Nat→Sp}{a b:Expr}{ea eb:EW}{pos p:Pos}
theorem fe_in2 (G:Good X C n sp)(ha:FE X C a ea)(hb:FR X C b eb)(hm:behindInMarks .In b=false):FE X C (.Compare a [.In] [b] pos) (eOp b1t ea eb):=b0z (d0y G.room.units) ha hb hm
theorem fb_in2 (G:Good X C n sp)(ha:FE X C a ea)(hb:FR X C b eb)(hm:behindInMarks .In b=false):FB X C (.Compare a [.In] [b] pos) (a1n (eOp b1t ea eb)):=a8c d0h (d0y G.room.units) ha hb hm
variable {es:List Expr}{k:Nat}{p2:Pos}
theorem e0m (G:Good X C n sp)(ha:FE X C a ea)(hb:FE X C (.Tuple es k p2) eb):FE X C (.Subscript a (.Tuple es k p2) pos) (eOp c9d ea eb) :=
 PE.imp (b8b (X:=X.nox) (by have:=G.room.units;show X.A.units+1<cLine;lia) ha hb λ_ _=>rfl) λσ H Q ⟨c,L,S,Q0,I,h,k⟩ =>
 ⟨c,L,S,_,I,h,λv L1 hv x S1 H1 r1 I1 s1=>⟨c,L1,S1,_,I1,hv,λw L2 hw y S2 H2 r2 I2 s2=>by
  obtain⟨z,e,q⟩:=wpx hw
  cases v with
  | dct ks vs =>
   obtain⟨ps,e1,e2⟩:=bnd e
   obtain⟨kk,e3,e4⟩:=bnd e2
   cases a1t e1
   obtain⟨a,us,rfl,hl,h2,g⟩:=b4j (X:=X) I2.sub (.inl r2) (.inl (r1.mono s2)) e3
   obtain⟨u,e5,r5⟩:=a9p h2 e4
   rw[e5] at g
   exact⟨a,u,rfl,g,k z L2 q u S2 H2 r5 I2 (s1.trans s2)⟩
  | _=>cases e⟩⟩
end
section
variable (Q:FV→Prop)
@[scoped simp ↓] theorem k_in2d (ps:List FV)(ks:List (List Int))(vs:List FV):wp (b1t (.tup ps) (.dct ks vs)) Q↔wp (a0u ps) λk=>Q (.bl (decide (k∈ks))):=by
 show wp ((a0u ps).bind _) Q↔_;rw[a2e];rfl
@[scoped simp ↓] theorem k_in2i (k:Int)(ks:List Int)(vs:List FV):wp (b1t (.int k) (.dci ks vs)) Q=Q (.bl (decide (k∈ks))):=propext Iff.rfl
@[scoped simp ↓] theorem k_in2t (a:FV)(xs:List FV):wp (b1t a (.tup xs)) Q↔wp (inF a (.tup xs)) λr=>Q (.bl r):=a2o _ _ _
@[scoped simp ↓] theorem k_dget (ps:List FV)(ks:List (List Int))(vs:List FV):wp (c9d (.dct ks vs) (.tup ps)) Q↔wp (a0u ps) λk=>wp (a2d ks vs k) Q:=by
 show wp ((a0u ps).bind _) Q↔_;rw[a2e]
@[scoped simp ↓] theorem ints_n (Q:List Int→Prop):wp (a0u []) Q=Q []:=propext Iff.rfl
@[scoped simp ↓] theorem ints_c (i:Int)(r:List FV)(Q:List Int→Prop):wp (a0u (.int i :: r)) Q↔wp (a0u r) λns=>Q (i :: ns):=by
 show wp ((a0u r).map (i :: ·)) Q↔_;rw[a2o]
end
@[scoped simp ↓] theorem d3t (n m:Nat)(it:AW)(tg:Tg)(t:BW)(ek ev:EW)(L:a0d)(Q:FV→a0d→Prop):c0a n m it tg t ek ev L Q=(it L λxs L1=>L1.length=n∧xs.length≤big∧a5d n m tg t ek ev xs [] [] L1 λks vs L2=>Q (.dct ks vs) L2):=propext Iff.rfl
theorem b1k {α:Type}{tg:Tg}{n m:Nat}{ek ev:EW}{f:α→FV}{g:α→List Int}{h:α→FV}{Q:List (List Int)→List FV→a0d→Prop}{L:a0d}:∀ (xs:List α)(ks:List (List Int))(vs:List FV),
  (∀ x∈xs,g x ∉ ks)→(xs.map g).Nodup →
  (∀ x∈xs,∀ K:List Int→FV→a0d→Prop,K (g x) (h x) L→gW tg (f x) (L++Γj m none) λL1=>ek L1 λkx L3=>wp (a5s kx) λps=>wp (a0u ps) λk=>ev L3 λv L4=>K k v (L4.take n))→Q (ks++xs.map g) (vs++xs.map h) L→a5d n m tg a2a ek ev (xs.map f) ks vs L Q
 | [],ks,vs,_,_,_,E=>by
  show Q ks vs L
  simpa using E
 | x :: xs,ks,vs,hn,hd,B,E=>by
  refine B x Γn (λk v L'=>a5d n m tg a2a ek ev (xs.map f) (a3a ks vs k v).1 (a3a ks vs k v).2 L' Q) ?_
  have hk:=hn x Γn
  simp only[List.map_cons,List.nodup_cons] at hd
  have e:a3a ks vs (g x) (h x)=(ks++[g x],vs++[h x]):=by simp[a3a,hk]
  rw[e]
  refine b1k xs _ _ (λy hy hm=>?_) hd.2 (λy hy=>B y (Γh _ hy)) (by simpa using E)
  rcases List.mem_append.mp hm with hm|hm
  ·exact hn y (Γh _ hy) hm
  ·simp at hm
   exact hd.1 (by rw[← hm];exact List.mem_map_of_mem hy)
end Kq
end
section
namespace PySem
theorem F.nolen_lri:typeLookup (.type "list_reverseiterator") "__len__" = pure none:=by rw[typeLookup_type,builtinLookup_eq_fast];kernel_rfl
theorem F.slot_lri_hint:Slot "list_reverseiterator" "__length_hint__" "list_reverseiterator.__length_hint__" :=
 .of (owner:="list_reverseiterator") (n:="__length_hint__") (by rw[typeLookup_type,builtinLookup_eq_fast];kernel_rfl) (by nofun) (by nofun) (by nofun)
  (by first|exact .inl (by decide +kernel)|exact .inr (by decide +kernel)) (by rw[isSubtype_type];kernel_rfl)
section
variable {prog:Program}{w:World}{A:Around}{E:Value→Shared→Prop}{s:Shared}
theorem b2x {it l:Addr}{items:Array Value}{Q:List Value→Shared→Prop}(hh:A.handled=none)(hne:l≠it)(hit:s.heap.IsRevIter it l ((items.size:Int)-1))(hl:s.heap.IsList l items)(hz:items.size≤sizeLine)
  (hQ:∀ s' acc,Moved [it] (λa b=>b=a) s s'→ItemsOf (λi v=>items[items.size-1-i]?=some v) acc items.size→Q acc.toList s'):wpAny (model prog w) A (collect (.ref it)) Q E s:=by
 have W:=(Walks.listRev (prog:=prog) (w:=w) (A:=A.in1) (show A.in1.handled=none from hh) it l hne items).toS
 have l1:it<s.heap.objs.size:=by obtain⟨o,e,_⟩:=hit;exact Γl e
 have l2:l<s.heap.objs.size:=by obtain⟨o,e,_⟩:=hl;exact Γl e
 have hSf:s.heap.objs.size ∉ [it,l]:=λhm=>by
  simp only[List.mem_cons,List.not_mem_nil,or_false] at hm
  rcases hm with hm|hm
  ·exact Nat.lt_irrefl _ (hm ▸ l1)
  ·exact Nat.lt_irrefl _ (hm ▸ l2)
 have hSI:s.heap.objs.size≠it:=λe=>Nat.lt_irrefl _ (e ▸ l1)
 unfold collect
 refine Γa (wpAny_runValue (codeAny_builtin F.entry_proto_collect ?_));rw[Around.under_plainId F.plain_proto_collect _]
 show wpAny _ A.in1 (newList [] >>= λacc=>again (.builtin "list.__iadd__" ⟨[acc,.ref it],[]⟩)) _ _ s
 refine Γa (wpAny_newObj_type (Γb ⟨plainId_quiet F.plain_list_iadd _,codeAny_builtin F.entry_list_iadd ?_⟩));rw[Around.under_plainId F.plain_list_iadd _]
 generalize hs1:({ s with heap:=s.heap.push { cls:=.type "list",data:=.seq ([]:List Value).toArray } }:Shared)=s1
 have k1:∀ b o,s.heap.get? b=some o→s1.heap.get? b=some o:=λb o e=>by rw[← hs1];exact Γc _ e
 have it1:=hit.at λo e=>k1 it o e
 have li1:=hl.at λo e=>k1 l o e
 have S1:s1.heap.get? s.heap.objs.size=some { cls:=.type "list",data:=.seq ([]:List Value).toArray }:=by rw[← hs1];exact Γm _ rfl
 have st1:0≤items.size∧s1.heap.IsRevIter it l ((items.size:Int)-1-((0:Nat):Int))∧s1.heap.IsList l items:=⟨Nat.zero_le _,by simpa using it1,li1⟩
 have ty1:s1.TypeIs (.ref it) "list_reverseiterator":=it1.typeIs
 have h1:Builtin.List.listSameRef (.ref s.heap.objs.size) (.ref it)=false:=by simp[Builtin.List.listSameRef,hSI]
 show wpAny _ A.in1 (Builtin.List.listExtendWith (.ref s.heap.objs.size) (.ref it) (.ref s.heap.objs.size)) _ _ s1
 unfold Builtin.List.listExtendWith
 refine Γa (wpAny_typeOf ty1 ?_)
 rw[if_neg (by rw[h1];decide)]
 refine Γa (W.self 0 s1 _ _ st1 (Γa (Γg ?_)))
 unfold Builtin.List.listLengthHint
 refine Γa (wpAny_specialOf ty1 F.nolen_lri ?_)
 show wpAny _ A.in1 (specialOf (Value.ref it) (Γe "__length_hint__") >>= _) _ _ _
 refine Γa (wpAny_specialOf ty1 F.slot_lri_hint.lookup ?_)
 (generalize hid:("list_reverseiterator.__length_hint__":String)=id0;(fail_if_success (clear hid id0));wp_delta;rw[show splitId id0=some ("list_reverseiterator","__length_hint__") from by subst hid;nofun];subst hid)
 refine Γa (wpAny_isInstance (b:=true) ty1 (by rw[isSubtype_type];kernel_rfl) ?_)
 refine Γb ?_
 rw[if_neg (by decide)]
 refine Γb ⟨plainId_quiet F.plain_extend_loop _,codeAny_extend_loopS W hz _ hSf _ items.size 0 _ _ _ rfl (Nat.zero_le _) st1 S1 (ItemsOf.nil _) λs' acc' c' hm hS' hacc=>?_⟩
 show wpAny _ A (load s.heap.objs.size >>= _) _ _ s'
 refine Γa (wpAny_load hS' (Γb (hQ s' acc' ?_ hacc)))
 subst hs1
 exact Moved.drop_new (o:={ cls:=.type "list",data:=.seq ([]:List Value).toArray }) (tk:=s.toks) hm (Γi _)
end
end PySem
namespace Kq
open PySem PySem.Spec PyProof.Rows L2
section
variable {P:Program}{w:World}{A:Around}{E:Value→Shared→Prop}{s:Shared}
theorem b5v {l:Addr}{xs:Array Value}{bt:Nat→Nat→Bool}{Q:Value→Shared→Prop}(hh:A.in1.handled=none)(hl:s.heap.IsList l xs)(hn:0<xs.size)(C:c4l P w A.in1 (λi v=>xs[i]?=some v) bt s.heap s.heap.objs.size)
  (K:∀ v h' tk,xs[argBest bt (xs.size-1)]?=some v→(∀ b o,s.heap.get? b=some o→h'.get? b=some o)→Q v { s with heap:=h',toks:=tk }):wpAny (model P w) A (call (.builtin "max") [.ref l]) Q E s:=by
 have nm:(toString "max"++toString ".loop":String) = "max.loop":=by decide
 have ll:l<s.heap.objs.size:=by obtain⟨_,e,_⟩:=hl;exact Γl e
 refine call_function_tree F.kind_max F.plain_max F.entry_max (F.args_max1 _) ?_
 show wpAny _ A.in1 (Builtin.Builtins.bindParams "max" ["key","default"] 0 ⟨[],[]⟩ >>= _) _ _ s
 refine Γa (wpAny_of_eq (show Builtin.Builtins.bindParams "max" ["key","default"] 0 ⟨[],[]⟩=pure [none,none] from rfl) (Γa (Γb (Γa (wpAny_pyIter_list hl ?_)))))
 have W:=Walks.list (prog:=P) (w:=w) hh s.heap.objs.size l (Γo ll) xs
 refine Γa (wpAny_newObj_type ?_)
 rw[nm]
 have z1:(s.heap.push { cls:=.type "list_iterator",data:=.fields #[.ref l,.int 0 0] }).objs.size=s.heap.objs.size+1:=Heap.size_push ..
 refine Γb ⟨plainId_quiet F.plain_max_loop _,a7t (S:=(s.heap.push { cls:=.type "list_iterator",data:=.fields #[.ref l,.int 0 0] }).objs.size) W C ?_ ?_ ?_ hn ⟨⟨_,Γc _ (Γm _ rfl),rfl,rfl⟩,(hl.push _).push _⟩
  (λb o hb e=>Γc _ (Γc _ e)) (Γm _ rfl) λv h' tk hv hk=>?_⟩
 ·rw[z1];intro z;simp only[List.mem_cons,List.not_mem_nil,or_false] at z;rcases z with z|z
  ·exact absurd z (Nat.ne_of_gt (Nat.lt_succ_self _))
  ·exact absurd z (Nat.ne_of_gt (Nat.lt_succ_of_lt ll))
 ·intro b hb;simp at hb;rw[hb];exact Γi _
 ·rw[z1];exact Nat.le_succ _
 ·refine K v h' tk hv λb o e=>hk b o (by simp;exact Γo (Γl e)) ?_ (Γc _ (Γc _ e))
  rw[z1];exact Γo (Nat.lt_succ_of_lt (Γl e))
end
def c2w (v:FV):Option FV:=(a2f v).bind λxs=>(a0u xs).bind λns=>match ns with
 | n :: r=>some (.int (a2c n r))
 | []=>none
section
variable {X:Cx}
theorem c0y (hc:X.calm=true):a1k X (.builtin "max") (Rc X.K c2w):=by
 rintro pins s σ H xs us Q I r ⟨S,v,x,z,rfl,hs,rv,e,k⟩
 obtain⟨ps,e1,e2⟩:=bnd e
 obtain⟨ns,e3,e4⟩:=bnd e2
 obtain⟨a,ys,rfl,hq,ry⟩:=rv.list hs e1
 obtain⟨u,rfl,ru⟩:=a4e r
 cases (show u=Value.ref a from ru)
 obtain⟨its,r',pl,hz'⟩:=I.list hq
 have hh:X.A.in1.handled=none:=I.ok.hd hc
 have hlen:ys.length=its.length:=r'.length
 cases a1f ry e3
 cases ns with
 | nil=>cases e4
 | cons n r =>
  cases e4
  have hl2:its.length=r.length+1:=by rw[← hlen];simp
  have it:∀ (i:Nat)(v:Value),its.toArray[i]?=some v→∃ t,v=Value.int ((n :: r).getD i 0) t:=λi v hv=>by
   have hv:its[i]?=some v:=by simpa using hv
   have hi:=(List.getElem?_eq_some_iff.mp hv).1
   obtain⟨t,e⟩:=Vals.mapInt r' i (by simp;lia)
   rw[hv] at e
   exact⟨t,Option.some.inj e⟩
  refine b5v (bt:=λi j=>decide ((n :: r).getD j 0<(n :: r).getD i 0)) hh pl.isList (by simp;lia) (λi j u v s1 Q1 E1 _ hi hj q1=>?_) λv h' tk hv hk=>?_
  ·obtain⟨t1,rfl⟩:=it i u hi
   obtain⟨t2,rfl⟩:=it j v hj
   exact PyProof.Rows.gt_int q1
  ·have hv:its[argBest (λi j=>decide ((n :: r).getD j 0<(n :: r).getD i 0)) (its.toArray.size-1)]?=some v:=by simpa using hv
   have hb:=a9b n r r.length (Γi _)
   rw[List.take_length] at hb
   have hsz:its.toArray.size-1=r.length:=by simp;lia
   rw[hsz] at hv
   generalize argBest (λi j=>decide ((n :: r).getD j 0<(n :: r).getD i 0)) r.length=z at hv hb
   obtain⟨t,rfl⟩:=it z v (by simpa using hv)
   rw[List.getD_eq_getElem?_getD,hb]
   exact⟨.int (a2c n r),H,I.kept (t':=tk) hk,⟨t,rfl⟩,k.int⟩
end
section
variable {X:Cx}{C:CC}{n:Nat}{sp:Γd→Nat→Sp}{a:Expr}{ea:EW}{pos p:Pos}
theorem e0h (G:Good X C n sp)(hg:C.gl (Γe "max")=true)(hs:a0k a=false)(ha:FR X C a ea):FE X C (.Call (.Name (Γe "max") p) [a] [] pos) (eUn c2w ea):=b1a (c0y G.calm) G (by decide) (by nofun) (by nofun) (by nofun) hg hs ha
end
@[scoped simp ↓] theorem f_maxI (v:FV)(Q:FV→Prop):wp (c2w v) Q↔wp (a2f v) λxs=>wp (a0u xs) λns=>∃ n r,ns=n :: r∧Q (.int (a2c n r)):=by
 show wp ((a2f v).bind _) Q↔_
 simp only[a2e]
 have:∀ ns:List Int,wp (match ns with|n :: r=>some (FV.int (a2c n r))|[]=>none) Q↔∃ n r,ns=n :: r∧Q (.int (a2c n r)):=λns=>by
  cases ns with
  | nil=>exact⟨λh=>h.elim,λ⟨n,r,e,_⟩=>nomatch e⟩
  | cons n r=>exact⟨λh=>⟨n,r,rfl,h⟩,λ⟨n',r',e,h⟩=>by cases e;exact h⟩
 simp only[this]
end Kq
end
section
namespace PySem
section
variable {prog:Program}{w:World}{A:Around}{E:Value→Shared→Prop}{s:Shared}
theorem a7i {it l:Addr}{items:Array Value}{Q₁:Value→Shared→Prop}(hh:A.handled=none)(hne:l≠it)(hit:s.heap.IsRevIter it l ((items.size:Int)-1))(hl:s.heap.IsList l items)(hz:items.size≤sizeLine)
  (h:∀ s' acc,Moved [it] (λa b=>b=a) s s'→ItemsOf (λi v=>items[items.size-1-i]?=some v) acc items.size→Q₁ (.ref s'.heap.objs.size) { s' with heap:=s'.heap.push { cls:=.type "tuple",data:=.seq acc } }) :
  codeAny (model prog w) A (.call (.builtin "tuple.__new__") ⟨[.type "tuple",.ref it],[]⟩) (wants Q₁ E) s:=by
 refine codeAny_of_tree ?_
 show wpAny _ A.in1 (do checkBuiltinCall "tuple.__new__" ⟨[.type "tuple",.ref it],[]⟩;again (.builtin "tuple.__new__" ⟨[.type "tuple",.ref it],[]⟩)) _ _ s
 refine Γa (wpAny_of_eq (F.newCall_tuple_1 _) (Γb ⟨plainId_quiet F.plain_tuple_new _,codeAny_builtin F.entry_tuple_new ?_⟩));rw[Around.under_plainId F.plain_tuple_new _]
 have hsub:=sub_tuple_self;have hinit:=init_tuple_lookup;have hmh:=madeHere_tuple
 have hTI:s.TypeIs (.ref it) "list_reverseiterator":=hit.typeIs
 wp_walk using wpAny_typeOf hTI,b2x (A:=A.in1) (show A.in1.handled=none from hh) hne hit hl hz
 intro s' acc hm hacc
 show wpAny _ _ (Builtin.Tuple.tupleExact acc.toList.toArray >>= λv=>ret v) _ _ _
 unfold Builtin.Tuple.tupleExact
 refine Γa (wpAny_newObj_type (Γb ?_) (by show acc.toList.toArray.size≤sizeLine;simp only[Array.toArray_toList];rw[hacc.1];exact hz))
 have e:acc.toList.toArray=acc:=by simp
 rw[e];exact h s' acc hm hacc
theorem a7k {it l:Addr}{items:Array Value}{Q:Value→Shared→Prop}(hh:A.handled=none)(hne:l≠it)(hit:s.heap.IsRevIter it l ((items.size:Int)-1))(hl:s.heap.IsList l items)(hz:items.size≤sizeLine)
  (hQ:∀ s' acc,Moved [it] (λa b=>b=a) s s'→ItemsOf (λi v=>items[items.size-1-i]?=some v) acc items.size→Q (.ref s'.heap.objs.size) { s' with heap:=s'.heap.push { cls:=.type "tuple",data:=.seq acc } }) :
  wpAny (model prog w) A (call (.type "tuple") [.ref it]) Q E s:=by
 refine callType_codes (Q₁:=λobj s₁=>s₁.TypeIs obj "tuple"∧Q obj s₁) F.called_tuple (F.typeCall_tuple_1 _) F.entry_object_init (a7i (A:=A.in1) hh hne hit hl hz λs' acc hm hacc=>⟨⟨_,Γm _ rfl,rfl⟩,hQ s' acc hm hacc⟩) λobj s₁ h₁=>?_
 exact⟨h₁.1,F.args_object_init_2 obj _,object_init_meets F.called_tuple.init.lookup F.called_tuple.made (by decide) prog w A.in1 _ s₁ ⟨h₁.1,rfl,h₁.2⟩⟩
end
end PySem
namespace Kq
open PySem PySem.Spec PyProof.Rows L2
section
variable {X:Cx}{a:Expr}{ta:TA}{p p2 pos pos2:Pos}
theorem c7g (hc:X.calm=true)(hg:Gl X "reversed")(hm:X.mg "reversed" = none)(hg2:Gl X "tuple")(hm2:X.mg "tuple" = none)(ha:PA X [a] ta)(hs:starEach [a] X.env=[(false,eval a X.env)]) :
  PE X (.Call (.Name "tuple" p) [.Call (.Name "reversed" p2) [a] [] pos2] [] pos) (λσ H Q=>ta σ H λvs H1=>∃ l xs,vs=[.ref l]∧SqL X.K H1 l xs∧∀ q,H1 q=none→Q (.ref q) (upd H1 q (.tup xs.reverse))):=by
 intro pins s σ H Q I h
 refine wpAny_Call_Name_kw (a3j I hg2 hm2 (show bootBuiltins (Γe "tuple")=some (.type "tuple") by nofun) ?_ (by nofun) (by nofun))
 refine PyProof.Rows.callWith_type1 (T:="tuple") ?_ rfl rfl
 show wpAny _ _ (spliced ((false,eval (.Call (.Name "reversed" p2) [a] [] pos2) X.env) :: backTo pos [])) _ _ s
 refine Calls.spliced_cons (Call_ (a3j I hg hm (show bootBuiltins (Γe "reversed")=some (.type "reversed") by nofun) (PyProof.Rows.callWith_type1 (T:="reversed") (thn (ha pos2 pins s σ H _ I h) λus s1 ⟨vs,H1,I1,r1,q1⟩=>?_) hs rfl)))
 obtain⟨l,xs,e,hq,q⟩:=q1
 subst e
 obtain⟨u,rfl,ru⟩:=a4e r1
 cases (show u=Value.ref l from ru)
 obtain⟨its,rv,pl,hz⟩:=I1.list hq
 have hlen:=rv.length
 have ll:l<s1.heap.objs.size:=by obtain⟨o,e,_⟩:=pl.isList;exact Γl e
 refine call_reversed_list pl.isList (Calls.spliced_nil ?_)
 have I2:Inv X pins σ H1 { s1 with heap:=s1.heap.push (revObj l ((its.toArray.size:Int)-1)) }:=I1.kept (t':=s1.toks) λb o e=>Γc _ e
 refine a7k (items:=its.toArray) (l:=l) (I1.ok.hd hc) (Γo ll) ⟨_,Γm _ rfl,rfl,rfl⟩ (pl.isList.push _) (by simpa[← hlen] using hz) λs' acc hm hacc=>?_
 have I3:Inv X pins σ H1 s':=by
  have:=I1.kept (h':=s'.heap) (t':=s'.toks) λb o e=>hm.heap b o (by simp;exact Γo (Γl e)) (Γc _ e)
  have e:s' = { s1 with heap:=s'.heap,toks:=s'.toks }:=by
   obtain⟨h1,h2,h3,h4,h5⟩:=hm
   obtain⟨a,b,c,d,e⟩:=s'
   simp only at h2 h3 h4
   subst h2 h3 h4;rfl
  rw[e];exact this
 refine⟨.ref s'.heap.objs.size,_,I3.laid (t':=s'.toks) (o:=.tup xs.reverse) (λb ob q=>Γc _ q) (Γi _) ?_,rfl,q _ (I3.hok.fresh (Γi _))⟩
 have e:acc.toList=its.reverse:=by
  have h1:acc.toList.length=its.length:=by simpa using hacc.1
  apply List.ext_getElem
  ·rw[List.length_reverse];exact h1
  ·intro i h2 h3
   have h4:=hacc.2 i (acc.toList[i]) (by simp at h2;simp[h2])
   have h5:its[its.length-1-i]?=some acc.toList[i]:=by simpa using h4
   rw[List.getElem_reverse]
   exact ((List.getElem?_eq_some_iff.mp h5).2).symm
 refine⟨by rw[List.length_reverse];exact hz,its.reverse,rv.reverse,?_⟩
 rw[← e]
 exact IsTup.new _ _
end
def c6n (v:FV):Option FV:=(a2f v).map λxs=>.tup xs.reverse
@[scoped simp ↓] theorem f_revT (v:FV)(Q:FV→Prop):wp (c6n v) Q↔wp (a2f v) λxs=>Q (.tup xs.reverse):=a2o _ _ _
theorem e0a {X:Cx}{C:CC}{n:Nat}{sp:Γd→Nat→Sp}{a:Expr}{ea:EW}{pos p p2 pos2:Pos}(G:Good X C n sp)(hg:(C.gl (Γe "reversed") && C.gl (Γe "tuple"))=true)(hs:a0k a=false)(ha:FR X C a ea):FE X C (.Call (.Name (Γe "tuple") p) [.Call (.Name (Γe "reversed") p2) [a] [] pos2] [] pos) (eUn c6n ea) :=
 PE.imp (c7g (X:=X.nox) G.calm (G.gl (b2 hg).1) (G.blt "reversed" (by decide)) (G.gl (b2 hg).2) (G.blt "tuple" (by decide)) (a0h ha a0y (a0f hs)) (a0f hs)) λσ H Q ⟨c,L,S,Q0,I,h,k⟩ =>
 ⟨c,L,S,_,I,h,λv L1 hv x S1 H1 r1 I1 s1=>by
  obtain⟨z,e,q⟩:=wpx hv
  obtain⟨ps,e1,rfl⟩:=mpd e
  obtain⟨a,ys,rfl,hq,ry⟩:=r1.list I1.sub e1
  exact⟨a,ys,rfl,hq,λp hp=>(b2j I1 λx S' H' r I' s'=>k _ L1 q x S' H' r I' (s1.trans s')).tup _ _ p rfl ry.rev hp⟩⟩
end Kq
end
section
namespace Kq
open PySem PySem.Spec PyProof.Rows L2
section
variable {P:Program}{w:World}{A:Around}{E:Value→Shared→Prop}{s:Shared}
theorem b5u {l:Addr}{xs:Array Value}{bt:Nat→Nat→Bool}{Q:Value→Shared→Prop}(hh:A.in1.handled=none)(hl:s.heap.IsTuple l xs)(hn:0<xs.size)(C:c4l P w A.in1 (λi v=>xs[i]?=some v) bt s.heap s.heap.objs.size)
  (K:∀ v h' tk,xs[argBest bt (xs.size-1)]?=some v→(∀ b o,s.heap.get? b=some o→h'.get? b=some o)→Q v { s with heap:=h',toks:=tk }):wpAny (model P w) A (call (.builtin "max") [.ref l]) Q E s:=by
 have nm:(toString "max"++toString ".loop":String) = "max.loop":=by decide
 have ll:l<s.heap.objs.size:=by obtain⟨_,e,_⟩:=hl;exact Γl e
 refine call_function_tree F.kind_max F.plain_max F.entry_max (F.args_max1 _) ?_
 show wpAny _ A.in1 (Builtin.Builtins.bindParams "max" ["key","default"] 0 ⟨[],[]⟩ >>= _) _ _ s
 refine Γa (wpAny_of_eq (show Builtin.Builtins.bindParams "max" ["key","default"] 0 ⟨[],[]⟩=pure [none,none] from rfl) (Γa (Γb (Γa (wpAny_pyIter_tuple hl ?_)))))
 have W:=Walks.tuple (prog:=P) (w:=w) hh s.heap.objs.size l (Γo ll) xs
 refine Γa (wpAny_newObj_type ?_)
 rw[nm]
 have z1:(s.heap.push { cls:=.type "tuple_iterator",data:=.fields #[.ref l,.int 0 0] }).objs.size=s.heap.objs.size+1:=Heap.size_push ..
 refine Γb ⟨plainId_quiet F.plain_max_loop _,a7t (S:=(s.heap.push { cls:=.type "tuple_iterator",data:=.fields #[.ref l,.int 0 0] }).objs.size) W C ?_ ?_ ?_ hn ⟨⟨_,Γc _ (Γm _ rfl),rfl,rfl⟩,(hl.push _).push _⟩
  (λb o hb e=>Γc _ (Γc _ e)) (Γm _ rfl) λv h' tk hv hk=>?_⟩
 ·rw[z1];intro z;simp only[List.mem_cons,List.not_mem_nil,or_false] at z;rcases z with z|z
  ·exact absurd z (Nat.ne_of_gt (Nat.lt_succ_self _))
  ·exact absurd z (Nat.ne_of_gt (Nat.lt_succ_of_lt ll))
 ·intro b hb;simp at hb;rw[hb];exact Γi _
 ·rw[z1];exact Nat.le_succ _
 ·refine K v h' tk hv λb o e=>hk b o (by simp;exact Γo (Γl e)) ?_ (Γc _ (Γc _ e))
  rw[z1];exact Γo (Nat.lt_succ_of_lt (Γl e))
end
def b6w (v:FV):Option FV:=(a3g v).bind λxs=>(d0o xs).map .int
def c2v (v:FV):Option FV:=(a3g v).bind λxs=>(a0u xs).bind λns=>match ns with
 | n :: r=>some (.int (a2c n r))
 | []=>none
section
variable {X:Cx}
theorem b5s (hc:X.calm=true):a1k X (.builtin "sum") (λxs H Q=>∃ (a:Addr)(ns:List Int),xs=[.ref a]∧SqT X.K H a (ns.map V.int)∧ns.length≤big∧(∀ n∈ns,-(2 ^ 40)≤n∧n≤2 ^ 40)∧Q (.int ns.sum) H):=by
 intro pins s σ H xs us Q I r h
 obtain⟨a,ns,rfl,hq,hz,hb,q⟩:=h
 obtain⟨u,rfl,rx⟩:=a4e r
 cases rx
 obtain⟨its,r',pl,hz'⟩:=I.tuple hq
 have hlen:ns.length=its.length:=by have:=r'.length;simpa using this
 have pt:s.heap.IsTuple a its.toArray:=pl
 have alt:a<s.heap.objs.size:=by obtain⟨_,e,_⟩:=pt;exact Γl e
 have hh:X.A.in1.handled=none:=I.ok.hd hc
 refine call_sum_walk (wpAny_pyIter_tuple pt ?_)
 refine⟨s.heap.objs.size,_,_,_,_,_,λi=>ns.getD i 0,rfl,Walks.tuple hh s.heap.objs.size a (Γo alt) its.toArray,⟨⟨_,Γm _ rfl,rfl,rfl⟩,pt.at λo e=>Γc _ e⟩,?_,?_,?_,?_⟩
 ·intro b hb'
  simp at hb'
  rcases hb' with rfl|rfl
  ·show _<(s.heap.push _).objs.size;rw[Heap.size_push];exact Nat.lt_succ_self _
  ·show _<(s.heap.push _).objs.size;rw[Heap.size_push];exact Nat.lt_succ_of_lt alt
 ·intro i v hv
  have hv:its.toArray[i]?=some v:=hv
  have hi:i<ns.length:=by rw[hlen];simpa using (Array.getElem?_eq_some_iff.mp hv).1
  obtain⟨t,e⟩:=Vals.mapInt r' i hi
  refine⟨t,?_⟩
  have e':its.toArray[i]?=some (.int (ns.getD i 0) t):=by simpa using e
  rw[hv] at e'
  exact Option.some.inj e'
 ·intro j hj
  have hj':j<ns.length:=by rw[hlen];simpa using hj
  have hm:ns.getD j 0∈ns:=by simp[List.getD,hj']
  refine⟨?_,?_⟩
  ·have:=hb _ hm
   show -(2 ^ 63)≤ns.getD j 0∧ns.getD j 0<2 ^ 63
   lia
  ·rw[a1u ns (j+1) hj']
   have b2:=b6u 1099511627776 (by decide) (ns.take (j+1)) λn hn=>by have:=hb n (List.mem_of_mem_take hn);lia
   have l2:(ns.take (j+1)).length≤100000:=by rw[List.length_take];unfold big at hz;lia
   unfold InLong;lia
 ·intro h' tk t' hk
  have e:preSum (λi=>ns.getD i 0) its.toArray.size=ns.sum:=by
   rw[List.size_toArray,← hlen,a1u ns _ (Γi _),List.take_length]
  rw[e]
  refine⟨.int ns.sum,H,?_,⟨t',rfl⟩,q⟩
  exact I.kept (t':=tk) λb o e=>hk b o (by simp;exact Γo (Γl e)) (Γc _ e)
theorem d4d (hc:X.calm=true):a1k X (.builtin "sum") (Rc X.K b6w):=by
 rintro pins s σ H xs us Q I r ⟨S,v,x,z,rfl,hs,rv,e,k⟩
 cases v with
 | tup ps =>
  obtain⟨n,e3,rfl⟩:=mpd e
  obtain⟨ns,e4,e5⟩:=bnd e3
  obtain⟨hb,rfl⟩:=itd e5
  obtain⟨a,ys,rfl,hq,ry⟩:=rv.tup hs
  cases a1f ry e4
  refine b5s hc pins s σ H _ us Q I r ⟨a,ns,rfl,SqT.of hq,hb.1,λn hn=>?_,k.int⟩
  have:=List.all_eq_true.mp hb.2 n hn
  simpa[a8o] using this
 | lst ps=>exact d4e hc pins s σ H _ us Q I r ⟨S,.lst ps,x,z,rfl,hs,rv,e,k⟩
 | scr ps=>exact d4e hc pins s σ H _ us Q I r ⟨S,.scr ps,x,z,rfl,hs,rv,e,k⟩
 | _=>cases e
theorem d4i (hc:X.calm=true):a1k X (.builtin "max") (Rc X.K c2v):=by
 rintro pins s σ H xs us Q I r ⟨S,v,x,z,rfl,hs,rv,e,k⟩
 cases v with
 | lst ps=>exact c0y hc pins s σ H _ us Q I r ⟨S,.lst ps,x,z,rfl,hs,rv,e,k⟩
 | scr ps=>exact c0y hc pins s σ H _ us Q I r ⟨S,.scr ps,x,z,rfl,hs,rv,e,k⟩
 | tup ps =>
  obtain⟨qs,e0,e2⟩:=bnd e
  cases e0
  obtain⟨ns,e3,e4⟩:=bnd e2
  obtain⟨a,ys,rfl,hq,ry⟩:=rv.tup hs
  have hq:SqT X.K H a ys:=SqT.of hq
  obtain⟨u,rfl,ru⟩:=a4e r
  cases (show u=Value.ref a from ru)
  obtain⟨its,r',pl,hz'⟩:=I.tuple hq
  have hh:X.A.in1.handled=none:=I.ok.hd hc
  have hlen:ys.length=its.length:=r'.length
  cases a1f ry e3
  cases ns with
  | nil=>cases e4
  | cons n r =>
   cases e4
   have hl2:its.length=r.length+1:=by rw[← hlen];simp
   have it:∀ (i:Nat)(v:Value),its.toArray[i]?=some v→∃ t,v=Value.int ((n :: r).getD i 0) t:=λi v hv=>by
    have hv:its[i]?=some v:=by simpa using hv
    have hi:=(List.getElem?_eq_some_iff.mp hv).1
    obtain⟨t,e⟩:=Vals.mapInt r' i (by simp;lia)
    rw[hv] at e
    exact⟨t,Option.some.inj e⟩
   refine b5u (bt:=λi j=>decide ((n :: r).getD j 0<(n :: r).getD i 0)) hh (show s.heap.IsTuple a its.toArray from pl) (by simp;lia) (λi j u v s1 Q1 E1 _ hi hj q1=>?_) λv h' tk hv hk=>?_
   ·obtain⟨t1,rfl⟩:=it i u hi
    obtain⟨t2,rfl⟩:=it j v hj
    exact PyProof.Rows.gt_int q1
   ·have hv:its[argBest (λi j=>decide ((n :: r).getD j 0<(n :: r).getD i 0)) (its.toArray.size-1)]?=some v:=by simpa using hv
    have hb:=a9b n r r.length (Γi _)
    rw[List.take_length] at hb
    have hsz:its.toArray.size-1=r.length:=by simp;lia
    rw[hsz] at hv
    generalize argBest (λi j=>decide ((n :: r).getD j 0<(n :: r).getD i 0)) r.length=z at hv hb
    obtain⟨t,rfl⟩:=it z v (by simpa using hv)
    rw[List.getD_eq_getElem?_getD,hb]
    exact⟨.int (a2c n r),H,I.kept (t':=tk) hk,⟨t,rfl⟩,k.int⟩
 | _=>cases e
end
section
variable {X:Cx}{C:CC}{n:Nat}{sp:Γd→Nat→Sp}{a:Expr}{ea:EW}{pos p:Pos}
theorem e0d (G:Good X C n sp)(hg:C.gl (Γe "sum")=true)(hs:a0k a=false)(ha:FR X C a ea):FE X C (.Call (.Name (Γe "sum") p) [a] [] pos) (eUn b6w ea):=b1a (d4d G.calm) G (by decide) (by nofun) (by nofun) (by nofun) hg hs ha
theorem e0g (G:Good X C n sp)(hg:C.gl (Γe "max")=true)(hs:a0k a=false)(ha:FR X C a ea):FE X C (.Call (.Name (Γe "max") p) [a] [] pos) (eUn c2v ea):=b1a (d4i G.calm) G (by decide) (by nofun) (by nofun) (by nofun) hg hs ha
end
@[scoped simp ↓] theorem f_sum2 (v:FV)(Q:FV→Prop):wp (b6w v) Q↔wp (a3g v) λxs=>wp (d0o xs) λn=>Q (.int n):=by
 show wp ((a3g v).bind _) Q↔_
 simp only[a2e,a2o]
@[scoped simp ↓] theorem f_maxS (v:FV)(Q:FV→Prop):wp (c2v v) Q↔wp (a3g v) λxs=>wp (a0u xs) λns=>∃ n r,ns=n :: r∧Q (.int (a2c n r)):=by
 show wp ((a3g v).bind _) Q↔_
 simp only[a2e]
 have:∀ ns:List Int,wp (match ns with|n :: r=>some (FV.int (a2c n r))|[]=>none) Q↔∃ n r,ns=n :: r∧Q (.int (a2c n r)):=λns=>by
  cases ns with
  | nil=>exact⟨λh=>h.elim,λ⟨n,r,e,_⟩=>nomatch e⟩
  | cons n r=>exact⟨λh=>⟨n,r,rfl,h⟩,λ⟨n',r',e,h⟩=>by cases e;exact h⟩
 simp only[this]
def insL {α:Type}(xs:List α) (k:Nat)(y:α):List α:=xs.take k++y :: xs.drop k
def insF (v:FV)(ys:List FV):Option FV:=match ys with
 | [i,y]=>(a7b v).bind λxs=>(a2n i).bind λk=>if 0≤k∧k<4611686018427387904∧xs.length<big then some (.lst (insL xs k.toNat y)) else none
 | _=>none
def eMethA (f:FV→List FV→Option FV) (i:Nat)(as:AW):EW:=λL Q=>wp (lk L i) λv=>wp (a7b v) λ_=>as L λys L1=>wp (lk L1 i) λx=>wp (f x ys) λz=>Q .non (L1.set i (some z))
section
variable {X:Cx}
end
section
variable {K:Γd}{S:Hp}
end
section
variable {X:Cx}{C:CC}{n:Nat}{sp:Γd→Nat→Sp}{a b:Expr}{as:AW}{nx:Str}{p:Pos}{i:Nat}
end
end Kq
end
section
namespace PySem
open Sem (wp)
end PySem
namespace Kq
open PySem PySem.Spec PyProof.Rows L2
section
variable {P:Program}{w:World}{A:Around}{R:Result→Shared→Prop}{H:Hp}{h0:Heap}{it l D:Addr}{items:Array Value}
end
section
variable {X:Cx}{pins:List (Addr×Obj)}{σ:L2.St}{H:Hp}{s:Shared}{A:Around}{E:Value→Shared→Prop}
end
end Kq
end
section
namespace Kq
open PySem PySem.Spec PyProof.Rows L2
def d1s:FV→Option (List Int×FV)
 | .tup [.tup ks,v]=>(a0u ks).map λk=>(k,v)
 | _=>none
def c5b:List FV→Option (List (List Int×FV))
 | []=>some []
 | x :: r=>(d1s x).bind λp=>(c5b r).map λq=>p :: q
def b7o {α:Type}:List (List Int×α)→List (List Int)→List α→List (List Int)×List α
 | [],ks,vs=>(ks,vs)
 | p :: r,ks,vs=>b7o r (a3a ks vs p.1 p.2).1 (a3a ks vs p.1 p.2).2
def dictF (v:FV):Option FV:=(a2f v).bind λxs=>(c5b xs).bind λps=>some (.dct (b7o ps [] []).1 (b7o ps [] []).2)
section
variable {K:Γd}{S:Hp}
end
section
variable {X:Cx}
end
section
variable {X:Cx}{C:CC}{n:Nat}{sp:Γd→Nat→Sp}{a b:Expr}{ea eb:EW}{pos p:Pos}
end
def iZipN (i:Nat)(eb:EW):AW:=λL Q=>wp (lk L i) λ_=>eb L λy L1=>wp (lk L1 i) λx=>wp (a3g x) λxs=>wp (a3g y) λys=>Q (a4k xs ys) L1
section
variable {X:Cx}{C:CC}{n:Nat}{sp:Γd→Nat→Sp}{b:Expr}{eb:EW}{pos p p2 tp:Pos}{i kk:Nat}{nx:Str}{elts:List Expr}
end
end Kq
end
section
namespace L2
open PySem PySem.Spec PyProof.Rows
section
variable {P:Program}{w:World}{A:Around}{E:Value→Shared→Prop}{s:Shared}{z TI TO:Addr}{f m:Value}
end
section
variable {P:Program}{w:World}{A:Around}{E:Value→Shared→Prop}{s:Shared}{p q:Bool}{z TI TO i1 i2 l1 l2:Addr}{k1 k2:Nat}{xs ys:Array Value}{x y a b f m:Value}
end
section
variable {X:Cx}
end
end L2
end
section
namespace Kq
open PySem PySem.Spec PyProof.Rows L2
section
variable {X:Cx}{C:CC}{n:Nat}{sp:Γd→Nat→Sp}{a b:Expr}{ea eb:EW}{pos p tp:Pos}{nt:Str}
end
def d2c (o:HO):Prop:=∀ xs,o≠.tup xs
mutual
noncomputable def noL:FV→Bool
 | .lst _=>false
 | .scr _=>false
 | .tup xs=>noLs xs
 | .dct _ _=>false
 | .dci _ _=>false
 | .dcz _ _ _=>false
 | .obj _ _ _ _=>false|.dcn _ _ _=>false
 | _=>true
noncomputable def noLs:List FV→Bool
 | []=>true
 | x :: r=>noL x && noLs r
end
def eCallL (call:CW) (f:Nat)(a:AW):EW:=λL Q=>a L λxs L1=>call f xs λz=>noL z.1=true∧Q z.1 L1
def eCallM (call:CW) (f:Nat)(a:AW):EW:=λL Q=>a L λxs L1=>call f xs λz=>wp (a7b z.1) λps=>noLs ps=true∧Q z.1 L1
section
variable {K:Γd}{S H S' H':Hp}{os os':List Addr}
def c8c (S:Hp)(os:List Addr):Hp:=λa=>if a∈os then none else S a
mutual
theorem RV.less {K:Γd}{S:Hp}{os:List Addr}(h:∀ a∈os,∃ o,S a=some o∧d2c o):∀ {p:FV}{v:V},noL p=true→RV K S p v→RV K (c8c S os) p v
 | .non,v,_,e=>e
 | .bl b,v,_,e=>e
 | .int i,v,_,e=>e
 | .str _,v,_,e=>e
 | .shn _,v,_,e=>e
 | .tup ps,v,n,⟨a,xs,e,h1,h2⟩=>⟨a,xs,e,by
   unfold c8c
   rw[if_neg λm=>by obtain⟨zs,z,n⟩:=h a m;rw[z] at h1;cases h1;exact n _ rfl];exact h1,RVs.less h (by simpa[noL] using n) h2⟩
 | .dct ks vs,v,n,_=>by simp[noL] at n
 | .dci ks vs,v,n,_=>by simp[noL] at n
 | .dcz _ ks vs,v,n,_=>by simp[noL] at n
 | .obj _ _ _ _,v,n,_=>by simp[noL] at n
 | .dcn _ _ _,v,n,_=>by simp[noL] at n
 | .lst ps,v,n,_=>by simp[noL] at n
 | .scr ps,v,n,_=>by simp[noL] at n
theorem RVs.less {K:Γd}{S:Hp}{os:List Addr}(h:∀ a∈os,∃ o,S a=some o∧d2c o):∀ {ps:List FV}{vs:List V},noLs ps=true→RVs K S ps vs→RVs K (c8c S os) ps vs
 | [],vs,_,e=>e
 | p :: ps,vs,n,⟨v,r,e,h1,h2⟩=>by
  have n:noL p=true∧noLs ps=true:=by simpa[noLs] using n
  exact⟨v,r,e,RV.less h n.1 h1,RVs.less h n.2 h2⟩
end
variable {c:Cn}{md:Md}{L:a0d}{σ:L2.St}
end
section
variable {X:Cx}{C:CC}{n:Nat}{sp:Γd→Nat→Sp}{a:Expr}{ea:EW}{pos p:Pos}{call:CW}{f i:Nat}{nx:Str}{xs:List Expr}{as:AW}
end
def revF (v:FV):Option FV:=(a7b v).map λxs=>.lst xs.reverse
def eMeth0 (f:FV→Option FV) (i:Nat):EW:=λL Q=>wp (lk L i) λx=>wp (f x) λz=>Q .non (L.set i (some z))
section
variable {X:Cx}{C:CC}{n:Nat}{sp:Γd→Nat→Sp}{pos p:Pos}{call:CW}{f i:Nat}{nx:Str}
theorem c4f (G:Good X C n sp)(hf:C.fns[f]?=some nx)(hg:C.gl nx=true)(hd:(nx == ("__debug__":Str))=false):PE X.nox (.Call (.Name nx p) [] [] pos) (λσ H Q=>sp X.K f [] H Q E0):=by
 obtain⟨fa,fd,ps,h1,h2,h3,h4⟩:=G.fns f nx hf
 exact PE.imp (c2q (X:=X.nox) h4 G.room.toRoom (G.gl hg) h1 h2 h3 .nil b8d hd) λσ H Q q=>q
theorem d5r (G:Good X C n sp)(e:sp X.K f=spQ X.K call false false f)(hf:C.fns[f]?=some nx)(hg:C.gl nx=true)(hd:(nx == ("__debug__":Str))=false):FE X C (.Call (.Name nx p) [] [] pos) (a0l call f a0i) :=
 PE.imp (c4f G hf hg hd) λσ H Q ⟨c,L,S,Q0,I,h,k⟩=>by
  rw[e]
  exact⟨S,[],_,I.sub,rfl,h,λz q x S' H' kp r=>k _ L q x S' H' r (kp.iv I) kp.same⟩
end
end Kq
end
section
namespace Kq
open PySem PySem.Spec PyProof.Rows L2 PySem.W
section
variable {n:Nat}
end
section
variable {prog:Program}{w:World}{A:Around}{E:Value→Shared→Prop}{s:Shared}{vs:List Value}
end
end Kq
end
section
namespace Kq
open PySem PySem.Spec PyProof.Rows L2
def b6n:List FV→Bool
 | []=>true
 | .tup ps :: r=>(match a0u ps with|some (_ :: _)=>true|_=>false) && b6n r
 | _=>false
def e1y (a:EW):EW:=λL Q=>a L λv L1=>wp (a2f v) λxs=>b6n xs=true∧xs.length<64∧∀ ys:List FV,ys.Perm xs→Q (.lst ys) L1
section
variable {K:Γd}{S:Hp}
end
section
variable {X:Cx}
end
section
variable {X:Cx}{C:CC}{n:Nat}{sp:Γd→Nat→Sp}{a:Expr}{ea:EW}{pos p:Pos}
end
theorem c2b (ks:List Int)(us:List V) (k:Int)(u:V)(hl:ks.length=us.length):a6w ((a3u ks).zip us) (Sum.inl k) u=(a3u (a3a ks us k u).1).zip (a3a ks us k u).2:=by
 have hany:(((a3u ks).zip us).any λkv=>decide (kv.1=Sum.inl k))=true↔k∈ks:=by
  rw[a5k,a5o,a2k k hl]
 unfold a6w a3a
 by_cases e:k∈ks
 ·rw[if_pos (hany.mpr e),if_pos e]
  clear e hany
  induction ks generalizing us with
  | nil=>cases us<;>rfl
  | cons k' ks ih=>cases us with
   | nil=>rfl
   | cons u' us =>
    have:=ih us (by simpa using hl)
    show (if (Sum.inl k':Int ⊕ Option Str)=Sum.inl k then (Sum.inl k',u) else (Sum.inl k',u')) :: ((a3u ks).zip us).map _=(Sum.inl k',if k'=k then u else u') :: (a3u ks).zip _
    rw[this]
    congr 1
    by_cases e:k'=k
    ·subst e;simp
    ·rw[if_neg λz=>e (Sum.inl.inj z),if_neg e]
 ·rw[if_neg λz=>e (hany.mp z),if_neg e]
  show _=(a3u (ks++[k])).zip (us++[u])
  have:a3u (ks++[k])=a3u ks++[Sum.inl k]:=by simp[a3u]
  rw[this,List.zip_append (by simpa[a3u] using hl)];rfl
theorem b9k {κ α β:Type} [DecidableEq κ] {ks:List κ}{vs:List α}{us:List β}{k:κ}(h1:ks.length=vs.length)(h2:ks.length=us.length)(h:a2d ks vs k=none):a2d ks us k=none:=by
 have a:=a2k (α:=α) k h1
 have b:=a2k (α:=β) k h2
 cases e:a2d ks us k with
 | none=>rfl
 | some u =>
  rw[e] at b
  have:=a.mpr (b.mp rfl)
  rw[h] at this;cases this
def e2h (v w:FV):Option (Option FV):=match v with
 | .dct ks vs=>(a5s w).bind λps=>(a0u ps).bind λk=>some (a2d ks vs k)
 | .dci ks vs=>(a2n w).bind λk=>some (a2d ks vs k)
 | .dcz _ ks vs=>(a5s w).bind λps=>(a0u ps).bind λk=>some (a2d ks vs k)
 | _=>none
def dgF (v w:FV):Option FV:=(e2h v w).bind id
def c0d (v w:FV):Option FV:=(e2h v w).map λo=>o.getD .non
def d5c:FV→Option Unit
 | .dct _ _=>some ()
 | .dci _ _=>some ()
 | _=>none
def c3x (v j x:FV):Option FV:=match v with
 | .dct ks vs=>(a5s j).bind λps=>(a0u ps).bind λk=>if ks.length<big then some (.dct (a3a ks vs k x).1 (a3a ks vs k x).2) else none
 | .dci ks vs=>(a2n j).bind λk=>if ks.length<big then some (.dci (a3a ks vs k x).1 (a3a ks vs k x).2) else none
 | _=>none
def RO (K:Γd)(S:Hp):Option FV→Option V→Prop
 | none,o=>o=none
 | some p,o=>∃ u,o=some u∧RV K S p u
section
variable {X:Cx}{K:Γd}{S H:Hp}
theorem b7f {κ:Type} [DecidableEq κ] {ks:List κ}{vs:List FV}{us:List V}{k:κ}(h1:ks.length=vs.length)(r:RVs K S vs us):RO K S (a2d ks vs k) (a2d ks us k):=by
 cases e:a2d ks vs k with
 | none=>exact b9k h1 (by rw[h1,r.length]) e
 | some p=>exact a9p r e
theorem RH.dcz {o:Obj}{ks:List (List Int)}{vs:List FV}{x:V}(hs:Same S H)(r:RH K S H (.dcz o ks vs) x):∃ a us,x=.ref a∧ks.length=vs.length∧H a=some (.frz o (.dT ((a1z ks).zip us)))∧RVs K S vs us:=by
 rcases r with⟨a,xs,e,h0,h1,h2⟩|⟨a,e,_,qs,xs,e2,h1,h2⟩
 ·exact⟨a,xs,e,h0,hs _ _ h1,h2⟩
 ·obtain⟨hl,rfl⟩:=itd e2
  exact⟨a,xs,e,hl,h1,h2⟩
theorem c0b {v w:FV}{x y:V}{o:Option FV}(hs:Same S H)(rv:RH K S H v x)(rw':RH K S H w y)(e:e2h v w=some o):∃ a o',x=.ref a∧L2.DGet H a y o'∧RO K S o o':=by
 cases v with
 | dct ks vs =>
  obtain⟨ps,e1,e2⟩:=bnd e
  obtain⟨k,e3,e4⟩:=bnd e2
  cases a1t e1
  cases e4
  obtain⟨a,us,rfl,hl,h1,h2⟩:=rv.dct hs
  obtain⟨b,rfl,hb⟩:=b0w (rw'.val rfl) e3
  refine⟨a,a2d ks us k,rfl,?_,b7f hl h2⟩
  rw[← a6n]
  exact .t h1 (hs _ _ hb)
 | dci ks vs =>
  obtain⟨k,e3,e4⟩:=bnd e
  cases a0x e3
  cases e4
  cases rw'.int
  obtain⟨a,us,rfl,hl,h1,h2⟩:=rv.dci hs
  refine⟨a,a2d ks us k,rfl,?_,b7f hl h2⟩
  rw[← a5o]
  exact .k (k:=Sum.inl k) h1
 | dcz o ks vs =>
  obtain⟨ps,e1,e2⟩:=bnd e
  obtain⟨k,e3,e4⟩:=bnd e2
  cases a1t e1
  cases e4
  obtain⟨a,us,rfl,hl,h1,h2⟩:=rv.dcz hs
  obtain⟨b,rfl,hb⟩:=b0w (rw'.val rfl) e3
  refine⟨a,a2d ks us k,rfl,?_,b7f hl h2⟩
  rw[← a6n]
  exact .inr ⟨_,_,b,.inr ⟨o,h1⟩,rfl,hs _ _ hb,rfl⟩
 | _=>cases e
theorem c8j {v:FV}{x:V}{u:Unit}(hs:Same S H)(rv:RH K S H v x)(e:d5c v=some u):∃ a,x=.ref a∧L2.IsD H a:=by
 cases v with
 | dct ks vs =>
  obtain⟨a,us,rfl,hl,h1,h2⟩:=rv.dct hs
  exact⟨a,rfl,.inr ⟨_,.inl h1⟩⟩
 | dci ks vs =>
  obtain⟨a,us,rfl,hl,h1,h2⟩:=rv.dci hs
  exact⟨a,rfl,.inl ⟨_,.inl h1⟩⟩
 | _=>cases e
end
def c9c (i:Nat)(b:EW):EW:=λL Q=>wp (lk L i) λv=>wp (d5c v) λ_=>b L λy L1=>wp (lk L1 i) λx=>wp (c0d x y) λz=>Q z L1
def c6l (k:Nat)(i e:EW):SW:=λL Q=>wp (lk L k) λ_=>e L λx L1=>i L1 λj L2=>wp (lk L2 k) λy=>wp (c3x y j x) λz=>Q .next (L2.set k (some z))
def b9z (ek ev:EW):EW:=λL Q=>ek L λk L1=>ev L1 λv L2=>wp (a2n k) λi=>Q (.dci [i] [v]) L2
section
variable {K:Γd}{c:Cn}{md:Md}{L:a0d}{σ:L2.St}{S H:Hp}
theorem Iv.writeV (I:Iv K c md L σ S H){i:Nat}{v w:FV}{a:Addr}{ps:List FV}{xs:List V}(m:a0n md i=.own)(e:L[i]?=some (some v))(e1:σ[i]?=some (some (.ref a)))(hw:d4u w=some ps)(r:RVs K S ps xs) :
  Iv K c md (L.set i (some w)) σ S (upd H a (c5c w xs)):=by
 obtain⟨a',e1',⟨h1,_⟩,_⟩:=I.own i v (λz=>by rw[m] at z;cases z) e
 rw[e1] at e1';cases e1'
 exact I.back m e e1 (Same.refl S) (λb o z=>by rw[a0c λy=>by subst y;rw[h1] at z;cases z];exact I.sub b o z) (λb o z=>.inl z) (λb o z n=>by rw[a0c n];exact z) ⟨h1,ps,xs,hw,a0e,r⟩
theorem c3w {i:Nat}{v j x z:FV}{a:Addr}{y u:V}(I:Iv K c md L σ S H)(m:a0n md i=.own)(e:L[i]?=some (some v))(e1:σ[i]?=some (some (.ref a)))(rj:RV K S j y)(rx:RV K S x u)(h:c3x v j x=some z):∃ H',L2.DPut H a y u H'∧Iv K c md (L.set i (some z)) σ S H':=by
 obtain⟨a',f1,⟨o1,ps,us,e9,o2,o3⟩,_⟩:=I.own i v (λz=>by rw[m] at z;cases z) e
 rw[e1] at f1;cases f1
 have hbl:=a1g
 cases v with
 | dct ks vs =>
  obtain⟨qs,g1,h⟩:=bnd h
  obtain⟨k,g2,h⟩:=bnd h
  obtain⟨hb,rfl⟩:=itd h
  obtain⟨hl,rfl⟩:=itd e9
  cases a1t g1
  obtain⟨b,rfl,hkb⟩:=b0w rj g2
  have hu:ks.length=us.length:=by rw[hl,o3.length]
  obtain⟨p1,p2⟩:=a8v (ks:=ks) (k:=k) o3 rx
  refine⟨_,.t o2 (I.sub _ _ hkb) (by simp[a1z];lia),?_⟩
  rw[b7l ks us k u hu,← p1]
  exact I.writeV (w:=.dct _ _) m e e1 (if_pos (a5l ks _ k x hl).1) p2
 | dci ks vs =>
  obtain⟨k,g2,h⟩:=bnd h
  obtain⟨hb,rfl⟩:=itd h
  obtain⟨hl,rfl⟩:=itd e9
  cases a0x g2
  cases (show y=V.int k from rj)
  have hu:ks.length=us.length:=by rw[hl,o3.length]
  obtain⟨p1,p2⟩:=a8v (ks:=ks) (k:=k) o3 rx
  refine⟨_,.k (k:=Sum.inl k) o2 (by simp[a3u];lia),?_⟩
  rw[c2b ks us k u hu,← p1]
  exact I.writeV (w:=.dci _ _) m e e1 (if_pos (a5l ks _ k x hl).1) p2
 | _=>cases h
end
section
variable {X:Cx}{C:CC}{n:Nat}{sp:Γd→Nat→Sp}{fr:Bool}{a b:Expr}{ea eb:EW}{pos p px:Pos}{i:Nat}{nx:Str}
theorem d5m (ha:FE X C a ea)(hb:FE X C b eb):FF X C (.Dict [some a] [b] pos) (b9z ea eb):=PE.imp (c7h (c2f ha hb c7a) rfl rfl (by simp) (by simp)) λσ H Q ⟨c,L,S,Q0,I,h,k⟩=>λp hp=>by
 have fr0:=I.fresh hp
 have I0:=I.lay hp (.dK [])
 have I1:=I0.prot (a:=p) (o:=.dK []) a0e (I.sn hp) λy u hy hu=>fr0.2.2 y u (Mo.w_imm hy) hu
 refine⟨_,L,S,_,I1,h,λv L1 q x S1 H1 r1 J1 s1=>⟨_,L1,S1,_,J1,q,λw L2 q2 y S2 H2 r2 J2 s2=>?_⟩⟩
 obtain⟨kk,e,q2⟩:=wpx q2
 cases a0x e
 cases (show x=V.int kk from r1)
 obtain⟨g1,g2,g3⟩:=J2.prs (p,.dK []) Γn
 refine⟨g1,[(Sum.inl kk,y)],rfl,by simp,?_⟩
 have J3:=J2.regrow (o':=.dK (a7u [] [(Sum.inl kk,y)])) (I.h0 hp) (λq hq=>fr0.2.1 q hq) I.fzp
 have J4:=J3.unprot I.fzp
 obtain⟨_,f2,f3⟩:=J3.prs _ Γn
 refine k _ L2 q2 p S2 _ ⟨f2,[w],[y],rfl,a0e,RVs.one r2⟩ ⟨I.h0 hp,fr0.2.1,λz u hz hu hs=>?_⟩ J4 (s1.trans s2)
 by_cases mo:(a0n C.md z).w=true
 ·exact f3 z u mo hu hs
 ·have mo:a0n C.md z=.frz:=by cases t:a0n C.md z with|imm=>exact absurd t hz|frz=>rfl|_=>rw[t] at mo;exact absurd rfl mo
  obtain⟨b',h1⟩:=J4.fzm z u mo hu
  obtain⟨_,h2,_⟩:=J4.fzs _ h1
  rw[hs] at h2;cases h2
  obtain⟨ys,h3⟩:=I.fzp _ h1
  exact fr0.2.1 _ h3 rfl
theorem fe_dgN (G:Good X C n sp)(hs:a3y b=false)(h:C.nm i nx=true)(hb:FR X C b eb):FE X C (.Subscript (.Name nx p) b pos) (b5o dgF i eb):=PE.imp (b8b (X:=X.nox) (by have:=G.room.units;show X.A.units+1<cLine;lia) (a1c G h) hb (a8x hs)) λσ H Q ⟨c,L,S,Q0,I,h,k⟩=>by
 obtain⟨v0,e,h⟩:=wpx h
 obtain⟨x,e1,_⟩:=I.rd e
 refine⟨x,e1,c,L,S,_,I,h,λw L2 hw y S2 H2 r2 I2 s2=>?_⟩
 obtain⟨v,e2,q⟩:=wpx hw
 obtain⟨x',e3,r1⟩:=I2.rd e2
 rw[e1] at e3;cases e3
 obtain⟨z,e4,q⟩:=wpx q
 obtain⟨o,e5,e6⟩:=bnd e4
 obtain⟨a,o',rfl,g,ro⟩:=c0b I2.sub r1 r2 e5
 cases (show o=some z from e6)
 obtain⟨u,rfl,r5⟩:=ro
 exact⟨a,u,rfl,g,k z L2 q u S2 H2 r5 I2 s2⟩
theorem e0k (G:Good X C n sp){apos cpos:Pos}(h:C.nm i nx=true)(hl:c5s apos cpos=true)(hs:a0k b=false)(hb:FR X C b eb):FE X C (.Call (.Attribute (.Name nx p) (Γe "get") apos) [b] [] cpos) (c9c i eb):=by
 refine PE.imp (c2n (X:=X.nox) (by have:=G.room.units;show X.A.units+1<cLine;lia) (a1c G h) hb ⟨rfl,by rw[a0f hs];rfl,hl,by rw[a0f hs];rfl⟩) λσ H Q ⟨c,L,S,Q0,I,h,k⟩=>?_
 obtain⟨v0,e,h⟩:=wpx h
 obtain⟨u0,e0,h⟩:=wpx h
 obtain⟨x,e1,r0⟩:=I.rd e
 obtain⟨a,rfl,hd⟩:=c8j I.sub r0 e0
 refine⟨_,e1,a,rfl,hd,c,L,S,_,I,h,λw L2 hw y S2 H2 r2 I2 s2=>?_⟩
 obtain⟨v,e2,q⟩:=wpx hw
 obtain⟨x',e3,r1⟩:=I2.rd e2
 rw[e1] at e3;cases e3
 obtain⟨z,e4,q⟩:=wpx q
 obtain⟨o,e5,rfl⟩:=mpd e4
 obtain⟨a',o',e6,g,ro⟩:=c0b I2.sub r1 r2 e5
 cases e6
 refine⟨o',g,k _ L2 q _ S2 H2 ?_ I2 s2⟩
 cases o with
 | none=>cases (show o'=none from ro);exact rfl
 | some q=>obtain⟨u,rfl,r5⟩:=ro;exact r5
theorem d9r (G:Good X C n sp)(hn:C.nm i nx=true)(m:a0n C.md i=.own)(hc:(!a6l a && !a3y b)=true)(ha:FE X C a ea)(hb:FE X C b eb):FS X C fr (.Assign [.Subscript (.Name nx px) b p] a pos) (c6l i eb ea):=by
 have hc:=b2 hc
 refine PS.imp (c6y (X:=X.nox) (by have:=G.room.units;show X.A.units+1<cLine;lia) (a1c (pos:=px) G hn) hb ha (a2s (nb hc.1))) λD σ H ⟨c,L,S,Q0,I,h,k⟩=>?_
 have mi:a0n C.md i≠.imm:=λz=>by rw[m] at z;cases z
 obtain⟨v0,e,h⟩:=wpx h
 obtain⟨l,e1,_⟩:=I.own i v0 mi ((a4n _ _ _).mp e)
 refine⟨c,L,S,_,I,h,λv L1 q x S1 H1 r1 I1 s1=>⟨_,e1,c,L1,S1,_,I1,q,λw L2 q y S2 H2 r2 I2 s2=>?_⟩⟩
 obtain⟨v1,e2,q2⟩:=wpx q
 obtain⟨z,e3,q3⟩:=wpx q2
 have e2:=(a4n _ _ _).mp e2
 obtain⟨H3,g,I3⟩:=c3w I2 m e2 e1 r2 (r1.mono s2) e3
 exact⟨l,H3,rfl,g,k .next _ q3 σ S2 _ I3 (s1.trans s2)⟩
end
section
variable (Q:FV→Prop) (i:Nat)(L:a0d)
@[scoped simp ↓] theorem d5x (b:EW)(Q:FV→a0d→Prop):c9c i b L Q=(wp (lk L i) λv=>wp (d5c v) λ_=>b L λy L1=>wp (lk L1 i) λx=>wp (c0d x y) λz=>Q z L1):=propext Iff.rfl
@[scoped simp ↓] theorem d4s (k:Nat)(i e:EW)(Q:FFl→a0d→Prop):c6l k i e L Q=(wp (lk L k) λ_=>e L λx L1=>i L1 λj L2=>wp (lk L2 k) λy=>wp (c3x y j x) λz=>Q .next (L2.set k (some z))):=propext Iff.rfl
@[scoped simp ↓] theorem d3s (ek ev:EW)(Q:FV→a0d→Prop):b9z ek ev L Q=(ek L λk L1=>ev L1 λv L2=>wp (a2n k) λi=>Q (.dci [i] [v]) L2):=propext Iff.rfl
@[scoped simp ↓] theorem isD_i (ks:List Int)(vs:List FV)(Q:Unit→Prop):wp (d5c (.dci ks vs)) Q=Q ():=propext Iff.rfl
@[scoped simp ↓] theorem k_dgi (ks:List Int)(vs:List FV) (k:Int):wp (dgF (.dci ks vs) (.int k)) Q=wp (a2d ks vs k) Q:=propext Iff.rfl
@[scoped simp ↓] theorem k_dg1i (ks:List Int)(vs:List FV) (k:Int):wp (c0d (.dci ks vs) (.int k)) Q=Q ((a2d ks vs k).getD .non):=propext Iff.rfl
@[scoped simp ↓] theorem d9f (ks:List Int)(vs:List FV) (k:Int)(x:FV):wp (c3x (.dci ks vs) (.int k) x) Q↔ks.length<big∧Q (.dci (a3a ks vs k x).1 (a3a ks vs k x).2):=a3c _ _ _
end
section
variable {P:Program}{w:World}{A:Around}{E:Value→Shared→Prop}{s:Shared}
end
section
variable {X:Cx}
end
def eSortI (a:EW):EW:=λL Q=>a L λv L1=>wp (a2f v) λxs=>wp (a0u xs) λns=>ns.length<64∧∀ ms:List Int,ms.Perm ns→ms.Pairwise (·≤·)→Q (.lst (ms.map .int)) L1
section
variable {X:Cx}{C:CC}{n:Nat}{sp:Γd→Nat→Sp}{a:Expr}{ea:EW}{pos p:Pos}
end
def c1q (v:FV):Option FV:=(a2f v).bind λxs=>(a0u xs).map λns=>.int ns.sum
section
variable {X:Cx}
theorem c0v (hc:X.calm=true):a1k X (.builtin "sum") (λxs H Q=>∃ (a:Addr)(ns:List Int),xs=[.ref a]∧SqL X.K H a (ns.map V.int)∧Q (.int ns.sum) H):=by
 intro pins s σ H xs us Q I r h
 obtain⟨a,ns,rfl,hq,q⟩:=h
 obtain⟨u,rfl,rx⟩:=a4e r
 cases rx
 obtain⟨its,r',pl,hz'⟩:=I.list hq
 have hlen:ns.length=its.length:=by have:=r'.length;simpa using this
 have alt:a<s.heap.objs.size:=by obtain⟨_,e,_⟩:=pl.isList;exact Γl e
 have hh:X.A.in1.handled=none:=I.ok.hd hc
 refine call_sum_walkG (wpAny_pyIter_list pl.isList ?_)
 refine⟨s.heap.objs.size,_,_,_,_,_,λi=>ns.getD i 0,rfl,Walks.list hh s.heap.objs.size a (Γo alt) its.toArray,⟨⟨_,Γm _ rfl,rfl,rfl⟩,pl.isList.at λo e=>Γc _ e⟩,?_,?_,?_⟩
 ·intro b hb'
  simp at hb'
  rcases hb' with rfl|rfl
  ·show _<(s.heap.push _).objs.size;rw[Heap.size_push];exact Nat.lt_succ_self _
  ·show _<(s.heap.push _).objs.size;rw[Heap.size_push];exact Nat.lt_succ_of_lt alt
 ·intro i v hv
  have hv:its.toArray[i]?=some v:=hv
  have hi:i<ns.length:=by rw[hlen];simpa using (Array.getElem?_eq_some_iff.mp hv).1
  obtain⟨t,e⟩:=Vals.mapInt r' i hi
  refine⟨t,?_⟩
  have e':its.toArray[i]?=some (.int (ns.getD i 0) t):=by simpa using e
  rw[hv] at e'
  exact Option.some.inj e'
 ·intro h' tk t' hk
  have e:preSum (λi=>ns.getD i 0) its.toArray.size=ns.sum:=by
   rw[List.size_toArray,← hlen,a1u ns _ (Γi _),List.take_length]
  rw[e]
  refine⟨.int ns.sum,H,?_,⟨t',rfl⟩,q⟩
  exact I.kept (t':=tk) λb o e=>hk b o (by simp;exact Γo (Γl e)) (Γc _ e)
theorem d4c (hc:X.calm=true):a1k X (.builtin "sum") (Rc X.K c1q):=by
 rintro pins s σ H xs us Q I r ⟨S,v,x,z,rfl,hs,rv,e,k⟩
 obtain⟨ps,e1,e2⟩:=bnd e
 obtain⟨ns,e3,rfl⟩:=mpd e2
 obtain⟨a,ys,rfl,hq,ry⟩:=rv.list hs e1
 cases a1f ry e3
 exact c0v hc pins s σ H _ us Q I r ⟨a,ns,rfl,hq,k.int⟩
end
section
variable {X:Cx}{C:CC}{n:Nat}{sp:Γd→Nat→Sp}{a:Expr}{ea:EW}{pos p:Pos}
theorem e0c (G:Good X C n sp)(hg:C.gl (Γe "sum")=true)(hs:a0k a=false)(ha:FR X C a ea):FE X C (.Call (.Name (Γe "sum") p) [a] [] pos) (eUn c1q ea):=b1a (d4c G.calm) G (by decide) (by nofun) (by nofun) (by nofun) hg hs ha
end
@[scoped simp ↓] theorem f_sumG (v:FV)(Q:FV→Prop):wp (c1q v) Q↔wp (a2f v) λxs=>wp (a0u xs) λns=>Q (.int ns.sum):=by
 show wp ((a2f v).bind _) Q↔_;rw[a2e];simp only[a2o]
end Kq
end
section
namespace L2
open PySem PySem.Spec PyProof.Rows
section
variable {X:Cx}{pins:List (Addr×Obj)}{σ:St}{A:Around}{R:Result→Shared→Prop}
end
end L2
end
section
namespace L2
open PySem PySem.Spec PyProof.Rows
section
variable {X:Cx}{pins:List (Addr×Obj)}{σ:St}
variable {e1 e2:Expr}{ta:TA}{pp p2 pos pos2:Pos}
end
end L2
end
section
namespace Kq
open PySem PySem.Spec PyProof.Rows L2
section
variable {X:Cx}{C:CC}{n:Nat}{sp:Γd→Nat→Sp}{a b:Expr}{ea eb:EW}{p p2 pos pos2:Pos}
end
def inW (tg:Tg)(t:BW)(e:EW):List FV→List FV→a0d→(List FV→a0d→Prop)→Prop
 | [],acc,L,Q=>Q acc L
 | y :: r,acc,L,Q=>gW tg y L λL1=>t L1 λb L2=>if b=true then e L2 λv L3=>inW tg t e r (acc++[v]) L3 Q else inW tg t e r acc L2 Q
def c0q (n m:Nat)(tg:Tg)(t:BW)(it2:AW)(tg2:Tg)(t2:BW)(e:EW):List FV→List FV→a0d→(List FV→a0d→Prop)→Prop
 | [],acc,L,Q=>Q acc L
 | x :: xs,acc,L,Q=>gW tg x (L++Γj m none) λL1=>t L1 λb L2=>if b=true then it2 L2 λys L3=>acc.length+ys.length≤big∧inW tg2 t2 e ys acc L3 λacc' L4=>c0q n m tg t it2 tg2 t2 e xs acc' (L4.take n) Q else c0q n m tg t it2 tg2 t2 e xs acc (L2.take n) Q
def eComp2 (n m:Nat)(it:AW)(tg:Tg)(t:BW)(it2:AW)(tg2:Tg)(t2:BW)(e:EW):EW:=λL Q=>it L λxs L1=>L1.length=n∧c0q n m tg t it2 tg2 t2 e xs [] L1 λys L2=>Q (.lst ys) L2
def liv (K:Γd)(md:Md)(it:AW):TI:=λσ H R=>∃ c L S Q0,Iv K c md L σ S H∧it L Q0∧∀ xs L',Q0 xs L'→∀ J S' H',Iv K c md L' σ S' H'→(∀ c md,ItR K c md J xs S')→Same S S'→R J H'
def FIv (X:Cx)(C:CC)(tg iter:Expr)(it:AW):Prop:=PI X.nox tg iter (liv X.K C.md it)
section
variable {X:Cx}{C:CC}{n:Nat}{sp:Γd→Nat→Sp}{a b tg:Expr}{ea eb:EW}{pos p:Pos}
end
section
variable {K:Γd}{c:Cn}{md:Md}{L:a0d}{σ:L2.St}{S H:Hp}
end
section
variable {X:Cx}{C:CC}{n:Nat}{sp:Γd→Nat→Sp}{pos p px:Pos}{i:Nat}{nx:Str}{fr:Bool}
variable {scope:Scope}{own:List Str}{elt tgx iter tgx2 iter2:Expr}{ifs ifs2:List Expr}{it it2:AW}{tg tg2:Tg}{t t2:BW}{e:EW}{nn m:Nat}{md':Md}
structure CompOk2 (X:Cx)(C:CC) (n:Nat)(sp:Γd→Nat→Sp)(scope:Scope)(own:List Str)(elt tgx iter:Expr)(ifs:List Expr)(tgx2 iter2:Expr)(ifs2:List Expr) (nn m:Nat)(md':Md)(it:AW)(tg:Tg)(t:BW)(it2:AW)(tg2:Tg)(t2:BW)(e:EW):Prop where
 st:(C.scOk scope own && decide (C.N.length=nn) && decide (own.length=m) && decide (md'.length≤nn) && d2j C.md md' && a4u md' tg && b0a nn tg && !b5h iter)=true
 st2:(a4u md' tg2 && b0a nn tg2 && !b5h iter2)=true
 it:FI X C md' tgx iter it
 tg:∀ X',Good X' (C.sub scope own md') n sp→FG X' tgx tg
 ts:∀ X',Good X' (C.sub scope own md') n sp→FTs X' (C.sub scope own md') ifs t
 it2:∀ X',Good X' (C.sub scope own md') n sp→FIv X' (C.sub scope own md') tgx2 iter2 it2
 tg2:∀ X',Good X' (C.sub scope own md') n sp→FG X' tgx2 tg2
 ts2:∀ X',Good X' (C.sub scope own md') n sp→FTs X' (C.sub scope own md') ifs2 t2
 el:∀ X',Good X' (C.sub scope own md') n sp→FE X' (C.sub scope own md') elt e
end
def ePop (i:Nat):EW:=λL Q=>wp (lk L i) λv=>wp (a7b v) λxs=>wp (xs[xs.length-1]?) λy=>Q y (L.set i (some (.lst xs.dropLast)))
def popI (xs:List FV) (k:Int):Option FV:=if 0≤k∧k<4611686018427387904 then xs[k.toNat]? else none
def ePopAt (i:Nat)(a:EW):EW:=λL Q=>wp (lk L i) λv=>wp (a7b v) λ_=>a L λw L1=>wp (a2n w) λk=>wp (lk L1 i) λx=>wp (a7b x) λxs=>wp (popI xs k) λy=>Q y (L1.set i (some (.lst (xs.eraseIdx k.toNat))))
section
variable {K:Γd}{S:Hp}
end
section
variable {X:Cx}{C:CC}{n:Nat}{sp:Γd→Nat→Sp}{a:Expr}{ea:EW}{pos p:Pos}{i:Nat}{nx:Str}
end
end Kq
end
section
namespace L2
open PySem PySem.Spec PyProof.Rows
section
variable {X:Cx}{a e k:Expr}{ta te tk:TE}{pos p2:Pos}
end
end L2
namespace Kq
open PySem PySem.Spec PyProof.Rows L2
def turnLF (v:FV):Option FV:=(a7b v).map λxs=>.lst xs.reverse
section
variable {X:Cx}{C:CC}{a:Expr}{ea:EW}{pos:Pos}
end
end Kq
end
section
namespace L2
open PySem PySem.Spec PyProof.Rows
section
variable {X:Cx}{pos:Pos}
end
end L2
namespace Kq
open PySem PySem.Spec PyProof.Rows L2
section
variable {X:Cx}{C:CC}{n:Nat}{sp:Γd→Nat→Sp}{a b d:Expr}{ea eb ed:EW}{pos px py pz:Pos}{i j l:Nat}{nx ny nz:Str}{fr:Bool}
end
end Kq
end
section
namespace Kq
open PySem PySem.Spec PyProof.Rows L2
def eMv (j:Nat):EW:=λL Q=>wp (lk L j) λv=>Q v (L.set j none)
def eCallT (call:CW) (f:Nat)(ea:EW)(as:AW):EW:=λL Q=>ea L λv L1=>as L1 λvs L2=>call f (v :: vs) λz=>Q z.1 L2
section
variable {X:Cx}{C:CC}{n:Nat}{sp:Γd→Nat→Sp}{a b:Expr}{ea eb:EW}{pos p:Pos}{call:CW}
variable {K:Γd}{c:Cn}{md:Md}{L:a0d}{σ:L2.St}{S H S' H':Hp}{i j f:Nat}{nx:Str}{xs:List Expr}{as:AW}
theorem c1u {L:a0d}{j i:Nat}{v:FV}(z:(L.set j none)[i]?=some (some v)):i≠j∧L[i]?=some (some v):=by
 by_cases q:i=j
 ·subst q
  have hj:i<L.length:=by have:=(List.getElem?_eq_some_iff.mp z).1;rwa [List.length_set] at this
  rw[List.getElem?_set_self hj] at z;cases z
 ·rw[List.getElem?_set_ne (Ne.symm q)] at z;exact⟨q,z⟩
end
def sFrz (j:Nat)(r:SW):SW:=λL Q=>wp (lk L j) λ_=>r L λfl L'=>Q fl (L'.set j none)
section
variable {X:Cx}{C:CC}{n:Nat}{sp:Γd→Nat→Sp}{fr:Bool}{sts:List Stmt}{r:SW}
variable {K:Γd}{c:Cn}{md md':Md}{L:a0d}{σ:L2.St}{S H:Hp}{j:Nat}
theorem a8r {L:a0d}{i j:Nat}(h:i≠j):(L.set j none)[i]?=L[i]?:=List.getElem?_set_ne (Ne.symm h)
end
end Kq
end
set_option maxHeartbeats 1000000
set_option maxHeartbeats 4000000
section
namespace Kq
open PySem PySem.Spec PyProof.Rows L2 PySem.W
structure Cmp (prog:Program)(w:World)(A:Around)(E:Value→Shared→Prop)(s:Shared)(kd:SortKind)(Ok:Keyed→Prop)(lt:Keyed→Keyed→Bool):Prop where
 run:∀ x y,Ok x→Ok y→∀ (st:SortSt)(Q:Option Bool→SortSt→Prop),kindOf st=kd→Q (some (lt x y)) st→wpS (model prog w) A E s (lt' x y) Q st
 refl:∀ x,lt x x=false
 trans:∀ x y z,lt y x=false→lt z y=false→lt z x=false
 asym:∀ x y,lt x y=true→lt y x=false
section
variable {prog:Program}{w:World}{A:Around}{E:Value→Shared→Prop}{s:Shared}{kd:SortKind}{Ok:Keyed→Prop}{lt:Keyed→Keyed→Bool}
end
section
variable {prog:Program}{w:World}{A:Around}{E:Value→Shared→Prop}{s:Shared}{kd:SortKind}{Ok:Keyed→Prop}{lt:Keyed→Keyed→Bool}
end
section
variable {prog:Program}{w:World}{A:Around}{E:Value→Shared→Prop}{s:Shared}{kd:SortKind}{Ok:Keyed→Prop}{lt:Keyed→Keyed→Bool}
end
abbrev Asc {α:Type}(lt:α→α→Bool)(l:List α):Prop:=l.Pairwise λx y=>lt y x=false
structure MI {α:Type}(lt:α→α→Bool)(X Y O:List α) (i j:Nat):Prop where
 perm:O.Perm (X.take i++Y.take j)
 srt:Asc lt O
 bef:∀ x∈O,∀ y∈X.drop i++Y.drop j,lt y x=false
section
variable {α:Type}{lt:α→α→Bool}{X Y O:List α}{i j k:Nat}
end
section
variable {lt:Keyed→Keyed→Bool}{x y o:Array Keyed}{i j k:Nat}
end
section
variable {prog:Program}{w:World}{A:Around}{E:Value→Shared→Prop}{s:Shared}{kd:SortKind}{Ok:Keyed→Prop}{lt:Keyed→Keyed→Bool}
end
section
variable {lt:Keyed→Keyed→Bool}{x y o:Array Keyed}{i j t:Nat}
end
section
variable {prog:Program}{w:World}{A:Around}{E:Value→Shared→Prop}{s:Shared}{kd:SortKind}{Ok:Keyed→Prop}{lt:Keyed→Keyed→Bool}
end
section
variable {prog:Program}{w:World}{A:Around}{E:Value→Shared→Prop}{s:Shared}{kd:SortKind}{Ok:Keyed→Prop}{lt:Keyed→Keyed→Bool}
end
section
variable {lt:Keyed→Keyed→Bool}{a b:Array Keyed}
end
section
variable {prog:Program}{w:World}{A:Around}{E:Value→Shared→Prop}{s:Shared}{kd:SortKind}{Ok:Keyed→Prop}{lt:Keyed→Keyed→Bool}
end
section
variable {prog:Program}{w:World}{A:Around}{E:Value→Shared→Prop}{s:Shared}{vs:List Value}{kd:SortKind}{kf:Value→List Int}
end
def numsOf (h:Heap):Value→List Int
 | .ref a=>match h.get? a with
  | some o=>match o.data with
   | .seq us _=>us.toList.map numOf
   | _=>[]
  | none=>[]
 | _=>[]
section
variable {prog:Program}{w:World}{A:Around}{E:Value→Shared→Prop}{s:Shared}{vs:List Value}
end
def fkey:FV→List Int
 | .tup ps=>(a0u ps).getD []
 | _=>[]
def eSortB (m:Nat)(a:EW):EW:=λL Q=>a L λv L1=>wp (a3g v) λxs=>b6n xs=true∧xs.length≤m∧∀ ys:List FV,ys.Perm xs→(ys.Pairwise λx y=>lexLt (fkey y) (fkey x)=false)→Q (.lst ys) L1
section
variable {K:Γd}{S:Hp}
end
section
variable {X:Cx}
end
section
variable {X:Cx}{C:CC}{n:Nat}{sp:Γd→Nat→Sp}{a:Expr}{ea:EW}{pos p:Pos}
end
section
variable {prog:Program}{w:World}{A:Around}{E:Value→Shared→Prop}{s:Shared}{it d:Addr}{i n ep:Nat}{es:Array DictEntry}
end
section
variable {X:Cx}{pins:List (Addr×Obj)}{σ:L2.St}{H:Hp}{s:Shared}{a:Addr}
end
def keyF (k:List Int):FV:=.tup (k.map .int)
section
variable {X:Cx}{C:CC}{n:Nat}{sp:Γd→Nat→Sp}{tg:Expr}{p:Pos}{i:Nat}{nx:Str}
variable {K:Γd}{c:Cn}{md:Md}
end
section
variable {prog:Program}{w:World}{A:Around}{E:Value→Shared→Prop}{s:Shared}{d:Addr}{es:Array DictEntry}{ep:Nat}
end
section
variable {X:Cx}
end
def d3x:FV→Option (List (List Int))
 | .dct ks _=>some ks
 | .dcz _ ks _=>some ks
 | _=>none
def eSortE (m j:Nat):EW:=λL Q=>wp (lk L j) λv=>wp (d3x v) λks=>ks.length≤m∧(∀ k∈ks,k≠[])∧∀ ys:List (List Int),ys.Perm ks→(ys.Pairwise λx y=>lexLt y x=false)→Q (.lst (ys.map keyF)) L
section
variable {X:Cx}{C:CC}{n:Nat}{sp:Γd→Nat→Sp}{pos p p':Pos}{i:Nat}{nx:Str}
end
def d4q (xs:Array Nat):Prop:=∀ i j (hi:i<xs.size)(hj:j<xs.size),i<j→xs[i]<xs[j]
def e3m (t:SetTable)(l:Bool):Prop:=t.led=l∧t.dummies = #[]∧(t.plain=true→d4q t.place)
def e3q (l:List (Int×Value)):Prop:=∀ e∈l,∃ k tk,e=(hashInt k,Value.int k tk)
def d3o (l:List (Int×Value)):List Int:=l.map λe=>numOf e.2
structure SetData (w:World)(o:Obj)(ns:List Int)(es:Array (Int×Value)) (ep:Nat)(t:SetTable):Prop where
 ex:o.ExactSet
 dat:o.data=.set es ep t
 num:e3q es.toList
 perm:(d3o es.toList).Perm ns
 a2b:ns.length<scanBound
 fits:t.fits es.size=true
 tab:e3m t (!w.params.followText "set-order")
section
variable {prog:Program}{w:World}{A:Around}{E:Value→Shared→Prop}{s:Shared}{a:Addr}
end
section
variable {prog:Program}{w:World}{A:Around}{E:Value→Shared→Prop}{s:Shared}{a:Addr}
end
section
variable {prog:Program}{w:World}{A:Around}{E:Value→Shared→Prop}{s:Shared}{a:Addr}
inductive Goes (w:World)(h:Heap)(a:Addr)(es:Array (Int×Value)) (ep:Nat)(t:SetTable):List Value→Nat→Value→Prop
 | text {i:Nat}{sl:Nat}:w.params.followText "set-order" = true→Goes w h a es ep t ((pickOrder (w.params.setOrder a ep) es).toList.map (·.2)) i (.int sl 0)
 | table {i:Nat}:w.params.followText "set-order" = false→(!t.plain && decide (es.size > 1))=false→Goes w h a es ep t (es.toList.map (·.2)) i (.int ((if i=0 then 0 else t.place.getD (i-1) 0+1:Nat):Int) 0)
 | drawn {i:Nat}{p:Addr}{od:List Nat}:w.params.followText "set-order" = false→h.IsTuple p (od.map λ(n:Nat)=>rawInt n).toArray→od.Perm (List.range es.size)→Goes w h a es ep t (od.map λn=>(es.getD n (0,.none)).2) i (.ref p)
end
section
variable {prog:Program}{w:World}{A:Around}{E:Value→Shared→Prop}{s:Shared}{a:Addr}{ns:List Int}{o:Obj}{es:Array (Int×Value)}{ep:Nat}{t:SetTable}
end
section
variable {prog:Program}{w:World}{A:Around}{R:Result→Shared→Prop}{E:Value→Shared→Prop}{s:Shared}{I:Addr}{fp wr:List Addr}{G:Array GenState→Array GenState→Prop}{n:Nat}{P:Nat→Value→Prop}{St:Nat→Shared→Prop}
end
section
variable {prog:Program}{w:World}{A:Around}{E:Value→Shared→Prop}{s:Shared}
structure NumSrc (prog:Program)(w:World)(s:Shared)(l:Addr)(T:String)(ks:List Int):Prop where
 ty:s.TypeIs (.ref l) T
 su:isSubtype (.type T) (.type "set")=pure false
 sf:isSubtype (.type T) (.type "frozenset")=pure false
 nd:(Value.type T == Value.type "dict")=false
 it:∀ h:Heap,(∀ b o,s.heap.get? b=some o→h.get? b=some o)→∃ (oI:Obj)(P:Nat→Value→Prop)(St:Nat→Heap→Prop),(∀ (A':Around)(E':Value→Shared→Prop)(Q:Value→Shared→Prop),Q (.ref h.objs.size) { s with heap:=h.push oI }→wpAny (model prog w) A' (pyIter (.ref l)) Q E' { s with heap:=h })∧(∀ A':Around,A'.handled=none→Walks prog w A' h.objs.size [h.objs.size,l] [h.objs.size] ks.length P St)∧St 0 (h.push oI)∧∀ i v,P i v→∃ t,v=.int (ks.getD i 0) t
end
section
variable {X:Cx}
end
section
variable {X:Cx}{C:CC}{n:Nat}{sp:Γd→Nat→Sp}{a:Expr}{ea:EW}{pos pos' p p':Pos}
end
end Kq
end
section
namespace L2
open PySem PySem.Spec PyProof.Rows
section
variable {prog:Program}{w:World}{A:Around}{R:Result→Shared→Prop}{s:Shared}
end
section
variable {X:Cx}{elt tg iter tg2 iter2:Expr}{ifs ifs2:List Expr}{scope:Scope}{own:List Str}{pos:Pos}{wi wi2:TI}{g g2:TG}{tt tt2:TT}{te:TE}
end
end L2
end
section
namespace Kq
open PySem PySem.Spec PyProof.Rows L2
def inS (tg:Tg)(t:BW)(e:EW):List FV→List Int→a0d→(List Int→a0d→Prop)→Prop
 | [],acc,L,Q=>Q acc L
 | y :: r,acc,L,Q=>gW tg y L λL1=>t L1 λb L2=>if b=true then e L2 λv L3=>wp (a2n v) λk=>inS tg t e r (acc++[k]) L3 Q else inS tg t e r acc L2 Q
def b4k (n m:Nat)(tg:Tg)(t:BW)(it2:AW)(tg2:Tg)(t2:BW)(e:EW):List FV→List Int→a0d→(List Int→a0d→Prop)→Prop
 | [],acc,L,Q=>Q acc L
 | x :: xs,acc,L,Q=>gW tg x (L++Γj m none) λL1=>t L1 λb L2=>if b=true then it2 L2 λys L3=>acc.length+ys.length≤4000∧inS tg2 t2 e ys acc L3 λacc' L4=>b4k n m tg t it2 tg2 t2 e xs acc' (L4.take n) Q else b4k n m tg t it2 tg2 t2 e xs acc (L2.take n) Q
def e2a (n m:Nat)(it:AW)(tg:Tg)(t:BW)(it2:AW)(tg2:Tg)(t2:BW)(e:EW):EW:=λL Q=>it L λxs L1=>L1.length=n∧b4k n m tg t it2 tg2 t2 e xs [] L1 λns L2=>ns.length≤4000∧∀ ms:List Int,(∀ x,x∈ms↔x∈ns)→ms.Pairwise (· < ·)→Q (.lst (ms.map .int)) L2
section
variable {X:Cx}{C:CC}{n:Nat}{sp:Γd→Nat→Sp}{a b tg:Expr}{ea eb:EW}{pos p:Pos}
end
section
variable {K:Γd}{c:Cn}{md:Md}{L:a0d}{σ:L2.St}{S H:Hp}
end
section
variable {X:Cx}{C:CC}{n:Nat}{sp:Γd→Nat→Sp}{pos pos' p:Pos}
variable {scope:Scope}{own:List Str}{elt tgx iter tgx2 iter2:Expr}{ifs ifs2:List Expr}{it it2:AW}{tg tg2:Tg}{t t2:BW}{e:EW}{nn m:Nat}{md':Md}
end
def dsF:FV→Option (List D):=λv=>(fD a0m v).bind λd=>match d with|.lst ys=>some ys|_=>none
def idxD (x:D):List D→Option Nat
 | []=>none
 | y :: r=>if D.eqv y x=true then some 0 else (idxD x r).map (· + 1)
def indexF (v w:FV):Option FV:=(dsF v).bind λys=>(fD a0m w).bind λx=>(idxD x ys).bind λj=>if j<big then some (.int (j:Int)) else none
def countF (v w:FV):Option FV:=(dsF v).bind λys=>(fD a0m w).bind λx=>some (.int ((ys.countP λy=>D.eqv y x:Nat):Int))
def eMRN (f:FV→FV→Option FV) (i:Nat)(b:EW):EW:=λL Q=>wp (lk L i) λv=>wp (a7b v) λ_=>b L λy L1=>wp (lk L1 i) λx=>wp (f x y) λz=>Q z L1
section
variable {X:Cx}{pins:List (Addr×Obj)}{s:Shared}{σ:L2.St}{H S:Hp}
end
section
variable {X:Cx}{C:CC}{n:Nat}{sp:Γd→Nat→Sp}{a b:Expr}{ea eb:EW}{p:Pos}{i:Nat}{nx:Str}
end
def e1z (n m:Nat)(it:AW)(tg:Tg)(t:BW)(it2:AW)(tg2:Tg)(t2:BW)(e:EW):EW:=λL Q=>it L λxs L1=>L1.length=n∧b4k n m tg t it2 tg2 t2 e xs [] L1 λns L2=>ns.length≤63∧∀ ms:List Int,(∀ x,x∈ms↔x∈ns)→ms.Pairwise (· < ·)→Q (.lst (ms.map .int)) L2
section
variable {X:Cx}{C:CC}{n:Nat}{sp:Γd→Nat→Sp}{pos pos' p:Pos}
variable {scope:Scope}{own:List Str}{elt tgx iter tgx2 iter2:Expr}{ifs ifs2:List Expr}{it it2:AW}{tg tg2:Tg}{t t2:BW}{e:EW}{nn m:Nat}{md':Md}
end
def b8e:List FV→Option (List (Option Int))
 | []=>some []
 | .int i :: r=>(b8e r).map (some i :: ·)
 | .non :: r=>(b8e r).map (none :: ·)
 | _=>none
def c0p (n m:Nat)(tg:Tg)(t:BW)(ek ev:EW):List FV→List (List (Option Int))→List FV→a0d→(List (List (Option Int))→List FV→a0d→Prop)→Prop
 | [],ks,vs,L,Q=>Q ks vs L
 | x :: xs,ks,vs,L,Q=>gW tg x (L++Γj m none) λL1=>t L1 λb L2=>if b=true then ek L2 λkx L3=>wp (a5s kx) λps=>wp (b8e ps) λk=>ev L3 λv L4=>c0p n m tg t ek ev xs (a3a ks vs k v).1 (a3a ks vs k v).2 (L4.take n) Q else c0p n m tg t ek ev xs ks vs (L2.take n) Q
def eCompN (n m:Nat)(it:AW)(tg:Tg)(t:BW)(ek ev:EW):EW:=λL Q=>it L λxs L1=>L1.length=n∧xs.length≤big∧c0p n m tg t ek ev xs [] [] L1 λks vs L2=>Q (.dcn none ks vs) L2
section
variable {K:Γd}{c:Cn}{md:Md}{L:a0d}{σ:L2.St}{S H:Hp}
end
section
variable {X:Cx}{C:CC}{n:Nat}{sp:Γd→Nat→Sp}{pos:Pos}{scope:Scope}{own:List Str}{kx vx tgx iter:Expr}{ifs:List Expr}{it:AW}{tg:Tg}{t:BW}{ek ev:EW}{nn m:Nat}{md':Md}
end
def dgnF (v w:FV):Option FV:=match v with
 | .dcn _ ks vs=>(a5s w).bind λps=>(b8e ps).bind λk=>a2d ks vs k
 | _=>none
def dpnF (v j x:FV):Option FV:=match v with
 | .dcn none ks vs=>(a5s j).bind λps=>(b8e ps).bind λk=>if ks.length<big then some (.dcn none (a3a ks vs k x).1 (a3a ks vs k x).2) else none
 | _=>none
def sSetN (k:Nat)(i e:EW):SW:=λL Q=>wp (lk L k) λ_=>e L λx L1=>i L1 λj L2=>wp (lk L2 k) λy=>wp (dpnF y j x) λz=>Q .next (L2.set k (some z))
def sAugN (f:Int→Int→Int) (k:Nat)(i e:EW):SW:=λL Q=>wp (lk L k) λ_=>i L λj L1=>wp (lk L1 k) λv=>wp (dgnF v j) λx0=>wp (a2n x0) λa=>e L1 λx L2=>wp (a2n x) λb=>wp (lk L2 k) λw=>wp (dpnF w j (.int (f a b))) λz=>Q .next (L2.set k (some z))
section
variable {K:Γd}{S H:Hp}{c:Cn}{md:Md}{L:a0d}{σ:L2.St}
end
section
variable {X:Cx}{C:CC}{n:Nat}{sp:Γd→Nat→Sp}{fr:Bool}{a b:Expr}{ea eb:EW}{pos p px:Pos}{i:Nat}{nx:Str}
end
section
variable {X:Cx}{pins pins0:List (Addr×Obj)}{σ σ0:L2.St}{H H0:Hp}{s s0:Shared}{a:Addr}
end
def sThw (j:Nat)(s:SW):SW:=λL Q=>wp (lk L j) λv=>match v with
 | .dcn none ks vs=>∀ o,s (L.set j (some (.dcn (some o) ks vs))) λfl L1=>match fl with
  | .next=>wp (lk L1 j) λw=>match w with
   | .dcn (some _) ks' vs'=>Q .next (L1.set j (some (.dcn none ks' vs')))
   | _=>False
  | _=>False
 | _=>False
def oF:Option Int→FV
 | some i=>.int i
 | none=>.non
def keyN (k:List (Option Int)):FV:=.tup (k.map oF)
section
variable {X:Cx}{C:CC}{n:Nat}{sp:Γd→Nat→Sp}{tg:Expr}{p:Pos}{i j:Nat}{nx:Str}{fr:Bool}{st:Stmt}{s:SW}
variable {K:Γd}{c:Cn}{md:Md}{S:Hp}
end
section
variable {X:Cx}
end
def e1s (x y:FV):Option FV:=(a7b x).bind λxs=>(a7b y).bind λys=>if xs.length+ys.length≤big then some (.lst (xs++ys)) else none
def sAugL (i:Nat)(e:EW):SW:=λL Q=>wp (lk L i) λ_=>e L λy L1=>wp (lk L1 i) λx=>wp (e1s x y) λz=>Q .next (L1.set i (some z))
section
variable {X:Cx}{C:CC}{n:Nat}{sp:Γd→Nat→Sp}{fr:Bool}{a:Expr}{e:EW}{pos px:Pos}{i:Nat}{nx:Str}
end
section
variable {X:Cx}{C:CC}{n:Nat}{sp:Γd→Nat→Sp}{fr:Bool}{a b:Expr}{ea eb:EW}{pos px py pt p2:Pos}{i j kt k2:Nat}{nx ny:Str}
theorem d5k (G:Good X C n sp)(hm:((decide (a0n C.md i=.own) && decide (i≠0)) && (decide (a0n C.md j=.own) && decide (j≠0)))=true)(h:c2r C i j nx ny px py a b=true)(ha:FF X C a ea)(hb:FF X C b eb):FS X C fr (.Assign [.Tuple [.Name nx px,.Name ny py] kt pt] (.Tuple [a,b] k2 p2) pos) (a1o (a3w (a0a ea (a0a eb a0i))) (.tp [i,j])):=by
 obtain⟨sa,sb,hij⟩:=c4z h
 refine PS.imp (c5a G h (a0h ha (a0h hb a0y (a0f sb)) (a0f sa))) λD σ H ⟨c,L,S,Q0,I,h,k⟩=>?_
 have hm:=b2 hm;have hm1:=b2 hm.1;have hm2:=b2 hm.2
 refine⟨c,L,S,_,I,h,λv L1 q l S1 H1 o f I1 s1=>?_⟩
 obtain⟨o1,ps,us,e9,o2,o3⟩:=o
 have I2:=I1.prot o2 o1 λy u hy hu=>f.2.2 y u (Mo.w_imm hy) hu
 refine⟨_,L1,S1,_,I2,q,λw L2 q l2 S2 H2 ow f2 I3 s2=>⟨.ref l,.ref l2,rfl,?_⟩⟩
 have nl:l≠l2:=f2.2.1 (l,c5c v us) Γn
 obtain⟨g1,g2,g3⟩:=I3.prs (l,c5c v us) Γn
 have I4:=I3.unprot I1.fzp
 have nf:∀ y u,a0n C.md y≠.imm→L2[y]?=some (some u)→σ[y]?≠some (some (.ref l)):=λy u hy hu hs=>by
  by_cases mo:(a0n C.md y).w=true
  ·exact g3 y u mo hu hs
  ·have mo:a0n C.md y=.frz:=by cases z:a0n C.md y with|imm=>exact absurd z hy|frz=>rfl|_=>rw[z] at mo;exact absurd rfl mo
   obtain⟨b',f1⟩:=I4.fzm y u mo hu
   obtain⟨_,f2,_⟩:=I4.fzs _ f1
   rw[hs] at f2;cases f2
   obtain⟨ys,f3⟩:=I1.fzp _ f1
   exact f.2.1 _ f3 rfl
 have I5:=I4.set (x:=.ref l) (v:=v) (λ_ _=>de hm1.2) (λz=>by rw[de hm1.1] at z;cases z) (.inr ⟨de hm1.1,l,rfl,⟨g2,ps,us,e9,g1,o3.mono s2⟩,f.1,f.2.1,λy u _ hy hu=>nf y u hy hu⟩)
 refine k .next _ q.2 _ S2 H2 (I5.set (x:=.ref l2) (v:=w) (λ_ _=>de hm2.2) (λz=>by rw[de hm2.1] at z;cases z) (.inr ⟨de hm2.1,l2,rfl,ow,f2.1,λp hp=>f2.2.1 p (Γh _ hp),λy u _ hy hu=>?_⟩)) (s1.trans s2)
 by_cases hyi:y=i
 ·subst hyi
  intro z
  have hl:y<σ.length:=by
   have:=(List.getElem?_eq_some_iff.mp z).1
   rwa [List.length_set] at this
  rw[List.getElem?_set_self hl] at z
  cases z
  exact nl rfl
 ·rw[List.getElem?_set_ne (Ne.symm hyi)] at hu ⊢
  exact f2.2.2 y u hy hu
end
section
variable (Q:FV→Prop)(L:a0d)
end
section
variable {X:Cx}{C:CC}{n:Nat}{sp:Γd→Nat→Sp}{fr:Bool}{pos p px:Pos}{scope:Scope}{own:List Str}{kx vx tgx iter:Expr}{ifs:List Expr}{it:AW}{tg:Tg}{t:BW}{ek ev:EW}{nn m:Nat}{md':Md}{i:Nat}{nx:Str}
end
def lenDF (v:FV):Option FV:=match v with
 | .dci ks _=>some (.int ks.length)
 | _=>none
section
variable {X:Cx}{C:CC}{n:Nat}{sp:Γd→Nat→Sp}{a:Expr}{ea:EW}{pos p:Pos}
end
def c6h (v:FV)(lo hi:Option Int):Option FV:=(a2f v).map λxs=>.lst (b1h xs lo hi)
def eSlL (a:EW)(l h:OW):EW:=λL Q=>a L λx L1=>l L1 λi L2=>h L2 λj L3=>wp (c6h x i j) λz=>Q z L3
section
variable {X:Cx}{C:CC}{n:Nat}{sp:Γd→Nat→Sp}{a:Expr}{ea:EW}{pos:Pos}
variable {xl xh:Option Expr}{wl wh:OW}{p2:Pos}
end
mutual
noncomputable def fla:FV→Bool
 | .non=>true
 | .bl _=>true
 | .int _=>true
 | .str _=>true
 | .shn _=>true
 | .scr _=>true
 | .tup xs=>flas xs
 | .lst _=>false
 | .dct _ _=>false
 | .dci _ _=>false
 | .dcz _ _ _=>false
 | .dcn _ _ _=>false
 | .obj _ _ _ _=>false
noncomputable def flas:List FV→Bool
 | []=>true
 | x :: xs=>fla x && flas xs
end
def d8r (v:FV):Bool:=match d4u v with
 | some ps=>flas ps
 | none=>false
def d4w:Md→a0d→Bool
 | _,[]=>true
 | ms,none :: L=>d4w ms.tail L
 | ms,some v :: L=>(if a0n ms 0=.imm then fla v else d8r v) && d4w ms.tail L
def nl (S:Hp):Hp:=λa=>match S a with
 | some (.lst _)=>none
 | o=>o
section
variable {K:Γd}{S S' H:Hp}
theorem d2d {a:Addr}{o:HO}(h:S a=some o)(n:∀ xs,o≠.lst xs):nl S a=some o:=by
 unfold nl
 split
 ·rename_i xs z;rw[h] at z;exact absurd (Option.some.inj z) (n xs)
 ·exact h
mutual
theorem RV.nl:∀ {p:FV}{v:V},fla p=true→RV K S p v→RV K (nl S) p v
 | .non,v,_,h=>h
 | .bl b,v,_,h=>h
 | .int i,v,_,h=>h
 | .str _,v,_,h=>h
 | .shn _,v,_,h=>h
 | .tup ps,v,n,⟨a,xs,e,h1,h2⟩=>⟨a,xs,e,d2d h1 (λ_ z=>nomatch z),RVs.nl n h2⟩
 | .lst ps,v,n,h=>by cases n
 | .dct ks vs,v,n,h=>by cases n
 | .dci ks vs,v,n,h=>by cases n
 | .dcz o ks vs,v,n,h=>by cases n
 | .dcn z ks vs,v,n,h=>by cases n
 | .obj _ _ _ _,v,n,h=>by cases n
 | .scr ns,v,_,⟨a,e,h⟩=>⟨a,e,h.elim (λ⟨o,h⟩=>.inl ⟨o,d2d h (λ_ z=>nomatch z)⟩) .inr⟩
theorem RVs.nl:∀ {ps:List FV}{vs:List V},flas ps=true→RVs K S ps vs→RVs K (nl S) ps vs
 | [],vs,_,h=>h
 | p :: ps,vs,n,⟨v,r,e,h1,h2⟩=>⟨v,r,e,RV.nl (b2 n).1 h1,RVs.nl (b2 n).2 h2⟩
end
variable {c:Cn}{md:Md}{L:a0d}{σ:L2.St}{j:Nat}
end
def sScope (md:Md)(r:SW):SW:=λL Q=>d4w md L=true∧r L λfl L'=>d4w md L'=true∧(match fl with|.ret v=>fla v=true|_=>True)∧Q fl L'
section
variable {X:Cx}{C:CC}{n:Nat}{sp:Γd→Nat→Sp}{fr:Bool}{st:Stmt}{sts:List Stmt}{s r:SW}{o:Expr}{e:EW}{pos p:Pos}{j:Nat}
open Classical in
end
mutual
noncomputable def D.ns:D→Bool
 | .non=>true
 | .bl _=>true
 | .int _=>true
 | .str _=>false
 | .tup xs=>D.nss xs
 | .lst xs=>D.nss xs
noncomputable def D.nss:List D→Bool
 | []=>true
 | x :: xs=>D.ns x && D.nss xs
end
theorem a5c {a b:Str}(ha:PyData.strOk a=true)(hb:PyData.strOk b=true):PyData.strOk (a++b)=true:=by
 show Array.all (a.cps++b.cps) _=true
 rw[Array.all_append]
 exact Bool.and_eq_true_iff.mpr ⟨ha,hb⟩
theorem b8h {s:Str}(hs:PyData.strOk s=true):∀ {ts:List Str},(∀ t∈ts,PyData.strOk t=true)→PyData.strOk (Str.join s ts)=true
 | [],_=>a3f ""
 | [a],h=>h a (by simp)
 | a :: b :: r,h=>by
  simp only[Str.join]
  exact a5c (a5c (h a (by simp)) hs) (b8h hs λt ht=>h t (by simp[List.mem_cons.mp ht]))
theorem b8i:∀ {ts:List Str}{k:Nat}{acc:Str},PyData.strOk acc=true→(∀ t∈ts,PyData.strOk t=true)→PyData.strOk (textFrom k acc ts)=true
 | [],k,acc,ha,_=>ha
 | t :: r,k,acc,ha,h=>by
  unfold textFrom
  refine b8i ?_ λx hx=>h x (by simp[hx])
  split
  ·exact a5c (a5c ha (a3f _)) (h t (by simp))
  ·exact a5c ha (h t (by simp))
mutual
theorem d0s:∀ d:D,d.ns=true→PyData.strOk (dPy d).shown=true
 | .non,_=>by simp only[dPy,PyData.shown];exact a3f _
 | .bl b,_=>by simp only[dPy,PyData.shown];split<;>exact a3f _
 | .int i,_=>by simp only[dPy,PyData.shown];exact a3f _
 | .str _,h=>by cases h
 | .tup xs,h=>by
  simp only[dPy,PyData.shown,tupleText]
  exact a5c (a5c (a3f _) (b8h (a3f _) (shn_oks xs h))) (a3f _)
 | .lst xs,h=>by
  simp only[dPy,PyData.shown,listText]
  exact a5c (b8i (a3f _) (shn_oks xs h)) (a3f _)
theorem shn_oks:∀ ds:List D,D.nss ds=true→∀ t∈PyData.shownAll (dPys ds),PyData.strOk t=true
 | [],_,t,ht=>by simp[dPys,PyData.shownAll] at ht
 | d :: ds,h,t,ht=>by
  simp only[dPys,PyData.shownAll] at ht
  have h:=b2 h
  rcases List.mem_cons.mp ht with rfl|ht
  ·exact d0s d h.1
  ·exact shn_oks ds h.2 t ht
end
open Classical in
def nePF (a b:FV):Option FV:=if ∃ i d,a=.tup [.int i,.shn d]∧b=a∧d.ns=true then some (.bl false) else none
section
variable {X:Cx}
variable {C:CC}{n:Nat}{sp:Γd→Nat→Sp}{a b:Expr}{ea eb:EW}{pos:Pos}
end
end Kq
end
section
namespace Kq
@[scoped simp ↓ high] theorem lk_1 (a0:Option FV)(v:FV)(L:a0d)(Q:FV→Prop):wp (lk (a0 :: some v :: L) 1) Q=Q v:=propext Iff.rfl
@[scoped simp ↓ high] theorem lk_2 (a0 a1:Option FV)(v:FV)(L:a0d)(Q:FV→Prop):wp (lk (a0 :: a1 :: some v :: L) 2) Q=Q v:=propext Iff.rfl
@[scoped simp ↓ high] theorem lk_3 (a0 a1 a2:Option FV)(v:FV)(L:a0d)(Q:FV→Prop):wp (lk (a0 :: a1 :: a2 :: some v :: L) 3) Q=Q v:=propext Iff.rfl
@[scoped simp ↓ high] theorem lk_4 (a0 a1 a2 a3:Option FV)(v:FV)(L:a0d)(Q:FV→Prop):wp (lk (a0 :: a1 :: a2 :: a3 :: some v :: L) 4) Q=Q v:=propext Iff.rfl
@[scoped simp ↓ high] theorem lk_5 (a0 a1 a2 a3 a4:Option FV)(v:FV)(L:a0d)(Q:FV→Prop):wp (lk (a0 :: a1 :: a2 :: a3 :: a4 :: some v :: L) 5) Q=Q v:=propext Iff.rfl
@[scoped simp ↓ high] theorem lk_6 (a0 a1 a2 a3 a4 a5:Option FV)(v:FV)(L:a0d)(Q:FV→Prop):wp (lk (a0 :: a1 :: a2 :: a3 :: a4 :: a5 :: some v :: L) 6) Q=Q v:=propext Iff.rfl
@[scoped simp ↓ high] theorem lk_7 (a0 a1 a2 a3 a4 a5 a6:Option FV)(v:FV)(L:a0d)(Q:FV→Prop):wp (lk (a0 :: a1 :: a2 :: a3 :: a4 :: a5 :: a6 :: some v :: L) 7) Q=Q v:=propext Iff.rfl
@[scoped simp ↓ high] theorem lk_8 (a0 a1 a2 a3 a4 a5 a6 a7:Option FV)(v:FV)(L:a0d)(Q:FV→Prop):wp (lk (a0 :: a1 :: a2 :: a3 :: a4 :: a5 :: a6 :: a7 :: some v :: L) 8) Q=Q v:=propext Iff.rfl
@[scoped simp ↓ high] theorem lk_9 (a0 a1 a2 a3 a4 a5 a6 a7 a8:Option FV)(v:FV)(L:a0d)(Q:FV→Prop):wp (lk (a0 :: a1 :: a2 :: a3 :: a4 :: a5 :: a6 :: a7 :: a8 :: some v :: L) 9) Q=Q v:=propext Iff.rfl
end Kq
end
section
namespace Kq
open PySem PySem.Spec PySem.Calls PyProof.Rows L2 PySem.W
theorem c1i (h:Heap):AllIn (a3d h) h:=λp hp=>by
 obtain⟨a,_,e⟩:=List.mem_filterMap.mp hp
 obtain⟨o,e1,e2⟩:=Option.map_eq_some_iff.mp e
 rw[← e2];exact e1
theorem d2s {r:Option (Option Value)}{f:Addr}(h:isR r f=true):r=some (some (.ref f)):=by
 unfold isR at h
 split at h
 ·rw[beq_iff_eq.mp h]
 ·cases h
theorem b9c {r:Option (Option Value)}(h:d5b r=true):r=some none:=by
 unfold d5b at h
 split at h
 ·rfl
 ·cases h
theorem b2t {r:Option (Option Value)}{x:String}(h:d2u r x=true):r=some (some (.builtin x)):=by
 unfold d2u at h
 split at h
 ·rw[beq_iff_eq.mp h]
 ·cases h
theorem b0q {r:Option Value}{f:Addr}(h:mgR r f=true):r=some (.ref f):=by
 unfold mgR at h
 split at h
 ·rw[beq_iff_eq.mp h]
 ·cases h
structure CF (K:Frag)(mg:Str→Option Value)(c:CSp):Prop where
 x:c.x K mg=true
 mg:mg c.c=some (.ref c.a)
 cl:Cls K c.a
 fl:∀ f∈c.fl,NoAttr K c.a f
 ms:∀ m∈c.ms,findIn K (.ref c.a) m.1=some (some (.ref m.2))∧isFn K (.ref m.2)=true∧keepIn K (.ref m.2)=true∧fnB K m.2=true
 mks:makesIn K c.a=true
 kp:keepIn K (.ref c.a)=true
theorem CF.of {K:Frag}{mg:Str→Option Value}{c:CSp}(h:cB K mg c=true):CF K mg c:=by
 obtain⟨h1,h⟩:=b2 h
 obtain⟨h2,h⟩:=b2 h
 obtain⟨h3,h⟩:=b2 h
 obtain⟨h4,h⟩:=b2 h
 obtain⟨h5,h⟩:=b2 h
 obtain⟨h6,h⟩:=b2 h
 obtain⟨h7,h⟩:=b2 h
 obtain⟨h8,h⟩:=b2 h
 obtain⟨h9,h10⟩:=b2 h
 refine⟨h10,b0q h1,⟨h2,h3,h4,b2t h5⟩,λf hf=>b9c (List.all_eq_true.mp h6 f hf),λm hm=>?_,h8,h9⟩
 obtain⟨g1,g⟩:=b2 (List.all_eq_true.mp h7 m hm)
 obtain⟨g2,g⟩:=b2 g
 obtain⟨g3,g4⟩:=b2 g
 exact⟨d2s g1,g2,g3,g4⟩
def VF (K:Frag)(p:Vw):Prop:=∃ fd,Fun K p.m p.q p.st p.f fd
def YPC (vw:List Vw)(w:World)(h:Heap):Prop:=∀ p∈vw,∃ o,h.get? p.f=some o∧d0b o=some p.due
theorem YPC.of {vw:List Vw}{w:World}{s:Shared}(h:YfC vw s=YaC vw):YPC vw w s.heap:=λp hp=>by
 obtain⟨i,hi,e⟩:=List.mem_iff_getElem.mp hp
 have:=congrArg (·[i]?) h
 simp only[YfC,YaC,List.getElem?_map,List.getElem?_eq_getElem hi,e,Option.map_some] at this
 exact Option.bind_eq_some_iff.mp (Option.some.inj this)
theorem YPC.keeps {vw:List Vw}{w:World}{h h':Heap}(y:YPC vw w h)(k:∀ (b:Addr)(o:Obj),h.get? b=some o→h'.get? b=some o):YPC vw w h':=λp hp=>let ⟨o,e1,e2⟩:=y p hp;⟨o,k _ _ e1,e2⟩
theorem VF.of {vw:List Vw}{w:World}{h:Heap}{K:Frag}(A:AllIn K h)(y:YPC vw w h){p:Vw}(hp:p∈vw)(kp:keepIn K (.ref p.f)=true)(fb:fnB K p.f=true):VF K p:=by
 obtain⟨o,e1,e2⟩:=y p hp
 unfold fnB at fb
 split at fb
 ·rename_i oc od fd osl lk
  have:=A _ (a2j lk)
  rw[e1] at this
  cases this
  have e3:c1l fd=p.due:=Option.some.inj e2
  obtain⟨f1,f2,f3,f4,f5,f6,f7,f8,f9,f10,f11,f12,f13,f14,f15⟩:=fd
  simp only[c1l,Vw.due,fnOf,Prod.mk.injEq] at e3
  obtain⟨rfl,rfl,rfl,rfl,rfl,rfl,rfl,rfl,rfl⟩:=e3
  exact⟨_,c5n lk fb kp⟩
 ·cases fb
def XPC (q:Program)(cs:List CSp)(mg:Str→Option Value)(h:Heap):Prop:=XL q [] mg h∧∃ K,AllIn K h∧allB cs ((recsOf q).map (·.name)) K mg=true
theorem XPC.of {q:Program}{cs:List CSp}(s:Shared)(h:XtC q cs s=true):XPC q cs (s.heap.nsMap mainGlobals) s.heap:=⟨xl_of s (b2 h).1,_,c1i _,(b2 h).2⟩
theorem XPC.keeps {q:Program}{cs:List CSp}(mg:Str→Option Value)(h h':Heap)(x:XPC q cs mg h)(k:∀ (b:Addr)(o:Obj),h.get? b=some o→h'.get? b=some o):XPC q cs mg h':=let ⟨x1,K,x2,x3⟩:=x;⟨XL.keeps mg h h' x1 k,K,λp hp=>k _ _ (x2 p hp),x3⟩
theorem DIn.in {q:Program}{loose:List Str}{mean:ExcName→Option Value}{mg mb:Str→Option Value}{h:Heap}{K:Frag}(T:Top q loose mean mg mb h)(A:AllIn K h){d:DefRec}(hd:d∈recsOf q)(b:dB K mg d.name=true):DIn K mg d:=by
 obtain⟨a,o,pm,cd,doc,g1,g2,g3,c,oc,vs,t,g4,g5,g6⟩:=T.fn d hd
 unfold dB at b
 rw[g1] at b
 dsimp only at b
 split at b
 ·rename_i x1 x2 fd x3 lk
  have:=A _ (a2j lk)
  rw[g2] at this
  cases this
  cases g3
  rw[g4] at b
  obtain⟨u,hu⟩:=Option.isSome_iff_exists.mp b
  have h2:=A _ (a2j hu)
  rw[g5] at h2
  cases h2
  exact⟨a,_,pm,cd,doc,g1,a2j lk,rfl,c,_,vs,t,g4,a2j hu,g6⟩
 ·cases b
theorem walkC {l:OpenLaw}{n k:Nat}{q:Program}{cs:List CSp}{vw:List Vw}{d:DefRec}{ds:List DefRec}{x:Str}{sp:Frag→Sp}
  (hn:l.most=some n)(hn2:n≤sizeLine)(hdf:d.params.defaults=[])(hr:Room k callerA)(hds:ds=recsOf q)(hfree:(bltNames.all λb=>freeIn q (looseW q []) (Γe b))=true)(hvw:(vw.all λp=>cs.any λc=>c.ms.any λm=>m.2 == p.f)=true)
  (F:∀ (w:World)(K:Frag)(mg:Str→Option Value)(fa:Addr)(h:Heap),AllIn K h→(∀ d∈ds,DIn K mg d)→(∀ c∈cs,CF K mg c)→(∀ p∈vw,VF K p)→(∀ b∈bltNames,mg (Γe b)=none)→mg d.name=some (.ref fa) →
   ∃ fd:FuncData,(∀ (s:Shared)(u:Value),BindsTo s fd ⟨[u],[]⟩ [(x,u)])∧∀ base:Heap,FnOk l.prog w K mg base CX0 k fa fd [x] (sp K))
  (hsp:∀ (K:Frag)(H:Hp)(a:Addr)(ns:List Int),ns.length≤n→d6m H→SqL K H a (ns.map V.int)→sp K [.ref a] H (λv _=>v=.bl true) λ_ _ _=>False) :
  WalkO q [] (XPC q cs) (YPC vw) l.row.toRowW d [] (λf vs=>PySem.call f vs):=by
 refine Att.attach_call hn hdf λw s₀ s₁ mg mb fa o pm cd doc a vs ns G Y ho hd hcd hmg hobj hints hlen hg=>?_
 obtain⟨_,K,hK,hB⟩:=G.X
 have hB:=b2 hB
 have hC:∀ c∈cs,CF K mg c:=λc hc=>CF.of (List.all_eq_true.mp hB.2 c hc)
 have hD:∀ d∈ds,DIn K mg d:=λd hd=>DIn.in G.T hK (hds ▸ hd) (List.all_eq_true.mp hB.1 _ (List.mem_map.mpr ⟨d,hds ▸ hd,rfl⟩))
 have hV:∀ p∈vw,VF K p:=λp hp=>by
  obtain⟨c,hc,z⟩:=List.any_eq_true.mp (List.all_eq_true.mp hvw p hp)
  obtain⟨m,hm,z⟩:=List.any_eq_true.mp z
  have z:=beq_iff_eq.mp z
  obtain⟨_,_,g3,g4⟩:=(hC c hc).ms m hm
  exact VF.of hK Y hp (z ▸ g3) (z ▸ g4)
 obtain⟨fd,hb,hF⟩:=F w K mg fa _ hK hD hC hV (λb hb=>c8s G.T (List.all_eq_true.mp hfree b hb)) hmg
 exact c3d hK.to G.T.g G.T.b G.T.builtins G.T.nolimit hg hobj hints (Nat.le_trans hlen hn2) hr (λbase _ _=>hF base) hb (λH hO hS=>hsp K H a ns hlen hO hS) λH e s' z=>z
theorem row_holdsC {l:OpenLaw}{q:Program}{cs:List CSp}{vw:List Vw}{d:DefRec}{N:Nat}(said:l.wellSaid=true)(left:LeftO l.prog q [] (λs=>XtC q cs s && recOk (RowW.records l.row.toRowW) s) (YfC vw) (λ_=>YaC vw) N)
  (hdef:defOf q l.name=some (d,[]))(hp:l.prog.theDef l.name=some (d.params,d.body,d.scope))(hk:kwWritten? d.params.kwonlyargs d.params.kw_defaults=some [])(hwr:(!l.writes || l.row.records.isEmpty)=true)
  (ok:(chainsOk q && opensWell l.prog && (frees l.row.toRowW && l.row.within.isEmpty))=true)(hb:l.prog.bare)(hw:l.row.toRowW.promised)
  (call:WalkO q [] (XPC q cs) (YPC vw) l.row.toRowW d [] λf vs=>PySem.call f vs):l.Holds :=
 holds_law said λk1=>holds_open (r:=l.row) left (λw s h=>YPC.of h) (λw h h' y k=>y.keeps k) (λs e=>XPC.of s (Bool.and_eq_true_iff.mp e).1) XPC.keeps hdef hp hk (λs e=>recFacts_of (Bool.and_eq_true_iff.mp e).2) hwr k1 ok hb hw call
end Kq
end
section
namespace Kq
open PySem PySem.Spec PyProof.Rows L2
def opn (H:Hp)(a C dx:Addr)(fs:List (Str×V))(gs:List (Addr×List V)):Hp:=λb=>if b=a then some (.ins C dx fs) else match gs.lookup b with
 | some ys=>some (.lst ys)
 | none=>H b
structure Big (H:Hp)(a C dx:Addr)(fs:List (Str×V))(gs:List (Addr×List V)):Prop where
 at_:H a=some (.big C dx fs gs)
 dxo:H dx=some (.own a)
 gso:∀ g∈gs,H g.1=some (.own a)
 nd:(a :: dx :: gs.map (·.1)).Nodup
theorem b2r {l:Addr}{ys:List V}:∀ {gs:List (Addr×List V)},(gs.map (·.1)).Nodup→(l,ys)∈gs→gs.lookup l=some ys
 | [],_,h=>absurd h List.not_mem_nil
 | (b,zs) :: gs,nd,h=>by
  obtain⟨n1,n2⟩:=List.nodup_cons.mp nd
  rw[List.lookup_cons]
  rcases List.mem_cons.mp h with z|z
  ·cases z;simp
  ·have:l≠b:=λy=>n1 (List.mem_map.mpr ⟨_,z,y⟩)
   rw[beq_eq_false_iff_ne.mpr this]
   exact b2r n2 z
theorem a1x {l:Addr}{ys:List V}:∀ {gs:List (Addr×List V)},gs.lookup l=some ys→(l,ys)∈gs
 | [],h=>by simp at h
 | (b,zs) :: gs,h=>by
  rw[List.lookup_cons] at h
  split at h
  ·rename_i e;cases h;rw[beq_iff_eq.mp e];exact Γn
  ·exact Γh _ (a1x h)
section
variable {X:Cx}{pins:List (Addr×Obj)}{σ:L2.St}{H:Hp}{s:Shared}{a C dx:Addr}{fs:List (Str×V)}{gs:List (Addr×List V)}
theorem a4s (I:Inv X pins σ H s)(h:H a=some (.big C dx fs gs)):Big H a C dx fs gs:=by
 obtain⟨d,gg,nd,_⟩:=(show ObjOk X.prog X.w H s.heap a (.big C dx fs gs) from I.hok a _ h)
 exact⟨h,d,gg,nd⟩
theorem a5g:opn H a C dx fs gs a=some (.ins C dx fs):=if_pos rfl
theorem Big.ndg (B:Big H a C dx fs gs):(gs.map (·.1)).Nodup:=(List.nodup_cons.mp (List.nodup_cons.mp B.nd).2).2
theorem Big.ne (B:Big H a C dx fs gs){g:Addr×List V}(hg:g∈gs):g.1≠a:=λz=>(List.nodup_cons.mp B.nd).1 (Γh _ (List.mem_map.mpr ⟨g,hg,z⟩))
theorem Big.opl (B:Big H a C dx fs gs){l:Addr}{ys:List V}(hg:(l,ys)∈gs):opn H a C dx fs gs l=some (.lst ys):=by
 unfold opn
 rw[if_neg (B.ne hg),b2r B.ndg hg]
theorem d8s {b:Addr}(h:b≠a)(hg:gs.lookup b=none):opn H a C dx fs gs b=H b:=by
 unfold opn
 rw[if_neg h,hg]
theorem a1p (B:Big H a C dx fs gs)(b:Addr):b=a ∨ (∃ ys,(b,ys)∈gs∧opn H a C dx fs gs b=some (.lst ys)∧H b=some (.own a)) ∨ (b≠a∧gs.lookup b=none∧opn H a C dx fs gs b=H b):=by
 by_cases h:b=a
 ·exact .inl h
 ·cases e:gs.lookup b with
  | none=>exact .inr (.inr ⟨h,rfl,d8s h e⟩)
  | some ys=>have m:=a1x e;exact .inr (.inl ⟨ys,m,B.opl m,B.gso _ m⟩)
theorem Big.dxn (B:Big H a C dx fs gs):opn H a C dx fs gs dx=some (.own a):=by
 have n:=List.nodup_cons.mp (List.nodup_cons.mp B.nd).2
 have h1:dx≠a:=λz=>(List.nodup_cons.mp B.nd).1 (by rw[z];exact Γn)
 rcases a1p B dx with z|⟨ys,m,_⟩|⟨_,_,e⟩
 ·exact absurd z h1
 ·exact absurd (List.mem_map.mpr ⟨_,m,rfl⟩) n.1
 ·rw[e];exact B.dxo
theorem a2g (I:Inv X pins σ H s)(h:H a=some (.big C dx fs gs)):Inv X pins σ (opn H a C dx fs gs) s:=by
 have B:=a4s I h
 obtain⟨d,gg,nd,z,e,mm,ls⟩:=(show ObjOk X.prog X.w H s.heap a (.big C dx fs gs) from I.hok a _ h)
 have same:∀ {b:Addr}{u:HO},H b=some u→(∀ x,u≠.own x)→u≠.big C dx fs gs→opn H a C dx fs gs b=some u:=λ{b u} e1 n1 n2=>by
  rcases a1p B b with z|⟨ys,m,_,e2⟩|⟨_,_,e2⟩
  ·rw[z,h] at e1;cases e1;exact absurd rfl n2
  ·rw[e2] at e1;cases e1;exact absurd rfl (n1 a)
  ·rw[e2];exact e1
 refine I.un (t':=s.toks) (h':=s.heap) ⟨λb o' e _ _ _=>e,λb o' e _ _ _=>⟨o'.slots,e⟩,λb o' e n _=>?_,λb o' e _=>⟨o',e⟩,λb xs e=>same e (λ_ z=>nomatch z) (λz=>nomatch z),λb o' u e=>same e (λ_ z=>nomatch z) (λz=>nomatch z),λb ps e=>⟨#[],by rw[Array.append_empty];exact same e (λ_ z=>nomatch z) (λz=>nomatch z)⟩⟩ λb u e1=>?_
 ·rcases a1p B b with z|⟨ys,m,_,e2⟩|⟨_,_,e2⟩
  ·rw[z,h] at n;cases n
  ·rw[e2] at n;cases n
  ·rw[e2];exact n
 ·rcases a1p B b with rfl|⟨ys,m,e2,_⟩|⟨h1,h2,e2⟩
  ·rw[a5g] at e1;cases e1
   exact⟨B.dxn,z,(λy=>(List.nodup_cons.mp nd).1 (by rw[y];exact Γn)),e,mm⟩
  ·rw[e2] at e1;cases e1
   exact ls _ m
  ·rw[e2] at e1
   refine (I.hok b u e1).stay (λ_ _ _ q=>q) (λc e3=>?_) λc xs e3=>same e3 (λ_ z=>nomatch z) (λz=>nomatch z)
   rcases a1p B c with rfl|⟨ys,m,_,e4⟩|⟨_,_,e4⟩
   ·rw[h] at e3;cases e3
   ·rw[e4] at e3;cases e3;exact absurd rfl h1
   ·rw[e4];exact e3
theorem a3z (I:Inv X pins σ (opn H a C dx fs gs) s)(B:Big H a C dx fs gs):Inv X pins σ H s:=by
 have same:∀ {b:Addr}{u:HO},opn H a C dx fs gs b=some u→(∀ ys,u≠.lst ys)→u≠.ins C dx fs→H b=some u:=λ{b u} e1 n1 n2=>by
  rcases a1p B b with rfl|⟨ys,m,e2,_⟩|⟨_,_,e2⟩
  ·rw[a5g] at e1;cases e1;exact absurd rfl n2
  ·rw[e2] at e1;cases e1;exact absurd rfl (n1 ys)
  ·rw[← e2];exact e1
 refine I.un (t':=s.toks) (h':=s.heap) ⟨λb o' e _ _ _=>e,λb o' e _ _ _=>⟨o'.slots,e⟩,λb o' e n _=>?_,λb o' e _=>⟨o',e⟩,λb xs e=>same e (λ_ z=>nomatch z) (λz=>nomatch z),λb o' u e=>same e (λ_ z=>nomatch z) (λz=>nomatch z),λb ps e=>⟨#[],by rw[Array.append_empty];exact same e (λ_ z=>nomatch z) (λz=>nomatch z)⟩⟩ λb u e1=>?_
 ·rcases a1p B b with rfl|⟨ys,m,e2,_⟩|⟨_,_,e2⟩
  ·rw[a5g] at n;cases n
  ·rw[e2] at n;cases n
  ·rw[← e2];exact n
 ·rcases a1p B b with rfl|⟨ys,m,e2,e3⟩|⟨h1,h2,e2⟩
  ·rw[B.at_] at e1;cases e1
   obtain⟨_,z,_,e,mm⟩:=(show ObjOk X.prog X.w (opn H b C dx fs gs) s.heap b (.ins C dx fs) from I.hok b _ a5g)
   exact⟨B.dxo,B.gso,B.nd,z,e,mm,λg hg=>(show ObjOk X.prog X.w (opn H b C dx fs gs) s.heap g.1 (.lst g.2) from I.hok g.1 _ (B.opl (ys:=g.2) hg))⟩
  ·rw[e3] at e1;cases e1
   obtain⟨_,its,n,_,e⟩:=(show ObjOk X.prog X.w (opn H a C dx fs gs) s.heap b (.lst ys) from I.hok b _ e2)
   exact⟨_,e⟩
  ·refine (I.hok b u (by rw[e2];exact e1)).stay (λ_ _ _ q=>q) (λc e3=>same e3 (λ_ z=>nomatch z) (λz=>nomatch z)) λc xs e3=>same e3 (λ_ z=>nomatch z) (λz=>nomatch z)
theorem b8f (B:Big H a C dx fs gs){p:Addr}(o:HO)(hp:H p=none):upd (opn H a C dx fs gs) p o=opn (upd H p o) a C dx fs gs∧Big (upd H p o) a C dx fs gs:=by
 have n:∀ {b u},H b=some u→b≠p:=λe z=>by rw[z,hp] at e;cases e
 refine⟨?_,by rw[a0c (n B.at_)];exact B.at_,by rw[a0c (n B.dxo)];exact B.dxo,λg hg=>by rw[a0c (n (B.gso g hg))];exact B.gso g hg,B.nd⟩
 funext b
 unfold opn
 by_cases h:b=a
 ·rw[a0c (by rw[h];exact n B.at_),if_pos h,if_pos h]
 ·rw[if_neg h]
  cases e:gs.lookup b with
  | none =>
   by_cases z:b=p
   ·rw[z,a0e,a0e]
   ·rw[a0c z,a0c z,if_neg h,e]
  | some ys=>rw[a0c (n (B.gso _ (a1x e))),if_neg h,e]
def b1s (gs:List (Addr×List V))(l:Addr)(ys:List V):List (Addr×List V):=gs.map λg=>if g.1=l then (l,ys) else g
theorem a8w (l:Addr)(ys:List V):∀ gs:List (Addr×List V),(b1s gs l ys).map (·.1)=gs.map (·.1)
 | []=>rfl
 | g :: gs=>by
  show (if g.1=l then (l,ys) else g).1 :: (b1s gs l ys).map (·.1)=_
  rw[a8w l ys gs]
  split
  ·rename_i e;rw[List.map_cons,e]
  ·rfl
theorem a6a (l:Addr)(ys:List V)(b:Addr):∀ gs:List (Addr×List V),(b1s gs l ys).lookup b=if b=l then (gs.lookup b).map λ_=>ys else gs.lookup b
 | []=>by simp[b1s]
 | g :: gs=>by
  show List.lookup b ((if g.1=l then (l,ys) else g) :: b1s gs l ys)=_
  obtain⟨g1,g2⟩:=g
  by_cases e:g1=l
  ·subst e
   rw[if_pos rfl,List.lookup_cons,List.lookup_cons,a6a]
   by_cases h:b=g1
   ·subst h;simp
   ·rw[beq_eq_false_iff_ne.mpr h]
  ·rw[if_neg e,List.lookup_cons,List.lookup_cons,a6a]
   by_cases h:b=g1
   ·subst h;simp[e]
   ·rw[beq_eq_false_iff_ne.mpr h]
theorem c7o (B:Big H a C dx fs gs){l:Addr}{zs:List V}(ys:List V)(hl:(l,zs)∈gs):upd (opn H a C dx fs gs) l (.lst ys)=opn (upd H a (.big C dx fs (b1s gs l ys))) a C dx fs (b1s gs l ys)∧Big (upd H a (.big C dx fs (b1s gs l ys))) a C dx fs (b1s gs l ys):=by
 have na:=B.ne hl
 have nn:∀ {b u},H b=some u→(∀ x y z w,u≠.big x y z w)→b≠a:=λe n z=>by rw[z,B.at_] at e;exact n _ _ _ _ (Option.some.inj e).symm
 refine⟨?_,a0e,by rw[a0c (nn B.dxo (λ_ _ _ _ z=>nomatch z))];exact B.dxo,λg hg=>?_,by rw[a8w];exact B.nd⟩
 ·funext b
  unfold opn
  rw[a6a]
  by_cases h:b=a
  ·rw[a0c (by rw[h];exact Ne.symm na),if_pos h,if_pos h]
  ·rw[if_neg h,a0c h]
   by_cases z:b=l
   ·subst z;rw[a0e,if_pos rfl,b2r B.ndg hl];rfl
   ·rw[a0c z,if_neg h,if_neg z]
 ·have:g.1∈gs.map (·.1):=by rw[← a8w l ys];exact List.mem_map.mpr ⟨g,hg,rfl⟩
  obtain⟨g',hg',e⟩:=List.mem_map.mp this
  rw[← e,a0c (B.ne hg')];exact B.gso g' hg'
theorem b8g (B:Big H a C dx fs gs)(fs':List (Str×V)):upd (opn H a C dx fs gs) a (.ins C dx fs')=opn (upd H a (.big C dx fs' gs)) a C dx fs' gs∧Big (upd H a (.big C dx fs' gs)) a C dx fs' gs:=by
 have nn:∀ {b u},H b=some u→(∀ x y z w,u≠.big x y z w)→b≠a:=λe n z=>by rw[z,B.at_] at e;exact n _ _ _ _ (Option.some.inj e).symm
 refine⟨?_,a0e,by rw[a0c (nn B.dxo (λ_ _ _ _ z=>nomatch z))];exact B.dxo,λg hg=>by rw[a0c (B.ne hg)];exact B.gso g hg,B.nd⟩
 funext b
 unfold opn
 by_cases h:b=a
 ·rw[h,a0e,if_pos rfl]
 ·rw[a0c h,if_neg h,if_neg h,a0c h]
theorem c7p (B:Big H a C dx fs gs){p:Addr}(hp:H p=none)(fs':List (Str×V))(ys:List V):upd (upd (opn H a C dx fs gs) p (.lst ys)) a (.ins C dx fs')=opn (upd (upd H p (.own a)) a (.big C dx fs' ((p,ys) :: gs))) a C dx fs' ((p,ys) :: gs)∧Big (upd (upd H p (.own a)) a (.big C dx fs' ((p,ys) :: gs))) a C dx fs' ((p,ys) :: gs):=by
 have n:∀ {b u},H b=some u→b≠p:=λe z=>by rw[z,hp] at e;cases e
 have nn:∀ {b u},H b=some u→(∀ x y z w,u≠.big x y z w)→b≠a:=λe n z=>by rw[z,B.at_] at e;exact n _ _ _ _ (Option.some.inj e).symm
 have pa:p≠a:=Ne.symm (n B.at_)
 refine⟨?_,a0e,by rw[a0c (nn B.dxo (λ_ _ _ _ z=>nomatch z)),a0c (n B.dxo)];exact B.dxo,λg hg=>?_,?_⟩
 ·funext b
  unfold opn
  by_cases h:b=a
  ·rw[h,a0e,if_pos rfl]
  ·rw[a0c h,if_neg h,a0c h,List.lookup_cons]
   by_cases z:b=p
   ·subst z;rw[a0e];simp
   ·rw[a0c z,if_neg h,beq_eq_false_iff_ne.mpr z,a0c z]
 ·rcases List.mem_cons.mp hg with z|z
  ·rw[z,a0c pa];exact a0e
  ·rw[a0c (B.ne z),a0c (n (B.gso g z))];exact B.gso g z
 ·obtain⟨n1,n2⟩:=List.nodup_cons.mp B.nd
  obtain⟨n3,n4⟩:=List.nodup_cons.mp n2
  refine List.nodup_cons.mpr ⟨λz=>?_,List.nodup_cons.mpr ⟨λz=>?_,List.nodup_cons.mpr ⟨λz=>?_,n4⟩⟩⟩
  ·rcases List.mem_cons.mp z with z|z
   ·exact n1 (by rw[z];exact Γn)
   ·rcases List.mem_cons.mp z with z|z
    ·exact pa z.symm
    ·exact n1 (Γh _ z)
  ·rcases List.mem_cons.mp z with z|z
   ·exact n B.dxo z
   ·exact n3 z
  ·obtain⟨g,hg,e⟩:=List.mem_map.mp z
   exact n (B.gso g hg) e
end
def Cl (a C dx:Addr)(Q:Hp→Prop)(H2:Hp):Prop:=∃ H' fs gs,H2=opn H' a C dx fs gs∧Big H' a C dx fs gs∧Q H'
section
variable {X:Cx}{pins:List (Addr×Obj)}{σ:L2.St}{H:Hp}{s:Shared}{a Ca dx:Addr}{fs:List (Str×V)}{gs:List (Addr×List V)}
theorem d3q {Q:VK}{u:Value}{s':Shared}(h:EP X pins σ (λv H2=>Cl a Ca dx (Q v) H2) u s'):EP X pins σ Q u s':=by
 obtain⟨v,H2,I,r,H',fs,gs,rfl,B,q⟩:=h
 exact⟨v,H',a3z I B,r,q⟩
theorem d4f {f:Value}{r:List V→Hp→VK→Prop}(hc:a1k X f r):a1k X f (λxs H Q=>∃ a C dx fs gs,H a=some (.big C dx fs gs)∧(Big H a C dx fs gs→r xs (opn H a C dx fs gs) (λv H2=>Cl a C dx (Q v) H2))):=by
 rintro pins s σ H xs us Q I rv ⟨a,C,dx,fs,gs,h,q⟩
 exact thn (hc pins s σ _ xs us _ (a2g I h) rv (q (a4s I h))) λu s' h=>d3q h
variable {i:Nat}{nx:Str}{p pos:Pos}{f:Str}
theorem a4v (ho:PE X (.Name nx p) (b6a i)):PE X (.Attribute (.Name nx p) f pos) (λσ H Q=>∃ a C dx fs gs v,σ[i]?=some (some (.ref a))∧H a=some (.big C dx fs gs)∧Cls X.K C∧NoAttr X.K C f∧fs.lookup f=some v∧Q v H):=by
 rintro pins s σ H Q I ⟨a,C,dx,fs,gs,v,e1,h,c,n,l,q⟩
 refine c9j rfl (thn (ho pins s σ H (λx H1=>x=.ref a∧H1=H) I ⟨_,e1,rfl,rfl⟩) λu s1 ⟨x,H1,I1,rx,ex,eh⟩=>?_)
 subst ex;subst eh
 obtain rfl:u=Value.ref a:=rx
 exact a8b (a2g I1 h) a5g c n l λu' s2 I2 ru=>⟨v,H1,a3z I2 (a4s I1 h),ru,q⟩
theorem b7t {value:Expr}{tv:TE}{pos':Pos}(ho:PE X (.Name nx p) (b6a i))(hv:PE X value tv)(hs:swapsWith value (some (.Attribute (.Name nx p) f pos')) pos.line X.env=pure false):PS X (.Assign [.Attribute (.Name nx p) f pos'] value pos) (λD σ H=>tv σ H λy H1=>∃ a C dx fs gs,σ[i]?=some (some (.ref a))∧H1 a=some (.big C dx fs gs)∧Cls X.K C∧NoAttr X.K C f∧fs.length<1000∧(Big H1 a C dx fs gs→Cl a C dx (D.nx σ) (upd (opn H1 a C dx fs gs) a (.ins C dx (a5b f y fs))))):=by
 intro pins s σ H D I h
 refine plainObj_wpAny_Assign_Attribute (thn (hv pins s σ H _ I h) λu s1 ⟨y,H1,I1,ry,a,C,dx,fs,gs,e1,h1,c,n,l,q⟩=>thn (ho pins s1 σ H1 (λx H2=>x=.ref a∧H2=H1) I1 ⟨_,e1,rfl,rfl⟩) λov s2 ⟨x,H2,I2,rx,ex,eh⟩=>?_) hs
 subst ex;subst eh
 obtain rfl:ov=Value.ref a:=rx
 refine a7q (a2g I2 h1) a5g c n l ry λs3 I3=>?_
 obtain⟨H',fs',gs',e,B,q⟩:=q (a4s I2 h1)
 exact⟨σ,H',a3z (e ▸ I3) B,q⟩
theorem c6z {op:Operator}{rd:V→V→Hp→VK→Prop}{value:Expr}{tv:TE}{tpos:Pos}(ho:PE X (.Name nx p) (b6a i))(hv:PE X value tv)(hop:InOp X op rd):PS X (.AugAssign (.Attribute (.Name nx p) f tpos) op value pos) (λD σ H=>∃ a C dx fs gs v,σ[i]?=some (some (.ref a))∧H a=some (.big C dx fs gs)∧Cls X.K C∧NoAttr X.K C f∧fs.lookup f=some v∧tv σ H λy H2=>rd v y H2 λz H3=>∃ fs' gs',H3 a=some (.big C dx fs' gs')∧fs'.length<1000∧D.nx σ (upd H3 a (.big C dx (a5b f z fs') gs'))):=by
 rintro pins s σ H D I ⟨a,C,dx,fs,gs,v,e1,h,c,n,l,q⟩
 refine wpAny_AugAssign_AttributeAny (thn (ho pins s σ H (λx H1=>x=.ref a∧H1=H) I ⟨_,e1,rfl,rfl⟩) λov s1 ⟨x,H1,I1,rx,ex,eh⟩=>?_)
 subst ex;subst eh
 obtain rfl:ov=Value.ref a:=rx
 refine a8b (a2g I1 h) a5g c n l λu s2 I2 ru=>?_
 have I2:=a3z I2 (a4s I1 h)
 refine thn (hv pins s2 σ H1 _ I2 q) λw3 s3 ⟨y,H2,I3,ry,q3⟩=>thn (hop pins s3 σ H2 v y u w3 _ I3 ru ry q3) λw4 s4 ⟨z,H3,I4,rz,fs',gs',ea',l',q4⟩=>?_
 have B:=a4s I4 ea'
 refine a7q (a2g I4 ea') a5g c n l' rz λs5 I5=>?_
 obtain⟨e5,B5⟩:=b8g B (a5b f z fs')
 rw[e5] at I5
 exact⟨σ,_,a3z I5 B5,q4⟩
theorem d1q {o e:Expr}{es:List Expr}{to:TE}{t:TA}{name:Str}{apos cpos:Pos}{T id:String}{r:V→List V→Hp→VK→Prop}(pa:PlainAttrs T)(slot:Slot T name id)(hty:typeOf (.builtin id)=pure (.type "method_descriptor"))(hm:MtR X id r)(ho:PE X o to)(ha:PA X (e :: es) t)
  (hbase:attributeBase o name X.env (eval o X.env)=eval o X.env)
  (hfew:((backTo cpos (starEach (e :: es) X.env)).all (λx=>!x.1) && (backToKw cpos (keywordEach [] X.env)).all (λx=>x.1.isSome) && decide ((e :: es).length+([]:List Keyword).length+(if ([]:List Keyword).isEmpty then 0 else 1)<30))=true)
  (hline:(apos.endLine == cpos.line)=true)(hs:starEach (e :: es) X.env=(false,eval e X.env) :: starEach es X.env)(hplain:(backTo cpos (starEach es X.env)).any (·.1)=false) :
  PE X (.Call (.Attribute o name apos) (e :: es) [] cpos) (λσ H Q=>to σ H λx H1=>(∃ a C dx fs gs,H1 a=some (.big C dx fs gs)∧(Big H1 a C dx fs gs→tyV X.K T x (opn H1 a C dx fs gs)))∧t σ H1 λxs H2=>∃ a C dx fs gs,H2 a=some (.big C dx fs gs)∧(Big H2 a C dx fs gs→r x xs (opn H2 a C dx fs gs) λv H3=>Cl a C dx (Q v) H3)):=by
 intro pins s σ H Q I h
 refine wpAny_Call_method_late hbase hfew hline rfl (thn (ho pins s σ H _ I h) λv s1 ⟨x,H1,I1,r1,⟨a,C,dx,fs,gs,h1,ty⟩,q1⟩=>?_)
 obtain⟨t1,t2⟩:=c4p (a2g I1 h1) r1 (ty (a4s I1 h1))
 refine⟨T,id,pa,slot,hty,t1,t2,?_⟩
 have hA:=ha cpos pins s1 σ H1 _ I1 q1
 rw[hs] at hA ⊢
 refine Calls.callWith_builtin (by show (false || (backTo cpos (starEach es X.env)).any (·.1))=false;rw[hplain]<;>rfl) (Calls.evalArgs_plain ?_)
 exact thn hA λus s2 ⟨vs,H2,I2,r2,a,C,dx,fs,gs,h2,q2⟩=>thn (hm pins s2 σ _ x vs v us _ (a2g I2 h2) r1 r2 (q2 (a4s I2 h2))) λu s' h=>d3q h
variable {CX:CXT}{k:Nat}{g:Addr}{fd:FuncData}{ps:List Str}{sp:Sp}{m:Str}{apos:Pos}{e:Expr}{es:List Expr}{t:TA}{E:XK}
theorem c2l {pl:Sem Bool}(ho:PE X (.Name nx p) (b6a i))(c:Cls X.K Ca)(hm:Meth X.K Ca m g)(F:FnOk X.prog X.w X.K X.mg X.base CX k g fd ps sp)(hr:Room k X.A)(hb:Binds X.K fd ps [])(hx:a5f CX X E)(ha:PA X (e :: es) t)
  (hst:starEach (e :: es) X.env=(false,eval e X.env) :: starEach es X.env)(hpl:(backTo pos (starEach es X.env)).any (·.1)=false)
  (ht:eval (.Call (.Attribute (.Name nx p) m apos) (e :: es) [] pos) X.env=(do
   let ov ← eval (.Name nx p) X.env
   standAt apos.atName
   let (f,first) ← holding [ov] (getMethod ov m pl)
   callWith pos f first (backTo pos (starEach (e :: es) X.env)) (backToKw pos (keywordEach [] X.env)))) :
  PE X (.Call (.Attribute (.Name nx p) m apos) (e :: es) [] pos) (λσ H Q=>∃ a dx fs gs,σ[i]?=some (some (.ref a))∧H a=some (.big Ca dx fs gs)∧fs.lookup m=none∧t σ H λvs H2=>sp (.ref a :: vs) H2 Q E):=by
 rintro pins s σ H Q I ⟨a,dx,fs,gs,e1,h,l,q⟩
 refine PySem.W.methodCall_KW (pl:=pl) (thn (ho pins s σ H (λx H1=>x=.ref a∧H1=H) I ⟨_,e1,rfl,rfl⟩) λu s1 ⟨x,H1,I1,rx,ex,eh⟩=>?_) ht
 subst ex;subst eh
 obtain rfl:u=Value.ref a:=rx
 refine a4y (a2g I1 h) a5g c hm l ?_
 refine PySem.W.callWith_K (first:=[.ref a]) (h₀:=X.base) I1.ok.mod.kin hm.kp (thn (ha pos pins s1 σ H1 _ I1 q) λus s2 ⟨vs,H2,I2,r,q2⟩=>⟨I2.kIn,?_⟩) hst hpl
 exact b3g (us:=.ref a :: us) (vs:=.ref a :: vs) F hr hb .nil hx I2 (.cons rfl r) (by rw[List.append_nil];exact q2)
theorem b7y {pl:Sem Bool}(ho:PE X (.Name nx p) (b6a i))(c:Cls X.K Ca)(hm:Meth X.K Ca m g)(F:FnOk X.prog X.w X.K X.mg X.base CX k g fd ps sp)(hr:Room k X.A)(hb:Binds X.K fd ps [])(hx:a5f CX X E)
  (ht:eval (.Call (.Attribute (.Name nx p) m apos) [] [] pos) X.env=(do
   let ov ← eval (.Name nx p) X.env
   standAt apos.atName
   let (f,first) ← holding [ov] (getMethod ov m pl)
   callWith pos f first (backTo pos (starEach [] X.env)) (backToKw pos (keywordEach [] X.env)))) :
  PE X (.Call (.Attribute (.Name nx p) m apos) [] [] pos) (λσ H Q=>∃ a dx fs gs,σ[i]?=some (some (.ref a))∧H a=some (.big Ca dx fs gs)∧fs.lookup m=none∧sp [.ref a] H Q E):=by
 rintro pins s σ H Q I ⟨a,dx,fs,gs,e1,h,l,q⟩
 refine PySem.W.methodCall_KW (pl:=pl) (thn (ho pins s σ H (λx H1=>x=.ref a∧H1=H) I ⟨_,e1,rfl,rfl⟩) λu s1 ⟨x,H1,I1,rx,ex,eh⟩=>?_) ht
 subst ex;subst eh
 obtain rfl:u=Value.ref a:=rx
 refine a4y (a2g I1 h) a5g c hm l ?_
 exact PySem.W.callWith_K0 (first:=[.ref a]) I1.kIn hm.kp (b3g (us:=[.ref a]) (vs:=[.ref a]) F hr hb .nil hx I1 (.cons rfl .nil) q)
theorem b7c {Q:VK}{us:List Value}{vs:List V}(M:Mk X.K Ca g)(F:FnOk X.prog X.w X.K X.mg X.base CX k g fd ps sp)(hr:RoomS k X.A)(hb:Binds X.K fd ps [])(hx:a5f CX X E)(I:Inv X pins σ H s)(r:Vals vs us)
  (h:∀ x dx,H x=none→H dx=none→dx≠x→sp (.ref x :: vs) (upd (upd H dx (.own x)) x (.big Ca dx [] [])) (λv H2=>v=.non∧Q (.ref x) H2) E) :
  wpAny (model X.prog X.w) X.A (call (.ref Ca) us) (EP X pins σ Q) X.xe s:=by
 have f1:=I.hok.fresh (Nat.le_succ _)
 have f2:=I.hok.fresh (Γi _)
 have ne:s.heap.objs.size≠s.heap.objs.size+1:=Γo (Nat.lt_succ_self _)
 have hq:=h (s.heap.objs.size+1) s.heap.objs.size f1 f2 ne
 have B:Big (upd (upd H s.heap.objs.size (.own (s.heap.objs.size+1))) (s.heap.objs.size+1) (.big Ca s.heap.objs.size [] [])) (s.heap.objs.size+1) Ca s.heap.objs.size [] []:=⟨a0e,by rw[a0c ne,a0e],λg hg=>absurd hg List.not_mem_nil,by simp⟩
 have I2:=Inv.made (C:=Ca) I
 have e0:upd (upd H s.heap.objs.size (.own (s.heap.objs.size+1))) (s.heap.objs.size+1) (.ins Ca s.heap.objs.size [])=opn (upd (upd H s.heap.objs.size (.own (s.heap.objs.size+1))) (s.heap.objs.size+1) (.big Ca s.heap.objs.size [] [])) (s.heap.objs.size+1) Ca s.heap.objs.size [] []:=by
  funext b
  unfold opn
  by_cases z:b=s.heap.objs.size+1
  ·rw[z,a0e,if_pos rfl]
  ·rw[a0c z,if_neg z,a0c z];rfl
 rw[e0] at I2
 have I2:=a3z I2 B
 have r2:Vals (V.ref (s.heap.objs.size+1) :: vs) (Value.ref (s.heap.objs.size+1) :: us):=.cons rfl r
 have hl:(Value.ref (s.heap.objs.size+1) :: us++[]).length=ps.length:=by
  have e:=r2.length
  rw[F.len _ _ _ _ hq] at e
  rw[List.append_nil];exact e.symm
 have hbb:=hb _ (Value.ref (s.heap.objs.size+1) :: us) I2.kIn hl
 rw[List.append_nil] at hbb
 refine wpAny_call (c2x (f:=g) I.kIn M.makes M.init (beq_iff_eq.mp M.fn) (codeAny_mono (F.run _ X.stack _ _ ⟨Value.ref (s.heap.objs.size+1) :: us,[]⟩ (Value.ref (s.heap.objs.size+1) :: us) _ _ E (hr.make Ca us [])
  (I2.env0.make Ca us []) hbb r2 hq) λr s' hq'=>?_))
 cases r with
 | error e=>exact hx pins σ _ _ e s' I2 hq'
 | ok fl =>
  cases fl with
  | ret u =>
   obtain⟨v,H',I3,rv,ev,q3⟩:=I2.after hq'
   subst ev
   exact⟨rv,⟨V.ref (s.heap.objs.size+1),H',I3,rfl,q3⟩⟩
  | next=>exact False.elim hq'
  | brk=>exact False.elim hq'
  | cont=>exact False.elim hq'
variable {x:Str}
theorem b7z (M:Mk X.K Ca g)(F:FnOk X.prog X.w X.K X.mg X.base CX k g fd ps sp)(hr:RoomS k X.A)(hg:Gl X x)(hm:X.mg x=some (.ref Ca))(hb:Binds X.K fd ps [])(hx:a5f CX X E)
  (hdb:(x == ("__debug__":Str))=false) :
  PE X (.Call (.Name x p) [] [] pos) (λσ H Q=>∀ x dx,H x=none→H dx=none→dx≠x→sp [.ref x] (upd (upd H dx (.own x)) x (.big Ca dx [] [])) (λv H2=>v=.non∧Q (.ref x) H2) E):=by
 intro pins s σ H Q I h
 refine wpAny_Call_Name_kw (a4w I hg hm ?_ hdb)
 exact PySem.W.callWith_K0 I.kIn M.kp (b7c (us:=[]) M F hr hb hx I .nil h)
end
def vF:V→Option FV
 | .int i=>some (.int i)
 | .non=>some .non
 | _=>none
def vI:FV→Option V
 | .int i=>some (.int i)
 | .non=>some .non
 | _=>none
def d3f (Ca:Addr)(f:Str):FV→Option FV
 | .obj C _ fs _=>if C=Ca then (fs.lookup f).bind vF else none
 | _=>none
def lsA (fs:List (Str×V))(gs:List (Addr×List V))(f:Str):Option (Addr×List V):=match fs.lookup f with
 | some (.ref l)=>(gs.lookup l).map λys=>(l,ys)
 | _=>none
def lsF (Ca:Addr)(f:Str):FV→Option (List FV)
 | .obj C _ fs gs=>if C=Ca then (lsA fs gs f).bind λp=>a4m vF p.2 else none
 | _=>none
def c9z (Ca:Addr)(f:Str)(u:V):FV→Option FV
 | .obj C dx fs gs=>if C=Ca then (lsA fs gs f).bind λp=>if p.2.length<big then some (.obj C dx fs (b1s gs p.1 (p.2++[u]))) else none else none
 | _=>none
def setO (Ca:Addr)(f:Str) (k:Int)(u:V):FV→Option FV
 | .obj C dx fs gs=>if C=Ca then (lsA fs gs f).bind λp=>(ixN p.2.length k).map λj=>.obj C dx fs (b1s gs p.1 (p.2.set j u)) else none
 | _=>none
def c6t (Ca:Addr)(f:Str)(u:V):FV→Option FV
 | .obj C dx fs gs=>if C=Ca∧fs.length<1000 then some (.obj C dx (a5b f u fs) gs) else none
 | _=>none
def e2f (i:Nat)(Ca:Addr)(f:Str):EW:=λL Q=>wp (lk L i) λo=>wp (d3f Ca f o) λz=>Q z L
def b1d (i:Nat)(Ca:Addr)(f:Str)(F:FV→Option FV):EW:=λL Q=>wp (lk L i) λo=>wp (lsF Ca f o) λxs=>wp (F (.lst xs)) λz=>(∀ ps,z≠.lst ps)∧Q z L
def a6p (i:Nat)(Ca:Addr)(f:Str)(e:EW):EW:=λL Q=>wp (lk L i) λo=>wp (lsF Ca f o) λ_=>e L λv L1=>wp (vI v) λu=>wp (lk L1 i) λo1=>o1=o∧wp (c9z Ca f u o1) λo2=>Q .non (L1.set i (some o2))
def d7n (i:Nat)(Ca:Addr)(f:Str)(ek ev:EW):SW:=λL Q=>wp (lk L i) λo=>ev L λv L1=>wp (vI v) λu=>wp (lk L1 i) λo1=>o1=o∧wp (lsF Ca f o1) λ_=>ek L1 λw L2=>wp (a2n w) λk=>wp (lk L2 i) λo2=>o2=o∧wp (setO Ca f k u o2) λo3=>Q .next (L2.set i (some o3))
def a8s (i:Nat)(Ca:Addr)(f:Str)(e:EW):SW:=λL Q=>e L λv L1=>wp (vI v) λu=>wp (lk L1 i) λo=>wp (c6t Ca f u o) λo1=>Q .next (L1.set i (some o1))
def b2a (i:Nat)(Ca:Addr)(f:Str)(g:Int→Int→Int)(e:EW):SW:=λL Q=>wp (lk L i) λo=>wp (d3f Ca f o) λz=>e L λw L1=>wp (lk L1 i) λo1=>o1=o∧wp (a2n z) λa=>wp (a2n w) λb=>wp (c6t Ca f (.int (g a b)) o1) λo2=>Q .next (L1.set i (some o2))
def d9b (Ca:Addr)(f:Str)(Q:FV→Prop):FV→Prop
 | .obj C dx fs gs=>C=Ca∧fs.length<1000∧∀ p,(∀ g∈gs,g.1≠p)→Q (.obj C dx (a5b f (.ref p) fs) ((p,[]) :: gs))
 | _=>False
def a5u (i:Nat)(Ca:Addr)(f:Str):SW:=λL Q=>wp (lk L i) λo=>d9b Ca f (λo1=>Q .next (L.set i (some o1))) o
def isO (Ca:Addr)(m:Str):FV→Prop
 | .obj C _ fs _=>C=Ca∧fs.lookup m=none
 | _=>False
def a1m (call:CW) (f i:Nat)(Ca:Addr)(m:Str)(as:AW):EW:=λL Q=>wp (lk L i) λo=>isO Ca m o∧a1h call f i as L Q
def b5p (call:CW) (f:Nat)(Ca:Addr)(as:AW):EW:=λL Q=>as L λxs L1=>∀ dx,call f (.obj Ca dx [] [] :: xs) λz=>z.1=.non∧Q z.2 L1
section
@[scoped simp ↓] theorem e2e (i:Nat)(Ca:Addr)(f:Str)(L:a0d)(Q:FV→a0d→Prop):e2f i Ca f L Q=(wp (lk L i) λo=>wp (d3f Ca f o) λz=>Q z L):=propext Iff.rfl
@[scoped simp ↓] theorem d5u (i:Nat)(Ca:Addr)(f:Str)(F:FV→Option FV)(L:a0d)(Q:FV→a0d→Prop):b1d i Ca f F L Q=(wp (lk L i) λo=>wp (lsF Ca f o) λxs=>wp (F (.lst xs)) λz=>(∀ ps,z≠.lst ps)∧Q z L):=propext Iff.rfl
@[scoped simp ↓] theorem c9w (i:Nat)(Ca:Addr)(f:Str)(e:EW)(L:a0d)(Q:FV→a0d→Prop):a6p i Ca f e L Q=(wp (lk L i) λo=>wp (lsF Ca f o) λ_=>e L λv L1=>wp (vI v) λu=>wp (lk L1 i) λo1=>o1=o∧wp (c9z Ca f u o1) λo2=>Q .non (L1.set i (some o2))):=propext Iff.rfl
@[scoped simp ↓] theorem c9t (i:Nat)(Ca:Addr)(f:Str)(e:EW)(L:a0d)(Q:FFl→a0d→Prop):a8s i Ca f e L Q=(e L λv L1=>wp (vI v) λu=>wp (lk L1 i) λo=>wp (c6t Ca f u o) λo1=>Q .next (L1.set i (some o1))):=propext Iff.rfl
@[scoped simp ↓] theorem c9u (i:Nat)(Ca:Addr)(f:Str)(g:Int→Int→Int)(e:EW)(L:a0d)(Q:FFl→a0d→Prop):b2a i Ca f g e L Q=(wp (lk L i) λo=>wp (d3f Ca f o) λz=>e L λw L1=>wp (lk L1 i) λo1=>o1=o∧wp (a2n z) λa=>wp (a2n w) λb=>wp (c6t Ca f (.int (g a b)) o1) λo2=>Q .next (L1.set i (some o2))):=propext Iff.rfl
@[scoped simp ↓] theorem c9s (i:Nat)(Ca:Addr)(f:Str)(L:a0d)(Q:FFl→a0d→Prop):a5u i Ca f L Q=(wp (lk L i) λo=>d9b Ca f (λo1=>Q .next (L.set i (some o1))) o):=propext Iff.rfl
@[scoped simp ↓] theorem d3r (call:CW) (f i:Nat)(Ca:Addr)(m:Str)(as:AW)(L:a0d)(Q:FV→a0d→Prop):a1m call f i Ca m as L Q=(wp (lk L i) λo=>isO Ca m o∧a1h call f i as L Q):=propext Iff.rfl
@[scoped simp ↓] theorem d5w (call:CW) (f:Nat)(Ca:Addr)(as:AW)(L:a0d)(Q:FV→a0d→Prop):b5p call f Ca as L Q=(as L λxs L1=>∀ dx,call f (.obj Ca dx [] [] :: xs) λz=>z.1=.non∧Q z.2 L1):=propext Iff.rfl
end
theorem ifd {α:Type}{c:Prop} [Decidable c] {a:Option α}{z:α}(h:(if c then a else none)=some z):c∧a=some z:=by
 by_cases y:c
 ·rw[if_pos y] at h;exact⟨y,h⟩
 ·rw[if_neg y] at h;cases h
theorem RV.vF {K:Γd}{S:Hp}{v:V}{z:FV}(h:Kq.vF v=some z):RV K S z v:=by
 cases v<;>cases h<;>rfl
theorem RV.vI {K:Γd}{S:Hp}{z:FV}{u x:V}(h:Kq.vI z=some u)(r:RV K S z x):x=u:=by
 cases z<;>cases h
 ·exact r
 ·exact r
theorem RVs.vFs {K:Γd}{S:Hp}:∀ {vs:List V}{zs:List FV},a4m vF vs=some zs→RVs K S zs vs
 | [],zs,h=>by cases h;rfl
 | v :: vs,zs,h=>by
  obtain⟨z,e1,h⟩:=bnd h
  obtain⟨r,e2,rfl⟩:=mpd h
  exact⟨v,vs,rfl,RV.vF e1,RVs.vFs e2⟩
section
variable {X:Cx}{C:CC}{n:Nat}{sp:Γd→Nat→Sp}{fr:Bool}{a b:Expr}{e ea eb:EW}{pos p px p2 apos:Pos}{i f:Nat}{nx fl:Str}{Ca:Addr}
variable {K:Γd}{c:Cn}{md:Md}{L:a0d}{σ:L2.St}{S H:Hp}
theorem Iv.obj (I:Iv K c md L σ S H)(m:a0n md i=.own){C dx:Addr}{fs:List (Str×V)}{gs:List (Addr×List V)}(e:lk L i=some (.obj C dx fs gs)):∃ l,σ[i]?=some (some (.ref l))∧H l=some (.big C dx fs gs):=by
 obtain⟨l,e1,⟨_,ps,xs,e2,h,_⟩,_⟩:=I.own i _ (λz=>by rw[m] at z;cases z) ((a4n _ _ _).mp e)
 exact⟨l,e1,h⟩
theorem Iv.wobj (I:Iv K c md L σ S H)(m:a0n md i=.own){C dx C' dx':Addr}{fs fs':List (Str×V)}{gs gs':List (Addr×List V)}(e:lk L i=some (.obj C dx fs gs)){l:Addr}(e1:σ[i]?=some (some (.ref l))):Iv K c md (L.set i (some (.obj C' dx' fs' gs'))) σ S (upd H l (.big C' dx' fs' gs')) :=
 I.writeV (w:=.obj C' dx' fs' gs') m ((a4n _ _ _).mp e) e1 rfl (xs:=[]) rfl
theorem fe_fld (G:Good X C n sp)(h:C.nm i nx=true)(m:a0n C.md i=.own)(hf:decide ((Ca,fl)∈C.fl)=true):FE X C (.Attribute (.Name nx p) fl pos) (e2f i Ca fl):=PE.imp (a4v (a1c G h)) λσ H Q ⟨c,L,S,Q0,I,h,k⟩=>by
 obtain⟨o,e,h⟩:=wpx h
 obtain⟨z,e2,q⟩:=wpx h
 cases o with
 | obj C' dx fs gs =>
  obtain⟨rfl,e3⟩:=ifd (show (if C'=Ca then (fs.lookup fl).bind vF else none)=some z from e2)
  obtain⟨v,e4,e5⟩:=bnd e3
  obtain⟨l,e1,hh⟩:=I.obj m e
  obtain⟨g1,g2⟩:=G.fls _ (de hf)
  exact⟨l,_,dx,fs,gs,v,e1,hh,g1,g2,e4,k z L q v S H (RV.vF e5) I (Same.refl S)⟩
 | _=>cases e2
theorem c5h {fs:List (Str×V)}{gs:List (Addr×List V)}{p:Addr×List V}(h:lsA fs gs fl=some p):fs.lookup fl=some (.ref p.1)∧gs.lookup p.1=some p.2:=by
 unfold lsA at h
 split at h
 ·rename_i l hl
  obtain⟨ys,e3,rfl⟩:=mpd h
  exact⟨hl,e3⟩
 ·cases h
theorem b3t {Ca:Addr}{o:FV}{xs:List FV}(h:lsF Ca fl o=some xs):∃ dx fs gs l ys,o=.obj Ca dx fs gs∧fs.lookup fl=some (.ref l)∧gs.lookup l=some ys∧a4m vF ys=some xs:=by
 cases o with
 | obj C' dx fs gs =>
  obtain⟨y,h⟩:=ifd (show (if C'=Ca then (lsA fs gs fl).bind λp=>a4m vF p.2 else none)=some xs from h)
  obtain⟨p,e1,e2⟩:=bnd h
  obtain⟨g1,g2⟩:=c5h e1
  exact⟨dx,fs,gs,p.1,p.2,by rw[y],g1,g2,e2⟩
 | _=>cases h
theorem b8k {F:FV→Option FV}(G:Good X C n sp)(m:a0n C.md i=.own)(hf:decide ((Ca,fl)∈C.fl)=true){σ:L2.St}{H:Hp}{Q:VK}(h:lv X.K C.md (b1d i Ca fl F) σ H Q):∃ a C dx fs gs v,σ[i]?=some (some (.ref a))∧H a=some (.big C dx fs gs)∧Cls X.K C∧NoAttr X.K C fl∧fs.lookup fl=some v∧∃ a C dx fs gs,H a=some (.big C dx fs gs)∧(Big H a C dx fs gs→Rc X.K F [v] (opn H a C dx fs gs) λv H2=>Cl a C dx (Q v) H2):=by
 obtain⟨c,L,S,Q0,I,h,k⟩:=h
 obtain⟨o,e,h⟩:=wpx h
 obtain⟨xs,e2,h⟩:=wpx h
 obtain⟨z,e3,nl,q⟩:=wpx h
 obtain⟨dx,fs,gs,l,ys,rfl,h1,h2,h3⟩:=b3t e2
 obtain⟨a,e1,hh⟩:=I.obj m e
 obtain⟨g1,g2⟩:=G.fls _ (de hf)
 refine⟨a,_,dx,fs,gs,.ref l,e1,hh,g1,g2,h1,a,_,dx,fs,gs,hh,λB=>?_⟩
 have hm:=a1x h2
 refine⟨λ_=>none,.lst xs,.ref l,z,rfl,(λ_ _ e=>by cases e),.inr ⟨l,rfl,rfl,xs,ys,rfl,B.opl hm,RVs.vFs h3⟩,e3,⟨λx _ r=>⟨H,fs,gs,rfl,B,k z L q x S H (r.mono (λ_ _ e=>by cases e)) I (Same.refl S)⟩,λps us p0 ez r hp=>?_,λps us p0 ez _ _=>absurd ez (nl ps)⟩⟩
 have hp:H p0=none:=by
  rcases a1p B p0 with y|⟨zs,_,y,_⟩|⟨_,_,y⟩
  ·rw[y,a5g] at hp;cases hp
  ·rw[y] at hp;cases hp
  ·rw[← y];exact hp
 obtain⟨e5,B5⟩:=b8f B (.tup us) hp
 exact⟨_,fs,gs,e5,B5,k z L q _ _ _ (by rw[ez];exact⟨p0,us,rfl,a0e,r.mono (λ_ _ e=>by cases e)⟩) (I.new hp _) (a0r (I.sn hp))⟩
theorem d3j (G:Good X C n sp)(hg:C.gl (Γe "len")=true)(h:C.nm i nx=true)(m:a0n C.md i=.own)(hf:decide ((Ca,fl)∈C.fl)=true):FE X C (.Call (.Name (Γe "len") p) [.Attribute (.Name nx px) fl apos] [] pos) (b1d i Ca fl a7g) :=
 PE.imp (a2i (d4f d4j) (G.gl hg) (G.blt "len" (by decide)) (by nofun) (a0h (a4v (a1c G h)) a0y (a0f rfl)) (by nofun) (by nofun) (a0f rfl) rfl) λσ H Q h=>b8k G m hf h
theorem d3i (G:Good X C n sp)(hg:C.gl (Γe "tuple")=true)(h:C.nm i nx=true)(m:a0n C.md i=.own)(hf:decide ((Ca,fl)∈C.fl)=true):FE X C (.Call (.Name (Γe "tuple") p) [.Attribute (.Name nx px) fl apos] [] pos) (b1d i Ca fl a1s) :=
 PE.imp (b0k (d4f c0x) (G.gl hg) (G.blt "tuple" (by decide)) (by nofun) (a0h (a4v (a1c G h)) a0y (a0f rfl)) (by nofun) (by nofun) (a0f rfl) rfl) λσ H Q h=>b8k G m hf h
end
section
variable {X:Cx}{C:CC}{n:Nat}{sp:Γd→Nat→Sp}{fr:Bool}{a b:Expr}{e ea eb:EW}{pos p px p2 apos cpos:Pos}{i k:Nat}{nx fl:Str}{Ca:Addr}{xs:List Expr}{as:AW}{call:CW}{m cn:Str}
variable {K:Γd}{c:Cn}{md:Md}{L:a0d}{σ:L2.St}{S H:Hp}
theorem c9o {u:V}{o o2:FV}(h:c9z Ca fl u o=some o2):∃ dx fs gs l ys,o=.obj Ca dx fs gs∧fs.lookup fl=some (.ref l)∧gs.lookup l=some ys∧ys.length<big∧o2=.obj Ca dx fs (b1s gs l (ys++[u])):=by
 cases o with
 | obj C' dx fs gs =>
  obtain⟨y,h⟩:=ifd (show (if C'=Ca then (lsA fs gs fl).bind λp=>if p.2.length<big then some (FV.obj C' dx fs (b1s gs p.1 (p.2++[u]))) else none else none)=some o2 from h)
  obtain⟨p,e1,e2⟩:=bnd h
  obtain⟨g1,g2⟩:=c5h e1
  obtain⟨hl,rfl⟩:=itd e2
  subst y
  exact⟨dx,fs,gs,p.1,p.2,rfl,g1,g2,hl,rfl⟩
 | _=>cases h
theorem b7n {u:V}{o o2:FV}(h:c6t Ca fl u o=some o2):∃ dx fs gs,o=.obj Ca dx fs gs∧fs.length<1000∧o2=.obj Ca dx (a5b fl u fs) gs:=by
 cases o with
 | obj C' dx fs gs =>
  obtain⟨⟨y,hl⟩,rfl⟩:=itd (show (if C'=Ca∧fs.length<1000 then some (FV.obj C' dx (a5b fl u fs) gs) else none)=some o2 from h)
  subst y
  exact⟨dx,fs,gs,rfl,hl,rfl⟩
 | _=>cases h
theorem d3k (G:Good X C n sp)(h:C.nm i nx=true)(mo:a0n C.md i=.own)(hf:decide ((Ca,fl)∈C.fl)=true)(hl:c5s apos cpos=true)(hs:a0k a=false)(ha:FE X C a ea):FE X C (.Call (.Attribute (.Attribute (.Name nx p) fl p2) (Γe "append") apos) [a] [] cpos) (a6p i Ca fl ea):=by
 refine PE.imp (d1q PySem.F.plainAttrs_list PySem.F.slot_list_append PySem.F.type_list_append a6d (a4v (a1c G h)) (a0h ha a0y (a0f hs)) rfl (by rw[a0f hs];rfl) hl (a0f hs) rfl) λσ H Q ⟨c,L,S,Q0,I,h,k⟩=>?_
 obtain⟨o,e,h⟩:=wpx h
 obtain⟨xs,e2,h⟩:=wpx h
 obtain⟨dx,fs,gs,l,ys,rfl,h1,h2,h3⟩:=b3t e2
 obtain⟨g1,g2⟩:=G.fls _ (de hf)
 obtain⟨a,e1,hh⟩:=I.obj mo e
 refine⟨a,_,dx,fs,gs,.ref l,e1,hh,g1,g2,h1,⟨a,_,dx,fs,gs,hh,λB=>.inl ⟨rfl,ys,SqL.of (B.opl (a1x h2))⟩⟩,c,L,S,_,I,h,λv L1 q x S1 H1 r1 I1 s1=>?_⟩
 obtain⟨u,e3,q⟩:=wpx q
 obtain⟨o1,e4,rfl,q⟩:=wpx q
 obtain⟨o2,e5,q⟩:=wpx q
 obtain⟨dx',fs',gs',l',ys',ee,h4,h5,hb,rfl⟩:=c9o e5
 cases ee
 rw[h1] at h4;cases h4
 obtain⟨a',e1',hh'⟩:=I1.obj mo e4
 rw[e1] at e1';cases e1'
 cases RV.vI e3 r1
 refine⟨a,_,_,_,_,hh',λB=>?_⟩
 have hm:=a1x h5
 have:=a1g
 obtain⟨e6,B6⟩:=c7o B (ys'++[x]) hm
 exact⟨l,ys',x,rfl,rfl,B.opl hm,by lia,_,_,_,e6,B6,k .non _ q .non S1 _ rfl (I1.wobj mo e4 e1) s1⟩
theorem d2z (G:Good X C n sp)(h:C.nm i nx=true)(mo:a0n C.md i=.own)(hf:decide ((Ca,fl)∈C.fl)=true)(hc:a6l a=false)(ha:FE X C a ea):FS X C fr (.Assign [.Attribute (.Name nx p) fl px] a pos) (a8s i Ca fl ea):=by
 refine PS.imp (b7t (a1c G h) ha (a2s hc)) λD σ H ⟨c,L,S,Q0,I,h,k⟩=>⟨c,L,S,_,I,h,λv L1 q x S1 H1 r1 I1 s1=>?_⟩
 obtain⟨u,e3,q⟩:=wpx q
 obtain⟨o,e4,q⟩:=wpx q
 obtain⟨o2,e5,q⟩:=wpx q
 obtain⟨dx,fs,gs,rfl,hl,rfl⟩:=b7n e5
 obtain⟨g1,g2⟩:=G.fls _ (de hf)
 obtain⟨a,e1,hh⟩:=I1.obj mo e4
 cases RV.vI e3 r1
 refine⟨a,_,dx,fs,gs,e1,hh,g1,g2,hl,λB=>?_⟩
 obtain⟨e6,B6⟩:=b8g B (a5b fl x fs)
 exact⟨_,_,_,e6,B6,k .next _ q σ S1 _ (I1.wobj mo e4 e1) s1⟩
theorem d3a (G:Good X C n sp)(h:C.nm i nx=true)(mo:a0n C.md i=.own)(hf:decide ((Ca,fl)∈C.fl)=true)(ha:FE X C a ea):FS X C fr (.AugAssign (.Attribute (.Name nx p) fl px) .Add a pos) (b2a i Ca fl (λi j=>i+j) ea):=by
 refine PS.imp (c6z (a1c G h) ha (d2v (X:=X.nox))) λD σ H ⟨c,L,S,Q0,I,h,k⟩=>?_
 obtain⟨o,e,h⟩:=wpx h
 obtain⟨z,e2,h⟩:=wpx h
 cases o with
 | obj C' dx fs gs =>
  obtain⟨rfl,e3⟩:=ifd (show (if C'=Ca then (fs.lookup fl).bind vF else none)=some z from e2)
  obtain⟨v,e4,e5⟩:=bnd e3
  obtain⟨l,e1,hh⟩:=I.obj mo e
  obtain⟨g1,g2⟩:=G.fls _ (de hf)
  refine⟨l,_,dx,fs,gs,v,e1,hh,g1,g2,e4,c,L,S,_,I,h,λw L1 q y S1 H1 r1 I1 s1=>?_⟩
  obtain⟨o1,e6,rfl,q⟩:=wpx q
  obtain⟨a,e7,qa⟩:=wpx q
  obtain⟨b,e8,qb⟩:=wpx qa
  obtain⟨o2,e9,qc⟩:=wpx qb
  have e7:=a0x e7
  have e8:=a0x e8
  rw[e7] at e5
  rw[e8] at r1
  obtain⟨dx',fs',gs',ee,hl,rfl⟩:=b7n e9
  cases ee
  obtain rfl:v=.int a:=by cases v<;>cases e5;rfl
  obtain rfl:y=.int b:=r1
  obtain⟨l',e1',hh'⟩:=I1.obj mo e6
  rw[e1] at e1';cases e1'
  exact⟨a,b,rfl,rfl,_,_,hh',hl,k .next _ qc σ S1 _ (I1.wobj mo e6 e1) s1⟩
 | _=>cases e2
theorem d2y (G:Good X C n sp)(h:C.nm i nx=true)(mo:a0n C.md i=.own)(hf:decide ((Ca,fl)∈C.fl)=true):FS X C fr (.Assign [.Attribute (.Name nx p) fl px] (.List [] p2) pos) (a5u i Ca fl):=by
 refine PS.imp (b7t (a1c G h) (b8a a0y) (a2s rfl)) λD σ H ⟨c,L,S,Q0,I,h,k⟩=>?_
 obtain⟨o,e,h⟩:=wpx h
 cases o with
 | obj C' dx fs gs =>
  obtain⟨rfl,hl,q⟩:=h
  obtain⟨g1,g2⟩:=G.fls _ (de hf)
  obtain⟨a,e1,hh⟩:=I.obj mo e
  refine⟨Nat.zero_le _,λp0 hp=>?_⟩
  have na:a≠p0:=λz=>by rw[z,hp] at hh;cases hh
  refine⟨a,_,dx,fs,gs,e1,by rw[a0c na];exact hh,g1,g2,hl,λB=>?_⟩
  have B0:Big H a C' dx fs gs:=by
   have nn:∀ {b u},upd H p0 (.lst []) b=some u→(∀ ys,u≠.lst ys)→H b=some u:=λ{b u} e n=>by
    by_cases z:b=p0
    ·rw[z,a0e] at e;cases e;exact absurd rfl (n [])
    ·rwa [a0c z] at e
   exact⟨hh,nn B.dxo (λ_ z=>nomatch z),λg hg=>nn (B.gso g hg) (λ_ z=>nomatch z),B.nd⟩
  rw[← (b8f B0 (.lst []) hp).1]
  obtain⟨e6,B6⟩:=c7p B0 hp (a5b fl (.ref p0) fs) []
  have hg:∀ g∈gs,g.1≠p0:=λg hg z=>by have:=B0.gso g hg;rw[z,hp] at this;cases this
  exact⟨_,_,_,e6,B6,k .next _ (q p0 hg) σ S _ ((I.lay hp _).wobj mo e e1) (Same.refl S)⟩
 | _=>exact h.elim
theorem a6e {env : Env} {es : List Expr} (hl : (apos.endLine == pos.line) = true) (hf : methodCallForm (es.length + ([] : List Keyword).length) (backTo pos (starEach es env)) (backToKw pos (keywordEach [] env)) = true) : ∃ pl : Sem Bool, eval (.Call (.Attribute (.Name nx p) m apos) es [] pos) env = (do
      let ov ← eval (.Name nx p) env
      standAt apos.atName
      let (f,first) ← holding [ov] (getMethod ov m pl)
      callWith pos f first (backTo pos (starEach es env)) (backToKw pos (keywordEach [] env))):=by
  refine ⟨(do
      let x ← importBound (Expr.Name nx p) env
      pure (x.getD true)),?_⟩
  rw[arm_eval_Call]
  show (do
      let ov ← attributeBase (Expr.Name nx p) m env (eval (Expr.Name nx p) env)
      standAt apos.atName
      methodCall (Expr.Name nx p) m apos pos env ov (es.length+([]:List Keyword).length) (backTo pos (starEach es env)) (backToKw pos (keywordEach [] env)))=_
  unfold methodCall
  rw[hf]
  unfold methodCallPos calleeOf
  rw[show (!true || apos.endLine == pos.line)=true from hl]
  rfl
theorem b9q:∀ {xs:List Expr}{env:Env},a1q xs=true→(backTo pos (starEach xs env)).all (λx=>!x.1)=true
 | [],_,_=>rfl
 | x :: xs,env,h=>by
  have h:=b2 (show (!a0k x && a1q xs)=true from h)
  rw[a0f (nb h.1)]
  show (true && (backTo pos (starEach xs env)).all (λx=>!x.1))=true
  rw[b9q h.2];rfl
theorem c3p {xs:List Expr}{env:Env}(h:a1q xs=true)(hl:decide (xs.length<30)=true):methodCallForm (xs.length+([]:List Keyword).length) (backTo pos (starEach xs env)) (backToKw pos (keywordEach [] env))=true:=by
 unfold methodCallForm
 rw[b9q h]
 show (true && true && decide (xs.length+0+0<30))=true
 exact hl
theorem c8u {a:Expr}{xs:List Expr}(G:Good X C n sp)(he:sp X.K (C.fns.length+k)=spQ X.K call true false (C.fns.length+k))(hk:C.ms[k]?=some (cn,Ca,m))(hm:(m == ("__init__":Str))=false)(h:C.nm i nx=true)(mo:a0n C.md i=.own)(hl:c5s apos pos=true)(hs:a1q (a :: xs)=true)(hn:decide ((a :: xs).length<30)=true)(ha:FA X C (a :: xs) as):FE X C (.Call (.Attribute (.Name nx p) m apos) (a :: xs) [] pos) (a1m call (C.fns.length+k) i Ca m as):=by
 obtain⟨fa,fd,ps,h1,h2,_,h4,h5,h6⟩:=G.mts k cn Ca m hk
 have hs':=b2 (show (!a0k a && a1q xs)=true from hs)
 obtain⟨pl,hev⟩:=a6e (nx:=nx) (p:=p) (m:=m) (env:=X.env) hl (c3p (pos:=pos) hs hn)
 refine PE.imp (c2l (X:=X.nox) (a1c G h) h2 (h4 λz=>by rw[z] at hm;simp at hm) h6 G.room.toRoom h5 b8d ha (a0f (nb hs'.1)) (a8n hs'.2) hev) λσ H Q ⟨c,L,S,Q0,I,h,kk⟩=>?_
 obtain⟨o,e,ho,hc9⟩:=wpx h
 cases o with
 | obj C' dx fs gs =>
  obtain⟨rfl,hl⟩:=ho
  obtain⟨l,e1,hh⟩:=I.obj mo e
  have:=a9u (fr:=false) (Q:=Q) I mo hc9 λv L' x H1 S' H' q r I' s' _=>kk v L' q x S' H' r I' s'
  obtain⟨x,e2,q⟩:=this
  rw[e1] at e2;cases e2
  refine⟨l,dx,fs,gs,e1,hh,hl,?_⟩
  rw[he]
  exact q
 | _=>exact ho.elim
theorem c3r (G:Good X C n sp)(he:sp X.K (C.fns.length+k)=spQ X.K call true false (C.fns.length+k))(hk:C.ms[k]?=some (cn,Ca,m))(hm:(m == ("__init__":Str))=false)(h:C.nm i nx=true)(mo:a0n C.md i=.own)(hl:c5s apos pos=true):FE X C (.Call (.Attribute (.Name nx p) m apos) [] [] pos) (a1m call (C.fns.length+k) i Ca m a0i):=by
 obtain⟨fa,fd,ps,h1,h2,_,h4,h5,h6⟩:=G.mts k cn Ca m hk
 obtain⟨pl,hev⟩:=a6e (nx:=nx) (p:=p) (m:=m) (env:=X.env) (es:=[]) hl rfl
 refine PE.imp (b7y (X:=X.nox) (a1c G h) h2 (h4 λz=>by rw[z] at hm;simp at hm) h6 G.room.toRoom h5 b8d hev) λσ H Q ⟨c,L,S,Q0,I,h,kk⟩=>?_
 obtain⟨o,e,ho,hc9⟩:=wpx h
 cases o with
 | obj C' dx fs gs =>
  obtain⟨rfl,hl⟩:=ho
  obtain⟨l,e1,hh⟩:=I.obj mo e
  refine⟨l,dx,fs,gs,e1,hh,hl,?_⟩
  rw[he]
  have:=a9u (fr:=false) (Q:=Q) I mo hc9 λv L' x H1 S' H' q r I' s' _=>kk v L' q x S' H' r I' s'
  obtain⟨x,e2,c2,L2,S2,Q2,I2,h2,k2⟩:=this
  rw[e1] at e2;cases e2
  exact k2 [] L2 h2 [] S2 H rfl I2 (Same.refl S2)
 | _=>exact ho.elim
theorem c7z {Q:VK}{f:Nat}{Q1:FV→a0d→Prop}(I:Iv K c md L σ S H){vs:List FV}{us:List V}(r:RVs K S vs us)(h:∀ dx,call f (.obj Ca dx [] [] :: vs) λz=>z.1=.non∧Q1 z.2 L)
  (k:∀ v,Q1 v L→∀ a S' H',a3o K S' H' a v→a6v c md L σ a→Iv K c md L σ S' H'→Same S S'→Q (.ref a) H'):∀ x dx,H x=none→H dx=none→dx≠x→spQ K call true false f (.ref x :: us) (upd (upd H dx (.own x)) x (.big Ca dx [] [])) (λv H2=>v=.non∧Q (.ref x) H2) E0:=by
 intro x dx hx hd ne
 have hx1:upd H dx (.own x) x=none:=by rw[a0c (Ne.symm ne)];exact hx
 have I1:=(I.lay hd (.own x)).lay hx1 (.big Ca dx [] [])
 refine⟨S,.obj Ca dx [] [] :: vs,_,I1.sub,⟨_,vs,x,us,rfl,rfl,⟨I.sn hx,[],[],rfl,a0e,rfl⟩,r⟩,h dx,λz q y S' H' kp r=>?_⟩
 obtain⟨e1,q⟩:=q
 have r:RV K S' z.1 y:=r
 rw[e1] at r
 refine⟨r,?_⟩
 have fx:=I.fresh hx
 have old:∀ {b u},H b=some u→b≠x∧b≠dx:=λ{b u} e=>⟨(λz=>by rw[z,hx] at e;cases e),(λz=>by rw[z,hd] at e;cases e)⟩
 have I2:Iv K c md L σ S' H':=I.go3 kp.same kp.sub (λa o e=>?_) λa o e=>?_
 ·exact k z.2 q x S' H' (kp.back x rfl) fx I2 kp.same
 ·rcases kp.grow a o e with y|y|y
  ·exact .inl y
  ·refine .inr (.inl ?_)
   by_cases z1:a=x
   ·rw[z1];exact hx
   ·rw[a0c z1] at y
    by_cases z2:a=dx
    ·rw[z2];exact hd
    ·rwa [a0c z2] at y
  ·exact .inr (.inr y)
 ·obtain⟨n1,n2⟩:=old e
  exact kp.keep a o (by rw[a0c n1,a0c n2];exact e) λz=>n1 (by cases z;rfl)
theorem c3q (G:Good X C n sp)(he:sp X.K (C.fns.length+k)=spQ X.K call true false (C.fns.length+k))(hk:C.ms[k]?=some (cn,Ca,("__init__":Str)))(hg:C.gl cn=true)(hd:(cn == ("__debug__":Str))=false):FF X C (.Call (.Name cn p) [] [] pos) (b5p call (C.fns.length+k) Ca a0i):=by
 obtain⟨fa,fd,ps,h1,h2,h3,h4,h5,h6⟩:=G.mts k cn Ca _ hk
 refine PE.imp (b7z (X:=X.nox) (h3 rfl) h6 G.room (G.gl hg) h1 h5 b8d hd) λσ H Q ⟨c,L,S,Q0,I,h,kk⟩=>?_
 rw[he]
 exact c7z I (vs:=[]) (us:=[]) rfl h λv qv a S' H' o fr I' s'=>kk v L qv a S' H' o fr I' s'
end
section
variable {X:Cx}{C:CC}{n:Nat}{sp:Γd→Nat→Sp}{pos p apos:Pos}{i f:Nat}{nx:Str}{Ca:Addr}{a:Expr}{xs:List Expr}{as:AW}{call:CW}{m cn:Str}
theorem d5p (G:Good X C n sp)(hle:decide (C.fns.length≤f)=true)(he:sp X.K f=spQ X.K call true false f)(hk:(C.ms[f-C.fns.length]?).map (·.2)=some (Ca,m))(hm:(m == ("__init__":Str))=false)(h:C.nm i nx=true)(mo:a0n C.md i=.own)(hl:c5s apos pos=true)(hs:(a1q (a :: xs) && decide ((a :: xs).length<30))=true)(ha:FA X C (a :: xs) as):FE X C (.Call (.Attribute (.Name nx p) m apos) (a :: xs) [] pos) (a1m call f i Ca m as):=by
 have e:C.fns.length+(f-C.fns.length)=f:=by have:=de hle;lia
 obtain⟨⟨cn,q2⟩,hk,rfl⟩:=mpd hk
 have:=c8u (call:=call) (p:=p) G (k:=f-C.fns.length) (by rw[e];exact he) hk hm h mo hl (b2 hs).1 (b2 hs).2 ha
 rwa [e] at this
theorem d3l (G:Good X C n sp)(hle:decide (C.fns.length≤f)=true)(he:sp X.K f=spQ X.K call true false f)(hk:(C.ms[f-C.fns.length]?).map (·.2)=some (Ca,m))(hm:(m == ("__init__":Str))=false)(h:C.nm i nx=true)(mo:a0n C.md i=.own)(hl:c5s apos pos=true):FE X C (.Call (.Attribute (.Name nx p) m apos) [] [] pos) (a1m call f i Ca m a0i):=by
 have e:C.fns.length+(f-C.fns.length)=f:=by have:=de hle;lia
 obtain⟨⟨cn,q2⟩,hk,rfl⟩:=mpd hk
 have:=c3r (call:=call) (p:=p) G (k:=f-C.fns.length) (by rw[e];exact he) hk hm h mo hl
 rwa [e] at this
theorem d3h (G:Good X C n sp)(hle:decide (C.fns.length≤f)=true)(he:sp X.K f=spQ X.K call true false f)(hk:C.ms[f-C.fns.length]?=some (cn,Ca,("__init__":Str)))(hg:C.gl cn=true)(hd:(cn == ("__debug__":Str))=false):FF X C (.Call (.Name cn p) [] [] pos) (b5p call f Ca a0i):=by
 have e:C.fns.length+(f-C.fns.length)=f:=by have:=de hle;lia
 have:=c3q (call:=call) (p:=p) (pos:=pos) G (k:=f-C.fns.length) (by rw[e];exact he) hk hg hd
 rwa [e] at this
end
def d7q:SW:=λ_ _=>False
def c9i (i:Nat)(Ca:Addr)(f:Str):BW:=λL Q=>wp (lk L i) λo=>wp (lsF Ca f o) λxs=>Q (!xs.isEmpty) L
@[scoped simp ↓] theorem d7p (L:a0d)(Q:FFl→a0d→Prop):d7q L Q=False:=rfl
@[scoped simp ↓] theorem d6k (i:Nat)(Ca:Addr)(f:Str)(L:a0d)(Q:Bool→a0d→Prop):c9i i Ca f L Q=(wp (lk L i) λo=>wp (lsF Ca f o) λxs=>Q (!xs.isEmpty) L):=propext Iff.rfl
section
variable {X:Cx}{C:CC}{n:Nat}{sp:Γd→Nat→Sp}{fr:Bool}{i:Nat}{nx fl:Str}{p pos:Pos}{Ca:Addr}{a:Expr}{ta:TE}
theorem fs_nev {st:Stmt}:FS X C fr st d7q:=λpins s σ H D I ⟨c,L,S,Q0,_,h,_⟩=>h.elim
theorem b0h (ha:PE X a ta)(he:∀ a3d,isTrue a X.env a3d=(do let v ← a3d;standAt a.pos;holding [v] (truthy v))) :
  PT X a (λσ H Q=>ta σ H λx H1=>∃ b C dx fs gs,H1 b=some (.big C dx fs gs)∧(Big H1 b C dx fs gs→∃ k,d4p X.K x (opn H1 b C dx fs gs) k∧Q k H1)):=by
 intro pins s σ H Q I h
 refine isTrue_plain (thn (ha pins s σ H _ I h) λv s1 ⟨x,H1,I1,r1,b,C,dx,fs,gs,hb,q1⟩=>?_) (he _)
 have B:=a4s I1 hb
 obtain⟨k,t,q⟩:=q1 B
 exact thn (b6p pins s1 σ _ x v (λk' H2=>k'=k∧H2=opn H1 b C dx fs gs) (a2g I1 hb) r1 ⟨k,t,rfl,rfl⟩) λk' s' ⟨H2,I2,e1,e2⟩=>⟨H1,a3z (e2 ▸ I2) B,e1 ▸ q⟩
theorem e1p (G:Good X C n sp)(h:C.nm i nx=true)(m:a0n C.md i=.own)(hf:decide ((Ca,fl)∈C.fl)=true):FB X C (.Attribute (.Name nx p) fl pos) (c9i i Ca fl):=PT.imp (b0h (a4v (a1c G h)) (λ_=>rfl)) λσ H Q ⟨c,L,S,Q0,I,h,k⟩=>by
 obtain⟨o,e,h⟩:=wpx h
 obtain⟨xs,e2,q⟩:=wpx h
 obtain⟨dx,fs,gs,l,ys,rfl,h1,h2,h3⟩:=b3t e2
 obtain⟨a,e1,hh⟩:=I.obj m e
 obtain⟨g1,g2⟩:=G.fls _ (de hf)
 refine⟨a,_,dx,fs,gs,.ref l,e1,hh,g1,g2,h1,a,_,dx,fs,gs,hh,λB=>?_⟩
 have hm:=a1x h2
 refine⟨!ys.isEmpty,.inl ⟨ys,SqL.of (B.opl hm),rfl⟩,?_⟩
 have el:=a5m h3
 have e0:ys.isEmpty=xs.isEmpty:=by cases ys<;>cases xs<;>simp at el ⊢
 rw[e0]
 exact k _ L q S H I (Same.refl S)
end
abbrev NG:=Addr×List V×List FV
def refs (gs:List NG):List V:=gs.map λg=>V.ref g.1
def prG (gs:List NG):List (Addr×HO):=gs.map λg=>(g.1,HO.lst g.2.1)
def cN (c:Cn)(acc:Addr)(gs:List NG):Cn:={ c with pr:=(acc,.lst (refs gs)) :: (prG gs++c.pr) }
section
variable {K:Γd}{c:Cn}{md:Md}{L:a0d}{σ:L2.St}{S H:Hp}{j:Nat}{acc:Addr}{gs:List NG}
structure NI (K:Γd)(c:Cn)(md:Md)(acc:Addr)(gs:List NG)(L:a0d)(σ:L2.St)(S H:Hp):Prop where
 I:Iv K (cN c acc gs) md L σ S H
 r:∀ g∈gs,RVs K S g.2.2 g.2.1
 nd:(acc :: gs.map (·.1)).Nodup
 h0:∀ b∈acc :: gs.map (·.1),c.H0 b=none∧∀ p∈c.pr,p.1≠b
 hz:∀ p∈c.fz,∃ o,(p.2,o)∈c.pr
end
def eIsL (e:EW):EW:=λL Q=>e L λv L1=>∃ ps,v=.lst ps∧Q v L1
def c8a:List FV→List (List FV)
 | []=>[]
 | .lst ps :: r=>ps :: c8a r
 | _ :: r=>[] :: c8a r
def d2e (tg:Tg)(ix a:EW):List FV→List (List FV)→a0d→(List (List FV)→a0d→Prop)→Prop
 | [],pss,L,Q=>Q pss L
 | z :: zs,pss,L,Q=>gW tg z L λL1=>ix L1 λi L2=>∃ (k:Nat)(ps:List FV),i=.int k∧pss[k]?=some ps∧ps.length<big∧a L2 λv L3=>d2e tg ix a zs (pss.set k (ps++[v])) L3 Q
def sNest (j n m:Nat)(it:AW)(tg:Tg)(t:BW)(e:EW)(it2:AW)(tg2:Tg)(ix a:EW):SW:=λL Q=>it L λxs L1=>L1.length=n∧xs.length≤big∧a5a n m tg t (eIsL e) xs [] L1 λys L2 =>
 it2 (L2.set j none) λzs L3=>d2e tg2 ix a zs (c8a ys) L3 λpss L4=>Q .next (L4.set j (some (.lst (pss.map .lst))))
section
variable {K:Γd}{c:Cn}{md:Md}{L:a0d}{σ:L2.St}{S H:Hp}{j:Nat}{acc:Addr}{gs:List NG}
theorem Iv.blankO (I:Iv K c md L σ S H)(m:a0n md j=.imm)(x:Option V):Iv K c md (L.set j none) (σ.set j x) S H:=by
 have ne:∀ {i u},(L.set j none)[i]?=some (some u)→i≠j∧L[i]?=some (some u):=λz=>c1u z
 have sg:∀ {i},i≠j→(σ.set j x)[i]?=σ[i]?:=λh=>List.getElem?_set_ne (Ne.symm h)
 refine⟨by rw[List.length_set,List.length_set];exact I.len,λi u hm z=>?_,λi u hm z=>?_,λi k u w a m1 m2 z1 z2 y1 y2=>?_,I.sub,I.frame,I.s0,I.grow,λb z=>?_,λp hp=>?_,λi u hm z=>I.fzm i u hm (ne z).2,I.fzp,λp hp=>?_,I.ntp,λq hq=>?_,λy k x C dx fs w h1 h2 h3 h4=>?_⟩
 ·rw[sg (ne z).1];exact I.imm i u hm (ne z).2
 ·rw[sg (ne z).1];exact I.own i u hm (ne z).2
 ·rw[sg (ne z1).1] at y1;rw[sg (ne z2).1] at y2
  exact I.dis i k u w a m1 m2 (ne z1).2 (ne z2).2 y1 y2
 ·obtain⟨g1,g2,v,g3⟩:=I.lent b z
  have:(0:Nat)≠j:=λy=>g1 (by rw[y];exact m)
  exact⟨g1,by rw[sg this];exact g2,v,by rw[a8r this];exact g3⟩
 ·obtain⟨g1,g2,v,g3⟩:=I.fzs p hp
  have:p.1≠j:=λy=>by rw[y,m] at g1;cases g1
  exact⟨g1,by rw[sg this];exact g2,v,by rw[a8r this];exact g3⟩
 ·obtain⟨g1,g2,g3⟩:=I.prs p hp
  exact⟨g1,g2,λi u hm z=>by rw[sg (ne z).1];exact g3 i u hm (ne z).2⟩
 ·obtain⟨g1,g2,v,g3⟩:=I.lnt1 q hq
  have:q.1≠j:=λy=>by rw[y,m] at g1;cases g1
  exact⟨g1,by rw[sg this];exact g2,v,by rw[a8r this];exact g3⟩
 ·rw[sg (ne h4).1];exact I.tie y k x C dx fs w h1 h2 (ne h3).2 (ne h4).2
end
section
variable {X:Cx}{C:CC}{n:Nat}{sp:Γd→Nat→Sp}{fr:Bool}{scope:Scope}{own:List Str}{elt tgx iter:Expr}{ifs:List Expr}{nn m:Nat}{it it2:AW}{tg tg2:Tg}{t:BW}{e ix a:EW}{i j:Nat}{nx:Str}{p px pos:Pos}
structure CompOkG (X:Cx)(C:CC) (n:Nat)(sp:Γd→Nat→Sp)(scope:Scope)(own:List Str)(elt tgx iter:Expr)(ifs:List Expr) (nn m:Nat)(it:AW)(tg:Tg)(t:BW)(e:EW):Prop where
 st:(C.scOk scope own && decide (C.N.length=nn) && decide (own.length=m) && decide (C.md.length≤nn) && a4u C.md tg && b0a nn tg && !b5h iter)=true
 it:FIv X C tgx iter it
 tg:∀ X',Good X' (C.sub scope own C.md) n sp→FG X' tgx tg
 ts:∀ X',Good X' (C.sub scope own C.md) n sp→FTs X' (C.sub scope own C.md) ifs t
 el:∀ X',Good X' (C.sub scope own C.md) n sp→FF X' (C.sub scope own C.md) elt e
end
end Kq
end
section
namespace Kq
open PySem PySem.Spec PyProof.Rows L2 PySem.W
def Mk4 (mask:Nat):Prop:=mask=7 ∨ mask=31 ∨ mask=127 ∨ mask=511
def advN (t:SetTable):Nat→SetTable.Probe→SetTable.Probe
 | 0,p=>p
 | k+1,p=>advN t k (t.advance p)
def pth (t:SetTable) (h:Int) (n:Nat):Nat:=(advN t n (t.probeStart h)).j
def Pth (t:SetTable)(occ:Nat→Prop) (h:Int) (j:Nat):Prop:=∃ n,pth t h n=j∧∀ n',n'<n→occ (pth t h n')
structure Owns (mask:Nat)(ow:Array (Option Nat)) (k:Nat):Prop where
 sz:ow.size=mask+1
 lt:∀ j i:Nat,ow[j]?=some (some i)→i<k
 on:∀ i,i<k→∃ j:Nat,ow[j]?=some (some i)
 inj:∀ j j' i:Nat,ow[j]?=some (some i)→ow[j']?=some (some i)→j=j'
section
variable {prog:Program}{w:World}{A:Around}{E:Value→Shared→Prop}{s:Shared}
end
structure TabT (t:SetTable) (n:Nat):Prop where
 m4:Mk4 t.mask
 dm:t.dummies = #[]
 rs:d4q t.place
 sz:t.place.size=n
 lo:n*5<t.mask*3
section
variable {prog:Program}{w:World}{A:Around}{E:Value→Shared→Prop}{s:Shared}
end
def hT (k:List Int):Int:=reduceHash (Builtin.Tuple.tupleHashOf (k.map hashInt))
structure SetD (o:Obj)(es:Array (Int×Value)) (ep:Nat)(t:SetTable)(gs:List (Addr×List Int)):Prop where
 ex:o.ExactSet
 dat:o.data=.set es ep t
 sz:es.size=gs.length
 tup:∀ e∈es.toList,∃ g∈gs,e=(hT g.2,.ref g.1)
 all:∀ g∈gs,(hT g.2,.ref g.1)∈es.toList
 tab:TabT t es.size
 rch:∀ p∈t.place.toList.zip es.toList,Pth t (·∈t.place.toList) p.2.1 p.1
section
variable {prog:Program}{w:World}{A:Around}{E:Value→Shared→Prop}{s:Shared}
end
end Kq
end
section
namespace Kq
open PySem PySem.Spec PyProof.Rows L2 PySem.W
end Kq
namespace L2
open PySem PySem.Spec PyProof.Rows
section
variable {prog:Program}{w:World}{A:Around}{R:Result→Shared→Prop}{s:Shared}
end
section
variable {X:Cx}{elt tg iter:Expr}{ifs:List Expr}{scope:Scope}{own:List Str}{pos:Pos}{wi:TI}{g:TG}{tt:TT}{te:TE}
end
end L2
end
section
namespace Kq
open PySem PySem.Spec PyProof.Rows L2
def adT (acc:List (List Int))(k:List Int):List (List Int):=if k∈acc then acc else acc++[k]
def c0o (n m:Nat)(tg:Tg)(t:BW)(e:EW):List FV→List (List Int)→a0d→(List (List Int)→a0d→Prop)→Prop
 | [],acc,L,Q=>Q acc L
 | x :: xs,acc,L,Q=>gW tg x (L++Γj m none) λL1=>t L1 λb L2=>if b=true then e L2 λv L3=>∃ k:List Int,v=.tup (k.map .int)∧acc.length<300∧c0o n m tg t e xs (adT acc k) (L3.take n) Q else c0o n m tg t e xs acc (L2.take n) Q
def e2b (n m:Nat)(it:AW)(tg:Tg)(t:BW)(e:EW):EW:=λL Q=>it L λxs L1=>L1.length=n∧c0o n m tg t e xs [] L1 λks L2=>Q (.int ks.length) L2
section
variable {K:Γd}{c:Cn}{md:Md}{L:a0d}{σ:L2.St}{S H:Hp}
end
section
variable {X:Cx}{C:CC}{n:Nat}{sp:Γd→Nat→Sp}{scope:Scope}{own:List Str}{elt tgx iter:Expr}{ifs:List Expr}{nn m:Nat}{md':Md}{it:AW}{tg:Tg}{t:BW}{e:EW}{pos p p2:Pos}
end
def ltN:FV→FV→Option FV:=a2q λi j=>some (.bl (decide (i<j)))
def leN:FV→FV→Option FV:=a2q λi j=>some (.bl (decide (i≤j)))
section
variable {X:Cx}{C:CC}{n:Nat}{sp:Γd→Nat→Sp}{a b d:Expr}{ea eb ec:EW}{pos:Pos}
end
inductive RM (K:Γd)(c:Cn)(md:Md)(L:a0d)(σ:L2.St)(S H:Hp):List Bool→List FV→List V→Prop
 | nil:RM K c md L σ S H [] [] []
 | imm {ms vs xs v x}:RV K S v x→RM K c md L σ S H ms vs xs→RM K c md L σ S H (false :: ms) (v :: vs) (x :: xs)
 | own {ms vs xs v a}:a3o K S H a v→a6v c md L σ a→(∀ k:Nat,ms[k]?=some true→xs[k]?≠some (V.ref a))→RM K c md L σ S H ms vs xs→RM K c md L σ S H (true :: ms) (v :: vs) (V.ref a :: xs)
def lm (K:Γd)(md:Md)(ms:List Bool)(e:AW):TA:=λσ H Q=>∃ c L S Q0,Iv K c md L σ S H∧e L Q0∧∀ vs L',Q0 vs L'→∀ xs S' H',RM K c md L' σ S' H' ms vs xs→Iv K c md L' σ S' H'→Same S S'→Q xs H'
def FM (X:Cx)(C:CC)(xs:List Expr)(ms:List Bool)(e:AW):Prop:=PA X.nox xs (lm X.K C.md ms e)
section
variable {X:Cx}{C:CC}{n:Nat}{sp:Γd→Nat→Sp}{fr:Bool}{a:Expr}{xs:List Expr}{ms:List Bool}{e:EW}{as:AW}{pos:Pos}
variable {K:Γd}{c:Cn}{md:Md}{L:a0d}{σ:L2.St}{S H:Hp}
theorem RM.ne {l:Addr}{o:HO}{ms:List Bool}{vs:List FV}{xs:List V}(h:RM K { c with pr:=(l,o) :: c.pr } md L σ S H ms vs xs):RM K c md L σ S H ms vs xs∧∀ k:Nat,ms[k]?=some true→xs[k]?≠some (V.ref l):=by
 induction h with
 | nil=>exact⟨.nil,λk h=>by cases h⟩
 | imm r _ ih =>
  refine⟨.imm r ih.1,λk hk=>?_⟩
  cases k with
  | zero=>cases hk
  | succ k=>exact ih.2 k hk
 | own o f d _ ih =>
  refine⟨.own o ⟨f.1,λp hp=>f.2.1 p (Γh _ hp),f.2.2⟩ d ih.1,λk hk=>?_⟩
  cases k with
  | zero =>
   intro z
   cases z
   exact f.2.1 (l,_) Γn rfl
  | succ k=>exact ih.2 k hk
theorem d3d:FM X C [] [] a0i:=PA.imp a0y λσ H Q ⟨c,L,S,Q0,I,h,k⟩=>k [] L h [] S H .nil I (Same.refl S)
theorem d3e (hs:a0k a=false)(h1:FE X C a e)(h2:FM X C xs ms as):FM X C (a :: xs) (false :: ms) (a0a e as):=PA.imp (a0h h1 h2 (a0f hs)) λσ H Q ⟨c,L,S,Q0,I,h,k⟩ =>
 ⟨c,L,S,_,I,h,λv L1 q x S1 H1 r I1 s1=>⟨c,L1,S1,_,I1,q,λvs L2 q xs S2 H2 rs I2 s2=>k _ L2 q _ S2 H2 (.imm (r.mono s2) rs) I2 (s1.trans s2)⟩⟩
theorem d3c (hs:a0k a=false)(h1:FF X C a e)(h2:FM X C xs ms as):FM X C (a :: xs) (true :: ms) (a0a e as):=PA.imp (a0h h1 h2 (a0f hs)) λσ H Q ⟨c,L,S,Q0,I,h,k⟩=>by
 refine⟨c,L,S,_,I,h,λv L1 q l S1 H1 o f I1 s1=>?_⟩
 obtain⟨o1,ps,us,e9,o2,o3⟩:=o
 have I2:=I1.prot o2 o1 λy u hy hu=>f.2.2 y u (Mo.w_imm hy) hu
 refine⟨_,L1,S1,_,I2,q,λvs L2 q xs S2 H2 rs I3 s2=>?_⟩
 obtain⟨g1,g2,g3⟩:=I3.prs (l,c5c v us) Γn
 have I4:=I3.unprot I1.fzp
 obtain⟨r1,r2⟩:=rs.ne
 refine k _ L2 q _ S2 H2 (.own ⟨g2,ps,us,e9,g1,o3.mono s2⟩ ⟨f.1,f.2.1,λy u hy hu hs=>?_⟩ r2 r1) I4 (s1.trans s2)
 by_cases mo:(a0n C.md y).w=true
 ·exact g3 y u mo hu hs
 ·have mo:a0n C.md y=.frz:=by cases z:a0n C.md y with|imm=>exact absurd z hy|frz=>rfl|_=>rw[z] at mo;exact absurd rfl mo
  obtain⟨b',f1⟩:=I4.fzm y u mo hu
  obtain⟨_,f2,_⟩:=I4.fzs _ f1
  rw[hs] at f2;cases f2
  obtain⟨ys,f3⟩:=I1.fzp _ f1
  exact f.2.1 _ f3 rfl
def b2o (md:Md):List Nat→List Bool→Bool
 | [],[]=>true
 | i :: is,false :: ms=>decide (a0n md i=.imm) && b2o md is ms
 | i :: is,true :: ms=>(decide (a0n md i=.own) && decide (i≠0)) && b2o md is ms
 | _,_=>false
theorem RM.seti {i:Nat}{v:FV}{x:V}(hi:a0n md i=.imm){ms:List Bool}{vs:List FV}{xs:List V}(h:RM K c md L σ S H ms vs xs):RM K c md (L.set i (some v)) (σ.set i (some x)) S H ms vs xs:=by
 induction h with
 | nil=>exact .nil
 | imm r _ ih=>exact .imm r ih
 | own o f d _ ih =>
  refine .own o ⟨f.1,f.2.1,λy u hy hu=>?_⟩ d ih
  have hyi:i≠y:=λz=>hy (by rw[← z];exact hi)
  rw[List.getElem?_set_ne hyi] at hu ⊢
  exact f.2.2 y u hy hu
theorem RM.seto {i:Nat}{v:FV}{l:Addr}{ms:List Bool}{vs:List FV}{xs:List V}(h:RM K c md L σ S H ms vs xs):(∀ k:Nat,ms[k]?=some true→xs[k]?≠some (V.ref l))→RM K c md (L.set i (some v)) (σ.set i (some (.ref l))) S H ms vs xs:=by
 induction h with
 | nil=>intro _;exact .nil
 | imm r _ ih=>intro g;exact .imm r (ih λk=>g (k+1))
 | own o f d _ ih =>
  intro g
  refine .own o ⟨f.1,f.2.1,λy u hy hu=>?_⟩ d (ih λk=>g (k+1))
  by_cases hyi:i=y
  ·subst hyi
   intro z
   have hl:i<σ.length:=by
    have:=(List.getElem?_eq_some_iff.mp z).1
    rwa [List.length_set] at this
   rw[List.getElem?_set_self hl] at z
   cases z
   exact g 0 rfl rfl
  ·rw[List.getElem?_set_ne hyi] at hu ⊢
   exact f.2.2 y u hy hu
theorem d7f {ms:List Bool}{vs:List FV}{xs:List V}:∀ {is:List Nat}{L:a0d}{σ:L2.St}{Q:a0d→Prop},b2o md is ms=true→Iv K c md L σ S H→RM K c md L σ S H ms vs xs→wp (a6y L is vs) Q→∃ σ' L',(∀ R:L2.St→Hp→Prop,R σ' H→gTs is xs σ H R)∧Q L'∧Iv K c md L' σ' S H:=by
 induction ms generalizing vs xs with
 | nil =>
  intro is L σ Q m I r q
  cases r
  cases is with
  | nil=>exact⟨σ,L,λR r=>⟨rfl,r⟩,q,I⟩
  | cons=>cases m
 | cons b ms ih =>
  intro is L σ Q m I r q
  cases is with
  | nil=>cases m
  | cons i is =>
   cases r with
   | @imm _ vs xs v x r rs =>
    have m:=b2 m
    obtain⟨σ',L',g,q,I'⟩:=ih (L:=L.set i (some v)) (σ:=σ.set i (some x)) m.2 (I.setI (de m.1) r) (rs.seti (de m.1)) q
    exact⟨σ',L',λR hr=>⟨x,xs,rfl,g R hr⟩,q,I'⟩
   | @own _ vs xs v l o f d rs =>
    have m:=b2 m
    have m1:=b2 m.1
    obtain⟨σ',L',g,q,I'⟩:=ih (L:=L.set i (some v)) (σ:=σ.set i (some (.ref l))) m.2 (I.set (λ_ _=>de m1.2) (λz=>by rw[de m1.1] at z;cases z) (.inr ⟨de m1.1,l,rfl,o,f.1,f.2.1,λy u _ hy hu=>f.2.2 y u hy hu⟩)) (rs.seto d) q
    exact⟨σ',L',λR hr=>⟨.ref l,xs,rfl,g R hr⟩,q,I'⟩
theorem RM.lay {p:Addr}{o:HO}{ms:List Bool}{vs:List FV}{xs:List V}(hp:H p=none)(h:RM K c md L σ S H ms vs xs):RM K c md L σ S (upd H p o) ms vs xs:=by
 induction h with
 | nil=>exact .nil
 | imm r _ ih=>exact .imm r ih
 | own w f d _ ih =>
  obtain⟨o1,ps,us,e9,o2,o3⟩:=w
  exact .own ⟨o1,ps,us,e9,by rw[a0c (λz=>by rw[z,hp] at o2;cases o2)];exact o2,o3⟩ f d ih
theorem RM.len {ms:List Bool}{vs:List FV}{xs:List V}(h:RM K c md L σ S H ms vs xs):xs.length=ms.length∧vs.length=ms.length:=by
 induction h with
 | nil=>exact⟨rfl,rfl⟩
 | imm r _ ih=>exact⟨congrArg (· + 1) ih.1,congrArg (· + 1) ih.2⟩
 | own w f d _ ih=>exact⟨congrArg (· + 1) ih.1,congrArg (· + 1) ih.2⟩
theorem b2n:∀ {is:List Nat}{ms:List Bool},b2o md is ms=true→is.length=ms.length
 | [],[],_=>rfl
 | i :: is,false :: ms,h=>congrArg (· + 1) (b2n (b2 h).2)
 | i :: is,true :: ms,h=>congrArg (· + 1) (b2n (b2 h).2)
theorem tupM {st:Stmt}{is:List Nat}(hm:b2o C.md is ms=true)(h:PS X.nox st (c1g (tTup (lm X.K C.md ms as)) (gT X.K (.tp is)))):FS X C fr st (a1o (a3w as) (.tp is)):=PS.imp h λD σ H ⟨c,L,S,Q0,I,h,k⟩ =>
 ⟨c,L,S,_,I,h,λvs L1 hv xs S1 H1 r I1 s1=>by
  obtain⟨l1,l2⟩:=r.len
  refine⟨by have:=a1g;rw[l1,← l2];exact Nat.le_trans hv.1 this,λp hp=>?_⟩
  obtain⟨σ',L',g,q,I2⟩:=d7f hm (I1.lay hp (.tup xs)) (r.lay hp) hv.2
  exact⟨p,xs,rfl,.inl (.inl a0e),l1.trans (b2n hm).symm,g _ (k .next L' q σ' S1 _ I2 s1)⟩⟩
theorem c8q (G:Good X C n sp){ts vs:List Expr}{is:List Nat}{k k2:Nat}{p p2:Pos}(hm:b2o C.md is ms=true)(hn:(decide (4≤ts.length) || ts.any λt=>a7s C.sc t)=true)(hg:FGs X ts is)(h:FM X C vs ms as):FS X C fr (.Assign [.Tuple ts k p] (.Tuple vs k2 p2) pos) (a1o (a3w as) (.tp is)) :=
 tupM hm (b7u (X:=X.nox) (b3n h) (d3g G hg) rfl (d7b (by
  show 4≤ts.length ∨ ∃ t∈ts,a7s X.env.scope.names t=true
  rw[G.sc]
  simpa using hn)) rfl)
def d5a (md:Md)(is:List Nat):List Bool:=is.map λi=>decide (a0n md i=.own)
def FN (X:Cx)(C:CC)(xs:List Expr)(is:List Nat)(e:AW):Prop:=FM X C xs (d5a C.md is) e
theorem fn_nil:FN X C [] [] a0i:=d3d
theorem fn_imm {i:Nat}{is:List Nat}(hi:decide (a0n C.md i=.own)=false)(hs:a0k a=false)(h1:FE X C a e)(h2:FN X C xs is as):FN X C (a :: xs) (i :: is) (a0a e as):=by
 show FM X C (a :: xs) (decide (a0n C.md i=.own) :: d5a C.md is) _
 rw[hi];exact d3e hs h1 h2
theorem fn_own {i:Nat}{is:List Nat}(hi:decide (a0n C.md i=.own)=true)(hs:a0k a=false)(h1:FF X C a e)(h2:FN X C xs is as):FN X C (a :: xs) (i :: is) (a0a e as):=by
 show FM X C (a :: xs) (decide (a0n C.md i=.own) :: d5a C.md is) _
 rw[hi];exact d3c hs h1 h2
theorem d5j (G:Good X C n sp){ts vs:List Expr}{is:List Nat}{k k2:Nat}{p p2:Pos}(hm:b2o C.md is (d5a C.md is)=true)(hn:(decide (4≤ts.length) || ts.any λt=>a7s C.sc t)=true)(hg:FGs X ts is)(h:FN X C vs is as):FS X C fr (.Assign [.Tuple ts k p] (.Tuple vs k2 p2) pos) (a1o (a3w as) (.tp is)):=c8q G hm hn hg h
end
end Kq
end
section
namespace Kq
open PySem PySem.Spec PySem.Calls PyProof.Rows PySem.W
section
variable {prog:Program}{w:World}{A:Around}{E:Value→Shared→Prop}{K:Frag}{x D:Addr}{o:Obj}
structure XCls (K:Frag)(D:Addr):Prop where
 cl:(clsIn K D).isSome=true
 ga:findIn K (.ref D) "__getattribute__" = some (some (.builtin "BaseException.__getattribute__"))
 gt:findIn K (.ref D) "__getattr__" = some none
 ca:findIn K (.ref D) "__class__" = some (some (.builtin "object.__class__"))
 ob:mroIn K D (.type "object")=some true
 be:mroIn K D (.type "BaseException")=some true
theorem d6n {h:Heap} {g d t os}{R:Result→Shared→Prop}(C:XCls K D)(X:K.In h)(hx:h.get? x=some o)(hc:o.cls=.ref D)(hq:R (.ok (.ret (.ref D))) ⟨h,g,d,t,os⟩) :
  codeAny (model prog w) A (.call (.builtin "getset_descriptor.__get__") ⟨[.builtin "object.__class__",.ref x,.ref D],[]⟩) R ⟨h,g,d,t,os⟩:=by
 have hT5:(⟨h,g,d,t,os⟩:Shared).TypeIs (.builtin "object.__class__") "getset_descriptor":=F.typeOf_object_class
 have L1:Looks (model prog w) h (isSubtype (.ref D) (.type (".".intercalate ("object.__class__".cutAt '.').dropLast))) true:=by rw[F.owner_object_class];exact looks_mroIn X C.ob
 refine codeAny_call_builtin F.slot_gs_get.plain F.entry_gs_get (F.slot_gs_get.check _ _ _ _ _ _ _ _ hT5 (F.args_gs_get _ _ _) ?_)
 repeat (any_goals (first|assumption|(with_reducible refine wpAny_loadPart_at hx ?_;rw[hc])|with_reducible refine L1.at ?_|wp_step))
 refine⟨Code.quiet_builtin _ (by nofun),codeAny_builtin F.entry_object_class ?_⟩
 repeat (any_goals (first|assumption|(with_reducible refine wpAny_loadPart_at hx ?_;rw[hc])|wp_step))
theorem c5v {h:Heap} {g d t os}{tk:Tok}{Q:Fin→Shared→Prop}(C:XCls K D)(X:K.In h)(hx:h.get? x=some o)(hc:o.cls=.ref D)(hq:Q (.done (.ret (.ref D))) ⟨h,g,d,t,os⟩) :
  wpAny (model prog w) A (Builtin.«object.__getattribute__» ⟨[.ref x,.str "__class__" tk],[]⟩) Q E ⟨h,g,d,t,os⟩:=by
 have hT5:(⟨h,g,d,t,os⟩:Shared).TypeIs (.builtin "object.__class__") "getset_descriptor":=F.typeOf_object_class
 have L4:=looks_findIn (M:=model prog w) X C.ca
 have f5:=F.typeOf_object_class
 have f6:=F.slot_gs_get.lookup
 have f7:=F.slot_gs_set.lookup
 repeat (any_goals (first|assumption|(with_reducible refine wpAny_loadPart_at hx ?_;rw[hc])|with_reducible refine L4.at ?_|wp_step))
 refine d6n C X hx hc ?_
 repeat (any_goals (first|assumption|wp_step))
theorem c5x {h:Heap} {g d t os}{M:Model}{nv:Value}{Q:Unit→Shared→Prop}(C:XCls K D)(X:K.In h)(hx:h.get? x=some o)(hc:o.cls=.ref D)(hq:Q () ⟨h,g,d,t,os⟩) :
  wpAny M A (checkBuiltinCall "BaseException.__getattribute__" ⟨[.ref x,nv],[]⟩) Q E ⟨h,g,d,t,os⟩:=by
 have hk:builtinKind "BaseException.__getattribute__" = some .slot:=by nofun
 have hsp:splitId "BaseException.__getattribute__" = some ("BaseException","__getattribute__"):=by nofun
 have L1:=looks_mroIn (M:=M) X C.be
 have ha:=F.args_bexc_ga (.ref x) nv
 simp only[checkBuiltinCall,hk,hsp]
 refine Γa ?_
 ·unfold isInstance
  repeat (first|(with_reducible refine wpAny_loadPart_at hx ?_;rw[hc])|with_reducible refine L1.at ?_|wp_step)
  exact hq
theorem x_by {h:Heap} {g d t os}{tk:Tok}{fill:Bool}{Q:Value→Shared→Prop}(C:XCls K D)(X:K.In h)(hx:h.get? x=some o)(hc:o.cls=.ref D)(hq:Q (.ref D) ⟨h,g,d,t,os⟩) :
  wpAny (model prog w) A (getAttrBy (.ref x) (.str "__class__" tk) fill) Q E ⟨h,g,d,t,os⟩:=by
 have f3:=F.excAttr_ValueError.ga.bind (.ref x)
 have hx2:(Value.builtin "BaseException.__getattribute__" == Value.builtin "object.__getattribute__")=false:=by nofun
 have hx1:(onTheHeap (Value.ref D) && Value.builtin "BaseException.__getattribute__" == Value.builtin "object.__getattribute__")=false:=by rw[hx2];rfl
 have L1:=looks_findIn (M:=model prog w) X C.ga
 have L2:=looks_findIn (M:=model prog w) X C.gt
 repeat (any_goals (first|assumption|(with_reducible refine wpAny_loadPart_at hx ?_;rw[hc])|with_reducible refine L1.at ?_|with_reducible refine L2.at ?_|wp_step))
 refine codeAny_call_builtin F.excAttr_ValueError.ga.plain F.entry_bexc_ga (c5x C X hx hc (c5v C X hx hc ?_))
 repeat (any_goals (first|assumption|wp_step))
theorem c5w {s:Shared}{Q:Option Value→Shared→Prop}(C:XCls K D)(X:K.In s.heap)(hx:s.heap.get? x=some o)(hc:o.cls=.ref D)(hq:Q (some (.ref D)) { s with toks:=s.toks+1 }) :
  wpAny (model prog w) A (getAttr? (.ref x) "__class__") Q E s:=by
 obtain⟨h,g,d,t,os⟩:=s
 unfold getAttr? getAttrBy?
 repeat (any_goals (first|assumption|with_reducible apply x_by C X hx hc|wp_step))
def XIs (x D:Addr)(h:Heap):Prop:=∃ o,h.get? x=some o∧o.cls=.ref D
theorem b3z (C:XCls K D):KitX K (.ref x) (.ref D) (XIs x D) where
 ty:=λM h _ ⟨o,h1,h2⟩=>h2 ▸ (Looks.ld h1).andThen .now
 it:=λ_ _ X _=>by
  obtain⟨cd,hcd⟩:=Option.isSome_iff_exists.mp C.cl
  unfold clsIn at hcd
  split at hcd
  ·rename_i ho
   intro A' Q' E' s' k q
   unfold isType loadHead
   exact Γa (wpAny_loadPart (k _ _ (X _ _ ho)) (Γb q))
  ·cases hcd
 ne:=λh tp dd its n sl X htp=>by
  obtain⟨cd,hcd⟩:=Option.isSome_iff_exists.mp C.cl
  refine Bool.eq_false_iff.mpr λq=>?_
  have e:=Value.ref.inj (beq_iff_eq.mp q)
  subst e
  unfold clsIn at hcd
  split at hcd
  ·rename_i ho
   cases (X _ _ ho).symm.trans htp
  ·cases hcd
 ca:=λX ⟨o,h1,h2⟩ k=>c5w C X h1 h2 k
end
end Kq
end
section
namespace Kq
open PySem PySem.Spec PySem.Calls PyProof.Rows
section
open L2
variable {P:Program}{w:World}{H H':Hp}{h h':Heap}{a:Addr}{o:HO}
theorem ObjOk.at (x:L2.ObjOk P w H h a o):∃ u,h.get? a=some u:=by
 cases o with
 | lst xs=>obtain⟨_,_,_,_,e⟩:=x;exact⟨_,e⟩
 | tup xs=>obtain⟨_,_,_,o,e,_⟩:=x;exact⟨_,e⟩
 | dK kvs=>obtain⟨_,_,_,_,o,_,_,e,_⟩:=x;exact⟨_,e⟩
 | dT kvs=>obtain⟨_,_,_,_,o,_,_,e,_⟩:=x;exact⟨_,e⟩
 | set S n=>obtain⟨o,_,_,_,e,_⟩:=x;exact⟨_,e⟩
 | ins C dx fs=>obtain⟨_,_,_,e,_⟩:=x;exact⟨_,e⟩
 | big C dx fs gs=>obtain⟨_,_,_,_,e,_⟩:=x;exact⟨_,e⟩
 | own y=>obtain⟨_,e⟩:=x;exact⟨_,e⟩
 | xd fs=>obtain⟨_,⟨_,_,_,e,_⟩,_⟩:=x;exact⟨_,e⟩
 | rng lo hi=>obtain⟨_,_,_,e⟩:=x;exact⟨_,e⟩
 | frz ob u=>obtain⟨e,_⟩:=x;exact⟨_,e⟩
 | tbl ps=>exact⟨_,(show h.get? a=some _ from x)⟩
 | met f y=>exact⟨_,(show h.get? a=some _ from x)⟩
 | ext φ=>obtain⟨_,⟨_,e⟩,_⟩:=x;exact⟨_,e⟩
theorem HOk.non (x:L2.HOk P w H h)(e:h.get? a=none):H a=none:=by
 cases q:H a with
 | none=>rfl
 | some u=>obtain⟨u,z⟩:=ObjOk.at (x a u q);rw[e] at z;cases z
theorem HOk.but {ls:List Addr}(x:L2.HOk P w H h)(n:∀ b∈ls,H b=none)(k:∀ b u,b ∉ ls→h.get? b=some u→h'.get? b=some u):L2.HOk P w H h':=λb u e =>
 (x b u e).stay (λc v hc q=>k c v (λz=>by
  rcases hc with r|r
  ·rw[r] at z;rw[n b z] at e;cases e
  ·rw[n c z] at r;cases r) q) (λ_ q=>q) λ_ _ q=>q
end
section
open L2
structure Flew (P:Program)(w:World)(Cn:Addr)(fs:List Addr)(H:Hp)(s:Shared)(ea:Addr)(s':Shared):Prop where
 os:s'.os=s.os
 bare:AllBare s'.gens
 un:Un fs [] H H s.heap s'.heap
 hok:HOk P w H s'.heap
 new:s.heap.get? ea=none
 tr:∃ oe vs a0 T oT ts,s'.heap.get? ea=some oe∧oe.cls=.ref Cn∧oe.data=.fields vs∧vs[0]?=some a0∧vs[1]?=some (.ref T)∧s.heap.get? T=none∧T≠ea∧s'.heap.get? T=some oT∧oT.data=.fields ts∧ts[3]?=some .none
def CXr (P:Program)(w:World)(Cn:Addr):CXT:=λouter H s _ e s'=>∃ ea,e=.ref ea∧Flew P w Cn (frs outer) H s ea s'
variable {P:Program}{w:World}{K:Γd}{mg:Str→Option Value}{base:Heap}{N:List Str}{qu:Str}{sc:Scope}{f Cn:Addr}{cd:Value}{A:Around}{outer:List Env}{s0:Shared}{H0:Hp}{E:XK}
theorem d2l {pins:List (Addr×Obj)}{σ:L2.St}{s2:Shared}{h':Heap}{e:Addr}{args:List Value}(I:Inv (b6c (CXr P w Cn) P w K mg base N qu sc f cd A outer s0 H0 E) pins σ H0 s2)(hx:Heap.MadeExcOf s2.heap h' e (.ref Cn) args) :
  (b6c (CXr P w Cn) P w K mg base N qu sc f cd A outer s0 H0 E).xe (.ref e) { s2 with heap:=h' }:=by
 show wpAny (model P w) (A.deeper (envOfC qu sc s0.heap.objs.size f cd)) (leaving (envOfC qu sc s0.heap.objs.size f cd) (.ref e)) _ _ _
 have hst:=I.stack
 have hl:=PySem.W.funFrames_hide (as:=frs (envOfC qu sc s0.heap.objs.size f cd :: outer)) hst λenv he a ea=>List.mem_filterMap.mpr ⟨env,he,ea⟩
 refine wpAny_leaves_madeW (base:=PySem.W.hideAll s2.heap (frs (envOfC qu sc s0.heap.objs.size f cd :: outer))) (outer:=outer) (h:=s2.heap) (L:=s0.heap.objs.size) (s:={ s2 with heap:=h' }) I.ok.frames rfl (λb o q=>PySem.W.of_hideAll _ q) hl hx λh2 t fly tup tn up=>⟨e,rfl,?_⟩
 obtain⟨k1,k2,k3,oe,vs,T,oT,ts,e1,⟨e2,e3⟩,e4,e5,e6,e7,e8,e9,e10⟩:=fly
 have fr:∀ b∈frs (envOfC qu sc s0.heap.objs.size f cd :: outer),H0 b=none:=I.stkFree
 have keep:∀ b o,b ∉ frs (envOfC qu sc s0.heap.objs.size f cd :: outer)→s2.heap.get? b=some o→h2.get? b=some o:=λb o hb q=>k1 b o (PySem.W.hideAll_get _ q hb)
 have slot:∀ b o,b∈frs (envOfC qu sc s0.heap.objs.size f cd :: outer)→s2.heap.get? b=some o→∃ sl,h2.get? b=some { o with slots:=sl }:=λb o hb q=>by
  obtain⟨_,o',z,nf⟩:=hst.mem hb
  rw[q] at z;cases z
  exact up b o (hx.keeps b o q) nf
 have fre:∀ b,s2.heap.get? b=none→s0.heap.get? b=none:=λb z=>by
  cases q:s0.heap.get? b with
  | none=>rfl
  | some o=>obtain⟨o',r⟩:=I.base.there b o q List.not_mem_nil;rw[z] at r;cases r
 have ub:Un (frs outer) [] H0 H0 s0.heap s2.heap:=I.base
 have U2:Un (frs (envOfC qu sc s0.heap.objs.size f cd :: outer)) [] H0 H0 s2.heap h2:=⟨λb o q _ hb _=>keep b o hb q,λb o q _ hb _=>slot b o hb q,λb o _ n _=>n,λb o q _=>by
   by_cases hb:b∈frs (envOfC qu sc s0.heap.objs.size f cd :: outer)
   ·obtain⟨sl,z⟩:=slot b o hb q;exact⟨_,z⟩
   ·exact⟨o,keep b o hb q⟩,λ_ _ q=>q,λ_ _ _ q=>q,λb ps q=>⟨#[],by rw[q];simp⟩⟩
 have ne:∀ b o,s0.heap.get? b=some o→b ∉ frs outer→b ∉ frs (envOfC qu sc s0.heap.objs.size f cd :: outer):=λb o q hb z=>by
  rcases List.mem_filterMap.mp z with⟨env,he,ee⟩
  rcases List.mem_cons.mp he with r|r
  ·subst r
   have r:b=s0.heap.objs.size:=(Option.some.inj ee).symm
   exact absurd (Γl q) (by rw[r];exact Nat.lt_irrefl _)
  ·exact hb (List.mem_filterMap.mpr ⟨env,r,ee⟩)
 refine⟨I.os,I.bare,⟨λb o q n hb hx=>?_,λb o q n hb hx=>?_,λb o q n hx=>n,λb o q hx=>?_,λ_ _ q=>q,λ_ _ _ q=>q,λb ps q=>⟨#[],by rw[q];simp⟩⟩,HOk.but I.hok fr keep,fre e hx.new,oe,vs,.ref t,T,oT,ts,e1,e2,e4,e3,e5,?_,e7,e8,e9,e10⟩
 ·exact keep b o (ne b o q hb) (ub.keep b o q n hb hx)
 ·obtain⟨sl,r⟩:=ub.slot b o q n hb hx
  obtain⟨sl2,r2⟩:=U2.any r n List.not_mem_nil
  exact⟨sl2,r2⟩
 ·obtain⟨o',r⟩:=ub.there b o q hx
  exact U2.there b o' r hx
 ·cases q:s0.heap.get? T with
  | none=>rfl
  | some o =>
   obtain⟨o',r⟩:=ub.there T o q List.not_mem_nil
   by_cases hb:T∈frs (envOfC qu sc s0.heap.objs.size f cd :: outer)
   ·obtain⟨_,o2,z,nf⟩:=hst.mem hb
    obtain⟨sl,z2⟩:=slot T o2 hb z
    rw[e8] at z2;cases z2
    exact absurd e9 (nf ts)
   ·rw[PySem.W.hideAll_get _ r hb] at e6;cases e6
end
end Kq
end
section
namespace Kq
open PySem PySem.Spec PySem.Calls PyProof.Rows L2
theorem c8x {K:Γd}{h:Heap}{Cn:Addr}{bs:List Value}{i:String}(X:K.In h)(q:PySem.W.excIn K Cn bs i=true) :
  ∃ bm N nm qn b0 hd sn sub ab col dd k0 k1 k2 k3 k5 mN,h.get? Cn=some (excClassObj nm qn Cn N b0 bm hd sn sub ab col dd k0 k1 k2 k3 k5 i)∧h.Ns N mN∧mN "__init__" = none∧OwnTail h bs bm:=by
 unfold PySem.W.excIn at q
 split at q<;>try (cases q;done)
 rename_i dd cd sl ho
 split at q<;>try (cases q;done)
 rename_i C' bm k0 k1 k2 k3 n k5 hm hs
 simp only[Bool.and_eq_true,beq_iff_eq,Bool.not_eq_true'] at q
 obtain⟨⟨⟨⟨⟨rfl,rfl⟩,hdel⟩,ht⟩,hok⟩,hni⟩:=q
 obtain⟨nm,b0,mro,ns,qn,hd,sn,sub,ab,col,del⟩:=cd
 obtain⟨l⟩:=sl
 dsimp only at hm hdel hok hni hs
 subst hm hdel hs
 exact⟨bm,ns,nm,qn,b0,hd,sn,sub,ab,col,dd,k0,k1,k2,k3,k5,_,X _ _ ho,.of_isNs (PySem.W.isNs_of_in X hok),PySem.W.nsMap_none_of_in X hok hni,PySem.W.tail_of_in X ht⟩
section
variable {X:Cx}{x z:Str}{Cn:Addr}{np cp cpos pos:Pos}
theorem c2e {j}(hg:Gl X x)(hm:X.mg x=some (.ref Cn))(hd:(x == ("__debug__":Str))=false)(hq:PySem.W.excIn X.K Cn bmV "ValueError.__new__" = true)(hh:X.A.handled=none)
  (hxe:∀ pins σ s2 h' e args,Inv X pins σ X.H₀ s2→Heap.MadeExcOf s2.heap h' e (.ref Cn) args→X.xe (.ref e) { s2 with heap:=h' }) :
  PS X (.Raise (some (.Call (.Name x np) [.Constant (.str z) j cp] [] cpos)) none pos) (λ_ _ H=>H=X.H₀):=by
 intro pins s σ H D I hH
 subst hH
 obtain⟨bm,N,nm,qn,b0,hdc,sn,sub,ab,col,dd,k0,k1,k2,k3,k5,mN,hC,hN,hni,TL⟩:=c8x I.mod.kin hq
 refine wpAny_Raise_call_subT (C:=Cn) (nm:=nm) (q:=qn) (N:=N) (bs:=b0) (bm:=bm) (hdct:=hdc) (sn:=sn) (sub:=sub) (ab:=ab) (col:=col) (dd:=dd) (k0:=k0) (k1:=k1) (k2:=k2) (k3:=k3) (k5:=k5)
  F.excBase_ValueError (mN:=mN) (TL.hasType F.excBase_ValueError.hasBase) hh rfl hni (a4w I hg hm ⟨rfl,?_⟩ hd)
 have pa:PA X [.Constant (.str z) j cp] _:=a0h c4y a0y
 refine Calls.evalArgs_plain (wpAny_mono (pa cpos pins s σ X.H₀ (λvs H1=>H1=X.H₀∧vs.length≤sizeLine) I ⟨rfl,(show 1≤sizeLine by decide)⟩) (λus s2 ⟨vs,H1,I1,r,e,ln⟩=>?_) λ_ _ y=>y)
 subst e
 exact⟨rfl,by rw[← r.length];exact ln,I1.bk _ _ hC,hN.keeps I1.bk,TL.keeps I1.bk,λh' e hx=>hxe pins σ s2 h' e _ I1 hx⟩
end
section
variable {P:Program}{w:World}{K:Γd}{mg:Str→Option Value}{base:Heap}{nm qu:Str}{st:Stmt}{fa Ca Cn:Addr}{fdd:FuncData}{fl x sf z:Str}
def spR (Ca:Addr)(fl:Str):Sp:=λvs H _ _=>∃ a dx fs gs l,vs=[.ref a]∧H a=some (.big Ca dx fs gs)∧fs.lookup fl=some (.ref l)∧gs.lookup l=some []
theorem c2a {k:Nat} {j}{p1 p2 p3 np cp cpos p4 p5:Pos}{ret:List Stmt}(F:Fun K nm qu st fa fdd)(S:FnScope [sf] [sf] (a0o st))(hs:(a0o st).names.lookup sf=some .local)(hx:(a0o st).names.lookup x=some .globalImplicit)
  (hb:a1i st=.If (.UnaryOp .Not (.Attribute (.Name sf p1) fl p2) p3) [.Raise (some (.Call (.Name x np) [.Constant (.str z) j cp] [] cpos)) none p4] [] p5 :: ret)
  (hd:(x == ("__debug__":Str))=false)(hd1:(sf == ("__debug__":Str))=false)(hd2:(sf == ("__classdict__":Str))=false)(hm:mg x=some (.ref Cn))(hq:PySem.W.excIn K Cn bmV "ValueError.__new__" = true)(cl:Cls K Ca)(na:NoAttr K Ca fl) :
  FnOk P w K mg base (CXr P w Cn) (k+1) fa fdd [sf] (spR Ca fl):=by
 obtain⟨oc,od,kV,doc,pm,an,cdv,ct,osl,rfl,lk,hcd⟩:=F.ex
 refine d3b lk hcd S (λvs H Q E ⟨a,dx,fs,gs,l,e,_⟩=>by rw[e];rfl) λA outer s H vs Q E hr ⟨a,dx,fs,gs,l,e,h1,h2,h3⟩=>?_
 subst e
 rw[hb]
 refine⟨_,b3l (d1f (b3k (b0h (a4v (i:=0) (a7r rfl (.inl hs) hd1 hd2)) λ_=>rfl)) (b2c (c2e (Cn:=Cn) hx hm hd hq hr.hd λpins σ s2 h' e args I hx=>d2l I hx)) b7r) b7s,?_⟩
 refine⟨a,Ca,dx,fs,gs,.ref l,rfl,h1,cl,na,h2,a,Ca,dx,fs,gs,h1,λB=>⟨false,.inl ⟨[],SqL.of (B.opl (a1x h3)),rfl⟩,?_⟩⟩
 rfl
end
def Cx.at (X:Cx)(A:Around)(calm:Bool)(pn:List (Addr×Obj))(E:Value→Shared→Prop):Cx:={ X with A:=A,calm:=calm,pn:=pn,xe:=E }
section
variable {X:Cx}{pins:List (Addr×Obj)}{σ:L2.St}{H:Hp}{s:Shared}
theorem b4a (I:Inv X pins σ H s){A:Around}{cm:Bool}{pn:List (Addr×Obj)}{E:Value→Shared→Prop}(ha:A.frames=X.A.frames)(hc:cm=true→A.handled=none)(hp:∀ p∈pn,s.heap.get? p.1=some p.2∧H p.1=none∧p.1≠X.env.locals∧p.1 ∉ X.fs∧∀ v,p.2.data≠.cell v):Inv (Cx.at X A cm pn E) pins σ H s :=
 ⟨⟨I.ok.mod,I.ok.kind,I.ok.glob,I.ok.blt,I.ok.above,I.ok.inj,I.ok.has,I.ok.cab,hc,ha.trans I.ok.frames,I.ok.stk,I.ok.exf,I.ok.bs,I.ok.bsz,I.ok.noex,I.ok.exfs,I.ok.funs,I.ok.frf⟩,I.os,I.bare,I.base,I.loc,I.cell,I.free,I.freeC,λp h=>(List.mem_append.mp h).elim (hp p) λh=>I.pin p (List.mem_append_right _ h),I.hok,I.len⟩
theorem c8o {M:Model}{A:Around}{E:Value→Shared→Prop}{k:Nat}{n:Str}{pos:Pos}{Q:Unit→Shared→Prop}(I:Inv X pins σ H s)(hN:X.N.Nodup)(hk:X.N[k]?=some n)(hl:X.env.kindOf n=some .local)(h:∀ s',Inv X pins (σ.set k none) H s'→Q () s') :
  wpAny M A (do bindName X.env n .none;unbindBehindTheSuite X.env n pos) Q E s:=by
 obtain⟨m,hn,hlk⟩:=id I.loc
 have hcls:(X.env.scope.kind == .class || (X.env.scope.kind == .module && X.env.locals != X.env.globals))=false:=by rw[I.ok.kind];rfl
 refine wpAny_nameGoes_keeps hl hn hcls λh' v hn' hs=>h _ ?_
 have cne:=I.cne
 have ab:∀ b o,X.s₀.heap.get? b=some o→b≠X.env.locals:=λb o e=>Γo (Nat.lt_of_lt_of_le (Γl e) I.ok.above)
 refine⟨I.ok,I.os,I.bare,⟨λb o e n hb hx=>?_,λb o e n hb hx=>?_,I.base.free,λb o e hx=>?_,I.base.tups,I.base.frzs,I.base.tbls⟩,⟨_,hn',λj y v' e1 e2 e3=>?_⟩,λy c e=>?_,I.free,I.freeC,λp hp=>?_,HOk.but (ls:=[X.env.locals]) I.hok (λb hb=>by rw[List.mem_singleton.mp hb];exact I.free) (λb u hb e=>(hs.2 b λz=>hb (by rw[z];exact List.mem_singleton_self _)).trans e),by rw[List.length_set];exact I.len⟩
 ·exact (hs.2 b (ab b o e)).trans (I.base.keep b o e n hb hx)
 ·obtain⟨sl,z⟩:=I.base.slot b o e n hb hx
  exact⟨sl,(hs.2 b (ab b o e)).trans z⟩
 ·obtain⟨o',z⟩:=I.base.there b o e hx
  exact⟨o',(hs.2 b (ab b o e)).trans z⟩
 ·have hj:j≠k:=λz=>by
   rw[z] at e2
   by_cases hl:k<σ.length
   ·rw[List.getElem?_set_self hl] at e2;cases e2
   ·rw[List.getElem?_eq_none (by rw[List.length_set];exact Nat.le_of_not_lt hl)] at e2;cases e2
  rw[List.getElem?_set_ne (Ne.symm hj)] at e2
  obtain⟨u,r,q⟩:=hlk j y v' e1 e2 e3
  refine⟨u,r,?_⟩
  rcases q with⟨kk,e⟩|⟨kk,c,e,z⟩
  ·have ny:y≠n:=λz=>hj (a9a hN e1 (z ▸ hk))
   exact .inl ⟨kk,(if_neg ny).trans e⟩
  ·exact .inr ⟨kk,c,e,z.sameBut hs (cne y c e)⟩
 ·obtain⟨u,z⟩:=I.cell y c e
  exact⟨u,z.sameBut hs (cne y c e)⟩
 ·obtain⟨e,n,ne,nf,d⟩:=I.pin p hp
  exact⟨(hs.2 p.1 ne).trans e,n,ne,nf,d⟩
theorem b9r {s':Shared}{Cn ea T:Addr}{h5:Heap}(I:Inv X pins σ H s)(F:Flew X.prog X.w Cn (frs X.stack) H s ea s')(hT:s.heap.get? T=none)(hHT:H T=none)(k:(PySem.W.hideAll s'.heap (ea :: T :: frs X.stack)).StaysIn h5)(up:s'.heap.UpToSlots h5) (t:Nat):Inv X pins σ H { s' with heap:=h5,toks:=t }:=by
 have I1:Inv X pins σ H s':=I.call' (ch:=[]) F.os F.un F.hok F.bare (λb hb=>absurd hb List.not_mem_nil)
 have keep:∀ b o,b ∉ ea :: T :: frs X.stack→s'.heap.get? b=some o→h5.get? b=some o:=λb o hb q=>k b o (PySem.W.hideAll_get _ q hb)
 have ne:∀ b o,s.heap.get? b=some o→b ∉ frs X.stack→b ∉ ea :: T :: frs X.stack:=λb o q hb z=>by
  rcases List.mem_cons.mp z with z|z
  ·rw[z,F.new] at q;cases q
  ·rcases List.mem_cons.mp z with z|z
   ·rw[z,hT] at q;cases q
   ·exact hb z
 have slot:∀ b o,b∈frs X.stack→s'.heap.get? b=some o→∃ sl,h5.get? b=some { o with slots:=sl }:=λb o hb q=>by
  obtain⟨_,o',z,nf⟩:=I1.stack.mem hb
  rw[q] at z;cases z
  exact up b o q nf
 refine I.call' (ch:=[]) (s':={ s' with heap:=h5,toks:=t }) F.os ⟨λb o q n hb hx=>?_,λb o q n hb hx=>?_,λb o q n hx=>n,λb o q hx=>?_,λ_ _ q=>q,λ_ _ _ q=>q,λb ps q=>⟨#[],by rw[q];simp⟩⟩ (HOk.but F.hok (λb hb=>?_) keep) F.bare (λb hb=>absurd hb List.not_mem_nil)
 ·exact keep b o (ne b o q hb) (F.un.keep b o q n hb hx)
 ·obtain⟨sl,z⟩:=F.un.slot b o q n hb hx
  obtain⟨sl2,z2⟩:=slot b _ hb z
  exact⟨sl2,z2⟩
 ·obtain⟨o',z⟩:=F.un.there b o q hx
  by_cases hb:b∈frs X.stack
  ·obtain⟨sl,z2⟩:=slot b o' hb z;exact⟨_,z2⟩
  ·exact⟨o',keep b o' (ne b o q hb) z⟩
 ·rcases List.mem_cons.mp hb with z|z
  ·rw[z];exact HOk.non I.hok F.new
  ·rcases List.mem_cons.mp z with z|z
   ·rw[z];exact hHT
   ·exact I.stkFree b z
end
structure AtDef (X:Cx):Prop where
 stk:X.stack=X.env :: X.outer
 fr:X.env.frame=some X.env.locals
section
variable {X:Cx}{pins:List (Addr×Obj)}{σ:L2.St}{H:Hp}{s1 s2:Shared}{i j k kk:Nat}{nx cx en kx m fl:Str}{Ca Cn Ck g ea:Addr}{fd:FuncData}{ps:List Str}{p p2 p3 p4 px kp apos pos hpos tpos ipos:Pos}{cond:Expr}{ret rest:List Stmt}{u:TS}{pl:Sem Bool}{Q:Flow→Shared→Prop}{E:Value→Shared→Prop}
theorem c1n (at_:AtDef X)(I1:Inv X pins σ H s1)(Fl:Flew X.prog X.w Cn (frs X.stack) H s1 ea s2)(hg:Gl X kx)(hmg:X.mg kx=some (.ref Ck))(hd:(kx == ("__debug__":Str))=false)(hex:PySem.W.exmOne X.K (.ref Cn) (.ref Ck)=some true)
  (hN:X.N.Nodup)(hj:X.N[j]?=some cx)(hlj:X.env.scope.names.lookup cx=some .local)(hk:X.N[k]?=some en)(hlk:X.env.scope.names.lookup en=some .local)(hd1:(en == ("__debug__":Str))=false)(hd2:(en == ("__classdict__":Str))=false)
  (hQ:∀ s9 oe,oe.cls=.ref Cn→Inv (Cx.at X X.A X.calm ((ea,oe) :: X.pn) X.xe) pins (((σ.set k (some (.ref ea))).set j (some (.ref ea))).set k none) H s9→Q .next s9) :
  wpAny (model X.prog X.w) X.A (noteFrame (.ref ea) X.env) (λ_ s₂=>wpAny (model X.prog X.w) X.A (setFlight (.ref ea) none) (λ_ s₃=>wpAny (model X.prog X.w) X.A (handleBy (.ref ea) X.env [.ExceptHandler (some (.Name kx kp)) (some en) [.Assign [.Name cx px] (.Name en p3) p4] hpos]) Q E s₃) E s₂) E s2:=by
 obtain⟨oe,vs,a0,T,oT,ts,t1,t2,t3,t4,t5,t6,t7,t8,t9,t10⟩:=Fl.tr
 have hHT:H T=none:=HOk.non I1.hok t6
 have hHe:H ea=none:=HOk.non I1.hok Fl.new
 have I2:Inv X pins σ H s2:=I1.call' (ch:=[]) Fl.os Fl.un Fl.hok Fl.bare (λb hb=>absurd hb List.not_mem_nil)
 have fly:Heap.FlyingW (PySem.W.hideAll s2.heap (ea :: T :: frs X.stack)) (X.env :: X.outer) ea (.ref Cn) a0 s2.heap:=by
  refine⟨λb o q=>PySem.W.of_hideAll _ q,PySem.W.hideAll_none _ Γn,?_,oe,vs,T,oT,ts,t1,⟨t2,t4⟩,t3,t5,PySem.W.hideAll_none _ (Γh _ Γn),t7,t8,t9,t10⟩
  have z:=PySem.W.funFrames_hide (as:=ea :: T :: frs X.stack) I2.stack λenv he a ha=>Γh _ (Γh _ (List.mem_filterMap.mpr ⟨env,he,ha⟩))
  rw[at_.stk] at z ⊢
  exact z
 refine wpAny_looks_onW (L:=X.env.locals) (I1.ok.frames.trans (by rw[at_.stk])) at_.fr fly λh4 held up4=>?_
 refine wpAny_landsW held λh5 fly5 up5=>?_
 have I5:Inv X pins σ H { s2 with heap:=h5 }:=b9r I1 Fl t6 hHT fly5.1 (up4.trans up5) s2.toks
 obtain⟨ob5,ho5,hc5⟩:=fly5.there
 refine wpAny_handleBy_cons (codeAny_handlers_test (a4w (X:=Cx.at X (X.A.mark (some (.ref ea))) false X.pn X.xe) (b4a I5 rfl (λz=>nomatch z) λq hq=>I5.pin q (List.mem_append_left _ hq)) hg hmg ?_ hd)) (by intro q;cases q)
 refine (PySem.W.exm_one (K:=X.K) (h:=h5) I5.kIn (hc5 ▸ (PySem.W.Looks.ld ho5).andThen .now) hex).at ?_
 refine codeAny_handlers_suite_as (lands_againW fly5 λh6 fly6 up6=>?_)
 have I6:Inv X pins σ H { s2 with heap:=h6 }:=b9r I1 Fl t6 hHT fly6.1 ((up4.trans up5).trans up6) s2.toks
 obtain⟨o6,v6,ho6,hc6,hd6,_⟩:=fly6.first
 have pn:∀ q∈(ea,o6) :: X.pn,h6.get? q.1=some q.2∧H q.1=none∧q.1≠X.env.locals∧q.1 ∉ X.fs∧∀ v,q.2.data≠.cell v:=λq hq=>by
  rcases List.mem_cons.mp hq with z|z
  ·subst z
   refine⟨ho6,hHe,λz=>?_,λz=>?_,λv z=>?_⟩
   ·obtain⟨_,⟨o,_,_,q,_⟩,_⟩:=I1.loc
    have z:ea=X.env.locals:=z
    rw[← z,Fl.new] at q;cases q
   ·obtain⟨_,o,q,_⟩:=I1.funs.mem z
    have q:s1.heap.get? ea=some o:=q
    rw[Fl.new] at q;cases q
   ·rw[hd6] at z;cases z
  ·exact I6.pin q (List.mem_append_left _ z)
 refine a4i (X:=Cx.at X (X.A.mark (some (.ref ea))) false ((ea,o6) :: X.pn) λ_ _=>False) (v:=.ref ea) (b4a I6 rfl (λz=>nomatch z) pn) hN hk (.inl hlk) rfl (λs7 I7=>?_) (.inr hlk)
 have ps:PSs (Cx.at X (X.A.mark (some (.ref ea))) false ((ea,o6) :: X.pn) λ_ _=>False) [.Assign [.Name cx px] (.Name en p3) p4] _:=b2c (c4v hN hj (.inl hlj) (a7r hk (.inl hlk) hd1 hd2) rfl (.inr hlj))
 have kl:k<σ.length:=by rw[I1.len];exact (List.getElem?_eq_some_iff.mp hk).1
 refine wpAny_mono (ps pins s7 _ H { nx:=λσ' H'=>σ'=(σ.set k (some (.ref ea))).set j (some (.ref ea))∧H'=H,rt:=λ_ _=>False } I7 ⟨.ref ea,List.getElem?_set_self kl,rfl,rfl⟩) (λf s8 hs=>?_) λ_ _ z=>z.elim
 cases f with
 | next =>
  obtain⟨σ',H',I8,rfl,rfl⟩:=hs
  have I8':Inv (Cx.at X X.A X.calm ((ea,o6) :: X.pn) X.xe) pins ((σ.set k (some (.ref ea))).set j (some (.ref ea))) H' s8:=b4a I8 rfl I1.ok.hd λq hq=>I8.pin q (List.mem_append_left _ hq)
  exact c8o (X:=Cx.at X X.A X.calm ((ea,o6) :: X.pn) X.xe) I8' hN hk hlk λs9 I9=>hQ s9 o6 hc6 I9
 | ret v=>obtain⟨_,_,_,_,_,q⟩:=hs;exact q.elim
 | brk=>obtain⟨_,_,_,q⟩:=hs;exact q.elim
 | cont=>obtain⟨_,_,_,q⟩:=hs;exact q.elim
def tTry (i j k:Nat)(Ca:Addr)(m fl:Str)(u:TS):TS:=λD σ H=>(∃ a dx fs gs l,σ[i]?=some (some (.ref a))∧H a=some (.big Ca dx fs gs)∧fs.lookup m=none∧fs.lookup fl=some (.ref l)∧gs.lookup l=some [])∧∀ x d xs,H d=none→u D (((σ.set k (some x)).set j (some x)).set k none) (upd H d (.tup xs))
theorem d0e (hx:∀ e s,¬ X.xe e s)(at_:AtDef X)(ho:PE X (.Name nx p) (b6a i))(c:Cls X.K Ca)(hm:Meth X.K Ca m g)(F:FnOk X.prog X.w X.K X.mg X.base (CXr X.prog X.w Cn) kk g fd ps (spR Ca fl))(hr:Room kk X.A)(hb:Binds X.K fd ps [])
  (ht:eval (.Call (.Attribute (.Name nx p) m apos) [] [] pos) X.env=(do
   let ov ← eval (.Name nx p) X.env
   standAt apos.atName
   let (f,first) ← holding [ov] (getMethod ov m pl)
   callWith pos f first (backTo pos (starEach [] X.env)) (backToKw pos (keywordEach [] X.env))))
  (hg:Gl X kx)(hmg:X.mg kx=some (.ref Ck))(hd:(kx == ("__debug__":Str))=false)(hex:PySem.W.exmOne X.K (.ref Cn) (.ref Ck)=some true)
  (hN:X.N.Nodup)(hj:X.N[j]?=some cx)(hlj:X.env.scope.names.lookup cx=some .local)(hk:X.N[k]?=some en)(hlk:X.env.scope.names.lookup en=some .local)(hd1:(en == ("__debug__":Str))=false)(hd2:(en == ("__classdict__":Str))=false)(hjk:j≠k)
  (hc:∀ ea oe,oe.cls=.ref Cn→PT (Cx.at X X.A X.calm ((ea,oe) :: X.pn) X.xe) cond (λσ H Q=>σ[j]?=some (some (.ref ea))∧∀ d xs,H d=none→Q false (upd H d (.tup xs))))
  (hrest:PSs X rest u) :
  PSs X (.Try [.Expr (.Call (.Attribute (.Name nx p) m apos) [] [] pos) p2] [.ExceptHandler (some (.Name kx kp)) (some en) [.Assign [.Name cx px] (.Name en p3) p4] hpos] [] [] tpos :: .If cond ret [] ipos :: rest) (tTry i j k Ca m fl u):=by
 rintro pins s σ H D I ⟨⟨a,dx,fs,gs,l,e1,h,lm,lf,lg⟩,hu⟩
 refine wpAny_execs_cons (wpAny_Try_except (wpAny_execs_cons (wpAny_Expr_any ?_ I.quiet rfl)))
 refine PySem.W.methodCall_KW (pl:=pl) (wpAny_mono (ho pins s σ H (λx H1=>x=.ref a∧H1=H) I ⟨_,e1,rfl,rfl⟩) (λv s1 ⟨x,H1,I1,rx,ex,eh⟩=>?_) λe s z=>(hx e s z).elim) ht
 subst ex;subst eh
 obtain rfl:v=Value.ref a:=rx
 refine a4y (a2g I1 h) a5g c hm lm ?_
 refine PySem.W.callWith_K0 (first:=[.ref a]) I1.kIn hm.kp ?_
 have sp0:spR Ca fl [.ref a] H1 (λ_ _=>False) E0:=⟨a,dx,fs,gs,l,rfl,h,lf,lg⟩
 refine wpAny_call (codeAny_mono (F.run X.A X.stack s1 H1 ⟨[.ref a],[]⟩ [.ref a] [.ref a] (λ_ _=>False) E0 hr I1.env0 (hb s1 [.ref a] I1.kIn (F.len _ _ _ _ sp0)) (.cons rfl .nil) sp0) λr s2 hq=>?_)
 cases r with
 | ok f =>
  cases f with
  | ret u=>obtain⟨_,_,_,_,_,_,_,q⟩:=hq;exact q.elim
  | next=>exact False.elim hq
  | brk=>exact False.elim hq
  | cont=>exact False.elim hq
 | error e =>
  obtain⟨ea,rfl,Fl⟩:=hq
  refine c1n at_ I1 Fl hg hmg hd hex hN hj hlj hk hlk hd1 hd2 λs9 oe hcl I9=>?_
  have jl:j<σ.length:=by rw[I.len];exact (List.getElem?_eq_some_iff.mp hj).1
  have ej:(((σ.set k (some (.ref ea))).set j (some (.ref ea))).set k none)[j]?=some (some (.ref ea)):=by
   rw[List.getElem?_set_ne (Ne.symm hjk),List.getElem?_set_self (by rw[List.length_set];exact jl)]
  refine wpAny_execs_cons (wpAny_If (thn (hc ea oe hcl pins s9 _ H1 (λb H'=>b=false∧∃ d xs,H1 d=none∧H'=upd H1 d (.tup xs)) I9 ⟨ej,λd xs hd=>⟨rfl,d,xs,hd,rfl⟩⟩) λb s10 ⟨H2,I10,eb,d,xs,hd,eh⟩=>?_))
  subst eb;subst eh
  refine wpAny_execs_nil ?_
  have I11:Inv X pins (((σ.set k (some (.ref ea))).set j (some (.ref ea))).set k none) (upd H1 d (.tup xs)) s10:=b4a I10 rfl I.ok.hd λq hq=>I10.pin q (List.mem_append_left _ (Γh _ hq))
  exact hrest pins s10 _ _ D I11 (hu _ d xs hd)
end
section
variable {X:Cx}{Cn ea:Addr}{oe:Obj}
theorem d4l (hc:oe.cls=.ref Cn)(xc:XCls X.K Cn):a1k (Cx.at X X.A X.calm ((ea,oe) :: X.pn) X.xe) (.builtin "isinstance") (λxs H Q=>∃ cv c b,xs=[.ref ea,c]∧(∀ u,RelV c u→u=cv)∧PySem.W.kitOne X.K (.ref Cn) cv=some b∧Q (.bl b) H):=by
 intro pins s σ H xs us Q I r hh
 obtain⟨cv,c,b,rfl,h1,h2,q⟩:=hh
 obtain⟨u,u',rfl,ru,ru'⟩:=a9y r
 obtain rfl:u=.ref ea:=ru
 obtain rfl:=h1 u' ru'
 exact PySem.W.kia_one (K:=X.K) (b3z xc) I.kIn ⟨oe,(I.pin (ea,oe) (List.mem_append_left _ Γn)).1,hc⟩ h2 (λz=>nomatch z) λtk=>⟨.bl b,H,I.tok _,rfl,q⟩
theorem d4k (hc:oe.cls=.ref Cn)(xc:XCls X.K Cn):a1k (Cx.at X X.A X.calm ((ea,oe) :: X.pn) X.xe) (.builtin "isinstance") (λxs H Q=>∃ d c c' b,xs=[.ref ea,.ref d]∧H d=some (.tup [.ref c,.ref c'])∧PySem.W.kitAny X.K (.ref Cn) [.ref c,.ref c']=some b∧Q (.bl b) H):=by
 intro pins s σ H xs us Q I r hh
 obtain⟨d,c,c',b,rfl,hd,h2,q⟩:=hh
 obtain⟨u,u',rfl,ru,ru'⟩:=a9y r
 obtain rfl:u=.ref ea:=ru
 obtain rfl:u'=.ref d:=ru'
 obtain⟨_,its,rv,o,ho,hcl,nn,hdt⟩:=(show ObjOk X.prog X.w H s.heap d (.tup [.ref c,.ref c']) from I.hok d _ hd)
 obtain⟨w1,w2,rfl,rw1,rw2⟩:=a9y rv
 obtain rfl:w1=.ref c:=rw1
 obtain rfl:w2=.ref c':=rw2
 obtain⟨oc,od,odt,osl⟩:=o
 simp only at hcl hdt
 subst hcl hdt
 exact PySem.W.kia_tup (K:=X.K) (b3z xc) I.kIn ⟨oe,(I.pin (ea,oe) (List.mem_append_left _ Γn)).1,hc⟩ ho h2 (λz=>nomatch z) λtk=>⟨.bl b,H,I.tok _,rfl,q⟩
structure TryF (K:Γd)(mg:Str→Option Value)(Cn:Addr)(kx n1 n2 n3 n4:Str)(T:String):Prop where
 k:∃ Ck,mg kx=some (.ref Ck)∧PySem.W.exmOne K (.ref Cn) (.ref Ck)=some true
 a:mg n1=some (.ref Cn)
 b:mg n2=none
 c:∃ Cb Cl,mg n3=some (.ref Cb)∧mg n4=some (.ref Cl)∧PySem.W.kitAny K (.ref Cn) [.ref Cb,.ref Cl]=some false
 v:PySem.W.kitOne K (.ref Cn) (.type T)=some true
 x:XCls K Cn
 e:PySem.W.excIn K Cn bmV "ValueError.__new__" = true
def TryX (Ca Cn:Addr)(m fl kx n1 n2 n3 n4:Str)(T:String)(X:Cx):Prop:=AtDef X∧TryF X.K X.mg Cn kx n1 n2 n3 n4 T∧∃ g fd ps,Cls X.K Ca∧Meth X.K Ca m g∧Binds X.K fd ps []∧FnOk X.prog X.w X.K X.mg X.base (CXr X.prog X.w Cn) 1 g fd ps (spR Ca fl)
end
def d7j (i j k:Nat)(Ca:Addr)(m fl:Str)(r:SW):SW:=λL Q=>wp (lk L i) λo=>isO Ca m o∧wp (lsF Ca fl o) λxs=>xs=[]∧r ((L.set k none).set j none |>.set k none) Q
@[scoped simp ↓] theorem d7i (i j k:Nat)(Ca:Addr)(m fl:Str)(r:SW)(L:a0d)(Q:FFl→a0d→Prop):d7j i j k Ca m fl r L Q=(wp (lk L i) λo=>isO Ca m o∧wp (lsF Ca fl o) λxs=>xs=[]∧r ((L.set k none).set j none |>.set k none) Q):=propext Iff.rfl
section
variable {X:Cx}{C:CC}{n:Nat}{sp:Γd→Nat→Sp}{fr:Bool}{i j k kk:Nat}{nx cx en kx m fl n1 n2 n3 n4:Str}{Ca Cn:Addr}{p p2 p3 p4 px kp apos pos hpos tpos ipos:Pos}{ret rest:List Stmt}{r:SW}{T:String}{mm:Nat}{q1 q2 q3 q4 q5 q6 q7 q8 q9 q10 q11 q12 q13 q14 q15 q16 q17 q18:Pos}
theorem d2x (Z:TryX Ca Cn m fl kx n1 n2 n3 n4 T X)(G:Good X C (n+1) sp)(h:C.nm i nx=true)(mo:a0n C.md i=.own)(hl:c5s apos pos=true)
  (hj:(C.nm j cx && C.nm k en)=true)(hm:(decide (a0n C.md j=.imm) && (decide (a0n C.md k=.imm) && !decide (j=k)))=true)(hll:(decide (C.sc.lookup cx=some .local) && decide (C.sc.lookup en=some .local))=true)
  (hg:(C.gl kx && (C.gl n1 && (C.gl n2 && (C.gl n3 && (C.gl n4 && C.gl (Γe "isinstance"))))))=true)(hdb:(!(kx == ("__debug__":Str)) && (!(n1 == ("__debug__":Str)) && (!(n2 == ("__debug__":Str)) && (!(n3 == ("__debug__":Str)) && !(n4 == ("__debug__":Str))))))=true)
  (hT:bootBuiltins n2=some (.type T))(hn2:(n2 == ("__name__":Str))=false)(hr:FSs X C fr rest r) :
  FSs X C fr (.Try [.Expr (.Call (.Attribute (.Name nx p) m apos) [] [] pos) p2] [.ExceptHandler (some (.Name kx kp)) (some en) [.Assign [.Name cx px] (.Name en p3) p4] hpos] [] [] tpos ::
   .If (.BoolOp .Or [.UnaryOp .Not (.Call (.Name (Γe "isinstance") q1) [.Name cx q2,.Name n1 q3] [] q4) q5,.UnaryOp .Not (.Call (.Name (Γe "isinstance") q6) [.Name cx q7,.Name n2 q8] [] q9) q10,.Call (.Name (Γe "isinstance") q11) [.Name cx q12,.Tuple [.Name n3 q13,.Name n4 q14] mm q15] [] q16] q17) ret [] ipos :: rest) (d7j i j k Ca m fl r):=by
 obtain⟨at_,F,g,fd,ps,cl,me,bi,fn⟩:=Z
 obtain⟨Ck,f1,f2⟩:=F.k
 obtain⟨Cb,Cl,f3,f4,f5⟩:=F.c
 have hj:=b2 hj
 have hj1:=b2 hj.1;have hj2:=b2 hj1.1;have hj3:=b2 hj2.1
 have hk1:=b2 hj.2;have hk2:=b2 hk1.1;have hk3:=b2 hk2.1
 have hm:=b2 hm;have hm2:=b2 hm.2
 have hll:=b2 hll
 have hg:=b2 hg;have g1:=b2 hg.2;have g2:=b2 g1.2;have g3:=b2 g2.2;have g4:=b2 g3.2
 have hd:=b2 hdb;have d1:=b2 hd.2;have d2:=b2 d1.2;have d3:=b2 d2.2
 have eN:X.N=C.N:=G.N
 have eS:X.env.scope.names=C.sc:=G.sc
 obtain⟨pl,hev⟩:=a6e (nx:=nx) (p:=p) (m:=m) (env:=X.env) (es:=[]) hl rfl
 have rm:Room 1 X.A:=G.room.toRoom.mono (Nat.succ_le_succ (Nat.zero_le n))
 have jk:j≠k:=by have:=nb hm2.2;simpa using this
 refine PSs.imp (d0e (X:=X.nox) (i:=i) (j:=j) (k:=k) (cx:=cx) (en:=en) (λ_ _ z=>z) ⟨at_.stk,at_.fr⟩ (a1c G h) cl me fn rm bi hev (G.gl hg.1) f1 (nb hd.1) f2 (by show X.N.Nodup;rw[eN];exact G.nd) (by show X.N[j]?=_;rw[eN];exact de hj3.1) (by show X.env.scope.names.lookup cx=_;rw[eS];exact de hll.1) (by show X.N[k]?=_;rw[eN];exact de hk3.1) (by show X.env.scope.names.lookup en=_;rw[eS];exact de hll.2) (nb hk2.2) (nb hk1.2) jk (λea oe hoe=>?_) hr) ?_
 ·have is0:∀ y,C.gl y=true→Gl (Cx.at X.nox X.A X.calm ((ea,oe) :: X.pn) λ_ _=>False) y:=λy hy=>G.gl hy
  have var:∀ q,PE (Cx.at X.nox X.A X.calm ((ea,oe) :: X.pn) λ_ _=>False) (.Name cx q) (b6a j):=λq=>a7r (by show X.N[j]?=_;rw[eN];exact de hj3.1) (G.vis hj3.2) (nb hj2.2) (nb hj1.2)
  have b0:X.mg (Γe "isinstance")=none:=G.blt "isinstance" (by decide)
  have c1:=a2i (p:=q1) (pos:=q4) (d4l (X:=X.nox) (ea:=ea) hoe F.x) (is0 _ g4.2) b0 (by nofun) (a0h (var q2) (a0h (b2f (pos:=q3) (v:=.ref Cn) (is0 _ g1.1) F.a rfl (nb d1.1)) a0y rfl) rfl) (by nofun) (by nofun) rfl rfl
  have c2:=a2i (p:=q6) (pos:=q9) (d4l (X:=X.nox) (ea:=ea) hoe F.x) (is0 _ g4.2) b0 (by nofun) (a0h (var q7) (a0h (b2g (pos:=q8) (v:=.ty T) (is0 _ g2.1) F.b hT rfl (λz=>by rw[z] at hn2;simp at hn2) (nb d2.1)) a0y rfl) rfl) (by nofun) (by nofun) rfl rfl
  have tup:=b3n (x1:=mm) (pos:=q15) (a0h (b2f (pos:=q13) (v:=.ref Cb) (is0 _ g3.1) f3 rfl (nb d3.1)) (a0h (b2f (pos:=q14) (v:=.ref Cl) (is0 _ g4.1) f4 rfl (nb d3.2)) a0y rfl) rfl)
  have c3:=a2i (p:=q11) (pos:=q16) (d4k (X:=X.nox) (ea:=ea) hoe F.x) (is0 _ g4.2) b0 (by nofun) (a0h (var q12) (a0h tup a0y rfl) rfl) (by nofun) (by nofun) rfl rfl
  refine PT.imp (PW.pt (c6r (b3k (b7p c1 λ_=>rfl)) (c6r (b3k (b7p c2 λ_=>rfl)) (c4u (b7p c3 λ_=>rfl))))) λσ H Q ⟨e1,kq⟩=>?_
  have yes:PySem.W.kitOne X.K (.ref Cn) (.ref Cn)=some true:=by unfold PySem.W.kitOne;rw[if_pos (by simp)]
  refine⟨.ref ea,e1,.ref Cn,.ref Cn,true,rfl,λu r=>r,yes,true,rfl,?_⟩
  refine⟨.ref ea,e1,.type T,.ty T,true,rfl,λu r=>r,F.v,true,rfl,?_⟩
  refine⟨.ref ea,e1,by show 2≤sizeLine;decide,λd hd=>⟨d,Cb,Cl,false,rfl,a0e,f5,false,rfl,kq d _ hd⟩⟩
 ·rintro D σ H ⟨c,L,S,Q0,I,hh,kq⟩
  obtain⟨o,e,ho,hh⟩:=wpx hh
  obtain⟨xs,e2,rfl,hz⟩:=wpx hh
  obtain⟨dx,fs,gs,l,ys,rfl,h1,h2,h3⟩:=b3t e2
  obtain⟨a,e1,hb⟩:=I.obj mo e
  have ey:ys=[]:=List.eq_nil_of_length_eq_zero (a5m h3).symm
  subst ey
  refine⟨⟨a,dx,fs,gs,l,e1,hb,ho.2,h1,h2⟩,λx d xs hd=>?_⟩
  have I2:=((((I.new hd (.tup xs)).blankO (de hm2.1) (some x)).blankO (de hm.1) (some x)).blankO (de hm2.1) none)
  exact⟨c,_,_,Q0,I2,hz,λfl L7 q7 σ7 S7 H7 I7 s7=>kq fl L7 q7 σ7 S7 H7 I7 ((a0r (I.sn hd)).trans s7)⟩
end
end Kq
end
section
namespace Kq
open PySem PySem.Spec PyProof.Rows L2
section
variable {P:Program}{w:World}{K:Γd}{mg:Str→Option Value}{base:Heap}{tb:List FD}{fns:Fns}
theorem a9q {PX:Cx→Prop}{d f:Nat}{fa:Addr}{fdd:FuncData}{df:Df}{fd:FD}{nm qu:Str}(hP:∀ N qu sc f cd A outer s H E,PX (b6c CX0 P w K mg base N qu sc f cd A outer s H E))(F:Fun K nm qu df.st fa fdd)(hf:tb[f]?=some fd)(hok:df.ok fd.np fd.ns fd.io=true)
  (hb:∀ X call n,PX X→Good X (df.cc fns) (n+1) (spK tb call)→FSs X (df.cc fns) fd.fr (a1i df.st) (fd.body call))
  (fnsOk:∀ (f:Nat)(x:Str),fns.f[f]?=some x→∃ fa fd ps,mg x=some (.ref fa)∧PySem.W.keepIn K (.ref fa)=true∧Binds K fd ps []∧FnOk P w K mg base CX0 (d+1) fa fd ps (spT K tb (callW tb d) f))
  (blt:∀ b∈bltNames,mg (Γe b)=none)(mtsOk:∀ (k:Nat)(c:Str)(Ca:Addr)(m:Str),fns.ms[k]?=some (c,Ca,m)→e3r P w K mg base (d+1) (spT K tb (callW tb d) (fns.f.length+k)) c Ca m)(fl:∀ p∈fns.fl,Cls K p.1∧NoAttr K p.1 p.2):FnOk P w K mg base CX0 (d+2) fa fdd df.ps (spT K tb (callW tb (d+1)) f):=by
 obtain⟨S,hnp,hns,hmd⟩:=Df.sc hok
 have e0:spT K tb (callW tb (d+1)) f=spQ K (callW tb (d+1)) fd.io fd.fr f:=by unfold spT;rw[hf]
 have run:∀ {args:List FV}{Q:FV×FV→Prop},callW tb (d+1) f args Q→args.length=fd.np∧fd.body (callW tb d) (args.map some++Γj (fd.ns-fd.np) none) (b9v fd.io fd.fr Q):=λ{args Q} h=>by
  have h:(match tb[f]? with
   | none=>False
   | some fd=>args.length=fd.np∧fd.body (callW tb d) (args.map some++Γj (fd.ns-fd.np) none) (b9v fd.io fd.fr Q)):=h
  rw[hf] at h;exact h
 rw[e0]
 refine F.ok S (λvs H Q E h=>?_) (λcdv A outer s H vs Q E hr h=>?_)
 ·obtain⟨S0,args,Q0,_,ao,hc,_⟩:=h
  rw[← ao.len,(run hc).1,hnp]
 ·obtain⟨S0,args,Q0,hs,ao,hc,k⟩:=h
  obtain⟨hl,hc⟩:=run hc
  have G:Good (b6c CX0 P w K mg base df.N qu (a0o df.st) fa cdv A outer s H E) (df.cc fns) (d+1) (spK tb (callW tb d)) :=
   ⟨rfl,rfl,S.kind,S.nd,rfl,λ_ _=>rfl,hr,fnsOk,blt,mtsOk,fl⟩
  refine⟨_,hb _ _ _ (hP ..) G,_,_,S0,_,c3e ao hs hl hns hmd,hc,λfl L' q σ' S' H' I s'=>?_⟩
  have kp:∀ w,(fd.io=true→lk L' 0=some w)→Kept K S0 H S' H' (b3v vs fd.io) w:=λw hw=>⟨s',I.sub,I.grow,λa o e n=>I.frame a o e n (λ_=>List.not_mem_nil),λa e=>by
   have hio:fd.io=true:=by
    cases z:fd.io with
    | true=>rfl
    | false=>rw[z] at e;cases e
   obtain⟨m0,e1,v,e2⟩:=I.lent a e
   obtain⟨b,e3,o,_⟩:=I.own 0 v m0 e2
   rw[e1] at e3;cases e3
   have:=(a4n _ _ _).mp (hw hio)
   rw[e2] at this;cases this
   exact o⟩
  have fin:∀ v x,b9v fd.io fd.fr Q0 (.ret v) L'→c9p K S' H' H v x fd.fr→Q x H':=λv x q r=>by
   cases hio:fd.io with
   | true =>
    rw[hio] at q
    obtain⟨w,e1,q⟩:=wpx q
    exact k _ q x S' H' (kp w λ_=>e1) r
   | false =>
    rw[hio] at q
    exact k (v,.non) q x S' H' (kp .non λz=>by rw[hio] at z;cases z) r
  cases fl with
  | next =>
   cases hfr:fd.fr with
   | true=>rw[hfr] at q;exact q.elim
   | false=>rw[hfr] at q;exact fin .non .non (by rw[hfr];exact q) (by rw[hfr];exact rfl)
  | ret v =>
   intro x r
   refine fin v x q ?_
   cases hfr:fd.fr with
   | true=>rw[hfr] at r;exact r
   | false=>rw[hfr] at r;exact r
  | brk=>exact q.elim
  | cont=>exact q.elim
theorem b4p {PX:Cx→Prop}(hP:∀ N qu sc f cd A outer s H E,PX (b6c CX0 P w K mg base N qu sc f cd A outer s H E))(blt:∀ b∈bltNames,mg (Γe b)=none)(fl:∀ p∈fns.fl,Cls K p.1∧NoAttr K p.1 p.2)
  (D:∀ (f:Nat)(x:Str),fns.f[f]?=some x→∃ df fd fa fdd,tb[f]?=some fd∧Df.ok df fd.np fd.ns fd.io=true∧(∀ X call n,PX X→Good X (df.cc fns) (n+1) (spK tb call)→FSs X (df.cc fns) fd.fr (a1i df.st) (fd.body call))∧Fun K (Γe df.name) (Γe df.name) df.st fa fdd∧mg x=some (.ref fa)∧Binds K fdd df.ps [])
  (DM:∀ (k:Nat)(c:Str)(Ca:Addr)(m:Str),fns.ms[k]?=some (c,Ca,m)→∃ df fd fa fdd nm qu,tb[fns.f.length+k]?=some fd∧Df.ok df fd.np fd.ns fd.io=true∧(∀ X call n,PX X→Good X (df.cc fns) (n+1) (spK tb call)→FSs X (df.cc fns) fd.fr (a1i df.st) (fd.body call))∧Fun K nm qu df.st fa fdd∧mg c=some (.ref Ca)∧Cls K Ca∧(m=("__init__":Str)→Mk K Ca fa)∧(m≠("__init__":Str)→Meth K Ca m fa)∧Binds K fdd df.ps []) :
  ∀ d:Nat,(∀ (f:Nat)(x:Str),fns.f[f]?=some x→∃ fa fd ps,mg x=some (.ref fa)∧PySem.W.keepIn K (.ref fa)=true∧Binds K fd ps []∧FnOk P w K mg base CX0 (d+1) fa fd ps (spT K tb (callW tb d) f))∧∀ (k:Nat)(c:Str)(Ca:Addr)(m:Str),fns.ms[k]?=some (c,Ca,m)→e3r P w K mg base (d+1) (spT K tb (callW tb d) (fns.f.length+k)) c Ca m
 | 0=>by
  have no:∀ {f fd} vs H Q E,tb[f]?=some fd→¬ spT K tb (callW tb 0) f vs H Q E:=λvs H Q E h1 z=>by
   unfold spT at z
   rw[h1] at z
   obtain⟨_,_,_,_,_,k,_⟩:=z
   exact k
  refine⟨λf x h=>?_,λk c Ca m h=>?_⟩
  ·obtain⟨df,fd,fa,fdd,h1,h2,h6,h3,h4,h5⟩:=D f x h
   exact⟨fa,fdd,df.ps,h4,h3.kp,h5,λvs H Q E z=>absurd z (no vs H Q E h1),λA outer s H args us vs Q E _ _ _ _ z=>absurd z (no vs H Q E h1)⟩
  ·obtain⟨df,fd,fa,fdd,nm,qu,h1,h2,h6,h3,h4,h5,h7,h8,h9⟩:=DM k c Ca m h
   exact⟨fa,fdd,df.ps,h4,h5,h7,h8,h9,λvs H Q E z=>absurd z (no vs H Q E h1),λA outer s H args us vs Q E _ _ _ _ z=>absurd z (no vs H Q E h1)⟩
 | d+1=>by
  obtain⟨r1,r2⟩:=b4p hP blt fl D DM d
  refine⟨λf x h=>?_,λk c Ca m h=>?_⟩
  ·obtain⟨df,fd,fa,fdd,h1,h2,h6,h3,h4,h5⟩:=D f x h
   exact⟨fa,fdd,df.ps,h4,h3.kp,h5,a9q hP h3 h1 h2 h6 r1 blt r2 fl⟩
  ·obtain⟨df,fd,fa,fdd,nm,qu,h1,h2,h6,h3,h4,h5,h7,h8,h9⟩:=DM k c Ca m h
   exact⟨fa,fdd,df.ps,h4,h5,h7,h8,h9,a9q hP h3 h1 h2 h6 r1 blt r2 fl⟩
end
end Kq
namespace Kq
open PySem PySem.Spec PyProof.Rows L2
theorem ux {PX:Cx→Prop}{C:CC}{tb:List FD}{fr:Bool}{b:List Stmt}{s:CW→SW}(h:∀ X call n,Good X C n (spK tb call)→FSs X C fr b (s call)):∀ X call n,PX X→Good X C (n+1) (spK tb call)→FSs X C fr b (s call):=λX c n _ G=>h X c (n+1) G
theorem a6k {x:Option Bool}{b:Bool}(h:c9v x b=true):x=some b:=by
 cases x with
 | none=>cases h
 | some c=>rw[beq_iff_eq.mp (show (c == b)=true from h)]
theorem XCls.of {K:Γd}{D:Addr}(h:d0a K D=true):XCls K D :=
 have h1:=b2 h;have h2:=b2 h1.2;have h3:=b2 h2.2;have h4:=b2 h3.2;have h5:=b2 h4.2
 ⟨h1.1,b2t h2.1,b9c h3.1,b2t h4.1,a6k h5.1,a6k h5.2⟩
theorem TryF.of {Ck Cn Cb Cl:Addr}{kx n1 n2 n3 n4:Str}{T:String}{K:Γd}{mg:Str→Option Value}(h:tryB Ck Cn Cb Cl kx n1 n2 n3 n4 T K mg=true):TryF K mg Cn kx n1 n2 n3 n4 T :=
 have h1:=b2 h;have h2:=b2 h1.2;have h3:=b2 h2.2;have h4:=b2 h3.2;have h5:=b2 h4.2;have h6:=b2 h5.2;have h7:=b2 h6.2;have h8:=b2 h7.2;have h9:=b2 h8.2
 ⟨⟨Ck,b0q h1.1,a6k h6.1⟩,b0q h2.1,Option.isNone_iff_eq_none.mp h3.1,⟨Cb,Cl,b0q h4.1,b0q h5.1,a6k h8.1⟩,a6k h7.1,XCls.of h9.2,h9.1⟩
end Kq
end
set_option maxRecDepth 10000
set_option maxHeartbeats 1000000
section
namespace Kq
def bd0 (call:CW):SW:=a1j (b4h (eUn (a9w .int) (a0b 0)) (eUn d4z (eUn (a9w .bool) (a0b 0))))
def bd1 (call:CW):SW:=a1j (b4h (eUn (a9w .tuple) (a0b 0)) (eOp eqB (eUn a7g (a0b 0)) (a0b 1)))
def bd2 (call:CW):SW:=a0t (sIf (a9v (a1n (a0l call 1 (a0a (a0b 0) (a0a (eC (.int 2)) a0i))))) (a1j (eC (.bl false))) a3v) (a0t (a1o (a0b 0) (.tp [1,2])) (a0t (sIf (bOr (a9v (a1n (eUn (a9w .tuple) (a0b 1)))) (a9v (a1n (eUn (a9w .tuple) (a0b 2))))) (a1j (eC (.bl false))) a3v) (a0t (sIf (a9v (a1n (eUn c5u (a2l 4 1 (c8l (a0b 1)) (.nm 4) a2a (a0l call 3 (a0a (a0b 4) a0i)))))) (a1j (eC (.bl false))) a3v) (a0t (sIf (a9v (a1n (eUn c5u (a2l 4 1 (c8l (a0b 2)) (.nm 4) a2a (a0l call 4 (a0a (a0b 4) (a0a (eUn a7g (a0b 1)) a0i))))))) (a1j (eC (.bl false))) a3v) (a0t (a1o (a2l 4 1 (c8l (a0b 2)) (.nm 4) a2a (eSl (a0b 4) a7a (a5h (eC (.int 2))))) (.nm 3)) (a1j (eUn c5u (a2l 4 2 (d5d (a0b 3) (eSl (a0b 3) (a5h (eC (.int 1))) a7a)) (.tp [4,5]) a2a (eOp ltB (a0b 4) (a0b 5))))))))))
def bd3 (call:CW):SW:=a1j (b4h (a0l call 0 (a0a (a0b 0) a0i)) (eOp geB (a0b 0) (eC (.int 1))))
def bd4 (call:CW):SW:=a0t (sIf (a9v (a1n (a0l call 1 (a0a (a0b 0) (a0a (eC (.int 3)) a0i))))) (a1j (eC (.bl false))) a3v) (a0t (a1o (a0b 0) (.tp [2,3,4])) (a1j (b4h (a0l call 5 (a0a (a0b 2) (a0a (a0b 1) a0i))) (b4h (a0l call 5 (a0a (a0b 3) (a0a (a0b 1) a0i))) (b4h (eOp neB (a0b 2) (a0b 3)) (a0l call 3 (a0a (a0b 4) a0i)))))))
def bd5 (call:CW):SW:=a1j (b4h (a0l call 0 (a0a (a0b 0) a0i)) (b1f leB ltB (eC (.int 0)) (a0b 0) (a0b 1)))
def bd6 (call:CW):SW:=a0t (a1o (eUn a7g (eOp ixF (a0b 0) (eC (.int 0)))) (.nm 2)) (a0t (sIf (a9v (a1n (a0l call 1 (a0a (a0b 1) (a0a (a0b 2) a0i))))) (a1j (eC (.bl false))) a3v) (a0t (a1o (a0l call 8 (a0a (a0b 0) a0i)) (.nm 3)) (a0t (b7b (b5j (a0b 1)) (.tp [4,5]) (sIf (c9y (a1n (eUn a1v (a0b 5))) (a9v (c9y (a1n (a0l call 0 (a0a (a0b 5) a0i))) (a1n (eOp b1t (a3w (a0a (a0b 5) (a0a (a0b 4) a0i))) (a0b 3)))))) (a1j (eC (.bl false))) a3v)) (a1j (eUn c5u (a2l 6 1 (b4b (a0b 2)) (.nm 6) a2a (a0l call 7 (a0a (a0b 1) (a0a (a0b 6) a0i)))))))))
def bd7 (call:CW):SW:=a0t (a1o (eOp ixF (a0b 0) (a0b 1)) (.nm 2)) (a0t (b7b (b4b (eUn a7g (a0b 0))) (.nm 3) (a0t (sIf (a1n (eUn a1y (a0b 2))) (a1j (eC (.bl true))) a3v) (a1o (eOp ixF (a0b 0) (a0b 2)) (.nm 2)))) (a1j (eC (.bl false))))
def bd8 (call:CW):SW:=a1j (c0a 1 3 (c8l (eOp ixF (a0b 0) (eC (.int 1)))) (.tp [1,2,3]) a2a (a3w (a0a (a0b 1) (a0a (a0b 2) a0i))) (a0b 3))
def bd9 (call:CW):SW:=a0t (a1o (a0l call 8 (a0a (a0b 0) a0i)) (.nm 2)) (a1j (a2l 3 2 (b5j (a0b 1)) (.tp [3,4]) a2a (eIf (a1n (eUn a1y (a0b 4))) (eOp ixF (eOp ixF (a0b 0) (eC (.int 0))) (a0b 3)) (eOp c9d (a0b 2) (a3w (a0a (a0b 4) (a0a (a0b 3) a0i)))))))
def d6i (call:CW):SW:=a1j (eUn b6w (a0l call 9 (a0a (a0b 0) (a0a (a0b 1) a0i))))
def e3g (call:CW):SW:=a0t (a1o (a4b (a0a (a0b 1) a0i)) (.nm 2)) (a0t (a1o (eOp ixF (a0b 0) (a0b 1)) (.nm 3)) (a0t (d4r (a1n (eUn a1v (a0b 3))) (a0t (b6b (b1e c5t 2 (a0b 3))) (a1o (eOp ixF (a0b 0) (a0b 3)) (.nm 3)))) (a1j (eUn c6n (a0b 2)))))
def d6h (call:CW):SW:=a1j (eOp b3c (eUn a7g (a0l call 11 (a0a (a0b 0) (a0a (a0b 1) a0i)))) (eC (.int 1)))
def e3f (call:CW):SW:=a0t (a1o (a0l call 9 (a0a (a0b 0) (a0a (a0b 1) a0i))) (.nm 2)) (a1j (eUn a1s (a2l 3 1 (b4b (eUn a7g (a0b 1))) (.nm 3) a2a (eUn c1q (a2l 4 1 (c8l (a0l call 11 (a0a (a0b 1) (a0a (a0b 3) a0i)))) (.nm 4) a2a (eOp ixF (a0b 2) (a0b 4)))))))
def e3e (call:CW):SW:=a0t (a1o (a0b 0) (.tp [1,2])) (a1j (a3w (a0a (a0b 1) (a0a (eUn a1s (a2l 3 2 (b5j (a0b 2)) (.tp [3,4]) a2a (a3w (a0a (a0b 3) (a0a (eOp a3n (a0b 3) (eC (.int 1))) (a0a (a0b 4) a0i)))))) a0i))))
def d6g (call:CW):SW:=a1j (eUn a1s (a2l 2 1 (b4b (eUn a7g (eOp ixF (a0b 0) (eC (.int 0))))) (.nm 2) a2a (eIf (a1n (eOp b1t (a0b 2) (a0b 1))) (eC .non) (eOp b3c (a0b 2) (eC (.int 1))))))
def d6f (call:CW):SW:=a1j (a0l call 10 (a0a (a0l call 14 (a0a (a0b 0) a0i)) (a0a (a0l call 15 (a0a (a0b 0) (a0a (a0b 1) a0i))) a0i)))
def d6e (call:CW):SW:=a1j (a0l call 13 (a0a (a0l call 14 (a0a (a0b 0) a0i)) (a0a (a0l call 15 (a0a (a0b 0) (a0a (a0b 1) a0i))) a0i)))
def e3d (call:CW):SW:=a0t (a1o (a0l call 15 (a0a (a0b 0) (a0a (a0b 1) a0i))) (.nm 2)) (a1j (eUn c2w (a2l 3 1 (b4b (eUn a7g (a0b 2))) (.nm 3) a2a (a0l call 12 (a0a (a0b 2) (a0a (a0b 3) a0i))))))
def e3c (call:CW):SW:=a0t (a1o (a0b 0) (.tp [3,4])) (a1j (eOp a3n (eOp ixF (a0b 3) (a0b 1)) (eUn b6w (eSl (a0b 4) (a5h (a0b 1)) (a5h (eOp b3c (a0b 2) (eC (.int 1))))))))
def e3b (call:CW):SW:=a0t (a1o (eUn a7g (eOp ixF (a0b 0) (eC (.int 0)))) (.nm 2)) (a1j (a0l call 21 (a0a (a0b 0) (a0a (a2l 3 1 (b4b (a0b 2)) (.nm 3) a2a (eOp b8o (eOp a3n (eOp a3n (a0b 3) (a0b 1)) (eC (.int 1))) (a0b 2))) a0i))))
def e3a (call:CW):SW:=a0t (a1o (eUn a7g (eOp ixF (a0b 0) (eC (.int 0)))) (.nm 2)) (a0t (a1o (b9z (a0b 2) (a3w (a0a (eC (.int 0)) (a0a (a3w a0i) a0i)))) (.nm 3)) (a0t (b7b (c8m (a0b 2)) (.nm 4) (a0t (a1o (a4b a0i) (.nm 5)) (a0t (b7b (iRng2 (eOp a3n (a0b 4) (eC (.int 1))) (eOp a3n (eOp ixF (a0b 1) (a0b 4)) (eC (.int 1)))) (.nm 6) (sIf (a1n (eOp b1t (a0b 6) (a0b 3))) (a0t (a1o (b5o dgF 3 (a0b 6)) (.tp [7,8])) (b6b (b1e c5t 5 (a3w (a0a (eOp a3n (a0l call 19 (a0a (a0b 0) (a0a (a0b 4) (a0a (a0b 6) a0i)))) (a0b 7)) (a0a (eOp a3n (a3w (a0a (a0b 4) a0i)) (a0b 8)) a0i)))))) a3v)) (sIf (a1n (a0b 5)) (c6l 3 (a0b 4) (eUn b4x (a0b 5))) a3v)))) (a1j (c9c 3 (eC (.int 0))))))
def e2z (call:CW):SW:=a0t (a1o (eOp c5e (eOp b8m (eOp a3n (eOp a3n (eOp c5e (a0b 0) (eC (.int 2147483629))) (eOp b8m (eOp b8m (a0b 1) (a0b 1)) (eC (.int 7919)))) (eC (.int 11))) (eC (.int 48271))) (eC (.int 2147483647))) (.nm 2)) (a1j (eOp c5e (eOp b8m (a0b 2) (a0b 2)) (eC (.int 1999999973))))
def e2y (call:CW):SW:=a0t (a1o (eIf (a1n (eOp ltB (a0b 1) (eUn a7g (a0b 0)))) (eOp ixF (a0b 0) (a0b 1)) (eC (.int 0))) (.nm 2)) (a1j (a4b (a0a (eOp b8m (eUn d4o (a0b 2)) (eUn a7n (eOp geB (eUn d4o (a0b 2)) (eOp c2g (eC (.int 10)) (eC (.int 18)))))) (a0a (eOp a3n (a0b 2) (eOp b8m (eC (.int 1000003)) (a0b 1))) (a0a (eC (.int 0)) a0i)))))
def d6d (call:CW):SW:=a0t (d4t 0 (eC (.int 2)) (eOp a3n (b5o ixF 0 (eC (.int 2))) (eC (.int 1)))) (a0t (sIf (a1n (eOp gtB (b5o ixF 0 (eC (.int 0))) (eC (.int 0)))) (a0t (a1o (eOp c5e (b5o ixF 0 (eC (.int 0))) (a0b 1)) (.nm 2)) (a0t (d4t 0 (eC (.int 0)) (eOp b9s (b5o ixF 0 (eC (.int 0))) (a0b 1))) (a1j (a0b 2)))) a3v) (a1j (eOp c5e (eOp b9s (a0l call 22 (a0a (a0l call 22 (a0a (b5o ixF 0 (eC (.int 1))) (a0a (b5o ixF 0 (eC (.int 2))) a0i))) (a0a (eOp a3n (b5o ixF 0 (eC (.int 2))) (eC (.int 64))) a0i))) (eC (.int 64))) (a0b 1))))
def c9x (call:CW):SW:=a0t (sIf (a1n (eUn (c3g .list .tuple) (a0b 1))) (a0t (sIf (bOr (a1n (eOp neB (eUn (a9w .list) (a0b 0)) (eUn (a9w .list) (a0b 1)))) (a1n (eOp neB (eUn (a9w .tuple) (a0b 0)) (eUn (a9w .tuple) (a0b 1))))) (a1j (eC (.bl false))) a3v) (a1j (b4h (eOp eqB (eUn a7g (a0b 0)) (eUn a7g (a0b 1))) (eUn c5u (a2l 2 2 (d5d (a0b 0) (a0b 1)) (.tp [2,3]) a2a (a0l call 25 (a0a (a0b 2) (a0a (a0b 3) a0i)))))))) a3v) (a0t (sIf (bOr (a1n (eUn a1y (a0b 1))) (a1n (eUn (a9w .str) (a0b 1)))) (a1j (b4h (eOp eqB (a0b 0) (a0b 1)) (eOp eqB (eUn (a9w .str) (a0b 0)) (eUn (a9w .str) (a0b 1))))) a3v) (a0t (sIf (a1n (eUn (a9w .bool) (a0b 1))) (a1j (b4h (eUn (a9w .bool) (a0b 0)) (eOp eqB (a0b 0) (a0b 1)))) a3v) (a1j (b4h (eUn (a9w .int) (a0b 0)) (b4h (eUn d4z (eUn (a9w .bool) (a0b 0))) (eOp eqB (a0b 0) (a0b 1)))))))
def e2x (call:CW):SW:=a0t (a1o (a1h call 24 0 (a0a (eC (.int 4)) a0i)) (.nm 2)) (a0t (sIf (c9y (a1n (eOp eqB (a0b 2) (eC (.int 3)))) (a1n (eOp eqB (a0b 1) (eC (.int 0))))) (a1j (eOp a3n (eC (.int 1)) (a1h call 24 0 (a0a (eOp b3c (eOp c2g (eC (.int 10)) (eC (.int 9))) (eC (.int 20))) a0i)))) a3v) (a1j (eOp a3n (eC (.int 1)) (a1h call 24 0 (a0a (eOp ixF (a4b (a0a (eC (.int 9)) (a0a (eC (.int 9)) (a0a (eC (.int 40)) (a0a (eC (.int 3)) a0i))))) (a0b 2)) a0i)))))
def e2w (call:CW):SW:=a0t (a1o (eIf (a1n (eOp gtB (a1h call 24 0 (a0a (eC (.int 8)) a0i)) (eC (.int 0)))) (eOp a3n (eC (.int 1)) (a1h call 24 0 (a0a (eC (.int 7)) a0i))) (eOp a3n (eC (.int 8)) (a1h call 24 0 (a0a (eOp b3c (a0b 1) (eC (.int 7))) a0i)))) (.nm 2)) (a0t (a1o (a1h call 24 0 (a0a (eC (.int 4)) a0i)) (.nm 3)) (a0t (a1o (eUn a1s (a2l 5 1 (b4b (a0b 2)) (.nm 5) a2a (eOp a3n (a1h call 26 0 (a0a (a0b 3) a0i)) (eOp ixF (a4b (a0a (eC (.int 0)) (a0a (eC (.int 9)) a0i))) (a1h call 24 0 (a0a (eC (.int 2)) a0i)))))) (.nm 4)) (a1j (a3w (a0a (a0b 4) (a0a (eUn a1s (a2l 5 1 (b4b (eOp b3c (a0b 2) (eC (.int 1)))) (.nm 5) a2a (a1h call 26 0 (a0a (a0b 3) a0i)))) a0i))))))
def e2v (call:CW):SW:=a0t (a1o (a0b 0) (.tp [1,2])) (a0t (a1o (a3w (a0a (a4b (a0a (eC (.int 0)) a0i)) (a0a (eC (.int 0)) a0i))) (.tp [3,4])) (a0t (b7b (iRng2 (eC (.int 1)) (eUn a7g (a0b 1))) (.nm 5) (a0t (a1o (eOp a3n (a0b 4) (eOp ixF (a0b 2) (eOp b3c (a0b 5) (eC (.int 1))))) (.nm 4)) (sIf (a1n (eOp gtB (a0b 4) (eOp ixF (a0b 1) (a0b 5)))) (a0t (b6b (b1e c5t 3 (a0b 5))) (a1o (eC (.int 0)) (.nm 4))) a3v))) (a1j (eUn a1s (a0b 3)))))
def d6c (call:CW):SW:=a0t (a1o (eC .non) (.nm 1)) (d7j 0 1 2 108 "row_now" "wholes" (a1j (a0l call 25 (a0a (a1m call 37 0 108 "kept_now" a0i) (a0a (a3w a0i) a0i)))))
def e2u (call:CW):SW:=a0t (a1o (a0b 1) (.tp [2,3])) (a0t (a1o (a3w (a0a (b5p call 34 108 a0i) (a0a (b5p call 34 108 a0i) a0i))) (.tp [4,5])) (a0t (sIf (a9v (a1n (a1h call 29 4 a0i))) (a1j (eC (.bl false))) a3v) (a0t (b7b (b4b (eUn a7g (a0b 2))) (.nm 6) (a0t (a1o (eIf (a1n (eOp gtB (a0b 6) (eC (.int 0)))) (eOp ixF (a0b 3) (eOp b3c (a0b 6) (eC (.int 1)))) (eOp ixF (a4b (a0a (eC (.int 0)) (a0a (eUn d2f (eC (.int 7))) (a0a (eC .non) (a0a (eC (.str "")) (a0a (a3w a0i) (a0a (eOp c2g (eC (.int 10)) (eC (.int 30))) a0i))))))) (a1h call 24 0 (a0a (eC (.int 6)) a0i)))) (.nm 7)) (a0t (a1o (a0l call 28 (a0a (a3w (a0a (eSl (a0b 2) a7a (a5h (eOp a3n (a0b 6) (eC (.int 1))))) (a0a (eSl (a0b 3) a7a (a5h (a0b 6))) a0i))) a0i)) (.nm 8)) (a0t (a1o (eOp ixF (a4b (a0a (eC (.str "change")) (a0a (eC (.str "whole")) a0i))) (eUn a7n (eOp b1t (a0b 6) (a0b 8)))) (.nm 9)) (a0t (sIf (a1n (eOp neB (a1m call 35 4 108 "grown" (a0a (eOp ixF (a0b 2) (a0b 6)) (a0a (a0b 7) a0i))) (a0b 9))) (a1j (eC (.bl false))) a3v) (a0t (b7b (b4b (eC (.int 2))) (.nm 10) (sIf (a9v (a1n (a0l call 25 (a0a (a4b (a0a (a1m call 36 4 108 "row_now" a0i) (a0a (a1m call 37 4 108 "kept_now" a0i) a0i))) (a0a (a4b (a0a (a3w (a0a (eSl (a0b 2) a7a (a5h (eOp a3n (a0b 6) (eC (.int 1))))) (a0a (eSl (a0b 3) a7a (a5h (a0b 6))) a0i))) (a0a (a0b 8) a0i))) a0i))))) (a1j (eC (.bl false))) a3v)) (b6b (a1m call 35 5 108 "grown" (a0a (eOp ixF (a0b 2) (a0b 6)) (a0a (eIf (a1n (eOp gtB (a0b 6) (eC (.int 0)))) (a0b 7) (eC (.int 5))) a0i)))))))))) (a0t (sIf (a9v (a1n (a0l call 25 (a0a (a4b (a0a (a1m call 36 5 108 "row_now" a0i) (a0a (a1m call 37 5 108 "kept_now" a0i) a0i))) (a0a (a4b (a0a (a0b 1) (a0a (a0l call 28 (a0a (a0b 1) a0i)) a0i))) a0i))))) (a1j (eC (.bl false))) a3v) (a1j (a0l call 31 (a0a (a1m call 36 5 108 "row_now" a0i) (a0a (a1m call 37 5 108 "kept_now" a0i) a0i))))))))
def e2t (call:CW):SW:=a0t (a1o (a3w (a0a (a4b a0i) (a0a (a4b a0i) (a0a (a4b a0i) (a0a (eC (.int 0)) a0i))))) (.tp [2,3,4,5])) (a0t (b7b (b5j (eOp ixF (a0b 0) (eC (.int 0)))) (.tp [6,7]) (a0t (a1o (eIf (a1n (eOp b1t (a0b 6) (a0b 1))) (a0b 7) (eOp ixF (eOp ixF (a0b 0) (eC (.int 1))) (eOp b3c (a0b 6) (eC (.int 1))))) (.nm 8)) (a0t (b6b (b1e c5t 2 (eIf (a1n (eOp b1t (a0b 6) (a0b 1))) (eC .non) (eOp b3c (a0b 6) (eC (.int 1)))))) (a0t (b6b (b1e c5t 3 (eIf (a1n (eOp b1t (a0b 6) (a0b 1))) (a0b 8) (eOp a3n (b5o ixF 3 (eUn d2f (eC (.int 1)))) (a0b 8))))) (a0t (b6b (b1e c5t 4 (eIf (a1n (eOp b1t (a0b 6) (a0b 1))) (eC (.int 0)) (eOp a3n (b5o ixF 4 (eUn d2f (eC (.int 1)))) (eC (.int 1)))))) (a1o (eOp a3n (a0b 5) (a0b 8)) (.nm 5))))))) (a0t (sIf (a9v (a1n (a0l call 25 (a0a (a4b (a0a (a0l call 16 (a0a (a0b 0) (a0a (a0b 1) a0i))) (a0a (a0l call 18 (a0a (a0b 0) (a0a (a0b 1) a0i))) a0i))) (a0a (a4b (a0a (a0b 5) (a0a (eUn c2v (a0b 4)) a0i))) a0i))))) (a1j (eC (.bl false))) a3v) (a0t (a1o (a0l call 14 (a0a (a0b 0) a0i)) (.nm 9)) (a0t (sIf (bOr (a1n (eUn (a4l true) (a0l call 2 (a0a (a0b 9) a0i)))) (a1n (eUn (a4l true) (a0l call 6 (a0a (a0b 9) (a0a (a0l call 15 (a0a (a0b 0) (a0a (a0b 1) a0i))) a0i)))))) (a1j (eC (.bl false))) a3v) (a0t (sIf (a9v (a1n (a0l call 25 (a0a (a4b (a0a (a0l call 10 (a0a (a0b 9) (a0a (eUn a1s (a0b 2)) a0i))) (a0a (a0l call 13 (a0a (a0b 9) (a0a (eUn a1s (a0b 2)) a0i))) a0i))) (a0a (a4b (a0a (a0b 5) (a0a (eUn a1s (a0b 3)) a0i))) a0i))))) (a1j (eC (.bl false))) a3v) (a1j (a0l call 25 (a0a (a4b (a0a (a0l call 17 (a0a (a0b 0) (a0a (a0b 1) a0i))) (a0a (a0l call 15 (a0a (a0b 0) (a0a (a0b 1) a0i))) a0i))) (a0a (a4b (a0a (eUn a1s (a0b 3)) (a0a (eUn a1s (a0b 2)) a0i))) a0i)))))))))
def e2s (call:CW):SW:=a0t (a1o (b5p call 34 108 a0i) (.nm 1)) (a0t (a1o (a2l 4 1 (b4b (eC (.int 60))) (.nm 4) a2a (a1m call 35 1 108 "grown" (a0a (eOp c2g (eC (.int 10)) (eC (.int 9))) (a0a (eC (.int 1)) a0i)))) (.nm 2)) (a0t (a1o (a4b (a0a (a0b 2) (a0a (a1m call 37 1 108 "kept_now" a0i) (a0a (a1m call 36 1 108 "row_now" a0i) a0i)))) (.nm 3)) (a0t (sIf (a9v (a1n (a0l call 25 (a0a (a0b 3) (a0a (a4b (a0a (eOp a3n (a4b (a0a (eC (.str "whole")) a0i)) (eOp b8m (a4b (a0a (eC (.str "change")) a0i)) (eC (.int 59)))) (a0a (a3w (a0a (eC (.int 0)) a0i)) (a0a (a3w (a0a (eOp b6q (a3w (a0a (eOp c2g (eC (.int 10)) (eC (.int 9))) a0i)) (eC (.int 60))) (a0a (eOp b6q (a3w (a0a (eC (.int 1)) a0i)) (eC (.int 59))) a0i))) a0i)))) a0i))))) (a1j (eC (.bl false))) a3v) (a1j (a0l call 25 (a0a (a0l call 20 (a0a (a1m call 36 1 108 "row_now" a0i) (a0a (eC (.int 59)) a0i))) (a0a (a3w (a0a (eOp a3n (eOp c2g (eC (.int 10)) (eC (.int 9))) (eC (.int 59))) (a0a (a3w (a0a (eC (.int 0)) a0i)) a0i))) a0i)))))))
def e2r (call:CW):SW:=a0t (b7b (b4b (eOp a3n (eOp b8o (eC (.int 8)) (eUn a7g (a0b 0))) (eC (.int 1)))) (.nm 1) (a0t (a1o (a0l call 23 (a0a (a0b 0) (a0a (a0b 1) a0i))) (.nm 2)) (sIf (a9v (a1n (a1h call 30 2 (a0a (a1h call 27 2 (a0a (eC (.int 60)) a0i)) a0i)))) (a1j (eC (.bl false))) a3v))) (a1j (a0l call 32 a0i))
def e2q (call:CW):SW:=a0t (a5u 0 108 "wholes") (a0t (a5u 0 108 "steps") (a0t (a5u 0 108 "kept") (a8s 0 108 "since" (eC (.int 0)))))
def d6b (call:CW):SW:=a0t (a1o (b1d 0 108 "wholes" a7g) (.nm 3)) (a0t (b6b (a6p 0 108 "wholes" (a0b 1))) (a0t (sIf (a1n (eOp gtB (a0b 3) (eC (.int 0)))) (a0t (b6b (a6p 0 108 "steps" (a0b 2))) (b2a 0 108 "since" (λi j=>i+j) (a0b 2))) a3v) (a0t (sIf (c9y (a1n (eOp gtB (a0b 3) (eC (.int 0)))) (a1n (eOp leB (e2f 0 108 "since") (a0b 1)))) (a1j (eC (.str "change"))) a3v) (a0t (b6b (a6p 0 108 "kept" (a0b 3))) (a0t (a8s 0 108 "since" (eC (.int 0))) (a1j (eC (.str "whole"))))))))
def e2p (call:CW):SW:=a0t (sIf (a9v (c9i 0 108 "wholes")) d7q a3v) (a1j (a3w (a0a (b1d 0 108 "wholes" a1s) (a0a (b1d 0 108 "steps" a1s) a0i))))
def d6a (call:CW):SW:=a1j (b1d 0 108 "kept" a1s)
def fd0:FD:=⟨1,1,bd0,false,false⟩
def fd1:FD:=⟨2,2,bd1,false,false⟩
def fd2:FD:=⟨1,4,bd2,false,false⟩
def fd3:FD:=⟨1,1,bd3,false,false⟩
def fd4:FD:=⟨2,5,bd4,false,false⟩
def fd5:FD:=⟨2,2,bd5,false,false⟩
def fd6:FD:=⟨2,6,bd6,false,false⟩
def fd7:FD:=⟨2,4,bd7,false,false⟩
def fd8:FD:=⟨1,1,bd8,false,false⟩
def fd9:FD:=⟨2,3,bd9,false,false⟩
def e1m:FD:=⟨2,2,d6i,false,false⟩
def e1l:FD:=⟨2,4,e3g,false,false⟩
def e1k:FD:=⟨2,2,d6h,false,false⟩
def e1j:FD:=⟨2,3,e3f,false,false⟩
def e1i:FD:=⟨1,3,e3e,false,false⟩
def e1h:FD:=⟨2,2,d6g,false,false⟩
def e1g:FD:=⟨2,2,d6f,false,false⟩
def e1f:FD:=⟨2,2,d6e,false,false⟩
def e1e:FD:=⟨2,3,e3d,false,false⟩
def e1d:FD:=⟨3,5,e3c,false,false⟩
def e1c:FD:=⟨2,3,e3b,false,false⟩
def e1b:FD:=⟨2,9,e3a,false,false⟩
def e1a:FD:=⟨2,3,e2z,false,false⟩
def e0z:FD:=⟨2,3,e2y,false,true⟩
def d5t:FD:=⟨2,3,d6d,true,false⟩
def c8v:FD:=⟨2,2,c9x,false,false⟩
def e0y:FD:=⟨2,3,e2x,true,false⟩
def e0x:FD:=⟨2,5,e2w,true,false⟩
def e0w:FD:=⟨1,6,e2v,false,false⟩
def e0v:FD:=⟨1,3,d6c,true,false⟩
def e0u:FD:=⟨2,11,e2u,true,false⟩
def e0t:FD:=⟨2,10,e2t,false,false⟩
def e0s:FD:=⟨0,4,e2s,false,false⟩
def e0r:FD:=⟨1,3,e2r,false,false⟩
def e0q:FD:=⟨1,1,e2q,true,false⟩
def d3n:FD:=⟨3,4,d6b,true,false⟩
def fd36:FD:=⟨1,1,e2p,true,false⟩
def e0p:FD:=⟨1,1,d6a,true,false⟩
def tb:List FD:=[fd0,fd1,fd2,fd3,fd4,fd5,fd6,fd7,fd8,fd9,e1m,e1l,e1k,e1j,e1i,e1h,e1g,e1f,e1e,e1d,e1c,e1b,e1a,e0z,d5t,c8v,e0y,e0x,e0w,e0v,e0u,e0t,e0s,e0r,e0q,d3n,fd36,e0p]
def mixV (a k:Int):Int:=((a % 2147483629+k*k*7919+11)*48271 % 2147483647)*((a % 2147483629+k*k*7919+11)*48271 % 2147483647) % 1999999973
theorem b6y (x:Int):a2b (x % 2147483647)=true:=by
 have:=Int.emod_nonneg x (show (2147483647:Int)≠0 by decide)
 have:=Int.emod_lt_of_pos x (show (0:Int)<2147483647 by decide)
 simp only[a2b,decide_eq_true_eq];lia
theorem b3d {i:Int}(h:0≤i)(h':i<2 ^ 60):a2b i=true:=by
 simp only[a2b,decide_eq_true_eq];lia
theorem a0q {i:Int}(h:0≤i)(h':i<2 ^ 60):a1d i=true:=by
 simp only[a1d,decide_eq_true_eq];lia
theorem d2i (d:Nat) (a k:Int)(hk:a2b k=true)(Q:FV×FV→Prop):callW tb (d+1) 22 [.int a,.int k] Q↔Q (.int (mixV a k),.non):=by
 have h2:a2b 48271=true:=by decide
 have h3:a2b 7919=true:=by decide
 rw[a3t (fd:=e1a) rfl rfl]
 simp[e1a,e2z,h2,h3,hk,b6y,mixV]
def Lf (n:Int)(v:FV):Prop:=∃ a b c,v=.lst [.int a,.int b,.int c]∧0≤c∧c≤n
theorem Lf.mono {n m:Int}{v:FV}(h:Lf n v)(k:n≤m):Lf m v:=by
 obtain⟨a,b,c,h,h1,h2⟩:=h
 exact⟨a,b,c,h,h1,by lia⟩
theorem a2t (d:Nat){many n:Int}{v:FV}{Q:FV×FV→Prop}(hs:Lf n v)(hn:n<1000000)(h1:0<many)(h2:many<1073741824)
  (q:∀ u v',0≤u→u<many→Lf (n+1) v'→Q (.int u,v')):callW tb (d+2) 24 [v,.int many] Q:=by
 obtain⟨a,b,c,rfl,h3,h4⟩:=hs
 refine a0j (fd:=d5t) rfl rfl ?_
 have s1:a2b (c+1)=true:=b3d (by lia) (by lia)
 have s2:a2b (c+1+64)=true:=b3d (by lia) (by lia)
 by_cases ha:0<a
 ·simp[d5t,d6d,ixN,ha,h1,h2]
  exact q _ _ (Int.emod_nonneg _ (by lia)) (Int.emod_lt_of_pos _ h1) ⟨_,_,_,rfl,by lia,by lia⟩
 ·simp[d5t,d6d,ixN,ha,h1,h2,d2i,s1,s2]
  exact q _ _ (Int.emod_nonneg _ (by lia)) (Int.emod_lt_of_pos _ h1) ⟨_,_,_,rfl,by lia,by lia⟩
theorem c8d (d:Nat)(ns:List Int) (k:Nat){Q:FV×FV→Prop}(q:∀ v y,Lf 0 v→Q (v,y)):callW tb (d+1) 23 [.scr ns,.int k] Q:=by
 refine a0j (fd:=e0z) rfl rfl ?_
 have h1:a2b 1000003=true:=by decide
 have h2:a2b 0=true:=by decide
 have h4:a2b 10=true:=by decide
 have h5:∀ r:Bool,a2b (if r=true then 1 else 0)=true:=by intro r;cases r<;>decide
 simp[e0z,e2y]
 split
 ·rename_i hk
  rw[a3x rfl (show (ns.map FV.int)[k]?=some (.int ns[k]) by simp[hk])]
  simp[h1,h4,h5,big]
  exact⟨.inr (by by_cases hh:1000000000000000000≤(if ns[k]<0 then -ns[k] else ns[k])<;>simp only[hh,if_true,if_false]<;>decide),q _ _ ⟨_,_,_,rfl,by lia,by lia⟩⟩
 ·simp[h1,h2,h4,big]
  exact q _ _ ⟨_,_,_,rfl,by lia,by lia⟩
mutual
noncomputable def dF:D→FV
 | .non=>.non
 | .bl b=>.bl b
 | .int i=>.int i
 | .str x=>.str x
 | .tup xs=>.tup (dFs xs)
 | .lst xs=>.lst (dFs xs)
noncomputable def dFs:List D→List FV
 | []=>[]
 | x :: r=>dF x :: dFs r
end
theorem a6s:∀ xs:List D,dFs xs=xs.map dF
 | []=>rfl
 | x :: r=>by rw[dFs,a6s r];rfl
mutual
noncomputable def dep:D→Nat
 | .tup xs=>deps xs+1
 | .lst xs=>deps xs+1
 | .non=>0|.bl _=>0|.int _=>0|.str _=>0
noncomputable def deps:List D→Nat
 | []=>0
 | x :: r=>max (dep x) (deps r)
end
mutual
theorem b9t:∀ (x:D) (n:Nat),dep x<n→fD n (dF x)=some x
 | .non,0,h=>by lia
 | .non,n+1,h=>rfl
 | .bl _,0,h=>by lia
 | .bl _,n+1,h=>rfl
 | .int _,0,h=>by lia
 | .int _,n+1,h=>rfl
 | .str _,0,h=>by lia
 | .str _,n+1,h=>rfl
 | .tup xs,0,h=>by lia
 | .tup xs,n+1,h=>by simp only[dF,fD];rw[fDs_dF xs n (by simp only[dep] at h;lia)];rfl
 | .lst xs,0,h=>by lia
 | .lst xs,n+1,h=>by simp only[dF,fD];rw[fDs_dF xs n (by simp only[dep] at h;lia)];rfl
theorem fDs_dF:∀ (xs:List D) (n:Nat),deps xs<n→a4m (fD n) (dFs xs)=some xs
 | [],n,h=>rfl
 | x :: r,n,h=>by
  simp only[deps] at h
  simp only[dFs,a4m,b9t x n (by lia),fDs_dF r n (by lia),Option.bind_some,Option.map_some]
end
def Vl (k p:Nat)(x:FV):Prop:=∃ d,x=dF d∧dep d≤p∧d.fit=true∧d.wt≤k
theorem Vl.mono {k k' p p':Nat}{x:FV}(h:Vl k p x)(hk:k≤k')(hp:p≤p'):Vl k' p' x:=by
 obtain⟨d,e,h1,h2,h3⟩:=h
 exact⟨d,e,by lia,h2,by lia⟩
theorem Vl.all {k p:Nat}:∀ {xs:List FV},(∀ x∈xs,Vl k p x)→∃ ds:List D,xs=dFs ds∧deps ds≤p∧D.fits ds=true∧D.wts ds≤ds.length*(k+1)∧ds.length=xs.length
 | [],_=>⟨[],rfl,Nat.zero_le _,rfl,by simp[D.wts],rfl⟩
 | x :: r,h=>by
  obtain⟨d,e,h1,h2,h3⟩:=h x (Γn ..)
  obtain⟨ds,e',h1',h2',h3',h4'⟩:=Vl.all (xs:=r) λy hy=>h y (Γh _ hy)
  refine⟨d :: ds,by rw[e,e'];rfl,by simp only[deps];lia,by simp only[D.fits,h2,h2',Bool.and_self],?_,by simp[h4']⟩
  simp only[D.wts,List.length_cons,Nat.add_mul,Nat.one_mul];lia
theorem Vl.tup {k p m:Nat}{xs:List FV}(h:∀ x∈xs,Vl k p x)(hl:xs.length≤m):Vl (m*(k+1)) (p+1) (.tup xs):=by
 obtain⟨ds,e,h1,h2,h3,h4⟩:=Vl.all h
 refine⟨.tup ds,by rw[e];rfl,by simp only[dep];lia,by simp only[D.fit,h2],?_⟩
 simp only[D.wt]
 exact Nat.le_trans h3 (Nat.mul_le_mul_right _ (by lia))
theorem Vl.lst {k p m:Nat}{xs:List FV}(h:∀ x∈xs,Vl k p x)(hl:xs.length≤m):Vl (m*(k+1)) (p+1) (.lst xs):=by
 obtain⟨ds,e,h1,h2,h3,h4⟩:=Vl.all h
 refine⟨.lst ds,by rw[e];rfl,by simp only[dep];lia,by simp only[D.fit,h2],?_⟩
 simp only[D.wt]
 exact Nat.le_trans h3 (Nat.mul_le_mul_right _ (by lia))
theorem Vl.int {i:Int}(h:-(2 ^ 40)<i)(h':i<2 ^ 40):Vl 41 0 (.int i):=⟨.int i,rfl,Γi _,by simp only[D.fit,decide_eq_true_eq];lia,by simp only[D.wt];rw[if_pos ⟨h,h'⟩];exact Γi _⟩
theorem Vl.non:Vl 0 0 .non:=⟨.non,rfl,Γi _,rfl,Γi _⟩
theorem e1t {a b:D}(ha:dep a<40)(hb:dep b<40):eqF (dF a) (dF b)=some (D.eqv a b):=by
 have go:(fD a0m (dF a)).bind (λx=>(fD a0m (dF b)).bind λy=>some (D.eqv x y))=some (D.eqv a b):=by
  rw[b9t a a0m ha,b9t b a0m hb];rfl
 unfold eqF
 split
 ·rename_i x y e1 e2;cases a<;>cases e1
 ·exact go
theorem c4b {α:Type}(xs:List α) (n:Nat):b1h xs (some (n:Int)) none=xs.drop n:=by
 have h:sIx xs.length 0 (some (n:Int))=min n xs.length:=by simp only[sIx];rw[if_neg (by lia)];simp
 unfold b1h
 rw[h]
 show (xs.drop (min n xs.length)).take (xs.length-min n xs.length)=_
 by_cases hn:n≤xs.length
 ·rw[Nat.min_eq_left hn,List.take_of_length_le (by simp)]
 ·rw[Nat.min_eq_right (by lia),List.drop_of_length_le (Γi _),List.drop_of_length_le (by lia)];simp
theorem a6t {α:Type}(xs:List α) (n:Nat):b1h xs none (some (n:Int))=xs.take n:=by
 have h:sIx xs.length xs.length (some (n:Int))=min n xs.length:=by simp only[sIx];rw[if_neg (by lia)];simp
 unfold b1h
 rw[h]
 show (xs.drop 0).take (min n xs.length-0)=_
 rw[List.drop_zero,Nat.sub_zero,List.take_eq_take_iff];lia
theorem b1w:∀ xs:List D,xs.length≤D.wts xs
 | []=>Γi _
 | x :: r=>by have:=b1w r;simp only[D.wts,List.length_cons];lia
theorem a9r {x:D}:∀ {xs:List D},x∈xs→dep x≤deps xs
 | [],h=>by cases h
 | y :: r,h=>by
  simp only[deps]
  rcases List.mem_cons.mp h with rfl|h
  ·lia
  ·have:=a9r h;lia
theorem b1v {x:D}:∀ {xs:List D},x∈xs→x.wt≤D.wts xs
 | [],h=>by cases h
 | y :: r,h=>by
  simp only[D.wts]
  rcases List.mem_cons.mp h with rfl|h
  ·lia
  ·have:=b1v h;lia
mutual
theorem b4c:∀ x:D,D.eqv x x=true
 | .non=>rfl
 | .bl b=>by simp[D.eqv]
 | .int i=>by simp[D.eqv]
 | .str s=>by simp[D.eqv]
 | .tup xs=>by rw[D.eqv];exact eqvs_refl xs
 | .lst xs=>by rw[D.eqv];exact eqvs_refl xs
theorem eqvs_refl:∀ xs:List D,D.eqvs xs xs=true
 | []=>rfl
 | x :: r=>by rw[D.eqvs,b4c x,eqvs_refl r];rfl
end
theorem c8y {k p:Nat}{x:FV}(h:Vl k p x)(hp:p<40)(R:Bool→Prop):wp (eqF x x) R↔R true:=by
 obtain⟨d,rfl,h1,-⟩:=h
 rw[e1t (by lia) (by lia),b4c];exact Iff.rfl
theorem a6c:∀ xs:List FV,a4k xs xs=xs.map λx=>.tup [x,x]
 | []=>rfl
 | x :: r=>by rw[List.map_cons,← a6c r];rfl
theorem c6k:∀ (p d:Nat){x:D}{Q:FV×FV→Prop},dep x≤p→p<39→x.wt≤big→Q (.bl true,.non)→callW tb (d+p+1) 25 [dF x,dF x] Q:=by
 intro p
 induction p with
 | zero =>
  intro d x Q hx hp hw q
  refine a0j (fd:=c8v) rfl rfl ?_
  cases x with
  | tup xs=>simp[dep] at hx
  | lst xs=>simp[dep] at hx
  | _=>simp[c8v,c9x,dF];exact q
 | succ p ih =>
  intro d x Q hx hp hw q
  refine a0j (fd:=c8v) rfl rfl ?_
  cases x with
  | tup xs =>
   simp only[dep] at hx
   simp only[D.wt] at hw
   have hl:=b1w xs
   simp[c8v,c9x,dF]
   rw[a6c,a6s,List.map_map]
   refine⟨by simp;lia,?_⟩
   refine a1a (g:=λ_=>.bl true) xs [] (λx hx' K k=>?_) ?_
   ·have:=a9r hx'
    have:=b1v hx'
    simp
    exact ih d (by lia) (by lia) (by lia) (by simpa using k)
   ·rw[List.nil_append,show (xs.map λ_=>FV.bl true)=xs.map λx=>FV.bl ((λ_=>true) x) from rfl,a2h]
    simp
    rw[show (xs.all λ_=>true)=true by simp];exact q
  | lst xs =>
   simp only[dep] at hx
   simp only[D.wt] at hw
   have hl:=b1w xs
   simp[c8v,c9x,dF]
   rw[a6c,a6s,List.map_map]
   refine⟨by simp;lia,?_⟩
   refine a1a (g:=λ_=>.bl true) xs [] (λx hx' K k=>?_) ?_
   ·have:=a9r hx'
    have:=b1v hx'
    simp
    exact ih d (by lia) (by lia) (by lia) (by simpa using k)
   ·rw[List.nil_append,show (xs.map λ_=>FV.bl true)=xs.map λx=>FV.bl ((λ_=>true) x) from rfl,a2h]
    simp
    rw[show (xs.all λ_=>true)=true by simp];exact q
  | _=>simp[c8v,c9x,dF];exact q
theorem a3h (d:Nat){k p:Nat}{x:FV}{Q:FV×FV→Prop}(h:Vl k p x)(hp:p<39)(hk:k≤big)(q:Q (.bl true,.non)):callW tb (d+p+1) 25 [x,x] Q:=by
 obtain⟨e,rfl,h1,h2,h3⟩:=h
 exact c6k p d h1 hp (by lia) q
theorem a3q {α β:Type}(f:α→FV)(g:β→FV):∀ (xs:List α)(ys:List β),a4k (xs.map f) (ys.map g)=(xs.zip ys).map λp=>.tup [f p.1,g p.2]
 | [],ys=>rfl
 | x :: xs,[]=>rfl
 | x :: xs,y :: ys=>by
  show FV.tup [f x,g y] :: a4k (xs.map f) (ys.map g)=_
  rw[a3q f g xs ys];rfl
abbrev Chg:=Nat×Nat×Int
def b4g (c:Chg):FV:=.tup [.int c.1,.int c.2.1,.int c.2.2]
structure Gst (ws:List Int)(cs:List Chg):Prop where
 w:∀ x∈ws,1≤x
 c:∀ x∈cs,x.1<ws.length∧x.2.1<ws.length∧x.1≠x.2.1∧1≤x.2.2
 s:∀ x∈cs.zip (cs.drop 1),lexLt [(x.1.1:Int),x.1.2.1] [(x.2.1:Int),x.2.2.1]=true
def b5n (ws:List Int)(cs:List Chg):FV:=.tup [.tup (ws.map .int),.tup (cs.map b4g)]
theorem a5r {α:Type}(xs:List α):(xs.map λ_=>FV.bl true)=xs.map λx=>FV.bl ((λ_=>true) x):=rfl
theorem b4o {α:Type}(xs:List α):(xs.all λ_=>true)=true:=by simp
theorem a7y {cs:List Chg}(h:∀ x∈cs.zip (cs.drop 1),lexLt [(x.1.1:Int),x.1.2.1] [(x.2.1:Int),x.2.2.1]=true):(cs.map λc=>[(c.1:Int),c.2.1]).Nodup:=by
 have lt:∀ a b c d:Int,lexLt [a,b] [c,d]=true↔(a<c ∨ a=c∧b<d):=λa b c d=>by
  by_cases e:a=c
  ·subst e
   by_cases e2:b=d
   ·subst e2;simp[lexLt]
   ·simp[lexLt,e2]
  ·simp[lexLt,e]
 have go:∀ (cs:List Chg) (a b:Nat),(∀ x∈cs.zip (cs.drop 1),lexLt [(x.1.1:Int),x.1.2.1] [(x.2.1:Int),x.2.2.1]=true)→(∀ c∈cs.head?,a<c.1 ∨ a=c.1∧b<c.2.1)→(∀ c∈cs,a<c.1 ∨ a=c.1∧b<c.2.1)∧(cs.map λc=>[(c.1:Int),c.2.1]).Nodup:=by
  intro cs
  induction cs with
  | nil=>intro a b _ _;simp
  | cons x r ih =>
   intro a b hs hh
   have hx:=hh x (by simp)
   have h2:=ih x.1 x.2.1 (λp hp=>hs p (by
    cases r with
    | nil=>simp at hp
    | cons y q=>simp at hp ⊢;exact .inr hp)) (λc hc=>by
    cases r with
    | nil=>simp at hc
    | cons y q =>
     simp at hc;subst hc
     have:=(lt _ _ _ _).mp (hs (x,y) (by simp))
     dsimp only at this
     lia)
   refine⟨λc hc=>?_,?_⟩
   ·rcases List.mem_cons.mp hc with rfl|hc
    ·exact hx
    ·have:=h2.1 c hc;lia
   ·simp only[List.map_cons,List.nodup_cons]
    refine⟨λhm=>?_,h2.2⟩
    obtain⟨c,hc,e⟩:=List.mem_map.mp hm
    have:=h2.1 c hc
    simp at e;lia
 cases cs with
 | nil=>simp
 | cons x r =>
  have h2:=go r x.1 x.2.1 (λp hp=>h p (by
   cases r with
   | nil=>simp at hp
   | cons y q=>simp at hp ⊢;exact .inr hp)) (λc hc=>by
   cases r with
   | nil=>simp at hc
   | cons y q =>
    simp at hc;subst hc
    have:=(lt _ _ _ _).mp (h (x,y) (by simp))
    dsimp only at this
    lia)
  simp only[List.map_cons,List.nodup_cons]
  refine⟨λhm=>?_,h2.2⟩
  obtain⟨c,hc,e⟩:=List.mem_map.mp hm
  have:=h2.1 c hc
  simp at e;lia
def keyH (c:Chg):List Int:=[c.1,c.2.1]
theorem b3e (d:Nat){ws:List Int}{cs:List Chg}(h:Gst ws cs)(hc:cs.length≤1000){Q:FV×FV→Prop}(q:Q (.dct (cs.map keyH) (cs.map λc=>.int c.2.2),.non)):callW tb (d+1) 8 [b5n ws cs] Q:=by
 refine a0j (fd:=fd8) rfl rfl ?_
 simp[fd8,bd8,b5n,big]
 refine⟨by lia,?_⟩
 refine b1k (f:=b4g) (g:=keyH) (h:=λc=>.int c.2.2) cs [] [] (by simp) (a7y h.s) (λx hx K k=>?_) (by simpa using q)
 simp[b4g,big]
 exact k
def a3l:Option Nat→FV|none=>.non|some a=>.int a
theorem c8k (m:Int)(ks:List Int)(R:Bool→Prop):wp (inF (.int m) (.tup (ks.map .int))) R↔R (decide (m∈ks)):=by
 have h:FV.tup (ks.map .int)=dF (.tup (ks.map .int)):=by simp[dF,a6s,Function.comp_def]
 have hd:∀ xs:List Int,deps (xs.map D.int)=0:=λxs=>by induction xs with|nil=>rfl|cons x r ih=>simp[deps,dep,ih]
 have e:inF (.int m) (.tup (ks.map .int))=some (decide (m∈ks)):=by
  unfold inF
  rw[h,show FV.int m=dF (.int m) from rfl,b9t _ a0m (by simp[dep,a0m]),b9t _ a0m (by simp only[dep,hd,a0m];lia)]
  simp only[Option.bind_some,inD]
  congr 1
  induction ks with
  | nil=>simp
  | cons x r ih =>
   have ih:(r.map D.int).any (λy=>D.eqv y (D.int m))=decide (m∈r):=ih (by simp[dF,a6s,Function.comp_def])
   simp only[List.map_cons,List.any_cons,D.eqv,ih,List.mem_cons]
   rw[Bool.eq_iff_iff];simp;constructor<;>(rintro (h|h)<;>first|exact .inl h.symm|exact .inr h)
 rw[e];exact Iff.rfl
theorem b3s (d:Nat){n g:Int}{v:FV}{Q:FV×FV→Prop}(hs:Lf n v)(h0:0≤n)(hn:n<100000)(q:∀ s v',1≤s→s<1000000000→Lf (n+2) v'→Q (.int s,v')):callW tb (d+3) 26 [v,.int g] Q:=by
 refine a0j (fd:=e0y) rfl rfl ?_
 simp[e0y,e2x,big]
 refine a2t d hs (by lia) (by decide) (by decide) λu v1 u0 u1 l1=>?_
 simp
 have fin:wp (atF [FV.int 9,FV.int 9,FV.int 40,FV.int 3] u) λz=>callW tb (d+2) 24 [v1,z] λz=>wp (a3n (FV.int 1) z.fst) λz_1=>Q (z_1,z.snd):=by
  refine c1b u0 u1 ?_
  intro f hf
  obtain⟨k,rfl,k0,k1⟩:∃ k:Int,f=.int k∧0<k∧k≤40:=by
   simp at hf
   rcases hf with rfl|rfl|rfl|rfl<;>exact⟨_,rfl,by decide,by decide⟩
  refine a2t d l1 (by lia) k0 (by lia) λw v2 w0 w1 l2=>?_
  simp
  exact q _ _ (by lia) (by lia) (l2.mono (by lia))
 refine c3f (λh=>?_) (λh=>fin)
 refine c3f (λh=>?_) (λh=>fin)
 refine⟨by decide,a2t d l1 (by lia) (by decide) (by decide) λw v2 w0 w1 l2=>?_⟩
 simp
 exact q _ _ (by lia) (by lia) (l2.mono (by lia))
def Szs (xs:List Int):Prop:=∀ x∈xs,1≤x∧x<2000000000
theorem d0u (d:Nat) {n M:Int} {v:FV} {Q:FV×FV→Prop} (hs:Lf n v) (h0:0≤n) (hn:n<10000) (hM:8≤M) (hM2:M≤60) (q:∀ (ws ss:List Int) v',1≤ws.length→ws.length≤60→ss.length+1=ws.length→Szs ws→Szs ss→Lf (n+400) v'→Q (.tup [.tup (ws.map .int),.tup (ss.map .int)],v')):callW tb (d+4) 27 [v,.int M] Q:=by
  refine a0j (fd:=e0x) rfl rfl ?_
  simp[e0x,e2w,big]
  refine a2t (d+1) hs (by lia) (by decide) (by decide) λu v1 u0 u1 l1=>?_
  simp
  have tail : ∀ (m : Nat) (v2 : FV), 1 ≤ m → m ≤ 60 → Lf (n + 2) v2 → callW tb (d + 3) 24 [v2, FV.int 4] fun z =>
      a1d (m:Int)=true∧(upF 0 (m:Int).toNat).length≤100000 ∧
        a5a 5 1 (Tg.nm 5) a2a
          (eOp a3n (a1h (callW tb (d + 3)) 26 0 (a0a (a0b 3) a0i))
            (eOp ixF (a4b (a0a (eC (FV.int 0)) (a0a (eC (FV.int 9)) a0i)))
              (a1h (callW tb (d + 3)) 24 0 (a0a (eC (FV.int 2)) a0i))))
          (upF 0 (m : Int).toNat) [] [some z.snd, some (FV.int M), some (FV.int m), some z.fst, none] fun ys L2 =>
          wp (lk (List.set L2 4 (some (FV.tup ys))) 4) fun x =>
            wp (lk (List.set L2 4 (some (FV.tup ys))) 2) fun x_1 =>
              wp (b3c x_1 (FV.int 1)) fun z =>
                wp (a2n z) fun j =>
                  a1d j = true ∧ List.length L2 = 5 ∧ (upF 0 j.toNat).length ≤ 100000 ∧
                        a5a 5 1 (Tg.nm 5) a2a (a1h (callW tb (d + 3)) 26 0 (a0a (a0b 3) a0i)) (upF 0 j.toNat)
                          [] (List.set L2 4 (some (FV.tup ys))) fun ys L2 =>
                          wp (lk L2 0) fun x_2 => Q (FV.tup [x, FV.tup ys], x_2) := by
    intro m v2 m1 m2 l2
    refine a2t (d+1) l2 (by lia) (by decide) (by decide) λg v3 g0 g1 l3=>?_
    refine⟨a0q (by lia) (by lia),?_⟩
    rw[Int.toNat_natCast,a1l]
    refine⟨by simp;lia,?_⟩
    refine a4r (f:=λi:Nat=>FV.int i) (I:=λds acc L=>∃ v' xs,L=[some v',some (.int M),some (.int m),some (.int g),none]∧acc=xs.map .int∧xs.length=ds.length∧Szs xs∧Lf (n+3+3*ds.length) v') (List.range m) (List.range m) [] [] _ rfl ⟨v3,[],rfl,rfl,rfl,by simp[Szs],by simpa[Int.add_assoc] using l3⟩ ?_ ?_
    · rintro ds x r acc L K e ⟨v',xs,rfl,rfl,hl,hx,lf⟩ k
      have hd:ds.length<60:=by have:=congrArg List.length e;simp at this;lia
      simp
      refine b3s d lf (by lia) (by lia) λs v4 s0 s1 l4=>?_
      simp[big]
      refine a2t (d+1) l4 (by lia) (by decide) (by decide) λw v5 w0 w1 l5=>?_
      simp
      refine c1b w0 w1 ?_
      intro f hf
      obtain⟨p,rfl,p0,p1⟩:∃ p:Int,f=.int p∧0≤p∧p≤9:=by
        simp at hf
        rcases hf with rfl | rfl <;> exact ⟨_, rfl, by decide, by decide⟩
      simp
      refine k _ _ ⟨v5,xs++[s+p],rfl,by simp,by simp[hl],?_,l5.mono (by simp;lia)⟩
      intro y hy
      rcases List.mem_append.mp hy with hy|hy
      · exact hx y hy
      · simp at hy;subst hy;lia
    · rintro ys L ⟨v',ws,rfl,rfl,hl,hx,lf⟩
      simp only[List.length_range] at hl lf
      simp
      refine⟨a0q (by lia) (by lia),?_⟩
      rw[a1l]
      refine⟨by simp;lia,?_⟩
      refine a4r (f:=λi:Nat=>FV.int i) (I:=λds acc L=>∃ v' xs,L=[some v',some (.int M),some (.int m),some (.int g),some (.tup (ws.map .int))]∧acc=xs.map .int∧xs.length=ds.length∧Szs xs∧Lf (n+183+3*ds.length) v') (List.range (m-1)) (List.range (m-1)) [] [] _ rfl ⟨v',[],rfl,rfl,rfl,by simp[Szs],lf.mono (by simp;lia)⟩ ?_ ?_
      · rintro ds x r acc L K e ⟨v',xs,rfl,rfl,hl,hx,lf⟩ k
        have hd : ds.length < 60 := by have := congrArg List.length e; simp at this; lia
        simp
        refine b3s d lf (by lia) (by lia) fun s v4 s0 s1 l4 => ?_
        simp
        refine k _ _ ⟨v4, xs ++ [s], rfl, by simp, by simp [hl], ?_, l4.mono (by simp; lia)⟩
        intro y hy
        rcases List.mem_append.mp hy with hy | hy
        · exact hx y hy
        · simp at hy; subst hy; lia
      · rintro ys L ⟨v',ss,rfl,rfl,hl2,hx2,lf⟩
        simp only [List.length_range] at hl2 lf
        simp
        exact q ws ss v' (by lia) (by lia) (by lia) hx hx2 (lf.mono (by lia))
  refine c3f (λh=>?_) (λh=>?_)
  · refine a2t (d+1) l1 (by lia) (by decide) (by decide) λw v2 w0 w1 l2=>?_
    obtain⟨m,hm⟩:∃ m:Nat,1+w=m:=⟨(1+w).toNat,by lia⟩
    simp
    rw[hm]
    exact tail m v2 (by lia) (by lia) (l2.mono (by lia))
  · refine a2t (d+1) l1 (by lia) (by lia) (by lia) λw v2 w0 w1 l2=>?_
    obtain⟨m,hm⟩:∃ m:Nat,8+w=m:=⟨(8+w).toNat,by lia⟩
    simp
    rw[hm]
    exact tail m v2 (by lia) (by lia) (l2.mono (by lia))
def b3h (ss:List Int):List Chg:=(List.range ss.length).map λi=>(i,i+1,ss.getD i 0)
theorem b2b {ws ss:List Int}(hw:Szs ws)(hs:Szs ss)(hl:ss.length+1=ws.length):Gst ws (b3h ss):=by
 refine⟨λx hx=>(hw x hx).1,λx hx=>?_,λx hx=>?_⟩
 ·obtain⟨i,hi,rfl⟩:=List.mem_map.mp hx
  have hi:=List.mem_range.mp hi
  refine⟨by show i<_;lia,by show i+1<_;lia,by show i≠i+1;lia,?_⟩
  show 1≤ss.getD i 0
  simp only[List.getD,List.getElem?_eq_getElem hi,Option.getD_some]
  exact (hs _ (List.getElem_mem hi)).1
 ·obtain⟨j,hj⟩:=List.mem_iff_getElem?.mp hx
  obtain⟨h1,h2⟩:=List.getElem?_zip_eq_some.mp hj
  rw[List.getElem?_drop] at h2
  simp only[b3h,List.getElem?_map] at h1 h2
  obtain⟨a,e1,e2⟩:=Option.map_eq_some_iff.mp h1
  obtain⟨b,e3,e4⟩:=Option.map_eq_some_iff.mp h2
  have ha:a=j:=by have:=(List.getElem?_eq_some_iff.mp e1).2;simpa using this.symm
  have hb:b=1+j:=by have:=(List.getElem?_eq_some_iff.mp e3).2;simpa using this.symm
  rw[← e2,← e4,ha,hb]
  show lexLt [(j:Int),((j+1:Nat):Int)] [((1+j:Nat):Int),((1+j+1:Nat):Int)]=true
  have:¬ (j:Int)=((1+j:Nat):Int):=by lia
  rw[lexLt,if_neg this,decide_eq_true_eq]
  lia
theorem a8t (ss:List Int):(b3h ss).length=ss.length:=by simp[b3h]
def a7x (ks:List Nat) (n:Nat):List (Option Nat):=(List.range n).map λm=>if m∈ks then none else some (m-1)
theorem c8e {ss:List Int}{ks:List Nat}(h0:0∈ks){i a:Nat}(h:(a7x ks (ss.length+1))[i]?=some (some a)):a<i∧[(a:Int),(i:Int)]∈(b3h ss).map keyH:=by
 simp only[a7x,List.getElem?_map] at h
 obtain⟨m,e1,e2⟩:=Option.map_eq_some_iff.mp h
 have hm:=(List.getElem?_eq_some_iff.mp e1)
 have hi:m=i:=by simpa using hm.2.symm
 subst hi
 have hlt:m<ss.length+1:=by simpa using hm.1
 split at e2
 ·cases e2
 ·rename_i hk
  have hm0:m≠0:=λz=>hk (by rw[z];exact h0)
  cases e2
  refine⟨by lia,List.mem_map.mpr ⟨(m-1,m-1+1,ss.getD (m-1) 0),List.mem_map.mpr ⟨m-1,List.mem_range.mpr (by lia),rfl⟩,?_⟩⟩
  simp only[keyH]
  congr 2;lia
theorem d0n {ws:List Int}{m:Nat}(h:Szs ws)(hl:ws.length≤m):Vl (m*42) 1 (.tup (ws.map .int)):=by
 refine Vl.tup (k:=41) (p:=0) ?_ (by simpa using hl)
 intro x hx
 obtain⟨i,hi,rfl⟩:=List.mem_map.mp hx
 have:=h i hi
 exact Vl.int (by lia) (by lia)
theorem a5v (d:Nat){ws ss:List Int}(hl:ss.length≤60){Q:FV×FV→Prop}(q:Q (b5n ws (b3h ss),.non)):callW tb (d+1) 14 [.tup [.tup (ws.map .int),.tup (ss.map .int)]] Q:=by
 refine a0j (fd:=e1i) rfl rfl ?_
 simp[e1i,e3e,big]
 rw[a1l,a3q]
 refine⟨by simp;lia,?_⟩
 refine a1a (g:=λp:Nat×Int=>b4g (p.1,p.1+1,p.2)) ((List.range ss.length).zip ss) [] (λx hx K k=>?_) ?_
 ·simp[big]
  simpa[b4g] using k
 ·have e:((List.range ss.length).zip ss).map (λp:Nat×Int=>b4g (p.1,p.1+1,p.2))=(b3h ss).map b4g:=by
   apply List.ext_getElem
   ·simp[b3h]
   ·intro i h1 h2
    simp at h1 h2
    have:i<ss.length:=by simpa[b3h] using h2
    simp[b3h,this,List.getD]
  rw[List.nil_append,e]
  simpa[b5n] using q
theorem a9n (m:Nat)(ks:List Nat)(R:Bool→Prop):wp (inF (.int m) (.tup (ks.map λi:Nat=>.int i))) R↔R (decide (m∈ks)):=by
 have ek:(ks.map λi:Nat=>FV.int i)=(ks.map λi:Nat=>(i:Int)).map .int:=by simp
 rw[ek,c8k]
 have:((m:Int)∈ks.map λi:Nat=>(i:Int))↔m∈ks:=by
  rw[List.mem_map]
  exact⟨λ⟨a,h,e⟩=>(show a=m by lia) ▸ h,λh=>⟨m,h,rfl⟩⟩
 simp only[this]
theorem a5x (d:Nat){ws ss:List Int}{ks:List Nat}(hl:ws.length≤60)(h0:0∈ks){Q:FV×FV→Prop}(q:Q (.tup ((a7x ks ws.length).map a3l),.non)):callW tb (d+1) 15 [.tup [.tup (ws.map .int),.tup (ss.map .int)],.tup (ks.map λi:Nat=>.int i)] Q:=by
 refine a0j (fd:=e1h) rfl rfl ?_
 simp[e1h,d6g,big]
 refine⟨a0q (by lia) (by lia),?_⟩
 rw[a1l]
 refine⟨by simp;lia,?_⟩
 refine a1a (f:=λi:Nat=>FV.int i) (g:=λm=>a3l (if m∈ks then none else some (m-1))) (List.range ws.length) [] (λm hm K k=>?_) ?_
 ·simp[a9n]
  refine c3f (λh=>?_) (λh=>?_)
  ·rw[if_pos h] at k;simpa[a3l] using k
  ·rw[if_neg h] at k
   have hm0:m≠0:=λz=>h (by rw[z];exact h0)
   have:((m-1:Nat):Int)=(m:Int)-1:=by lia
   simpa[a3l,this] using k
 ·simp
  simpa[a7x,Function.comp_def] using q
theorem c9f {α:Type}(xs:List α) (i t:Nat):b1h xs (some (i:Int)) (some ((i:Int)+(t:Int)))=(xs.drop i).take t:=by
 have h1:sIx xs.length 0 (some (i:Int))=min i xs.length:=by simp only[sIx];rw[if_neg (by lia)];simp
 have h2:sIx xs.length xs.length (some ((i:Int)+(t:Int)))=min (i+t) xs.length:=by simp only[sIx];rw[if_neg (by lia)];congr 1
 unfold b1h
 rw[h1,h2]
 by_cases hi:i≤xs.length
 ·rw[Nat.min_eq_left hi,List.take_eq_take_iff,List.length_drop];lia
 ·rw[Nat.min_eq_right (show xs.length≤i by lia),List.drop_of_length_le (Γi _),List.drop_of_length_le (by lia)];simp
theorem c9e {α:Type}(xs:List α){i j:Nat}(h:i≤j):b1h xs (some (i:Int)) (some (j:Int))=(xs.drop i).take (j-i):=by
 obtain⟨t,rfl⟩:∃ t,j=i+t:=⟨j-i,by lia⟩
 rw[Nat.add_sub_cancel_left,← c9f];simp
def kp (ws ss:List Int)(ks:List Nat) (m:Nat):Int:=if m∈ks then ws.getD m 0 else ss.getD (m-1) 0
def a3e (ks:List Nat):Nat→List Nat
 | 0=>[0]
 | m+1=>if m+1∈ks then [m+1] else a3e ks m++[m+1]
def a8m (ws ss:List Int) (b e:Nat):Int:=ws.getD b 0+((ss.drop b).take (e-1-b)).sum
def rd (ws ss:List Int)(ks:List Nat) (m:Nat):Int:=((a3e ks m).map (kp ws ss ks)).sum
theorem b3q:∀ (xs:List Int) (b:Int),a2c b xs∈b :: xs
 | [],b=>by simp[a2c]
 | x :: r,b=>by
  have:=b3q r (if b<x then x else b)
  show a2c (if b<x then x else b) r∈_
  split at this<;>rename_i h
  ·rw[if_pos h];exact Γh _ this
  ·rw[if_neg h]
   rcases List.mem_cons.mp this with h|h
   ·rw[h];simp
   ·simp[h]
theorem b9j:∀ {cs:List Chg}{c:Chg},(cs.map keyH).Nodup→c∈cs→a2d (cs.map keyH) (cs.map λc=>FV.int c.2.2) (keyH c)=some (.int c.2.2)
 | x :: r,c,hn,hc=>by
  simp only[List.map_cons,List.nodup_cons] at hn
  show (if keyH x=keyH c then some (FV.int x.2.2) else a2d (r.map keyH) (r.map λc=>FV.int c.2.2) (keyH c))=_
  rcases List.mem_cons.mp hc with rfl|hc
  ·rw[if_pos rfl]
  ·rw[if_neg λe:keyH x=keyH c=>hn.1 (by rw[e];exact List.mem_map.mpr ⟨c,hc,rfl⟩)]
   exact b9j hn.2 hc
theorem b4e (ws:List Int)(cs:List Chg)(Q:List FV→Prop):wp (a3g (b5n ws cs)) Q↔Q [.tup (ws.map .int),.tup (cs.map b4g)]:=Iff.rfl
theorem a2m {xs:List Int}{i:Nat}(h:i<xs.length)(Q:FV→Prop):wp (atF (xs.map .int) (i:Int)) Q↔Q (.int (xs.getD i 0)) :=
 a3x rfl (by rw[List.getElem?_map,List.getElem?_eq_getElem h];simp[List.getD,h])
theorem c4t {xs:List Int}(hl:xs.length≤1000)(h:∀ x∈xs,0≤x∧x<2000000000){Q:Int→Prop}(q:Q xs.sum):wp (d0o (xs.map .int)) Q:=by
 simp only[d0o,a2e,a4p,a0g]
 rw[a3c]
 refine⟨⟨by simp only[big];lia,?_⟩,q⟩
 rw[List.all_eq_true]
 intro x hx
 have:=h x hx
 simp only[a8o,decide_eq_true_eq];lia
theorem c3c (ks:List Nat) (n:Nat):a4k ((List.range n).map λi:Nat=>FV.int i) ((a7x ks n).map a3l)=(List.range n).map λm:Nat=>FV.tup [.int (m:Int),a3l (if m∈ks then none else some (m-1))]:=by
 rw[a3q]
 apply List.ext_getElem
 ·simp[a7x]
 ·intro i h1 h2
  simp[a7x]
structure Rw (ws ss:List Int)(ks:List Nat):Prop where
 hw:Szs ws
 hs:Szs ss
 hl:ss.length+1=ws.length
 hn:ws.length≤60
 h0:0∈ks
 hc:ks.length≤60
 hp:ks.Pairwise (· < ·)
 hk:∀ k∈ks,k<ws.length
theorem b9l {xs:List Int}(h:Szs xs){i:Nat}(hi:i<xs.length):1≤xs.getD i 0∧xs.getD i 0<2000000000:=by
 rw[List.getD,List.getElem?_eq_getElem hi];exact h _ (List.getElem_mem hi)
theorem c8f {ws ss:List Int}{ks:List Nat}(h:Rw ws ss ks){m:Nat}(hm:m<ws.length):1≤kp ws ss ks m∧kp ws ss ks m<2000000000:=by
 unfold kp
 split
 ·exact b9l h.hw hm
 ·rename_i hk
  have:m≠0:=λz=>hk (z ▸ h.h0)
  have:=h.hl
  exact b9l h.hs (by lia)
def b1c (ks:List Nat) (n:Nat):FV:=.tup ((a7x ks n).map a3l)
theorem a3k (ks:List Nat) (n:Nat)(Q:List FV→Prop):wp (a3g (b1c ks n)) Q↔Q ((a7x ks n).map a3l):=Iff.rfl
theorem a2w (ks:List Nat) (n:Nat):(a7x ks n).length=n:=by simp[a7x]
theorem c5l (d:Nat){ws ss:List Int}{ks:List Nat}(h:Rw ws ss ks){Q:FV×FV→Prop}(q:Q (.lst (((List.range ws.length).map (kp ws ss ks)).map .int),.non)):callW tb (d+2) 9 [b5n ws (b3h ss),b1c ks ws.length] Q:=by
 have hn:=h.hn
 have hl:=h.hl
 have hG:=b2b h.hw h.hs h.hl
 refine a0j (fd:=fd9) rfl rfl ?_
 simp[fd9,bd9]
 refine b3e d hG (by rw[a8t];lia) ?_
 simp[a3k,a2w,b4e]
 rw[a1l,c3c]
 refine⟨by simp[big];lia,?_⟩
 refine a1a (g:=λm=>.int (kp ws ss ks m)) (List.range ws.length) [] (λm hm K k=>?_) ?_
 ·have hm:=List.mem_range.mp hm
  by_cases hk:m∈ks
  ·rw[kp,if_pos hk] at k
   simp[hk,a3l,b4e]
   rw[a2m hm]
   exact k
  ·rw[kp,if_neg hk] at k
   have m0:m≠0:=λz=>hk (z ▸ h.h0)
   have mem:((m-1,m,ss.getD (m-1) 0):Chg)∈b3h ss:=List.mem_map.mpr ⟨m-1,List.mem_range.mpr (by lia),by rw[show m-1+1=m by lia]⟩
   have e:=b9j (a7y hG.s) mem
   simp only[keyH] at e
   simp[hk,a3l,big]
   rw[e]
   exact k
 ·simpa[List.map_map,Function.comp_def] using q
theorem b7e (d:Nat){ws ss:List Int}{ks:List Nat}(h:Rw ws ss ks){Q:FV×FV→Prop}(q:Q (.int ((List.range ws.length).map (kp ws ss ks)).sum,.non)):callW tb (d+3) 10 [b5n ws (b3h ss),b1c ks ws.length] Q:=by
 have hn:=h.hn
 refine a0j (fd:=e1m) rfl rfl ?_
 simp[e1m,d6i]
 refine c5l d h ?_
 simp only[sq_l]
 refine c4t (by simp;lia) ?_ q
 intro x hx
 obtain⟨m,hm,rfl⟩:=List.mem_map.mp hx
 have:=c8f h (List.mem_range.mp hm)
 lia
theorem b1x {ks:List Nat}:∀ {m i:Nat},i∈a3e ks m→i≤m
 | 0,i,h=>by simp[a3e] at h;lia
 | m+1,i,h=>by
  unfold a3e at h
  split at h
  ·simp at h;lia
  ·rcases List.mem_append.mp h with h|h
   ·have:=b1x h;lia
   ·simp at h;lia
theorem a8h {ks:List Nat}:∀ m:Nat,(a3e ks m).length≤m+1∧1≤(a3e ks m).length
 | 0=>by simp[a3e]
 | m+1=>by
  unfold a3e
  split
  ·simp
  ·have:=a8h (ks:=ks) m;simp;lia
def e1u (ks:List Nat) (m:Nat):FV:=.tup ((a3e ks m).map λi:Nat=>.int i)
theorem b4d (ks:List Nat) (m:Nat)(Q:List FV→Prop):wp (a3g (e1u ks m)) Q↔Q ((a3e ks m).map λi:Nat=>.int i):=Iff.rfl
theorem c1a {ks:List Nat}{n i:Nat}(h:i<n)(Q:FV→Prop):wp (atF ((a7x ks n).map a3l) (i:Int)) Q↔Q (a3l (if i∈ks then none else some (i-1))) :=
 a3x rfl (by simp[a7x,h])
theorem c4m (d:Nat){ks:List Nat}{n m:Nat}(hn:n≤60)(h0:0∈ks)(hm:m<n){Q:FV×FV→Prop}(q:Q (e1u ks m,.non)):callW tb (d+1) 11 [b1c ks n,.int m] Q:=by
 refine a0j (fd:=e1l) rfl rfl ?_
 simp[e1l,e3g,big,a3k]
 rw[c1a hm]
 -- out++the way of what is yet to come,read backwards
 refine c1j (I:=λt L=>∃ (o:Option Nat)(out:List Nat),L=[some (b1c ks n),some (.int m),some (.lst (out.map λi:Nat=>.int i)),some (a3l o)]∧out.length+t≤61∧(match o with|none=>a3e ks m=out.reverse|some p=>p<m∧t=p+1∧a3e ks m=a3e ks p++out.reverse)) ?_ (m:=m) ⟨if m∈ks then none else some (m-1),[m],rfl,by simp;lia,?_⟩
 ·rintro t L K ⟨o,out,rfl,hl,ho⟩ k
  cases o with
  | none =>
   dsimp only at ho
   simp[a3l]
   simpa[e1u,ho] using q
  | some p =>
   obtain⟨hp,rfl,hw⟩:=ho
   simp[a3l,big,a3k]
   refine⟨by lia,?_⟩
   rw[c1a (by lia)]
   by_cases hk:p∈ks
   ·refine k 0 _ (by lia) ⟨none,out++[p],by simp[hk],by simp;lia,?_⟩
    show a3e ks m=_
    rw[hw]
    cases p with
    | zero=>simp[a3e]
    | succ p=>simp[a3e,hk]
   ·have p0:p≠0:=λz=>hk (z ▸ h0)
    obtain⟨r,rfl⟩:∃ r,p=r+1:=⟨p-1,by lia⟩
    refine k (r+1) _ (by lia) ⟨some r,out++[r+1],by simp[hk],by simp;lia,by lia,rfl,?_⟩
    rw[hw]
    simp[a3e,hk]
 ·by_cases hk:m∈ks
  ·rw[if_pos hk]
   show a3e ks m=_
   cases m with
   | zero=>simp[a3e]
   | succ m=>simp[a3e,hk]
  ·have p0:m≠0:=λz=>hk (z ▸ h0)
   obtain⟨r,rfl⟩:∃ r,m=r+1:=⟨m-1,by lia⟩
   rw[if_neg hk]
   refine⟨by lia,?_,?_⟩
   ·rfl
   ·simp[a3e,hk]
theorem c3z (d:Nat){ks:List Nat}{n m:Nat}(hn:n≤60)(h0:0∈ks)(hm:m<n){Q:FV×FV→Prop}(q:Q (.int (((a3e ks m).length:Int)-1),.non)):callW tb (d+2) 12 [b1c ks n,.int m] Q:=by
 refine a0j (fd:=e1k) rfl rfl ?_
 simp[e1k,d6h]
 refine c4m d hn h0 hm ?_
 simp[b4d]
 exact q
theorem b3i (d:Nat){ws ss:List Int}{ks:List Nat}(h:Rw ws ss ks){Q:FV×FV→Prop}(q:Q (.tup (((List.range ws.length).map (rd ws ss ks)).map .int),.non)):callW tb (d+3) 13 [b5n ws (b3h ss),b1c ks ws.length] Q:=by
 have hn:=h.hn
 refine a0j (fd:=e1j) rfl rfl ?_
 simp[e1j,e3f]
 refine c5l d h ?_
 simp[a3k,a2w]
 refine⟨a0q (by lia) (by lia),?_⟩
 rw[a1l]
 refine⟨by simp[big];lia,?_⟩
 refine a1a (f:=λi:Nat=>FV.int i) (g:=λm=>.int (rd ws ss ks m)) (List.range ws.length) [] (λm hm K k=>?_) ?_
 ·have hm:=List.mem_range.mp hm
  have hwl:=(a8h (ks:=ks) m).1
  simp
  refine c4m (d+1) h.hn h.h0 hm ?_
  simp[b4d]
  refine⟨by simp[big];lia,?_⟩
  refine a1a (f:=λi:Nat=>FV.int i) (g:=λi=>.int (kp ws ss ks i)) (a3e ks m) [] (λi hi K k=>?_) ?_
  ·have hi:=b1x hi
   simp
   rw[a3x rfl (show ((List.range ws.length).map (FV.int ∘ kp ws ss ks))[i]?=some (.int (kp ws ss ks i)) by simp[show i<ws.length by lia])]
   exact k
  ·have e:((a3e ks m).map λi=>FV.int (kp ws ss ks i))=((a3e ks m).map (kp ws ss ks)).map .int:=by simp
   rw[List.nil_append,e]
   rw[a4p,a0g]
   exact k
 ·simpa[List.map_map,Function.comp_def] using q
def a4z (ws ss:List Int):FV:=.tup [.tup (ws.map .int),.tup (ss.map .int)]
theorem b4f (ws ss:List Int)(Q:List FV→Prop):wp (a3g (a4z ws ss)) Q↔Q [.tup (ws.map .int),.tup (ss.map .int)]:=Iff.rfl
def a8d (ks:List Nat):FV:=.tup (ks.map λi:Nat=>.int i)
theorem c1w (d:Nat){ws ss:List Int}{ks:List Nat}(h:Rw ws ss ks){Q:FV×FV→Prop}(q:Q (.int ((List.range ws.length).map (kp ws ss ks)).sum,.non)):callW tb (d+4) 16 [a4z ws ss,a8d ks] Q:=by
 have hn:=h.hn
 have hl:=h.hl
 refine a0j (fd:=e1g) rfl rfl ?_
 simp[e1g,d6f]
 refine a5v (d+2) (by lia) ?_
 dsimp only
 refine a5x (d+2) h.hn h.h0 ?_
 dsimp only
 exact b7e d h q
theorem b7d (d:Nat){ws ss:List Int}{ks:List Nat}(h:Rw ws ss ks){Q:FV×FV→Prop}(q:Q (.tup (((List.range ws.length).map (rd ws ss ks)).map .int),.non)):callW tb (d+4) 17 [a4z ws ss,a8d ks] Q:=by
 have hn:=h.hn
 have hl:=h.hl
 refine a0j (fd:=e1f) rfl rfl ?_
 simp[e1f,d6e]
 refine a5v (d+2) (by lia) ?_
 dsimp only
 refine a5x (d+2) h.hn h.h0 ?_
 dsimp only
 exact b3i d h q
def a2r (ks:List Nat) (n:Nat):List Int:=(List.range n).map λm=>((a3e ks m).length:Int)-1
def mx (xs:List Int):Int:=a2c (xs.headD 0) xs.tail
theorem d9c {xs:List Int}(h:xs≠[]){Q:FV→Prop}(q:Q (.int (mx xs))):wp (a0u (xs.map .int)) λns=>∃ n r,ns=n :: r∧Q (.int (a2c n r)):=by
 cases xs with
 | nil=>exact absurd rfl h
 | cons x r =>
  simp only[a4p,a0g]
  exact⟨x,r,rfl,q⟩
theorem b7i (d:Nat){ws ss:List Int}{ks:List Nat}(h:Rw ws ss ks){Q:FV×FV→Prop}(q:Q (.int (mx (a2r ks ws.length)),.non)):callW tb (d+3) 18 [a4z ws ss,a8d ks] Q:=by
 have hn:=h.hn
 have hl:=h.hl
 refine a0j (fd:=e1e) rfl rfl ?_
 simp[e1e,e3d]
 refine a5x (d+1) h.hn h.h0 ?_
 rw[show FV.tup ((a7x ks ws.length).map a3l)=b1c ks ws.length from rfl]
 simp[a3k,a2w]
 refine⟨a0q (by lia) (by lia),?_⟩
 rw[a1l]
 refine⟨by simp[big];lia,?_⟩
 refine a1a (f:=λi:Nat=>FV.int i) (g:=λm=>.int (((a3e ks m).length:Int)-1)) (List.range ws.length) [] (λm hm K k=>?_) ?_
 ·have hm:=List.mem_range.mp hm
  simp
  exact c3z d h.hn h.h0 hm k
 ·rw[List.nil_append,show (List.range ws.length).map (λm=>FV.int (((a3e ks m).length:Int)-1))=(a2r ks ws.length).map .int by simp[a2r]]
  refine d9c (Q:=λz=>Q (z,.non)) ?_ q
  intro z
  have e:=congrArg List.length z
  simp only[a2r,List.length_map,List.length_range,List.length_nil] at e
  lia
theorem b6v:∀ {xs:List Int},(∀ x∈xs,0≤x∧x≤2000000000)→0≤xs.sum∧xs.sum≤2000000000*xs.length
 | [],_=>by simp
 | x :: r,h=>by
  have:=b6v λy hy=>h y (Γh _ hy)
  have:=h x (by simp)
  simp only[List.sum_cons,List.length_cons,Int.natCast_add]
  lia
theorem b2i (d:Nat) (i:Int)(Q:FV×FV→Prop):callW tb (d+1) 0 [.int i] Q↔Q (.bl true,.non):=by
 rw[a3t (fd:=fd0) rfl rfl]
 simp[fd0,bd0]
theorem a8j (d:Nat)(xs:List FV) (n:Int)(Q:FV×FV→Prop):callW tb (d+1) 1 [.tup xs,.int n] Q↔Q (.bl ((xs.length:Int) == n),.non):=by
 rw[a3t (fd:=fd1) rfl rfl]
 simp[fd1,bd1]
theorem b6z (d:Nat) (i:Int)(Q:FV×FV→Prop):callW tb (d+2) 3 [.int i] Q↔Q (.bl (decide (1≤i)),.non):=by
 rw[a3t (fd:=fd3) rfl rfl]
 simp[fd3,bd3,b2i]
theorem c7y (d:Nat) (a n:Nat)(Q:FV×FV→Prop):callW tb (d+2) 5 [.int a,.int n] Q↔Q (.bl (decide (a<n)),.non):=by
 rw[a3t (fd:=fd5) rfl rfl]
 simp[fd5,bd5,b2i]
theorem c0t (d:Nat)(c:Chg) (n:Nat)(h:c.1<n∧c.2.1<n∧c.1≠c.2.1∧1≤c.2.2)(Q:FV×FV→Prop):callW tb (d+3) 4 [b4g c,.int n] Q↔Q (.bl true,.non):=by
 have h3:¬ (c.1:Int)=c.2.1:=by have:=h.2.2.1;lia
 rw[a3t (fd:=fd4) rfl rfl]
 simp[fd4,bd4,b4g,a8j,c7y,b6z,h.1,h.2.1,h.2.2.2,h3]
theorem c1r (d:Nat){ws:List Int}{cs:List Chg}(h:Gst ws cs)(hw:ws.length≤1000)(hc:cs.length≤1000){Q:FV×FV→Prop}(q:Q (.bl true,.non)):callW tb (d+4) 2 [b5n ws cs] Q:=by
 refine a0j (fd:=fd2) rfl rfl ?_
 simp[fd2,bd2,b5n,a8j,big]
 refine⟨by lia,?_⟩
 refine a1a (f:=FV.int) (g:=λ_=>.bl true) ws [] (λx hx K k=>?_) ?_
 ·have:=h.w x hx
  simp[b6z,this]
  exact k
 rw[List.nil_append,a5r]
 simp[a2h,b4o,big]
 refine⟨by lia,?_⟩
 refine a1a (f:=b4g) (g:=λ_=>.bl true) cs [] (λx hx K k=>?_) ?_
 ·simp[c0t _ x ws.length (h.c x hx)]
  exact k
 rw[List.nil_append,a5r]
 simp[a2h,b4o,big]
 refine⟨by lia,?_⟩
 refine a1a (f:=b4g) (g:=λc=>.tup [.int c.1,.int c.2.1]) cs [] (λx hx K k=>?_) ?_
 ·simp[b4g]
  rw[show (2:Int)=((2:Nat):Int) from rfl,a6t]
  exact k
 have c1:∀ xs:List FV,b1h xs (some 1) none=xs.drop 1:=λxs=>by simpa using c4b xs 1
 simp
 rw[c1,← List.map_drop,a3q]
 refine⟨by simp;lia,?_⟩
 refine a1a (g:=λ_=>.bl true) (cs.zip (cs.drop 1)) [] (λx hx K k=>?_) ?_
 ·have:=h.s x hx
  simp[this]
  exact k
 rw[List.nil_append,a5r]
 simp[a2h,b4o]
 exact q
theorem c8r (d:Nat){ls:List (Option Nat)}(hl:ls.length≤1000)(hb:∀ (i a:Nat),ls[i]?=some (some a)→a<i){m:Nat}(hm:m<ls.length){Q:FV×FV→Prop}(q:Q (.bl true,.non)):callW tb (d+1) 7 [.tup (ls.map a3l),.int m] Q:=by
 refine a0j (fd:=fd7) rfl rfl ?_
 simp[fd7,bd7]
 have at':∀ (i:Nat)(hi:i<ls.length)(Q:FV→Prop),wp (atF (ls.map a3l) (i:Int)) Q↔Q (a3l ls[i]):=λi hi Q=>a3x rfl (by rw[List.getElem?_map,List.getElem?_eq_getElem hi];rfl)
 rw[at' m hm]
 refine⟨a0q (by lia) (by lia),?_⟩
 refine a2y (I:=λj L=>∃ o a,L=[some (.tup (ls.map a3l)),some (.int m),some (a3l o),a]∧(∀ p,o=some p→p+j<m)∧j≤m) ls.length 0 _ ⟨ls[m],_,rfl,λp hp=>by have:=hb m p (by rw[List.getElem?_eq_getElem hm,hp]);lia,by lia⟩ ?_ ?_
 ·rintro j L K-hj ⟨o,a,rfl,ho,hjm⟩ k
  cases o with
  | none=>simpa[a3l] using q
  | some p =>
   have:=ho p rfl
   have hp:p<ls.length:=by lia
   simp[a3l]
   rw[at' p hp]
   refine k _ ⟨ls[p],_,rfl,λr hr=>?_,by lia⟩
   have:=hb p r (by rw[List.getElem?_eq_getElem hp,hr]);lia
 ·rintro L ⟨o,a,rfl,ho,hjm⟩
  lia
theorem b8v (d:Nat){ws:List Int}{cs:List Chg}{ls:List (Option Nat)}(h:Gst ws cs)(hw:ws.length≤1000)(hc:cs.length≤1000)(hl:ls.length=ws.length)(hb:∀ (i a:Nat),ls[i]?=some (some a)→a<i∧[(a:Int),(i:Int)]∈cs.map keyH){Q:FV×FV→Prop}(q:Q (.bl true,.non)):callW tb (d+2) 6 [b5n ws cs,.tup (ls.map a3l)] Q:=by
 refine a0j (fd:=fd6) rfl rfl ?_
 simp[fd6,bd6,a8j,hl]
 have e0:∀ Q:List FV→Prop,wp (a3g (b5n ws cs)) Q↔Q [.tup (ws.map .int),.tup (cs.map b4g)]:=λQ=>Iff.rfl
 simp[e0,a8j,hl]
 refine b3e d h hc ?_
 simp
 rw[a1l,a3q]
 refine a5p (f:=λp:Nat×Option Nat=>FV.tup [.int p.1,a3l p.2]) (I:=λ_ L=>∃ a b,L=[some (b5n ws cs),some (.tup (ls.map a3l)),some (.int ws.length),some (.dct (cs.map keyH) (cs.map λc=>.int c.2.2)),a,b]) ((List.range ws.length).zip ls) ((List.range ws.length).zip ls) [] _ rfl ⟨_,_,rfl⟩ ?_ ?_
 ·rintro ds ⟨i,o⟩ r L K e ⟨a,b,rfl⟩ k
  have hm:(i,o)∈(List.range ws.length).zip ls:=by rw[e];simp
  obtain⟨j,hj⟩:=List.mem_iff_getElem?.mp hm
  obtain⟨h1,h2⟩:=List.getElem?_zip_eq_some.mp hj
  have hi:i=j:=by
   have:=(List.getElem?_eq_some_iff.mp h1).2
   simpa using this.symm
  subst hi
  cases o with
  | none =>
   simp[a3l]
   exact k _ ⟨_,_,rfl⟩
  | some p =>
   have:=(hb i p h2).2
   simp[a3l,b2i,this,big]
   exact k _ ⟨_,_,rfl⟩
 ·rintro L ⟨a,b,rfl⟩
  simp
  refine⟨a0q (by lia) (by lia),?_⟩
  rw[a1l]
  refine⟨by simp[big];lia,?_⟩
  refine a1a (f:=λi:Nat=>FV.int i) (g:=λ_=>.bl true) (List.range ws.length) [] (λi hi K k=>?_) ?_
  ·have hi:=List.mem_range.mp hi
   simp
   exact c8r d (by lia) (λi a h=>(hb i a h).1) (by lia) k
  rw[List.nil_append,a5r]
  simp[a2h,b4o]
  exact q
def nxt (n:Nat):List Nat→Nat
 | []=>n
 | k :: _=>k
def vp (ok:Nat→Nat→Bool) (n:Nat):List Nat→Prop
 | []=>True
 | k :: r=>k<nxt n r∧ok k (nxt n r)=true∧vp ok n r
def pc (c:Nat→Nat→Int) (n:Nat):List Nat→Int
 | []=>0
 | k :: r=>c k (nxt n r)+pc c n r
def lxN:List Nat→List Nat→Bool
 | [],[]=>false
 | [],_ :: _=>true
 | _ :: _,[]=>false
 | a :: r,b :: q=>if a=b then lxN r q else decide (a<b)
abbrev PT:=Int×List Nat
def ltP (x y:PT):Bool:=if x.1=y.1 then lxN x.2 y.2 else decide (x.1<y.1)
theorem b2q:∀ a:List Nat,lxN a a=false
 | []=>rfl
 | a :: r=>by simp[lxN,b2q r]
theorem b0r:∀ {a b c:List Nat},lxN a b=true→lxN b c=true→lxN a c=true
 | [],[],_,h,_=>by cases h
 | [],b :: q,[],_,h=>by cases h
 | [],b :: q,c :: s,_,_=>rfl
 | a :: r,[],_,h,_=>by cases h
 | a :: r,b :: q,[],_,h=>by cases h
 | a :: r,b :: q,c :: s,h,g=>by
  simp only[lxN] at h g ⊢
  by_cases e1:a=b
  ·subst e1
   rw[if_pos rfl] at h
   by_cases e2:a=c
   ·subst e2;rw[if_pos rfl] at g ⊢;exact b0r h g
   ·rw[if_neg e2] at g ⊢;exact g
  ·rw[if_neg e1] at h
   have h:=of_decide_eq_true h
   by_cases e2:b=c
   ·subst e2;rw[if_neg e1];exact decide_eq_true h
   ·rw[if_neg e2] at g
    have g:=of_decide_eq_true g
    rw[if_neg (by lia)];exact decide_eq_true (by lia)
theorem b8p:∀ {a b:List Nat},lxN a b=false→lxN b a=false→a=b
 | [],[],_,_=>rfl
 | [],b :: q,h,_=>by cases h
 | a :: r,[],_,h=>by cases h
 | a :: r,b :: q,h,g=>by
  simp only[lxN] at h g
  by_cases e:a=b
  ·subst e
   rw[if_pos rfl] at h g
   rw[b8p h g]
  ·rw[if_neg e] at h
   rw[if_neg (Ne.symm e)] at g
   have h:=of_decide_eq_false h
   have g:=of_decide_eq_false g
   lia
theorem a9f (a:PT):ltP a a=false:=by simp[ltP,b2q]
theorem b0s {a b c:PT}(h:ltP a b=true)(g:ltP b c=true):ltP a c=true:=by
 simp only[ltP] at h g ⊢
 by_cases e1:a.1=b.1
 ·rw[if_pos e1] at h
  by_cases e2:b.1=c.1
  ·rw[if_pos e2] at g;rw[if_pos (e1.trans e2)];exact b0r h g
  ·rw[if_neg e2] at g
   have g:=of_decide_eq_true g
   rw[if_neg (by lia)];exact decide_eq_true (by lia)
 ·rw[if_neg e1] at h
  have h:=of_decide_eq_true h
  by_cases e2:b.1=c.1
  ·rw[if_neg (by lia)];exact decide_eq_true (by lia)
  ·rw[if_neg e2] at g
   have g:=of_decide_eq_true g
   rw[if_neg (by lia)];exact decide_eq_true (by lia)
theorem b8q {a b:PT}(h:ltP a b=false)(g:ltP b a=false):a=b:=by
 simp only[ltP] at h g
 by_cases e1:a.1=b.1
 ·rw[if_pos e1] at h;rw[if_pos e1.symm] at g
  exact Prod.ext e1 (b8p h g)
 ·rw[if_neg e1] at h;rw[if_neg (Ne.symm e1)] at g
  have h:=of_decide_eq_false h
  have g:=of_decide_eq_false g
  lia
theorem a6i {a b c:PT}(h:ltP b a=false)(g:ltP c b=false):ltP c a=false:=by
 cases e:ltP c a with
 | false=>rfl
 | true =>
  cases e2:ltP a b with
  | true=>rw[b0s e e2] at g;cases g
  | false=>rw[b8q e2 h,g] at e;cases e
theorem c2y {c:Int}{i:Nat}{x y:PT}:ltP (c+x.1,i :: x.2) (c+y.1,i :: y.2)=ltP x y:=by
 simp only[ltP,lxN,if_true]
 by_cases e:x.1=y.1
 ·rw[if_pos e,if_pos (by lia)]
 ·rw[if_neg e,if_neg (by lia)]
  congr 1
  exact propext ⟨λh=>by lia,λh=>by lia⟩
theorem b3y {α:Type}(lt:α→α→Bool):∀ (xs:List α)(b:α),a1e lt b xs∈b :: xs
 | [],b=>by simp[a1e]
 | x :: r,b=>by
  have:=b3y lt r (if lt x b=true then x else b)
  show a1e lt (if lt x b=true then x else b) r∈_
  split at this<;>rename_i h
  ·rw[if_pos h];exact Γh _ this
  ·rw[if_neg h]
   rcases List.mem_cons.mp this with e|e
   ·rw[e];simp
   ·exact Γh _ (Γh _ e)
theorem b3x:∀ (xs:List PT)(b:PT),∀ x∈b :: xs,ltP x (a1e ltP b xs)=false
 | [],b,x,h=>by
  rcases List.mem_cons.mp h with rfl|h
  ·exact a9f _
  ·cases h
 | y :: r,b,x,h=>by
  show ltP x (a1e ltP (if ltP y b=true then y else b) r)=false
  have ih:=b3x r (if ltP y b=true then y else b)
  have h0:=ih _ Γn
  rcases List.mem_cons.mp h with rfl|h
  ·by_cases e:ltP y x=true
   ·rw[if_pos e] at h0 ⊢
    refine a6i h0 ?_
    cases e2:ltP x y with
    | false=>rfl
    | true=>have:=b0s e e2;rw[a9f] at this;cases this
   ·rw[if_neg e] at h0 ⊢;exact h0
  ·rcases List.mem_cons.mp h with rfl|h
   ·by_cases e:ltP x b=true
    ·rw[if_pos e] at h0 ⊢;exact h0
    ·rw[if_neg e] at h0 ⊢
     exact a6i h0 (by simpa using e)
   ·exact ih x (Γh _ h)
def Bst (ok:Nat→Nat→Bool)(c:Nat→Nat→Int) (n i:Nat):Option PT→Prop
 | some p=>p.1=pc c n p.2∧nxt n p.2=i∧vp ok n p.2∧∀ ks,nxt n ks=i→vp ok n ks→ltP (pc c n ks,ks) p=false
 | none=>∀ ks,nxt n ks=i→¬ vp ok n ks
section
variable {ok ok':Nat→Nat→Bool}{c:Nat→Nat→Int}{n:Nat}
theorem Bst.uniq {i:Nat}{o o':Option PT}(h:Bst ok c n i o)(h':Bst ok c n i o'):o=o':=by
 cases o with
 | none =>
  cases o' with
  | none=>rfl
  | some p=>exact absurd h'.2.2.1 (h _ h'.2.1)
 | some p =>
  cases o' with
  | none=>exact absurd h.2.2.1 (h' _ h.2.1)
  | some q =>
   have a:=h.2.2.2 q.2 h'.2.1 h'.2.2.1
   have b:=h'.2.2.2 p.2 h.2.1 h.2.2.1
   rw[← h'.1] at a
   rw[← h.1] at b
   exact congrArg some (b8q b a)
theorem c5y:∀ {ks:List Nat},vp ok n ks→(∀ k∈ks,k<n)∧ks.Pairwise (· < ·)∧∀ k∈ks,nxt n ks≤k
 | [],_=>by simp
 | k :: r,h=>by
  obtain⟨h1,h2,h3⟩:=h
  obtain⟨a,b,d⟩:=c5y h3
  have hk:k<n:=by
   cases r with
   | nil=>exact h1
   | cons x q=>have:=a x (by simp);simp[nxt] at h1;lia
  refine⟨λx hx=>?_,List.pairwise_cons.mpr ⟨λx hx=>?_,b⟩,λx hx=>?_⟩
  ·rcases List.mem_cons.mp hx with rfl|hx
   ·exact hk
   ·exact a x hx
  ·have:=d x hx;lia
  ·show k≤x
   rcases List.mem_cons.mp hx with rfl|hx
   ·exact Γi _
   ·have:=d x hx;lia
theorem b0m {ks:List Nat}(h:vp ok n ks):nxt n ks≤n:=by
 cases ks with
 | nil=>exact Γi _
 | cons k r=>exact Nat.le_of_lt ((c5y h).1 k (by simp))
theorem c4n:∀ {ks:List Nat},vp ok n ks→ks.length+nxt n ks≤n
 | [],_=>by simp[nxt]
 | k :: r,⟨h1,_,h3⟩=>by
  have:=c4n h3
  show r.length+1+k≤n
  lia
theorem c9h:Bst ok c n n (some (0,[])):=by
 refine⟨rfl,rfl,trivial,λks h1 h2=>?_⟩
 cases ks with
 | nil=>exact a9f _
 | cons k r=>have:=(c5y h2).1 k (by simp);simp[nxt] at h1;lia
theorem c4i {i:Nat}(hi:i<n)(h:∀ e,i<e→e≤n→ok i e=true→Bst ok c n e none):Bst ok c n i none:=by
 intro ks h1 h2
 cases ks with
 | nil=>simp[nxt] at h1;lia
 | cons k r =>
  cases (show k=i from h1)
  exact h _ h2.1 (b0m h2.2.2) h2.2.1 r rfl h2.2.2
theorem c4h {i:Nat}{B:Nat→Option PT}(hi:i<n)(hB:∀ e,i<e→e≤n→Bst ok c n e (B e)){p:PT}(hp:∃ e,i<e∧e≤n∧ok i e=true∧∃ q,B e=some q∧p=(c i e+q.1,i :: q.2))
  (hl:∀ e q,i<e→e≤n→ok i e=true→B e=some q→ltP (c i e+q.1,i :: q.2) p=false):Bst ok c n i (some p):=by
 obtain⟨e,h1,h2,h3,q,hq,rfl⟩:=hp
 have b:=hB e h1 h2
 rw[hq] at b
 obtain⟨b1,b2,b3,b4⟩:=b
 refine⟨?_,rfl,⟨by rw[b2];exact h1,by rw[b2];exact h3,b3⟩,λks k1 k2=>?_⟩
 ·show c i e+q.1=c i (nxt n q.2)+pc c n q.2
  rw[b2,b1]
 ·cases ks with
  | nil=>simp[nxt] at k1;lia
  | cons k r =>
   cases (show k=i from k1)
   obtain⟨k3,k4,k5⟩:=k2
   have hn:=b0m k5
   have b':=hB (nxt n r) k3 hn
   cases e2:B (nxt n r) with
   | none=>rw[e2] at b';exact absurd k5 (b' r rfl)
   | some q' =>
    rw[e2] at b'
    have l1:=hl _ q' k3 hn k4 e2
    have l2:=b'.2.2.2 r rfl k5
    refine a6i l1 ?_
    show ltP (c i (nxt n r)+(pc c n r,r).1,i :: (pc c n r,r).2) (c i (nxt n r)+q'.1,i :: q'.2)=false
    rw[c2y];exact l2
theorem c0z {i:Nat}{o:Option PT}(hk:∀ a e,a<e→e≤n→ok a e=ok' a e)(h:Bst ok c n i o):Bst ok' c n i o:=by
 have hv:∀ ks,vp ok n ks↔vp ok' n ks:=by
  intro ks
  induction ks with
  | nil=>exact Iff.rfl
  | cons k r ih =>
   constructor
   ·exact λ⟨a,b,d⟩=>⟨a,by rw[← hk _ _ a (b0m d)];exact b,ih.mp d⟩
   ·exact λ⟨a,b,d⟩=>⟨a,by rw[hk _ _ a (b0m d)];exact b,ih.mpr d⟩
 cases o with
 | none=>exact λks h1 h2=>h ks h1 ((hv ks).mpr h2)
 | some p=>exact⟨h.1,h.2.1,(hv _).mp h.2.2.1,λks h1 h2=>h.2.2.2 ks h1 ((hv ks).mpr h2)⟩
end
section
variable {ok:Nat→Nat→Bool}{c:Nat→Nat→Int}{n:Nat}{B:Nat→Option PT}
end
structure Rwo (ws ss:List Int):Prop where
 hw:Szs ws
 hs:Szs ss
 hl:ss.length+1=ws.length
 hn:ws.length≤60
theorem c6g (d:Nat){ws ss:List Int}(h:Rwo ws ss){b e:Nat}(hb:b<ws.length)(he:b<e){i:Int}(hi:i=e){Q:FV×FV→Prop}(q:Q (.int (a8m ws ss b e),.non)):callW tb (d+1) 19 [a4z ws ss,.int b,.int i] Q:=by
 subst hi
 have hn:=h.hn
 have hl:=h.hl
 refine a0j (fd:=e1d) rfl rfl ?_
 simp[e1d,e3c,a4z]
 rw[a2m hb]
 have e1:(e:Int)-1=((e-1:Nat):Int):=by lia
 simp
 rw[e1,c9e _ (show b≤e-1 by lia),← List.map_drop,← List.map_take]
 refine c4t (by simp;lia) ?_ ?_
 ·intro x hx
  have:=h.hs x (List.mem_of_mem_drop (List.mem_of_mem_take hx))
  lia
 ·simpa[a8m] using q
def b9x (p:PT):FV:=.tup [.int p.1,.tup (p.2.map λi:Nat=>.int i)]
def encO:Option PT→FV
 | none=>.non
 | some p=>b9x p
theorem c8w (n:Nat)(hn:1<n)(ks:List Nat):fD n (.tup (ks.map λi:Nat=>.int i))=some (.tup (ks.map λi:Nat=>.int i)):=by
 obtain⟨m,rfl⟩:∃ m,n=m+2:=⟨n-2,by lia⟩
 have:a4m (fD (m+1)) (ks.map λi:Nat=>FV.int i)=some (ks.map λi:Nat=>D.int i):=by
  induction ks with
  | nil=>rfl
  | cons k r ih =>
   show ((some (D.int k)).bind λy=>(a4m (fD (m+1)) (r.map λi:Nat=>FV.int i)).map (y :: ·))=_
   rw[ih];rfl
 show (a4m (fD (m+1)) (ks.map λi:Nat=>FV.int i)).map D.tup=_
 rw[this];rfl
theorem b1b:∀ a b:List Nat,D.eqvs (a.map λi:Nat=>.int i) (b.map λi:Nat=>.int i)=decide (a=b)
 | [],[]=>by simp[D.eqvs]
 | [],b :: q=>by simp[D.eqvs]
 | a :: r,[]=>by simp[D.eqvs]
 | a :: r,b :: q=>by
  simp only[List.map_cons,D.eqvs,D.eqv,b1b r q]
  by_cases h:a=b
  ·subst h;simp
  ·have:¬ (a:Int)=(b:Int):=by lia
   simp[h,this]
theorem b0t:∀ a b:List Nat,ltDs (a.map λi:Nat=>.int i) (b.map λi:Nat=>.int i)=some (lxN a b)
 | [],[]=>by simp[ltDs,lxN]
 | [],b :: q=>by simp[ltDs,lxN]
 | a :: r,[]=>by simp[ltDs,lxN]
 | a :: r,b :: q=>by
  simp only[List.map_cons,ltDs,D.eqv,lxN,ltD,b0t r q]
  by_cases h:a=b
  ·subst h;simp
  ·have:¬ (a:Int)=(b:Int):=by lia
   simp[h,this]
def b9w (p:PT):D:=.tup [.int p.1,.tup (p.2.map λi:Nat=>.int i)]
theorem c9b (p:PT):fD a0m (b9x p)=some (b9w p):=by
 have:=c8w 39 (by decide) p.2
 show ((some (D.int p.1)).bind λy=>((fD 39 (FV.tup (p.2.map λi:Nat=>.int i))).bind λz=>(some []).map (z :: ·)).map (y :: ·)).map D.tup=_
 rw[this];rfl
theorem c9a (a b:PT):ltD (b9w a) (b9w b)=some (ltP a b):=by
 simp only[b9w,ltD,ltDs,D.eqv,b1b,b0t,ltP]
 by_cases e:a.1=b.1
 ·rw[if_pos e,if_pos (by simpa using e)]
  by_cases e2:a.2=b.2
  ·rw[e2,if_pos (by simp),b2q]
  ·rw[if_neg (by simpa using e2)]
 ·rw[if_neg e,if_neg (by simpa using e)]
theorem minP (p:PT)(r:List PT)(Q:FV→Prop):wp (b4x (.lst ((p :: r).map b9x))) Q↔Q (b9x (a1e ltP p r)):=c7x b9x b9w ltP c9b c9a (λa ps z=>nomatch z) p r Q
theorem b6e {κ α:Type} [DecidableEq κ] {k:κ}{v:α}:∀ (r:List κ)(q:List α),r.length=q.length→k ∉ r→List.zipWith (λk' v'=>if k'=k then v else v') r q=q
 | [],[],_,_=>rfl
 | [],a :: b,h,_=>by simp at h
 | a :: b,[],h,_=>by simp at h
 | a :: b,a' :: b',h,hr=>by
  have h1:¬ a=k:=λz=>hr (by simp[z])
  rw[List.zipWith_cons_cons,if_neg h1,b6e b b' (by simpa using h) λz=>hr (Γh _ z)]
theorem c3n {κ α:Type} [DecidableEq κ]:∀ {ks:List κ}{vs:List α}(k:κ)(v:α)(j:κ),ks.length=vs.length→a2d (a3a ks vs k v).1 (a3a ks vs k v).2 j=if j=k then some v else a2d ks vs j:=by
 have go1:∀ {ks:List κ}{vs:List α}(k:κ)(v:α)(j:κ),ks.length=vs.length→k∈ks→a2d ks (List.zipWith (λk' v'=>if k'=k then v else v') ks vs) j=if j=k then some v else a2d ks vs j:=by
  intro ks
  induction ks with
  | nil=>intro vs k v j _ h;simp at h
  | cons x r ih =>
   intro vs k v j hl hk
   cases vs with
   | nil=>simp at hl
   | cons y q =>
    simp only[List.zipWith_cons_cons,a2d]
    by_cases e:x=j
    ·subst e
     by_cases e2:x=k
     ·subst e2;simp
     ·simp[e2]
    ·rw[if_neg e,if_neg e]
     by_cases hr:k∈r
     ·exact ih k v j (by simpa using hl) hr
     ·have hx:k=x:=by simpa[hr] using hk
      subst hx
      have:=b6e (k:=k) (v:=v) r q (by simpa using hl) hr
      rw[this,if_neg (Ne.symm e)]
 have go2:∀ {ks:List κ}{vs:List α}(k:κ)(v:α)(j:κ),ks.length=vs.length→k ∉ ks→a2d (ks++[k]) (vs++[v]) j=if j=k then some v else a2d ks vs j:=by
  intro ks
  induction ks with
  | nil =>
   intro vs k v j hl _
   have:vs=[]:=by cases vs with|nil=>rfl|cons=>simp at hl
   subst this
   simp only[List.nil_append,a2d]
   by_cases e:k=j
   ·subst e;simp
   ·simp[e,Ne.symm e]
  | cons x r ih =>
   intro vs k v j hl hk
   cases vs with
   | nil=>simp at hl
   | cons y q =>
    simp only[List.cons_append,a2d]
    by_cases e:x=j
    ·subst e
     have:¬ x=k:=λz=>hk (by simp[z])
     simp[this]
    ·rw[if_neg e,if_neg e]
     exact ih k v j (by simpa using hl) λz=>hk (Γh _ z)
 intro ks vs k v j hl
 unfold a3a
 by_cases e:k∈ks
 ·rw[if_pos e];exact go1 k v j hl e
 ·rw[if_neg e];exact go2 k v j hl e
theorem c9k (xs:List FV)(v:FV)(Q:FV→Prop):wp (atF (xs++[v]) (-1)) Q↔Q v:=by
 have:ixN (xs++[v]).length (-1)=some xs.length:=by
  simp only[ixN,List.length_append,List.length_cons,List.length_nil]
  rw[if_neg (by decide),if_pos (by lia)]
  congr 1;lia
 unfold atF
 rw[this]
 simp
theorem c3b (d:Nat){ws ss:List Int}(h:Rwo ws ss){es:List Nat}(he:es.length=ws.length)(hb:∀ e∈es,e≤ws.length){Q:FV×FV→Prop}(q:∀ o,Bst (λi e=>decide (e≤es.getD i 0)) (a8m ws ss) ws.length 0 o→Q (encO o,.non)) :
  callW tb (d+2) 21 [a4z ws ss,.lst (es.map λi:Nat=>.int i)] Q:=by
 have hn:=h.hn
 have hl:=h.hl
 refine a0j (fd:=e1b) rfl rfl ?_
 simp[e1b,e3a,b4f,big]
 refine⟨a0q (by lia) (by lia),?_⟩
 rw[b4i]
 refine a5p (f:=λi:Nat=>FV.int i) (I:=λds L=>∃ (ks:List Int)(vs:List FV)(B:Nat→Option PT) (i:Nat)(a b c e f:Option FV),L=[some (a4z ws ss),some (.lst (es.map λi:Nat=>.int i)),some (.int ws.length),some (.dci ks vs),a,b,c,e,f]∧i+ds.length=ws.length∧ks.length=vs.length∧ks.length≤ds.length+1 ∧
   (∀ j:Nat,j≤ws.length→a2d ks vs (j:Int)=if i≤j then (B j).map b9x else none)∧∀ j,i≤j→j≤ws.length→Bst (λi e=>decide (e≤es.getD i 0)) (a8m ws ss) ws.length j (B j)) (List.range ws.length).reverse (List.range ws.length).reverse [] _ rfl ?_ ?_ ?_
 ·refine⟨_,_,λj=>if j=ws.length then some (0,[]) else none,ws.length,_,_,_,_,_,rfl,rfl,rfl,by simp,λj hj=>?_,λj h1 h2=>?_⟩
  ·by_cases e:j=ws.length
   ·subst e;simp[a2d,b9x]
   ·have:¬ (ws.length:Int)=(j:Int):=by lia
    rw[if_neg (by lia)]
    simp[a2d,this]
  ·have:j=ws.length:=by lia
   subst this
   simp only[if_true]
   exact c9h
 ·rintro ds x r L K e ⟨ks,vs,B,i,a,b,c,e1,f1,rfl,hi,hkl,hks,hg,hB⟩ k
  have hx:x+1=i:=by
   have e2:=congrArg (λl=>l[ds.length]?) e
   have hd:ds.length<ws.length:=by have:=congrArg List.length e;simp at this;lia
   simp[List.getElem?_reverse,hd] at e2
   lia
  subst hx
  have hxn:x<ws.length:=by lia
  have hd:ds.length<60:=by lia
  obtain⟨E,hE⟩:∃ E,es.getD x 0=E:=⟨_,rfl⟩
  have hex:es[x]?=some E:=by rw[← hE,List.getD,List.getElem?_eq_getElem (by lia)];rfl
  have hel:E≤ws.length:=hb _ (List.mem_of_getElem? hex)
  simp
  rw[a3x (n:=x) rfl (show (es.map λi:Nat=>FV.int i)[x]?=some (.int E) by rw[List.getElem?_map,hex];rfl)]
  simp
  refine⟨⟨a0q (by lia) (by lia),a0q (by lia) (by lia)⟩,?_⟩
  have hg1:∀ j:Nat,x<j→j≤ws.length→a2d ks vs (j:Int)=(B j).map b9x:=λj h1 h2=>by rw[hg j h2,if_pos (show x+1≤j from h1)]
  rw[show ((x:Int)+1)=((x+1:Nat):Int) by lia]
  refine a2y (I:=λj L=>∃ c e f,L=[some (a4z ws ss),some (.lst (es.map λi:Nat=>.int i)),some (.int ws.length),some (.dci ks vs),some (.int x),some (.lst (((List.range' (x+1) (j-(x+1))).filterMap λe=>(B e).map λq:PT=>(a8m ws ss x e+q.1,x :: q.2)).map b9x)),c,e,f]) _ (x+1) _ ⟨c,e1,f1,by simp⟩ ?_ ?_
  ·rintro j L K2 hj1 hj2 ⟨c,e,f,rfl⟩ k2
   have hjn:j≤ws.length:=by lia
   have hr:List.range' (x+1) (j+1-(x+1))=List.range' (x+1) (j-(x+1))++[j]:=by
    rw[show j+1-(x+1)=(j-(x+1))+1 by lia,List.range'_concat]
    congr 2;lia
   have hlen:((List.range' (x+1) (j-(x+1))).filterMap λe=>(B e).map λq:PT=>(a8m ws ss x e+q.1,x :: q.2)).length≤60:=by
    refine Nat.le_trans (List.length_filterMap_le _ _) ?_
    simp;lia
   simp
   have hmem:((j:Int)∈ks)↔(B j).isSome=true:=by
    rw[← a2k (vs:=vs) (j:Int) hkl,hg1 j (by lia) hjn]
    cases B j<;>simp
   cases hBj:B j with
   | none =>
    rw[hBj] at hmem
    rw[if_neg (by simpa using hmem)]
    refine k2 _ ?_
    rw[hr,List.filterMap_append,show [j].filterMap (λe=>(B e).map λq:PT=>(a8m ws ss x e+q.1,x :: q.2))=[] by simp[hBj],List.append_nil]
    exact⟨_,_,_,rfl⟩
   | some p =>
    rw[hBj] at hmem
    rw[if_pos (by simpa using hmem)]
    have hgj:=hg1 j (by lia) hjn
    rw[hBj] at hgj
    rw[hgj]
    simp[b9x]
    have hpl:p.2.length≤60:=by
     have b1:=hB j (by lia) hjn
     rw[hBj] at b1
     have b2:=c4n b1.2.2.1
     lia
    refine c6g d h hxn (by lia) rfl ?_
    simp[big]
    refine⟨by lia,by lia,?_⟩
    refine k2 _ ?_
    rw[hr,List.filterMap_append,show [j].filterMap (λe=>(B e).map λq:PT=>(a8m ws ss x e+q.1,x :: q.2))=[(a8m ws ss x j+p.1,x :: p.2)] by simp[hBj],List.map_append]
    exact⟨_,_,_,rfl⟩
  ·rintro L ⟨c,e,f,rfl⟩
   rw[show x+1+((E:Int)+1-((x+1:Nat):Int)).toNat-(x+1)=E-x by lia]
   generalize hps:((List.range' (x+1) (E-x)).filterMap λe=>(B e).map λq:PT=>(a8m ws ss x e+q.1,x :: q.2))=ps
   have hin:∀ p,p∈ps↔∃ e,x<e∧e≤E∧∃ q,B e=some q∧p=(a8m ws ss x e+q.1,x :: q.2):=by
    intro p
    rw[← hps,List.mem_filterMap]
    constructor
    ·rintro⟨e,he,h2⟩
     obtain⟨q,hq,rfl⟩:=Option.map_eq_some_iff.mp h2
     have:=List.mem_range'_1.mp he
     exact⟨e,by lia,by lia,q,hq,rfl⟩
    ·rintro⟨e,h1,h2,q,hq,rfl⟩
     exact⟨e,List.mem_range'_1.mpr (by lia),by rw[hq];rfl⟩
   simp
   cases ps with
   | nil =>
    simp
    refine k _ ⟨ks,vs,λj=>if j=x then none else B j,x,_,_,_,_,_,rfl,by simp;lia,hkl,by simp;lia,λj hj=>?_,λj h1 h2=>?_⟩
    ·rw[hg j hj]
     by_cases e:j=x
     ·subst e;rw[if_neg (by lia)];simp
     ·by_cases e2:x≤j
      ·rw[if_pos e2,if_pos (by lia)];simp[e]
      ·rw[if_neg e2,if_neg (by lia)]
    ·by_cases e:j=x
     ·subst e
      simp only[if_true]
      refine c4i hxn λe h3 h4 h5=>?_
      have h5:e≤E:=by rw[← hE];exact of_decide_eq_true h5
      cases hBe:B e with
      | none=>have:=hB e (by lia) h4;rw[hBe] at this;exact this
      | some p=>exact absurd ((hin _).mpr ⟨e,h3,h5,p,hBe,rfl⟩) (by simp)
     ·simp only[e,if_false]
      exact hB j (by lia) h2
   | cons p0 pr =>
    simp only[List.map_cons,List.isEmpty_cons,Bool.not_false,if_true]
    rw[← List.map_cons,minP]
    simp[big]
    refine⟨by lia,?_⟩
    have pl:=a5l ks vs (x:Int) (b9x (a1e ltP p0 pr)) hkl
    refine k _ ⟨_,_,λj=>if j=x then some (a1e ltP p0 pr) else B j,x,_,_,_,_,_,rfl,by simp;lia,pl.1,by simp;lia,λj hj=>?_,λj h1 h2=>?_⟩
    ·rw[c3n _ _ _ hkl,hg j hj]
     by_cases e:j=x
     ·subst e;simp
     ·have:¬ (j:Int)=(x:Int):=by lia
      rw[if_neg this]
      by_cases e2:x≤j
      ·rw[if_pos e2,if_pos (by lia)];simp[e]
      ·rw[if_neg e2,if_neg (by lia)]
    ·by_cases e:j=x
     ·subst e
      simp only[if_true]
      have hm:=(hin _).mp (b3y ltP pr p0)
      obtain⟨e,h3,h4,q0,h5,h6⟩:=hm
      refine c4h (B:=B) hxn (λe h1 h2=>hB e (by lia) h2) ⟨e,h3,by lia,decide_eq_true (by rw[hE];exact h4),q0,h5,h6⟩ λe' q' h7 h8 h9 h10=>?_
      exact b3x pr p0 _ ((hin _).mpr ⟨e',h7,by rw[← hE];exact of_decide_eq_true h9,q',h10,rfl⟩)
     ·simp only[e,if_false]
      exact hB j (by lia) h2
 ·rintro L ⟨ks,vs,B,i,a,b,c,e,f,rfl,hi,hkl,hks,hg,hB⟩
  have hi0:i=0:=by simp at hi;lia
  subst hi0
  simp
  have h0:=hg 0 (by lia)
  simp at h0
  rw[h0]
  have:=q (B 0) (hB 0 (Γi _) (by lia))
  cases hb0:B 0 with
  | none=>rw[hb0] at this;exact this
  | some p=>rw[hb0] at this;exact this
def encI:Option Int→FV
 | none=>.non
 | some i=>.int i
def leO (x:Int):Option Int→Bool
 | none=>true
 | some m=>decide (x≤m)
def okM (ws ss:List Int)(md mr:Option Int) (b e:Nat):Bool:=leO ((e:Int)-b-1) md && leO (a8m ws ss b e) mr
def fstO (o:Option PT):Option Int:=o.map (·.1)
theorem c1k (d:Nat){ws ss:List Int}(h:Rwo ws ss){m:Nat}(hm:m≤1000){Q:FV×FV→Prop}(q:∀ o,Bst (okM ws ss (some (m:Int)) none) (a8m ws ss) ws.length 0 o→Q (encO o,.non)):callW tb (d+3) 20 [a4z ws ss,.int m] Q:=by
 have hn:=h.hn
 refine a0j (fd:=e1c) rfl rfl ?_
 simp[e1c,e3b,b4f]
 refine⟨a0q (by lia) (by lia),?_⟩
 rw[a1l]
 refine⟨by simp[big];lia,?_⟩
 refine a1a (f:=λi:Nat=>FV.int i) (g:=λi:Nat=>FV.int ((min (i+m+1) ws.length:Nat):Int)) (List.range ws.length) [] (λi hi K k=>?_) ?_
 ·simp
  have e:(if (ws.length:Int)<(i:Int)+m+1 then (ws.length:Int) else (i:Int)+m+1)=((min (i+m+1) ws.length:Nat):Int):=by split<;>lia
  rw[e];exact k
 ·rw[List.nil_append,show (List.range ws.length).map (λi:Nat=>FV.int ((min (i+m+1) ws.length:Nat):Int))=((List.range ws.length).map λi=>min (i+m+1) ws.length).map λi:Nat=>FV.int i by simp]
  refine c3b (d+1) h (by simp) (λe he=>?_) λo ho=>q o (c0z (λa e h1 h2=>?_) ho)
  ·obtain⟨i,_,rfl⟩:=List.mem_map.mp he
   exact Nat.min_le_right _ _
  ·have:((List.range ws.length).map λi=>min (i+m+1) ws.length).getD a 0=min (a+m+1) ws.length:=by simp[List.getD,show a<ws.length by lia]
   rw[this]
   simp only[okM,leO,Bool.and_true]
   exact decide_eq_decide.mpr ⟨λz=>by lia,λz=>by lia⟩
theorem c6p {ws ss:List Int}{ks:List Nat}(h0:0∈ks):rd ws ss ks 0=ws.getD 0 0:=by simp[rd,a3e,kp,h0]
theorem b7j {ws ss:List Int}{ks:List Nat} (m:Nat):rd ws ss ks (m+1)=if m+1∈ks then ws.getD (m+1) 0 else rd ws ss ks m+ss.getD m 0:=by
 unfold rd
 rw[a3e]
 by_cases h:m+1∈ks
 ·simp[h,kp]
 ·simp[h,kp]
theorem b0g {n k:Nat}{ds r:List Nat}(e:List.range n=ds++k :: r):ds.length=k∧k<n:=by
 have h:=congrArg (λl=>l[ds.length]?) e
 have hl:=congrArg List.length e
 simp at hl
 simp at h
 rw[List.getElem?_range (by lia)] at h
 simp at h
 lia
open PySem (Addr Str)
open L2 (V a5b)
theorem a9e:∀ zs:List Int,a4m vF (zs.map V.int)=some (zs.map FV.int)
 | []=>rfl
 | a :: r=>by simp only[List.map_cons,a4m,a9e r];rfl
def obG (dx l1 l2 l3:Addr)(ws ss ks:List Int) (z:Int):FV:=.obj 108 dx [("wholes",.ref l1),("steps",.ref l2),("kept",.ref l3),("since",.int z)] [(l3,ks.map V.int),(l2,ss.map V.int),(l1,ws.map V.int)]
section
variable {dx l1 l2 l3:Addr}{ws ss ks:List Int}{z:Int}
theorem gW1 (a:l1≠l2)(b:l1≠l3):lsA [("wholes",.ref l1),("steps",.ref l2),("kept",.ref l3),("since",.int z)] [(l3,ks.map V.int),(l2,ss.map V.int),(l1,ws.map V.int)] "wholes" = some (l1,ws.map V.int):=by
 show (List.lookup l1 [(l3,ks.map V.int),(l2,ss.map V.int),(l1,ws.map V.int)]).map _=_
 rw[List.lookup_cons,beq_eq_false_iff_ne.mpr b,List.lookup_cons,beq_eq_false_iff_ne.mpr a,List.lookup_cons,beq_self_eq_true];rfl
theorem gS1 (c:l2≠l3):lsA [("wholes",.ref l1),("steps",.ref l2),("kept",.ref l3),("since",.int z)] [(l3,ks.map V.int),(l2,ss.map V.int),(l1,ws.map V.int)] "steps" = some (l2,ss.map V.int):=by
 show (List.lookup l2 [(l3,ks.map V.int),(l2,ss.map V.int),(l1,ws.map V.int)]).map _=_
 rw[List.lookup_cons,beq_eq_false_iff_ne.mpr c,List.lookup_cons,beq_self_eq_true];rfl
theorem gK1:lsA [("wholes",.ref l1),("steps",.ref l2),("kept",.ref l3),("since",.int z)] [(l3,ks.map V.int),(l2,ss.map V.int),(l1,ws.map V.int)] "kept" = some (l3,ks.map V.int):=by
 show (List.lookup l3 [(l3,ks.map V.int),(l2,ss.map V.int),(l1,ws.map V.int)]).map _=_
 rw[List.lookup_cons,beq_self_eq_true];rfl
theorem glW (a:l1≠l2)(b:l1≠l3):lsF 108 "wholes" (obG dx l1 l2 l3 ws ss ks z)=some (ws.map FV.int):=by
 show (if (108:Nat)=108 then _ else none)=_
 rw[if_pos rfl,gW1 a b]
 exact a9e ws
theorem glS (c:l2≠l3):lsF 108 "steps" (obG dx l1 l2 l3 ws ss ks z)=some (ss.map FV.int):=by
 show (if (108:Nat)=108 then _ else none)=_
 rw[if_pos rfl,gS1 c]
 exact a9e ss
theorem glK:lsF 108 "kept" (obG dx l1 l2 l3 ws ss ks z)=some (ks.map FV.int):=by
 show (if (108:Nat)=108 then _ else none)=_
 rw[if_pos rfl,gK1]
 exact a9e ks
theorem gfZ:d3f 108 "since" (obG dx l1 l2 l3 ws ss ks z)=some (.int z):=rfl
theorem gpZ (v:Int):c6t 108 "since" (.int v) (obG dx l1 l2 l3 ws ss ks z)=some (obG dx l1 l2 l3 ws ss ks v):=by
 show (if (108:Nat)=108∧4<1000 then _ else none)=_
 rw[if_pos ⟨rfl,by decide⟩]
 rfl
theorem gaW (a:l1≠l2)(b:l1≠l3)(hl:ws.length<big) (i:Int):c9z 108 "wholes" (.int i) (obG dx l1 l2 l3 ws ss ks z)=some (obG dx l1 l2 l3 (ws++[i]) ss ks z):=by
 show (if (108:Nat)=108 then _ else none)=_
 rw[if_pos rfl,gW1 a b]
 show (if (ws.map V.int).length<big then _ else none)=_
 rw[if_pos (by simpa using hl)]
 simp[obG,b1s,Ne.symm a,Ne.symm b]
theorem gaS (a:l1≠l2)(c:l2≠l3)(hl:ss.length<big) (i:Int):c9z 108 "steps" (.int i) (obG dx l1 l2 l3 ws ss ks z)=some (obG dx l1 l2 l3 ws (ss++[i]) ks z):=by
 show (if (108:Nat)=108 then _ else none)=_
 rw[if_pos rfl,gS1 c]
 show (if (ss.map V.int).length<big then _ else none)=_
 rw[if_pos (by simpa using hl)]
 simp[obG,b1s,a,Ne.symm c]
theorem gaK (b:l1≠l3)(c:l2≠l3)(hl:ks.length<big) (i:Int):c9z 108 "kept" (.int i) (obG dx l1 l2 l3 ws ss ks z)=some (obG dx l1 l2 l3 ws ss (ks++[i]) z):=by
 show (if (108:Nat)=108 then _ else none)=_
 rw[if_pos rfl,gK1]
 show (if (ks.map V.int).length<big then _ else none)=_
 rw[if_pos (by simpa using hl)]
 simp[obG,b1s,b,c]
theorem isG {m:Str}(a:(m == Γe "wholes")=false)(b:(m == Γe "steps")=false)(c:(m == Γe "kept")=false)(d:(m == Γe "since")=false):isO 108 m (obG dx l1 l2 l3 ws ss ks z):=⟨rfl,by simp only[List.lookup,a,b,c,d]⟩
theorem a9o (d:Nat){Q:FV×FV→Prop}(q:∀ l1 l2 l3,l1≠l2→l1≠l3→l2≠l3→Q (.non,obG dx l1 l2 l3 [] [] [] 0)):callW tb (d+1) 34 [.obj 108 dx [] []] Q:=by
 refine a0j (fd:=e0q) rfl rfl ?_
 simp[e0q,e2q]
 have n1:(Γe "wholes" = Γe "steps")=False:=eq_false (by decide)
 have n2:(Γe "wholes" = Γe "kept")=False:=eq_false (by decide)
 have n3:(Γe "wholes" = Γe "since")=False:=eq_false (by decide)
 have n4:(Γe "steps" = Γe "kept")=False:=eq_false (by decide)
 have n5:(Γe "steps" = Γe "since")=False:=eq_false (by decide)
 have n6:(Γe "kept" = Γe "since")=False:=eq_false (by decide)
 simp[vI,c6t,d9b,a5b,n1,n2,n3,n4,n5,n6]
 exact λp p1 a p2 b c=>q p p1 p2 a c b
theorem c8n (d:Nat)(a:l1≠l2)(b:l1≠l3)(c:l2≠l3)(hl:ws.length<1000)(hs:ss.length<1000)(hk:ks.length<1000) (w s:Int){Q:FV×FV→Prop}
  (q0:ws.length=0→Q (.str "whole",obG dx l1 l2 l3 (ws++[w]) ss (ks++[0]) 0))
  (q1:0<ws.length→z+s≤w→Q (.str "change",obG dx l1 l2 l3 (ws++[w]) (ss++[s]) ks (z+s)))
  (q2:0<ws.length→w<z+s→Q (.str "whole",obG dx l1 l2 l3 (ws++[w]) (ss++[s]) (ks++[(ws.length:Int)]) 0)):callW tb (d+1) 35 [obG dx l1 l2 l3 ws ss ks z,.int w,.int s] Q:=by
 refine a0j (fd:=d3n) rfl rfl ?_
 simp[d3n,d6b]
 have v0:vI (FV.int 0)=some (V.int 0):=rfl
 have hb:ws.length<big:=by simp only[big];lia
 have hb2:ss.length<big:=by simp only[big];lia
 have hb3:ks.length<big:=by simp only[big];lia
 rw[glW a b,a0g,a0g,show vI (FV.int w)=some (V.int w) from rfl,a0g,gaW a b hb,a0g]
 simp only[List.length_map]
 rcases Nat.eq_zero_or_pos ws.length with h0|h0
 ·rw[if_neg (by lia),if_neg (by lia),glK,a0g,show vI (FV.int (ws.length:Int))=some (V.int (ws.length:Int)) from rfl,a0g,gaK b c hb3,a0g,v0,a0g,gpZ,a0g,h0]
  exact q0 h0
 ·rw[if_pos h0,glS c,a0g,show vI (FV.int s)=some (V.int s) from rfl,a0g,gaS a c hb2,a0g,gfZ,a0g]
  simp
  rw[gpZ,a0g,if_pos h0,gfZ,a0g]
  simp
  refine c3f (λg=>q1 h0 g) λg=>?_
  rw[glK,a0g,show vI (FV.int (ws.length:Int))=some (V.int (ws.length:Int)) from rfl,a0g,gaK b c hb3,a0g,v0,a0g,gpZ,a0g]
  exact q2 h0 (by lia)
theorem c6m (d:Nat)(a:l1≠l2)(b:l1≠l3)(c:l2≠l3)(hl:ws≠[]){Q:FV×FV→Prop}(q:Q (a4z ws ss,obG dx l1 l2 l3 ws ss ks z)):callW tb (d+1) 36 [obG dx l1 l2 l3 ws ss ks z] Q:=by
 refine a0j (fd:=fd36) rfl rfl ?_
 simp[fd36,e2p]
 rw[glW a b,a0g]
 refine⟨by simpa using hl,?_⟩
 rw[a0g,glS c,a0g]
 exact⟨by decide,q⟩
theorem b8w (d:Nat){Q:FV×FV→Prop}(q:Q (.tup (ks.map .int),obG dx l1 l2 l3 ws ss ks z)):callW tb (d+1) 37 [obG dx l1 l2 l3 ws ss ks z] Q:=by
 refine a0j (fd:=e0p) rfl rfl ?_
 simp[e0p,d6a]
 rw[glK,a0g]
 simpa using q
end
def pl (ws ss:List Int):Nat→List Nat×Int
 | 0=>([0],0)
 | m+1=>if ws.getD (m+1) 0<(pl ws ss m).2+ss.getD m 0 then ((pl ws ss m).1++[m+1],0) else ((pl ws ss m).1,(pl ws ss m).2+ss.getD m 0)
theorem d8i (ws ss:List Int) (m:Nat):pl ws ss (m+1)=if ws.getD (m+1) 0<(pl ws ss m).2+ss.getD m 0 then ((pl ws ss m).1++[m+1],0) else ((pl ws ss m).1,(pl ws ss m).2+ss.getD m 0):=rfl
theorem b4w (ws ss:List Int):∀ m,0∈(pl ws ss m).1∧(pl ws ss m).1.Pairwise (· < ·)∧(∀ k∈(pl ws ss m).1,k≤m)∧(pl ws ss m).1.length≤m+1
 | 0=>by simp[pl]
 | m+1=>by
  obtain⟨h1,h2,h3,h4⟩:=b4w ws ss m
  unfold pl
  split
  ·refine⟨List.mem_append_left _ h1,List.pairwise_append.mpr ⟨h2,by simp,λa ha b hb=>?_⟩,λk hk=>?_,by simp;lia⟩
   ·have:=h3 a ha
    simp at hb;lia
   ·rcases List.mem_append.mp hk with z|z
    ·have:=h3 k z;lia
    ·simp at z;lia
  ·exact⟨h1,h2,λk hk=>Nat.le_succ_of_le (h3 k hk),Nat.le_succ_of_le h4⟩
theorem d1h (ws ss:List Int) (m:Nat):(m+1∈(pl ws ss (m+1)).1)=(ws.getD (m+1) 0<(pl ws ss m).2+ss.getD m 0):=by
 have h3:=(b4w ws ss m).2.2.1
 rw[pl]
 split
 ·rename_i h;simp only[h,List.mem_append,List.mem_singleton,or_true]
 ·rename_i h
  simp only[h,eq_iff_iff,iff_false]
  exact λz=>by have:=h3 _ z;lia
theorem b0y {xs:List Int}{n m:Nat}(h:m<n):(xs.take n).getD m 0=xs.getD m 0:=by simp[List.getD,List.getElem?_take,h]
theorem a8y (ws ss:List Int) (n:Nat):∀ m,m≤n→pl (ws.take (n+1)) (ss.take n) m=pl ws ss m
 | 0,_=>rfl
 | m+1,h=>by
  unfold pl
  rw[a8y ws ss n m (by lia),b0y (by lia),b0y (by lia)]
noncomputable abbrev iN (ks:List Nat):List Int:=ks.map λi:Nat=>(i:Int)
theorem d2w (ks:List Nat):FV.tup ((iN ks).map FV.int)=a8d ks:=by simp[iN,a8d,Function.comp_def]
theorem a6b (d:Nat){ws ss:List Int}(h1:1≤ws.length)(hn:ws.length≤60)(hl:ss.length+1=ws.length){Q:FV×FV→Prop}(q:Q (a8d (pl ws ss (ws.length-1)).1,.non)):callW tb (d+1) 28 [a4z ws ss] Q:=by
 refine a0j (fd:=e0w) rfl rfl ?_
 simp[e0w,e2v,big,a4z]
 refine⟨⟨by decide,a0q (by lia) (by lia)⟩,?_⟩
 refine a2y (I:=λj L=>∃ a,L=[some (a4z ws ss),some (.tup (ws.map .int)),some (.tup (ss.map .int)),some (.lst ((pl ws ss (j-1)).1.map λi:Nat=>.int i)),some (.int (pl ws ss (j-1)).2),a]) (ws.length-1) 1 _ ⟨none,rfl⟩ ?_ ?_
 ·rintro j L K h1 h2 ⟨a,rfl⟩ k
  obtain⟨t,rfl⟩:∃ t,j=t+1:=⟨j-1,by lia⟩
  simp only[Nat.add_sub_cancel] at k ⊢
  simp
  have h4:=(b4w ws ss t).2.2.2
  rw[a2m (by lia)]
  simp
  rw[show ((t:Int)+1)=((t+1:Nat):Int) by simp,a2m (by lia)]
  simp
  have e:=d8i ws ss t
  refine c3f (λg=>⟨by simp only[big];lia,k _ ⟨some (.int ((t:Int)+1)),?_⟩⟩) (λg=>k _ ⟨some (.int ((t:Int)+1)),?_⟩)
  ·rw[e,if_pos (by simpa[List.getD] using g)]
   simp
  ·rw[e,if_neg (by simpa[List.getD] using g)]
   simp[List.getD]
 ·rintro L ⟨a,rfl⟩
  rw[show 1+(ws.length-1)-1=ws.length-1 by lia]
  simp
  exact q
section
variable {dx l1 l2 l3:Addr}{ws ss ks:List Int}{z:Int}
theorem c3k (d:Nat)(a:l1≠l2)(b:l1≠l3)(c:l2≠l3) (w:Int)(v:FV){Q:FV×FV→Prop}(q:Q (.str "whole",obG dx l1 l2 l3 [w] [] [0] 0)):callW tb (d+1) 35 [obG dx l1 l2 l3 [] [] [] 0,.int w,v] Q:=by
 refine a0j (fd:=d3n) rfl rfl ?_
 simp[d3n,d6b]
 have v0:vI (FV.int 0)=some (V.int 0):=rfl
 rw[glW a b,a0g,a0g,show vI (FV.int w)=some (V.int w) from rfl,a0g,gaW a b (by simp[big]),a0g]
 simp
 rw[glK,a0g,v0,a0g,gaK b c (by simp[big]),a0g,a0g,gpZ,a0g]
 exact q
end
def stG (dx l1 l2 l3:Addr)(ws ss:List Int):Nat→FV
 | 0=>obG dx l1 l2 l3 [] [] [] 0
 | m+1=>obG dx l1 l2 l3 (ws.take (m+1)) (ss.take m) (iN (pl ws ss m).1) (pl ws ss m).2
def a6x (ws ss:List Int) (m:Nat):String:=if m∈(pl ws ss m).1 then "whole" else "change"
section
variable {dx l1 l2 l3:Addr}{ws ss:List Int}
theorem a4h {xs:List Int}{m:Nat}(h:m<xs.length):xs.take m++[xs.getD m 0]=xs.take (m+1):=by
 rw[List.take_succ,List.getElem?_eq_getElem h]
 simp[List.getD,List.getElem?_eq_getElem h]
theorem a2x (d:Nat)(a:l1≠l2)(b:l1≠l3)(c:l2≠l3)(hn:ws.length≤60)(hl:ss.length+1=ws.length){m:Nat}(hm:m<ws.length){v:FV}(hv:∀ t,m=t+1→v=.int (ss.getD t 0)){Q:FV×FV→Prop}(q:Q (.str (a6x ws ss m),stG dx l1 l2 l3 ws ss (m+1))) :
  callW tb (d+1) 35 [stG dx l1 l2 l3 ws ss m,.int (ws.getD m 0),v] Q:=by
 cases m with
 | zero =>
  refine c3k d a b c _ v ?_
  have e:ws.take 1=[ws.getD 0 0]:=by rw[← a4h hm];rfl
  simpa[a6x,stG,pl,iN,e] using q
 | succ t =>
  obtain⟨h1,h2,h3,h4⟩:=b4w ws ss t
  have lw:(ws.take (t+1)).length=t+1:=by rw[List.length_take];lia
  have e:=d8i ws ss t
  rw[hv t rfl]
  refine c8n d a b c (by lia) (by rw[List.length_take];lia) (by simp[iN];lia) _ _ (λh=>by lia) (λ_ g=>?_) (λ_ g=>?_)
  ·rw[a6x,if_neg (by rw[d1h];lia)] at q
   rw[stG,e,if_neg (by lia)] at q
   rw[a4h hm,a4h (by lia)]
   exact q
  ·rw[a6x,if_pos (by rw[d1h];lia)] at q
   rw[stG,e,if_pos (by lia)] at q
   rw[a4h hm,a4h (by lia),lw]
   simpa[iN] using q
theorem isS {m:Str} (n:Nat)(a:(m == Γe "wholes")=false)(b:(m == Γe "steps")=false)(c:(m == Γe "kept")=false)(e:(m == Γe "since")=false):isO 108 m (stG dx l1 l2 l3 ws ss n):=by
 cases n<;>exact isG a b c e
theorem a5w (d:Nat)(a:l1≠l2)(b:l1≠l3)(c:l2≠l3)(hw:1≤ws.length){m:Nat}{Q:FV×FV→Prop}(q:Q (a4z (ws.take (m+1)) (ss.take m),stG dx l1 l2 l3 ws ss (m+1))):callW tb (d+1) 36 [stG dx l1 l2 l3 ws ss (m+1)] Q :=
 c6m d a b c (λz=>by have:=congrArg List.length z;rw[List.length_take,List.length_nil] at this;lia) q
theorem a5n (d:Nat){m:Nat}{Q:FV×FV→Prop}(q:Q (a8d (pl ws ss m).1,stG dx l1 l2 l3 ws ss (m+1))):callW tb (d+1) 37 [stG dx l1 l2 l3 ws ss (m+1)] Q :=
 b8w d (by rw[d2w];exact q)
theorem c7u (d:Nat)(a:l1≠l2)(b:l1≠l3){Q:FV×FV→Prop}(q:Q (.bl true,obG dx l1 l2 l3 [] [] [] 0)):callW tb (d+3) 29 [obG dx l1 l2 l3 [] [] [] 0] Q:=by
 refine a0j (fd:=e0v) rfl rfl ?_
 simp[e0v,d6c]
 refine⟨isG (by decide) (by decide) (by decide) (by decide),?_⟩
 rw[glW a b,a0g]
 simp
 refine⟨isG (by decide) (by decide) (by decide) (by decide),?_⟩
 refine b8w (d+1) ?_
 exact a3h d (k:=0) (p:=1) (x:=.tup []) ⟨.tup [],rfl,by decide,by decide,by decide⟩ (by decide) (by decide) q
end
def dN (ks:List Nat) (m:Nat):Int:=((a3e ks m).length:Int)-1
theorem c0l (ks:List Nat) (m:Nat):dN ks (m+1)=if m+1∈ks then 0 else dN ks m+1:=by
 unfold dN
 rw[a3e]
 split
 ·rfl
 ·simp
theorem b0v (ks:List Nat) (n:Nat):a7x ks (n+1)=a7x ks n++[if n∈ks then none else some (n-1)]:=by simp[a7x,List.range_succ]
theorem c8z (ws:List Int):a4k (upF 0 ws.length) (ws.map .int)=(List.range ws.length).map λm:Nat=>FV.tup [.int (m:Int),.int (ws.getD m 0)]:=by
 rw[a1l,a3q]
 apply List.ext_getElem
 ·simp
 ·intro i h1 h2
  simp at h1 h2
  simp[List.getD,h2]
theorem d7w {ws ss:List Int}{ks:List Nat}(h0:0∈ks){m:Nat}(hm:m∈ks):rd ws ss ks m=ws.getD m 0∧dN ks m=0:=by
 cases m with
 | zero=>exact⟨c6p h0,by simp[dN,a3e]⟩
 | succ t=>exact⟨by rw[b7j,if_pos hm],by rw[c0l,if_pos hm]⟩
theorem c4j (f:Nat→Int) (t:Nat)(Q:FV→Prop):wp (atF (((List.range (t+1)).map f).map .int) (-1)) Q↔Q (.int (f t)):=by
 rw[List.range_succ,List.map_append,List.map_append]
 exact c9k _ _ _
theorem b4n {f:Nat→Int}{m t:Nat}(h:m=t+1)(Q:FV→Prop):wp (atF (((List.range m).map f).map .int) (-1)) Q↔Q (.int (f t)):=by
 rw[h];exact c4j f t Q
theorem a2u (f:Nat→Int) (t:Nat):((List.range (t+1)).map f).map FV.int=((List.range t).map f).map FV.int++[.int (f t)]:=by simp[List.range_succ]
theorem a5t (f:Nat→Int) (t:Nat):((List.range (t+1)).map f).sum=((List.range t).map f).sum+f t:=by simp[List.range_succ,List.sum_append]
section
variable {ws ss:List Int}{ks:List Nat}
theorem rm_b (h:Rw ws ss ks):0≤((List.range ws.length).map (kp ws ss ks)).sum∧((List.range ws.length).map (kp ws ss ks)).sum≤120000000000:=by
 have hn:=h.hn
 have:=b6v (xs:=(List.range ws.length).map (kp ws ss ks)) λx hx=>by
  obtain⟨m,hm,rfl⟩:=List.mem_map.mp hx
  have:=c8f h (List.mem_range.mp hm)
  lia
 rw[List.length_map,List.length_range] at this
 lia
theorem rd_b (h:Rw ws ss ks){m:Nat}(hm:m<ws.length):0≤rd ws ss ks m∧rd ws ss ks m≤120000000000:=by
 have hn:=h.hn
 have hw:=(a8h (ks:=ks) m).1
 have:=b6v (xs:=(a3e ks m).map (kp ws ss ks)) λx hx=>by
  obtain⟨i,hi,rfl⟩:=List.mem_map.mp hx
  have:=c8f h (show i<ws.length by have:=b1x hi;lia)
  lia
 rw[List.length_map] at this
 unfold rd
 lia
theorem mx_b (h:Rw ws ss ks):0≤mx (a2r ks ws.length)∧mx (a2r ks ws.length)≤60∧a2r ks ws.length=(a2r ks ws.length).headD 0 :: (a2r ks ws.length).tail:=by
 have hn:=h.hn
 have hl:=h.hl
 have hne:a2r ks ws.length=(a2r ks ws.length).headD 0 :: (a2r ks ws.length).tail:=by
  cases e:a2r ks ws.length with
  | nil =>
   have:=congrArg List.length e
   rw[a2r,List.length_map,List.length_range,List.length_nil] at this
   lia
  | cons a r=>rfl
 have hm:mx (a2r ks ws.length)∈a2r ks ws.length:=by
  have:=b3q (a2r ks ws.length).tail ((a2r ks ws.length).headD 0)
  rw[← hne] at this
  exact this
 obtain⟨m,hm,e⟩:=List.mem_map.mp hm
 have:=a8h (ks:=ks) m
 have:=List.mem_range.mp hm
 refine⟨by lia,by lia,hne⟩
theorem b7h (h:Rw ws ss ks):Vl 2520 1 (.tup (((List.range ws.length).map (rd ws ss ks)).map .int)):=by
 have hn:=h.hn
 refine (Vl.tup (k:=41) (p:=0) (m:=60) (λx hx=>?_) (by simp;lia)).mono (by decide) (by decide)
 obtain⟨y,hy,rfl⟩:=List.mem_map.mp hx
 obtain⟨m,hm,rfl⟩:=List.mem_map.mp hy
 have:=rd_b h (List.mem_range.mp hm)
 exact Vl.int (by lia) (by lia)
theorem d2m (h:Rw ws ss ks):Vl 2520 1 (.tup ((a7x ks ws.length).map a3l)):=by
 have hn:=h.hn
 refine (Vl.tup (k:=41) (p:=0) (m:=60) (λx hx=>?_) (by simp[a2w];lia)).mono (by decide) (by decide)
 obtain⟨y,hy,rfl⟩:=List.mem_map.mp hx
 obtain⟨m,hm,rfl⟩:=List.mem_map.mp hy
 have:=List.mem_range.mp hm
 split
 ·exact Vl.non.mono (by decide) (by decide)
 ·exact Vl.int (by simp[a3l];lia) (by simp[a3l];lia)
theorem c1m {k p:Nat}{x y:FV}(hx:Vl k p x)(hy:Vl k p y):Vl (2*(k+1)) (p+1) (.lst [x,y]):=Vl.lst (λz hz=>by
 simp only[List.mem_cons,List.not_mem_nil,or_false] at hz
 rcases hz with rfl|rfl
 ·exact hx
 ·exact hy) (Γi 2)
end
theorem c4k (d:Nat){ws ss:List Int}{ks:List Nat}(h:Rw ws ss ks){Q:FV×FV→Prop}(q:Q (.bl true,.non)):callW tb (d+8) 31 [a4z ws ss,a8d ks] Q:=by
 have hn:=h.hn
 have hl:=h.hl
 refine a0j (fd:=e0t) rfl rfl ?_
 simp[e0t,e2t,a4z]
 refine⟨by decide,?_⟩
 rw[c8z]
 refine a5p (I:=λds L=>∃ a b c,L=[some (a4z ws ss),some (a8d ks),some (.lst ((a7x ks ds.length).map a3l)),some (.lst (((List.range ds.length).map (rd ws ss ks)).map .int)),some (.lst (((List.range ds.length).map (dN ks)).map .int)),some (.int ((List.range ds.length).map (kp ws ss ks)).sum),a,b,c,none]) (List.range ws.length) (List.range ws.length) [] _ (by simp) ⟨none,none,none,rfl⟩ ?_ ?_
 ·rintro ds m r L K e ⟨a,b,c,rfl⟩ k
  obtain⟨rfl,hm⟩:=b0g e
  have lb:ds.length<big:=by simp only[big];lia
  by_cases hk:ds.length∈ks
  ·obtain⟨r1,r2⟩:=d7w (ws:=ws) (ss:=ss) h.h0 hk
   simp only[a8d]
   simp[a9n,hk,a2w,lb]
   refine k _ ⟨some (.int ds.length),some (.int (ws.getD ds.length 0)),some (.int (ws.getD ds.length 0)),?_⟩
   rw[List.length_append,List.length_singleton,b0v,a2u,a2u,a5t,r1,r2,if_pos hk,kp,if_pos hk]
   simp[a8d,a3l]
  ·obtain⟨t,ht⟩:∃ t,ds.length=t+1:=⟨ds.length-1,by have:ds.length≠0:=λz=>hk (z ▸ h.h0);lia⟩
   have k':=k [some (a4z ws ss),some (a8d ks),some (.lst ((a7x ks ds.length).map a3l++[.int t])),some (.lst (((List.range ds.length).map (rd ws ss ks)).map .int++[.int (rd ws ss ks t+ss.getD t 0)])),some (.lst (((List.range ds.length).map (dN ks)).map .int++[.int (dN ks t+1)])),some (.int (((List.range ds.length).map (kp ws ss ks)).sum+ss.getD t 0)),some (.int ds.length),some (.int (ws.getD ds.length 0)),some (.int (ss.getD t 0)),none] ⟨some (.int ds.length),some (.int (ws.getD ds.length 0)),some (.int (ss.getD t 0)),by
    rw[List.length_append,List.length_singleton,b0v,a2u,a2u,a5t,if_neg hk,kp,if_neg hk,ht,b7j,c0l,if_neg (ht ▸ hk),if_neg (ht ▸ hk)]
    simp[a3l]⟩
   clear k
   have e1:((ds.length:Int)-1)=(t:Int):=by lia
   simp only[a8d] at k' ⊢
   simp[a9n,hk,a2w,lb,a4z,e1]
   rw[a2m (by lia)]
   simp[lb]
   rw[← List.map_map,b4n ht]
   simp
   rw[← List.map_map,b4n ht]
   simp at k' ⊢
   simpa[a4z] using k'
 ·rintro L ⟨a,b,c,rfl⟩
  simp only[List.length_range]
  simp
  have b1:=rm_b h
  obtain⟨b2,b3,b4⟩:=mx_b h
  have vr:Vl 2520 1 (FV.int ((List.range ws.length).map (kp ws ss ks)).sum):=(Vl.int (by lia) (by lia)).mono (by decide) (by decide)
  refine c1w (d+3) h ?_
  refine b7i (d+4) h ?_
  refine⟨by decide,?_⟩
  rw[show (List.range ws.length).map (FV.int ∘ dN ks)=(a2r ks ws.length).map .int by simp[a2r,dN],a4p,a0g]
  refine⟨_,_,b4,by decide,?_⟩
  refine a3h (d+5) (k:=84) (p:=1) (c1m (k:=41) (p:=0) (Vl.int (by lia) (by lia)) (Vl.int (by lia) (by lia))) (by decide) (by decide) ?_
  simp
  refine a5v (d+6) (by lia) ?_
  refine c1r (d+3) (b2b h.hw h.hs h.hl) (by lia) (by rw[a8t];lia) ?_
  simp
  refine a5x (d+6) h.hn h.h0 ?_
  refine b8v (d+5) (b2b h.hw h.hs h.hl) (by lia) (by rw[a8t];lia) (a2w ks ws.length) (λi a hi=>c8e (ss:=ss) h.h0 (by rw[h.hl];exact hi)) ?_
  simp
  refine b7e (d+4) h ?_
  refine b3i (d+4) h ?_
  rw[← List.map_map]
  refine⟨by decide,?_⟩
  refine a3h (d+4) (k:=5042) (p:=2) (c1m vr (b7h h)) (by decide) (by decide) ?_
  simp only[tr_b,if_true]
  refine b7d (d+3) h ?_
  refine a5x (d+6) h.hn h.h0 ?_
  exact⟨by decide,a3h (d+4) (k:=5042) (p:=2) (c1m (b7h h) (d2m h)) (by decide) (by decide) q⟩
noncomputable abbrev lW:List Int:=Γj 60 1000000000
noncomputable abbrev lS:List Int:=Γj 59 1
theorem b2e:∀ m,m≤59→pl lW lS m=([0],(m:Int))
 | 0,_=>rfl
 | m+1,h=>by
  rw[d8i,b2e m (by lia)]
  have e1:lW.getD (m+1) 0=1000000000:=by simp[List.getD,List.getElem?_replicate,show m+1<60 by lia]
  have e2:lS.getD m 0=1:=by simp[List.getD,List.getElem?_replicate,show m<59 by lia]
  rw[e1,e2,if_neg (by lia)]
  simp
theorem b3b:∀ n:Nat,(Γj n (1:Int)).sum=n
 | 0=>rfl
 | n+1=>by
  rw[List.replicate_succ,List.sum_cons,b3b n]
  lia
theorem b6x {b e:Nat}(hb:b<e)(he:e≤60):a8m lW lS b e=1000000000+(e-1-b:Nat):=by
 unfold a8m
 rw[show lW.getD b 0=1000000000 by simp[List.getD,List.getElem?_replicate,show b<60 by lia]]
 rw[List.drop_replicate,List.take_replicate,b3b]
 lia
theorem b2h {ok:Nat→Nat→Bool}:∀ {ks:List Nat},vp ok 60 ks→pc (a8m lW lS) 60 ks=999999999*(ks.length:Int)+(60-(nxt 60 ks:Nat):Nat)
 | [],_=>by simp[pc,nxt]
 | k :: r,h=>by
  obtain⟨h1,_,h2⟩:=h
  have:=b0m h2
  rw[pc,b2h h2,b6x h1 this]
  rw[show nxt 60 (k :: r)=k from rfl,List.length_cons]
  lia
theorem c3a {o:Option PT}(h:Bst (okM lW lS (some ((59:Nat):Int)) none) (a8m lW lS) lW.length 0 o):o=some (1000000059,[0]):=by
 rw[show lW.length=60 by simp] at h
 have v0:vp (okM lW lS (some ((59:Nat):Int)) none) 60 [0]:=⟨by simp[nxt],by simp[okM,leO,nxt],trivial⟩
 refine h.uniq ⟨?_,rfl,v0,λks hk hv=>?_⟩
 ·show (1000000059:Int)=pc (a8m lW lS) 60 [0]
  rw[b2h v0];rfl
 ·have e:=b2h hv
  rw[hk] at e
  cases ks with
  | nil=>simp[nxt] at hk
  | cons k r =>
   have k0:k=0:=hk
   subst k0
   cases r with
   | nil =>
    rw[show pc (a8m lW lS) 60 [0]=1000000059 by rw[e];rfl]
    exact a9f _
   | cons x r =>
    rw[e]
    simp only[ltP,List.length_cons]
    rw[if_neg (by lia)]
    exact decide_eq_false (by lia)
theorem b6j {m:Nat}(h:m≤59):a6x lW lS m=if m=0 then "whole" else "change":=by
 rw[a6x,b2e m h]
 simp
theorem b4q:(List.range 60).map (λm=>FV.str (a6x lW lS m))=.str "whole" :: Γj 59 (.str "change"):=by
 apply List.ext_getElem
 ·simp[-List.reduceReplicate]
 ·intro i h1 h2
  rw[List.getElem_map,List.getElem_range,b6j (by simp at h1;lia)]
  cases i with
  | zero=>rfl
  | succ i=>simp[-List.reduceReplicate]
theorem d0p (x:String)(h:(D.str x).fit=true)(h2:(D.str x).wt≤100):Vl 100 0 (.str x):=⟨.str x,rfl,Γi _,h,h2⟩
theorem c6o {k p n:Nat}{x:FV}(h:Vl k p x):∀ y∈Γj n x,Vl k p y:=λy hy=>by rw[List.eq_of_mem_replicate hy];exact h
theorem d2k:Vl 20000 3 (.lst [.lst (.str "whole" :: Γj 59 (.str "change")),.tup [.int 0],.tup [.tup (Γj 60 (.int 1000000000)),.tup (Γj 59 (.int 1))]]):=by
 have i1:Vl 41 0 (.int 1000000000):=Vl.int (by lia) (by lia)
 have i2:Vl 41 0 (.int 1):=Vl.int (by lia) (by lia)
 refine (Vl.lst (k:=6060) (p:=2) (m:=3) (λx hx=>?_) (by simp)).mono (by decide) (by decide)
 simp only[List.mem_cons,List.not_mem_nil,or_false] at hx
 rcases hx with rfl|rfl|rfl
 ·refine (Vl.lst (k:=100) (p:=0) (m:=60) (λx hx=>?_) (by simp[-List.reduceReplicate])).mono (by decide) (by decide)
  rcases List.mem_cons.mp hx with rfl|hx
  ·exact d0p _ (by decide) (by decide)
  ·exact c6o (d0p _ (by decide) (by decide)) x hx
 ·exact⟨.tup [.int 0],rfl,by decide,by decide,by decide⟩
 ·refine (Vl.tup (k:=2520) (p:=1) (m:=2) (λx hx=>?_) (by simp)).mono (by decide) (by decide)
  simp only[List.mem_cons,List.not_mem_nil,or_false] at hx
  rcases hx with rfl|rfl
  ·exact (Vl.tup (m:=60) (c6o i1) (by simp[-List.reduceReplicate])).mono (by decide) (by decide)
  ·exact (Vl.tup (m:=60) (c6o i2) (by simp[-List.reduceReplicate])).mono (by decide) (by decide)
theorem c8b (d:Nat){Q:FV×FV→Prop}(q:Q (.bl true,.non)):callW tb (d+8) 32 [] Q:=by
 refine a0j (fd:=e0s) rfl rfl ?_
 simp[e0s,e2s,-List.reduceReplicate]
 intro dx
 refine a9o (d+6) λl1 l2 l3 a b c=>⟨rfl,by decide,?_⟩
 rw[show (60:Nat)=60 from rfl,a1l]
 obtain⟨R,hR⟩:∃ R,R=List.range 60:=⟨_,rfl⟩
 rw[← hR]
 have hl:R.length=60:=by rw[hR];simp
 refine⟨by rw[List.length_map,hl];decide,?_⟩
 refine a4r (f:=λi:Nat=>FV.int i) (I:=λds acc L=>acc=(List.range ds.length).map (λm=>FV.str (a6x lW lS m))∧L=[none,some (stG dx l1 l2 l3 lW lS ds.length),none,none]) R R [] [] _ rfl ⟨rfl,rfl⟩ ?_ ?_
 ·rintro ds x r acc L K e ⟨rfl,rfl⟩ k
  obtain⟨rfl,hm⟩:=b0g (hR ▸ e)
  have e1:lW.getD ds.length 0=1000000000:=by simp[List.getD,List.getElem?_replicate,hm]
  simp
  refine⟨isS _ (by decide) (by decide) (by decide) (by decide),by decide,?_⟩
  rw[show FV.int 1000000000=FV.int (lW.getD ds.length 0) by rw[e1]]
  refine a2x (d+6) a b c (by simp) (by simp) (by simpa using hm) (λt ht=>?_) ?_
  ·have:lS.getD t 0=1:=by simp[List.getD,List.getElem?_replicate,show t<59 by lia]
   rw[this]
  ·exact k _ _ ⟨by simp[List.range_succ],by simp⟩
 ·rintro ys L ⟨rfl,rfl⟩
  rw[hl]
  simp[-List.reduceReplicate]
  refine⟨isS 60 (by decide) (by decide) (by decide) (by decide),a5n (d+6) (m:=59) ?_⟩
  refine⟨isS 60 (by decide) (by decide) (by decide) (by decide),a5w (d+6) a b c (by simp) (m:=59) ?_⟩
  have e1:a8d (pl lW lS 59).1=.tup [.int 0]:=by rw[b2e 59 (by decide)];rfl
  have e2:a4z (lW.take (59+1)) (lS.take 59)=.tup [.tup (Γj 60 (.int 1000000000)),.tup (Γj 59 (.int 1))]:=by
   rw[List.take_replicate,List.take_replicate]
   simp[a4z,List.map_replicate,-List.reduceReplicate]
  dsimp only
  rw[e1,b4q]
  refine⟨by decide,by decide,by decide,by decide,by decide,by decide,by decide,by decide,by decide,by decide,by decide,by decide,?_⟩
  rw[e2]
  refine a3h (d+3) (k:=20000) (p:=3) d2k (by decide) (by decide) ?_
  simp only[tr_b,if_true]
  refine⟨isS 60 (by decide) (by decide) (by decide) (by decide),a5w (d+6) a b c (by simp) (m:=59) ?_⟩
  have rw0:Rwo (lW.take (59+1)) (lS.take 59):=by
   rw[List.take_replicate,List.take_replicate]
   exact⟨λx hx=>by rw[List.eq_of_mem_replicate hx];decide,λx hx=>by rw[List.eq_of_mem_replicate hx];decide,by simp,by simp⟩
  refine c1k (d+4) rw0 (m:=59) (by decide) λo ho=>?_
  rw[List.take_replicate,List.take_replicate] at ho
  rw[c3a ho]
  refine⟨by decide,by decide,by decide,?_⟩
  exact a3h (d+4) (k:=1000) (p:=2) ⟨.tup [.int 1000000059,.tup [.int 0]],rfl,by decide,by decide,by decide⟩ (by decide) (by decide) q
theorem b6i {ws ss:List Int}{m:Nat}{Q:FV→Prop}(q:Q (.str (a6x ws ss m))):wp (b1t (.int m) (a8d (pl ws ss m).1)) λz=>wp (a7n z) λz=>wp (ixF (.lst [.str "change",.str "whole"]) z) Q:=by
 unfold a6x at q
 simp[a8d,a9n]
 by_cases h:m∈(pl ws ss m).1
 ·rw[if_pos h] at q
  simp[h]
  exact q
 ·rw[if_neg h] at q
  simp[h]
  exact q
theorem eq_str (x:String)(R:Bool→Prop):wp (eqF (.str x) (.str x)) R↔R true:=c8y (k:=x.length) (p:=0) ⟨.str x,rfl,Γi _,rfl,Γi _⟩ (by decide) R
theorem c4q {ws ss:List Int}{t:Nat}(hw:Szs ws)(hs:Szs ss)(h1:ws.length≤60)(h2:ss.length≤60)(ht:t<60):Vl 20000 3 (.lst [a4z ws ss,a8d (pl ws ss t).1]):=by
 obtain⟨_,_,h3,h4⟩:=b4w ws ss t
 refine (c1m (k:=6000) (p:=2) ?_ ?_).mono (by decide) (by decide)
 ·refine (Vl.tup (k:=2520) (p:=1) (m:=2) (λx hx=>?_) (by simp)).mono (by decide) (by decide)
  simp only[List.mem_cons,List.not_mem_nil,or_false] at hx
  rcases hx with rfl|rfl
  ·exact d0n hw h1
  ·exact d0n hs h2
 ·refine (Vl.tup (k:=41) (p:=0) (m:=60) (λx hx=>?_) (by simp;lia)).mono (by decide) (by decide)
  obtain⟨i,hi,rfl⟩:=List.mem_map.mp hx
  have:=h3 i hi
  exact Vl.int (by lia) (by lia)
theorem Szs.take {xs:List Int}(h:Szs xs) (n:Nat):Szs (xs.take n):=λx hx=>h x (List.mem_of_mem_take hx)
def bdT (call:CW):SW:=sIf (a9v (a1n (a0l call 25 (a0a (a4b (a0a (a1m call 36 4 108 "row_now" a0i) (a0a (a1m call 37 4 108 "kept_now" a0i) a0i))) (a0a (a4b (a0a (a3w (a0a (eSl (a0b 2) a7a (a5h (eOp a3n (a0b 6) (eC (.int 1))))) (a0a (eSl (a0b 3) a7a (a5h (a0b 6))) a0i))) (a0a (a0b 8) a0i))) a0i))))) (a1j (eC (.bl false))) a3v
theorem b2z (d:Nat){dx l1 l2 l3:Addr}{ws ss:List Int}{m:Nat}(a:l1≠l2)(b:l1≠l3)(c:l2≠l3)(hw:Szs ws)(hs:Szs ss)(hl:ss.length+1=ws.length)(h60:ws.length≤60)(hm:m<ws.length){o0 o1 o5 o7 o9 x10:Option FV}{Q:FFl→a0d→Prop}
  (q:∀ x,Q .next [o0,o1,some (.tup (ws.map .int)),some (.tup (ss.map .int)),some (stG dx l1 l2 l3 ws ss (m+1)),o5,some (.int m),o7,some (a8d (pl ws ss m).1),o9,x]) :
  c5o (Tg.nm 10) (bdT (callW tb (d+4))) (upF 0 2) [o0,o1,some (.tup (ws.map .int)),some (.tup (ss.map .int)),some (stG dx l1 l2 l3 ws ss (m+1)),o5,some (.int m),o7,some (a8d (pl ws ss m).1),o9,x10] Q:=by
 refine a2y (I:=λ_ L=>∃ x,L=[o0,o1,some (.tup (ws.map .int)),some (.tup (ss.map .int)),some (stG dx l1 l2 l3 ws ss (m+1)),o5,some (.int m),o7,some (a8d (pl ws ss m).1),o9,x]) 2 0 _ ⟨_,rfl⟩ ?_ ?_
 ·rintro j L K-hj ⟨x,rfl⟩ k
  simp[bdT]
  refine⟨isS (m+1) (by decide) (by decide) (by decide) (by decide),a5w (d+3) a b c (by lia) ?_⟩
  refine⟨isS (m+1) (by decide) (by decide) (by decide) (by decide),a5n (d+3) ?_⟩
  simp
  rw[show ((m:Int)+1)=((m+1:Nat):Int) by simp,a6t,a6t,← List.map_take,← List.map_take]
  refine⟨by decide,?_⟩
  have e:=a8y ws ss m m (Γi _)
  have tv:=c4q (t:=m) (hw.take (m+1)) (hs.take m) (by rw[List.length_take];lia) (by rw[List.length_take];lia) (by lia)
  rw[e] at tv
  refine a3h d (k:=20000) (p:=3) tv (by decide) (by decide) ?_
  simp
  exact k _ ⟨_,rfl⟩
 ·rintro L ⟨x,rfl⟩
  exact q x
theorem c1x (d:Nat){ws ss:List Int}{n:Int}{v:FV}(hv:Lf n v)(h0:0≤n)(hn:n<10000)(hw:Szs ws)(hs:Szs ss)(hl:ss.length+1=ws.length)(h60:ws.length≤60){Q:FV×FV→Prop}(q:∀ v',Q (.bl true,v')):callW tb (d+9) 30 [v,a4z ws ss] Q:=by
 refine a0j (fd:=e0u) rfl rfl ?_
 simp[e0u,e2u,a4z]
 intro dx
 refine a9o (d+7) λl1 l2 l3 a b c=>?_
 simp
 intro dx2
 refine a9o (d+7) λk1 k2 k3 a2 b2 c2=>?_
 simp
 refine⟨by decide,c7u (d+5) a b ?_⟩
 simp
 refine⟨a0q (by lia) (by lia),?_⟩
 refine a2y (I:=λm L=>∃ v' x6 x7 x8 x9 x10,(m=0→Lf n v')∧L=[some v',some (a4z ws ss),some (.tup (ws.map .int)),some (.tup (ss.map .int)),some (stG dx l1 l2 l3 ws ss m),some (stG dx2 k1 k2 k3 ws ss m),x6,x7,x8,x9,x10]) ws.length 0 _ ⟨v,none,none,none,none,none,λ_=>hv,rfl⟩ ?_ ?_
 ·rintro m L K-hm ⟨v',x6,x7,x8,x9,x10,hv',rfl⟩ k
  rw[Nat.zero_add] at hm
  have lw:(ws.take (m+1)).length=m+1:=by rw[List.length_take];lia
  have ls:(ss.take m).length=m:=by rw[List.length_take];lia
  simp
  refine c3f (λg=>?_) (λg=>?_)
  ·obtain⟨t,ht⟩:∃ t,m=t+1:=⟨m-1,by lia⟩
   rw[show ((m:Int)-1)=(t:Int) by lia,a2m (by lia)]
   have hst:∀ u,m=u+1→FV.int (ss.getD t 0)=.int (ss.getD u 0):=λu hu=>by rw[show u=t by lia]
   generalize FV.int (ss.getD t 0)=st at hst ⊢
   refine⟨by decide,?_⟩
   rw[show ((m:Int)+1)=((m+1:Nat):Int) by simp,a6t,a6t,← List.map_take,← List.map_take]
   refine a6b (d+7) (ws:=ws.take (m+1)) (ss:=ss.take m) (by lia) (by lia) (by lia) ?_
   rw[lw,Nat.add_sub_cancel,a8y ws ss m m (Γi _)]
   refine⟨by decide,b6i ?_⟩
   refine⟨isS m (by decide) (by decide) (by decide) (by decide),?_⟩
   rw[a2m hm]
   refine a2x (d+7) a b c h60 hl hm hst ?_
   rw[eq_str,if_pos rfl]
   refine⟨by decide,b2z (d+4) a b c hw hs hl h60 hm λx=>?_⟩
   simp
   refine⟨isS m (by decide) (by decide) (by decide) (by decide),?_⟩
   rw[a2m hm]
   refine c3f (λg=>?_) (λg=>?_)
   ·exact a2x (d+7) a2 b2 c2 h60 hl hm hst (k _ ⟨_,_,_,_,_,_,λz=>by lia,rfl⟩)
   ·exact a2x (d+7) a2 b2 c2 h60 hl hm (λu hu=>by lia) (k _ ⟨_,_,_,_,_,_,λz=>by lia,rfl⟩)
  ·refine⟨by decide,by decide,a2t (d+6) (hv' (by lia)) (by lia) (by decide) (by decide) λu v2 u0 u1 lf2=>?_⟩
   simp
   refine c1b u0 u1 λst _=>?_
   have hst:∀ u,m=u+1→st=.int (ss.getD u 0):=λu hu=>by lia
   clear hv'
   refine⟨by decide,?_⟩
   rw[show ((m:Int)+1)=((m+1:Nat):Int) by simp,a6t,a6t,← List.map_take,← List.map_take]
   refine a6b (d+7) (ws:=ws.take (m+1)) (ss:=ss.take m) (by lia) (by lia) (by lia) ?_
   rw[lw,Nat.add_sub_cancel,a8y ws ss m m (Γi _)]
   refine⟨by decide,b6i ?_⟩
   refine⟨isS m (by decide) (by decide) (by decide) (by decide),?_⟩
   rw[a2m hm]
   refine a2x (d+7) a b c h60 hl hm hst ?_
   rw[eq_str,if_pos rfl]
   refine⟨by decide,b2z (d+4) a b c hw hs hl h60 hm λx=>?_⟩
   simp
   refine⟨isS m (by decide) (by decide) (by decide) (by decide),?_⟩
   rw[a2m hm]
   refine c3f (λg=>?_) (λg=>?_)
   ·exact a2x (d+7) a2 b2 c2 h60 hl hm hst (k _ ⟨_,_,_,_,_,_,λz=>by lia,rfl⟩)
   ·exact a2x (d+7) a2 b2 c2 h60 hl hm (λu hu=>by lia) (k _ ⟨_,_,_,_,_,_,λz=>by lia,rfl⟩)
 ·rintro L ⟨v',x6,x7,x8,x9,x10,hv',rfl⟩
  simp only[Nat.zero_add]
  obtain⟨t,ht⟩:∃ t,ws.length=t+1:=⟨ss.length,by lia⟩
  have tw:ws.take (t+1)=ws:=by rw[← ht,List.take_length]
  have ts:ss.take t=ss:=by rw[show t=ss.length by lia,List.take_length]
  rw[ht]
  simp
  refine⟨isS (t+1) (by decide) (by decide) (by decide) (by decide),a5w (d+7) a2 b2 c2 (by lia) ?_⟩
  refine⟨isS (t+1) (by decide) (by decide) (by decide) (by decide),a5n (d+7) ?_⟩
  refine⟨by decide,a6b (d+7) (by lia) h60 hl ⟨by decide,?_⟩⟩
  rw[tw,ts,show ws.length-1=t by lia]
  refine a3h (d+4) (k:=20000) (p:=3) (c4q hw hs (by lia) (by lia) (by lia)) (by decide) (by decide) ?_
  simp
  refine⟨isS (t+1) (by decide) (by decide) (by decide) (by decide),a5w (d+7) a2 b2 c2 (by lia) ?_⟩
  refine⟨isS (t+1) (by decide) (by decide) (by decide) (by decide),a5n (d+7) ?_⟩
  rw[tw,ts]
  obtain⟨h1,h2,h3,h4⟩:=b4w ws ss t
  exact c4k d ⟨hw,hs,hl,h60,h1,by lia,h2,λx hx=>by have:=h3 x hx;lia⟩ (q _)
theorem law_val (ns:List Int):callW tb 14 33 [.scr ns] λz=>z.1=.bl true:=by
 refine a0j (fd:=e0r) rfl rfl ?_
 simp[e0r,e2r]
 refine⟨by simp[a1d];split<;>lia,?_⟩
 refine a2y (I:=λ_ L=>∃ a b,L=[some (.scr ns),a,b]) _ 0 _ ⟨_,_,rfl⟩ ?_ ?_
 ·rintro k L K - - ⟨a,b,rfl⟩ kk
  simp
  refine c8d 12 ns k λv1 y l1=>?_
  simp
  refine d0u 9 l1 (by lia) (by lia) (by lia) (by lia) λws ss v2 h1 h2 h3 hw hs l2=>?_
  simp
  refine c1x 4 l2 (by lia) (by lia) hw hs h3 h2 λv'=>?_
  simp
  exact kk _ ⟨_,_,rfl⟩
 ·rintro L ⟨a,b,rfl⟩
  simp
  exact c8b 5 rfl
end Kq
end
set_option maxRecDepth 100000
set_option maxHeartbeats 4000000
section
namespace Kq
open PySem PySem.Spec PyProof.Rows L2 PySem.W
def d0:Df:=⟨"is_number",top 8,["thing"],["thing"],[]⟩
def d1:Df:=⟨"is_tuple_of",top 9,["thing","many"],["thing","many"],[]⟩
def d2:Df:=⟨"is_stock",top 11,["thing"],["thing","wholes","changes","pairs"],[]⟩
def d3:Df:=⟨"is_size",top 12,["thing"],["thing"],[]⟩
def d4:Df:=⟨"is_stock_change",top 13,["thing","makes"],["thing","makes","a","b","size"],[]⟩
def d5:Df:=⟨"is_make",top 14,["thing","makes"],["thing","makes"],[]⟩
def d6:Df:=⟨"is_laying",top 15,["stock","thing"],["stock","thing","makes","sizes","make","on"],[]⟩
def d7:Df:=⟨"comes_from_whole",top 16,["laying","make"],["laying","make","on","step"],[]⟩
def d8:Df:=⟨"change_sizes",top 17,["stock"],["stock"],[]⟩
def d9:Df:=⟨"kept_sizes",top 18,["stock","laying"],["stock","laying","sizes"],[]⟩
def d10:Df:=⟨"room",top 19,["stock","laying"],["stock","laying"],[]⟩
def d11:Df:=⟨"way",top 20,["laying","make"],["laying","make","makes","on"],[.imm,.imm,.own]⟩
def d12:Df:=⟨"deep",top 21,["laying","make"],["laying","make"],[]⟩
def d13:Df:=⟨"reads",top 22,["stock","laying"],["stock","laying","sizes"],[]⟩
def d14:Df:=⟨"row_stock",top 24,["row"],["row","wholes","steps"],[]⟩
def d15:Df:=⟨"row_laying",top 25,["row","kept"],["row","kept"],[]⟩
def d16:Df:=⟨"row_room",top 26,["row","kept"],["row","kept"],[]⟩
def d17:Df:=⟨"row_reads",top 27,["row","kept"],["row","kept"],[]⟩
def d18:Df:=⟨"row_deep",top 28,["row","kept"],["row","kept","laying"],[]⟩
def d19:Df:=⟨"stretch_size",top 29,["row","first","end"],["row","first","end","wholes","steps"],[]⟩
def d20:Df:=⟨"within_deep",top 31,["row","most"],["row","most","many"],[]⟩
def d21:Df:=⟨"least_kept",top 32,["row","ends"],["row","ends","many","best","first","found","end","takes","kept"],[.imm,.imm,.imm,.own,.imm,.own]⟩
def d22:Df:=⟨"_law_mix",top 34,["_law_cell","_law_k"],["_law_cell","_law_k","_law_m"],[]⟩
def d23:Df:=⟨"_law_left",top 35,["_law_script","_law_k"],["_law_script","_law_k","_law_cell"],[]⟩
def d24:Df:=⟨"_law_pick",top 36,["_law_left_here","_law_many"],["_law_left_here","_law_many","_law_digit"],[.own]⟩
def d25:Df:=⟨"_law_same",top 37,["_law_found","_law_due"],["_law_found","_law_due"],[]⟩
def d26:Df:=⟨"_law_size",top 38,["_law_left_here","_law_great"],["_law_left_here","_law_great","_law_way_drawn"],[.own]⟩
def d27:Df:=⟨"_law_row",top 39,["_law_left_here","_law_most"],["_law_left_here","_law_most","_law_many","_law_great","_law_wholes"],[.own]⟩
def d28:Df:=⟨"_law_played_row",top 40,["_law_row_here"],["_law_row_here","_law_wholes","_law_steps","_law_kept","_law_since","_law_make"],[.imm,.imm,.imm,.own]⟩
def d29:Df:=⟨"_law_none_yet",top 41,["_law_one"],["_law_one","_law_caught","error"],[.own]⟩
def d30:Df:=⟨"_law_right",top 42,["_law_left_here","_law_row_here"],["_law_left_here","_law_row_here","_law_wholes","_law_steps","_law_one","_law_other","_law_make","_law_step","_law_due","_law_word","_law_turn"],[.own,.imm,.imm,.imm,.own,.own]⟩
def d31:Df:=⟨"_law_asked_again",top 43,["_law_row_here","_law_kept"],["_law_row_here","_law_kept","_law_laid","_law_read","_law_far","_law_takes","_law_make","_law_whole","_law_size_here","_law_stock"],[.imm,.imm,.own,.own,.own]⟩
def d32:Df:=⟨"_law_long",top 44,[],["#","_law_growing","_law_told","_law_found"],[.imm,.own]⟩
def d33:Df:=⟨"law",top 45,["_law_script"],["_law_script","_law_k","_law_left_here"],[.imm,.imm,.own]⟩
def d34:Df:=⟨"__init__",mth 6 0,["self"],["self"],[.own]⟩
def d35:Df:=⟨"grown",mth 6 1,["self","whole","step"],["self","whole","step","make"],[.own]⟩
def d36:Df:=⟨"row_now",mth 6 2,["self"],["self"],[.own]⟩
def d37:Df:=⟨"kept_now",mth 6 3,["self"],["self"],[.own]⟩
def fns:Fns:=⟨[Γe "is_number",Γe "is_tuple_of",Γe "is_stock",Γe "is_size",Γe "is_stock_change",Γe "is_make",Γe "is_laying",Γe "comes_from_whole",Γe "change_sizes",Γe "kept_sizes",Γe "room",Γe "way",Γe "deep",Γe "reads",Γe "row_stock",Γe "row_laying",Γe "row_room",Γe "row_reads",Γe "row_deep",Γe "stretch_size",Γe "within_deep",Γe "least_kept",Γe "_law_mix",Γe "_law_left",Γe "_law_pick",Γe "_law_same",Γe "_law_size",Γe "_law_row",Γe "_law_played_row",Γe "_law_none_yet",Γe "_law_right",Γe "_law_asked_again",Γe "_law_long",Γe "law"],[(Γe "Growing",108,Γe "__init__"),(Γe "Growing",108,Γe "grown"),(Γe "Growing",108,Γe "row_now"),(Γe "Growing",108,Γe "kept_now")],[(108,Γe "wholes"),(108,Γe "steps"),(108,Γe "kept"),(108,Γe "since")]⟩
abbrev DB (d:Df)(fr:Bool)(b:CW→SW):Prop:=∀ (X:Cx)(call:CW) (n:Nat),Good X (d.cc fns) n (spK tb call)→FSs X (d.cc fns) fr (a1i d.st) (b call)
local macro_rules | `(tactic| ac_rfl)=>do
 let g:=Lean.mkIdent `G
 let mut ts:Array (Lean.TSyntax ``Lean.Parser.Tactic.tacticSeq):=#[]
 for r in ("§e1q 03110;fe_var 12210;fe_int 00010;fa_nil 00010;a0p 02010;fr_var 11110;a3b 01010;fs_ret 01010;e0n 16510;d5l 12110;fs_nil 00010;fs_if 03010;fs_set 14310;fe_ix 03110;fe_add 02010;fe_tup 01010;fe_bl 00010;d9y 11110;fe_lst 01010;d9x 00010;d9m 00010;CompOk.mk 05110;fe_isi 15410;fe_len 13210;fb_not 01010;d5q 18710;fe_and 02010;d5n 13210;fe_if 03010;d9q 02110;fe_sub 02010;d3l 17710;fe_one 01010;fe_ixN 13210;d9s 01010;fe_sl 03010;d3g 11010;fb_in2 13010;ff_lst 01010;fe_mul 02010;fb_gt 02010;fe_str 00010;fe_eq 12010;d9t 00010;fe_app 15410;fe_pow 02010;fe_all 13210;d9n 14310;fe_mod 02010;fw_or1 01010;fw_or 02010;d9l 01010;fw_and 02010;fe_non 00010;fb_isN 01010;fb_ne 12010;d3h 15510;fe_neg 01010;d5p 19810;fn_own 04210;d2y 13310;d3k 16510;d3i 14410;fe_not 01010;fe_ge 02010;e1n 01010;e0d 13210;e0f 15310;fe_abs 13210;d5o 13210;fs_ix 15310;e0l 02010;fb_eq 12010;e1o 01010;e0b 02010;d2z 15410;fe_lt 12010;fe_ne 12010;e0i 14010;e0m 12010;fs_whl 02010;e0a 13210;e0c 13210;e0h 13210;d5m 02010;fe_dgN 13210;e0e 13210;d9r 15310;e0k 14310;fb_lt 12010;e0j 16510;d9p 14210;d5k 14210;fe_in2 13010;fn_nil 00010;fn_imm 04210;d5j 14210;e0g 13210;d9z 16510;d5r 14410;d3j 14410;d3a 14310;fe_fld 13310;fb_le 12010;e1p 13310;fs_nev 00010;fs_tup 14210;d9o 01010;fr_of 01010;fb_val 02110;fb_w 01010;fi_rng 13200;fi_seq 01000;d9w 13200;fi_zip 15300;d9u 15300;d9v 13200;fe_int 00000;fe_str 00000;fe_bl 00000;fe_non 00000".drop 1).toString.splitOn ";" do
  let [n,c]:=r.splitOn " " | continue
  let [a,k,s,w,e]:=c.toList.map λx=>x.toNat-48|continue
  let f:=Lean.mkIdent n.toName
  let mut as:Array Lean.Term:=if a=1 then #[g] else #[]
  for _ in [0:k] do as:=as.push (← `(?_))
  let mut t ← if as.isEmpty then `(tactic| exact $f) else `(tactic| refine $f $as*)
  if w=1 then t ← `(tactic| with_reducible $t:tactic)
  if e=1 then t ← `(tactic| ((with_reducible refine a4a ?_); $t:tactic))
  for _ in [0:s] do t ← `(tactic| (($t:tactic); first | decide +kernel | rfl))
  ts:=ts.push (← `(Lean.Parser.Tactic.tacticSeq| $t:tactic))
 ts:=ts.push (← `(Lean.Parser.Tactic.tacticSeq| first | decide +kernel))
 `(tactic| repeat' first $[| $ts]*)
local macro_rules | `(tactic| ac_nf)=>do
 let g:=Lean.mkIdent `G
 `(tactic| (intro _ $g:ident; ac_rfl))
local macro_rules | `(tactic| eq_refl)=>do
 let g:=Lean.mkIdent `G
 `(tactic| (intro $g:ident; ac_rfl))
local macro_rules | `(tactic| exists $e)=>`(tactic| (refine $e; ac_rfl))
local macro_rules | `(tactic| exists $e,$g:ident)=>`(tactic| (intro X call n $g:ident; refine $e; ac_rfl))
abbrev PXt:Cx→Prop:=TryX 108 37 "row_now" "wholes" "KeepError" "NoMake" "ValueError" "BadRow" "Loop" "ValueError"
theorem db0:DB d0 false bd0:=by
 delta bd0
 exists a3b ?_,G
theorem db1:DB d1 false bd1:=by
 delta bd1
 exists a3b ?_,G
theorem db2:DB d2 false bd2:=by
 exists a0p ?_ ?_,G
 exists a4a (a1r G (own:=["size"]) (md':=[]) ?_)
 ac_nf
 ac_nf
 ac_nf
 exists a4a (a1r G (own:=["change"]) (md':=[]) ?_)
 ac_nf
 ac_nf
 ac_nf
 exists b9p G (own:=["change"]) (md':=[]) ?_ ?_ ?_
 ac_nf
 ac_nf
 ac_nf
 exists a4a (a1r G (own:=["ahead","behind"]) (md':=[]) ?_)
 ac_nf
 ac_nf
 ac_nf
theorem db3:DB d3 false bd3:=by
 delta bd3
 exists a3b ?_,G
theorem db4:DB d4 false bd4:=by
 exists a0p ?_ ?_,G
theorem db5:DB d5 false bd5:=by
 delta bd5
 exists a3b ?_,G
theorem db6:DB d6 false bd6:=by
 exists a0p ?_ ?_,G
 exists a4q G (md':=[]) ?_ ?_ ?_ ?_
 eq_refl
 exists a4a (a1r G (own:=["make"]) (md':=[]) ?_)
 ac_nf
 ac_nf
 ac_nf
theorem db7:DB d7 false bd7:=by
 exists a0p ?_ ?_,G
 exists a4q G (md':=[]) ?_ ?_ ?_ ?_
 eq_refl
theorem db8:DB d8 false bd8:=by
 delta bd8
 exists a3b ?_,G
 exists c3s G (own:=["a","b","size"]) (md':=[]) ?_ ?_
 ac_nf
 ac_nf
 ac_nf
 ac_nf
theorem db9:DB d9 false bd9:=by
 exists a0p ?_ ?_,G
 exists a4a (a1r G (own:=["make","on"]) (md':=[]) ?_)
 ac_nf
 ac_nf
 ac_nf
theorem db10:DB d10 false d6i:=by
 delta d6i
 exists a3b ?_,G
theorem db11:DB d11 false e3g:=by
 exists a0p ?_ ?_,G
theorem db12:DB d12 false d6h:=by
 delta d6h
 exists a3b ?_,G
theorem db13:DB d13 false e3f:=by
 exists a0p ?_ ?_,G
 exists a4a (a1r G (own:=["make"]) (md':=[]) ?_)
 ac_nf
 ac_nf
 ac_nf
 exists a4a (a1r G (own:=["passed"]) (md':=[]) ?_)
 ac_nf
 ac_nf
 ac_nf
theorem db14:DB d14 false e3e:=by
 exists a0p ?_ ?_,G
 exists a4a (a1r G (own:=["make","size"]) (md':=[]) ?_)
 ac_nf
 ac_nf
 ac_nf
theorem db15:DB d15 false d6g:=by
 delta d6g
 exists a3b ?_,G
 exists a4a (a1r G (own:=["make"]) (md':=[]) ?_)
 ac_nf
 ac_nf
 ac_nf
theorem db16:DB d16 false d6f:=by
 delta d6f
 exists a3b ?_,G
theorem db17:DB d17 false d6e:=by
 delta d6e
 exists a3b ?_,G
theorem db18:DB d18 false e3d:=by
 exists a0p ?_ ?_,G
 exists a4a (a1r G (own:=["make"]) (md':=[]) ?_)
 ac_nf
 ac_nf
 ac_nf
theorem db19:DB d19 false e3c:=by
 exists a0p ?_ ?_,G
theorem db20:DB d20 false e3b:=by
 exists a0p ?_ ?_,G
 exists a4a (a1r G (own:=["first"]) (md':=[]) ?_)
 ac_nf
 ac_nf
 ac_nf
theorem db21:DB d21 false e3a:=by
 exists a0p ?_ ?_,G
 exists a4q G (md':=[.imm,.imm,.imm,.own,.imm,.own]) ?_ ?_ ?_ ?_
 eq_refl
 exists a4q G (md':=[.imm,.imm,.imm,.own,.imm,.own]) ?_ ?_ ?_ ?_
 eq_refl
theorem db22:DB d22 false e2z:=by
 exists a0p ?_ ?_,G
theorem db23:DB d23 true e2y:=by
 exists a0p ?_ ?_,G
theorem db24:DB d24 false d6d:=by
 exists a0p ?_ ?_,G
theorem db25:DB d25 false c9x:=by
 exists a0p ?_ ?_,G
 exists a4a (a1r G (own:=["_law_one","_law_other"]) (md':=[]) ?_)
 ac_nf
 ac_nf
 ac_nf
theorem db26:DB d26 false e2x:=by
 exists a0p ?_ ?_,G
theorem db27:DB d27 false e2w:=by
 exists a0p ?_ ?_,G
 exists a4a (a1r G (own:=["_law_k"]) (md':=[.own]) ?_)
 ac_nf
 ac_nf
 ac_nf
 exists a4a (a1r G (own:=["_law_k"]) (md':=[.own]) ?_)
 ac_nf
 ac_nf
 ac_nf
theorem db28:DB d28 false e2v:=by
 exists a0p ?_ ?_,G
 exists a4q G (md':=[.imm,.imm,.imm,.own]) ?_ ?_ ?_ ?_
 eq_refl
theorem db29:∀ (X:Cx)(call:CW) (n:Nat),PXt X→Good X (d29.cc fns) (n+1) (spK tb call)→FSs X (d29.cc fns) false (a1i d29.st) (d6c call):=by
 intro X call n Z G
 delta d6c
 refine a0p ?_ (d2x Z G ?_ ?_ ?_ ?_ ?_ ?_ ?_ ?_ ?_ ?_ (a3b ?_))
 ·ac_rfl
 all_goals first|decide +kernel|exact rfl|ac_rfl
theorem db30:DB d30 false e2u:=by
 exists a0p ?_ ?_,G
 exists a4q G (md':=[.own,.imm,.imm,.imm,.own,.own]) ?_ ?_ ?_ ?_
 eq_refl
 exists a4q G (md':=[.own,.imm,.imm,.imm,.own,.own]) ?_ ?_ ?_ ?_
 eq_refl
theorem db31:DB d31 false e2t:=by
 exists a0p ?_ ?_,G
 exists a4q G (md':=[.imm,.imm,.own,.own,.own]) ?_ ?_ ?_ ?_
 eq_refl
theorem db32:DB d32 false e2s:=by
 exists a0p ?_ ?_,G
 exists b9p G (own:=["_law_k"]) (md':=[.imm,.own]) ?_ ?_ ?_
 ac_nf
 ac_nf
 ac_nf
theorem db33:DB d33 false e2r:=by
 exists a0p ?_ ?_,G
 exists a4q G (md':=[.imm,.imm,.own]) ?_ ?_ ?_ ?_
 eq_refl
theorem db34:DB d34 false e2q:=by
 exists a0p ?_ ?_,G
theorem db35:DB d35 false d6b:=by
 exists a0p ?_ ?_,G
theorem db36:DB d36 false e2p:=by
 exists a0p ?_ ?_,G
theorem db37:DB d37 false d6a:=by
 delta d6a
 exists a3b ?_,G
def rc (d:Df):DefRec:=⟨Γe d.name,a4c d.st,a1i d.st,a0o d.st,d3z d.st⟩
def recs:List DefRec:=[rc d0,rc d1,rc d2,rc d3,rc d4,rc d5,rc d6,rc d7,rc d8,rc d9,rc d10,rc d11,rc d12,rc d13,rc d14,rc d15,rc d16,rc d17,rc d18,rc d19,rc d20,rc d21,rc d22,rc d23,rc d24,rc d25,rc d26,rc d27,rc d28,rc d29,rc d30,rc d31,rc d32,rc d33]
theorem recs_eq:recs=recsOf view:=by kernel_rfl!
def PD (K:Frag)(mg:Str→Option Value) (i:Nat)(x:Str):Prop:=∃ df fd fa fdd,tb[i]?=some fd∧Df.ok df fd.np fd.ns fd.io=true∧(∀ X call n,PXt X→Good X (df.cc fns) (n+1) (spK tb call)→FSs X (df.cc fns) fd.fr (a1i df.st) (fd.body call))∧Fun K (Γe df.name) (Γe df.name) df.st fa fdd∧mg x=some (.ref fa)∧Binds K fdd df.ps []
local macro_rules | `(tactic| exists $d,$b,$j,$u)=>`(tactic| (refine And.intro (have ⟨fa,fd,m,F⟩:=DIn.fn (by assumption) ((by assumption:∀ d∈recs,DIn _ _ d) (rc $d) (List.mem_of_getElem? (i:=$j) rfl)); ⟨$d,_,fa,fd,rfl,by decide +kernel,$b,F,m,F.binds fun _ _ _ _ _ _ us hl=>$u (P:=fun us=>bindArgs _ ⟨us,[]⟩=pure (List.zip _ us)) hl (by intros; first | kernel_rfl! | rfl)⟩) ?_))
theorem e1v {K:Frag}{h:Heap}{mg:Str→Option Value}(A:AllIn K h)(D:∀ d∈recs,DIn K mg d):EachI (PD K mg) 0 fns.f:=by
 exists d0,(ux db0),0,us1
 exists d1,(ux db1),1,us2
 exists d2,(ux db2),2,us1
 exists d3,(ux db3),3,us1
 exists d4,(ux db4),4,us2
 exists d5,(ux db5),5,us2
 exists d6,(ux db6),6,us2
 exists d7,(ux db7),7,us2
 exists d8,(ux db8),8,us1
 exists d9,(ux db9),9,us2
 exists d10,(ux db10),10,us2
 exists d11,(ux db11),11,us2
 exists d12,(ux db12),12,us2
 exists d13,(ux db13),13,us2
 exists d14,(ux db14),14,us1
 exists d15,(ux db15),15,us2
 exists d16,(ux db16),16,us2
 exists d17,(ux db17),17,us2
 exists d18,(ux db18),18,us2
 exists d19,(ux db19),19,us3
 exists d20,(ux db20),20,us2
 exists d21,(ux db21),21,us2
 exists d22,(ux db22),22,us2
 exists d23,(ux db23),23,us2
 exists d24,(ux db24),24,us2
 exists d25,(ux db25),25,us2
 exists d26,(ux db26),26,us2
 exists d27,(ux db27),27,us2
 exists d28,(ux db28),28,us1
 exists d29,db29,29,us1
 exists d30,(ux db30),30,us2
 exists d31,(ux db31),31,us2
 exists d32,(ux db32),32,us0
 exists d33,(ux db33),33,us1
 trivial
def PM (K:Frag)(mg:Str→Option Value) (i:Nat)(x:Str×Addr×Str):Prop:=∃ df fd fa fdd nm qu,tb[fns.f.length+i]?=some fd∧Df.ok df fd.np fd.ns fd.io=true∧(∀ X call n,PXt X→Good X (df.cc fns) (n+1) (spK tb call)→FSs X (df.cc fns) fd.fr (a1i df.st) (fd.body call))∧Fun K nm qu df.st fa fdd∧mg x.1=some (.ref x.2.1)∧Cls K x.2.1∧(x.2.2=("__init__":Str)→Mk K x.2.1 fa)∧(x.2.2≠("__init__":Str)→Meth K x.2.1 x.2.2 fa)∧Binds K fdd df.ps []
theorem e_ms {K:Frag}{mg:Str→Option Value}(CS:∀ c∈css,CF K mg c)(VS:∀ p∈vws,VF K p):EachI (PM K mg) 0 fns.ms:=by
 refine And.intro (have ⟨fdd,F⟩:=VS _ (List.mem_of_getElem? (i:=0) rfl);have T:=CS _ (List.mem_of_getElem? (i:=0) rfl);have M:=T.ms _ (List.mem_of_getElem? (i:=0) rfl);⟨d34,_,_,fdd,_,_,rfl,by decide +kernel,(ux db34),F,T.mg,T.cl,λ_=>⟨T.mks,M.1,M.2.1,T.kp⟩,λz=>absurd rfl z,F.binds λ_ _ _ _ _ _ us hl=>us1 (P:=λus=>bindArgs _ ⟨us,[]⟩=pure (List.zip _ us)) hl (by intros;first|kernel_rfl!|rfl)⟩) ?_
 refine And.intro (have ⟨fdd,F⟩:=VS _ (List.mem_of_getElem? (i:=1) rfl);have T:=CS _ (List.mem_of_getElem? (i:=0) rfl);have M:=T.ms _ (List.mem_of_getElem? (i:=1) rfl);⟨d35,_,_,fdd,_,_,rfl,by decide +kernel,(ux db35),F,T.mg,T.cl,λz=>absurd z (by decide +kernel),λ_=>⟨M.1,M.2.1,M.2.2.1⟩,F.binds λ_ _ _ _ _ _ us hl=>us3 (P:=λus=>bindArgs _ ⟨us,[]⟩=pure (List.zip _ us)) hl (by intros;first|kernel_rfl!|rfl)⟩) ?_
 refine And.intro (have ⟨fdd,F⟩:=VS _ (List.mem_of_getElem? (i:=2) rfl);have T:=CS _ (List.mem_of_getElem? (i:=0) rfl);have M:=T.ms _ (List.mem_of_getElem? (i:=2) rfl);⟨d36,_,_,fdd,_,_,rfl,by decide +kernel,(ux db36),F,T.mg,T.cl,λz=>absurd z (by decide +kernel),λ_=>⟨M.1,M.2.1,M.2.2.1⟩,F.binds λ_ _ _ _ _ _ us hl=>us1 (P:=λus=>bindArgs _ ⟨us,[]⟩=pure (List.zip _ us)) hl (by intros;first|kernel_rfl!|rfl)⟩) ?_
 refine And.intro (have ⟨fdd,F⟩:=VS _ (List.mem_of_getElem? (i:=3) rfl);have T:=CS _ (List.mem_of_getElem? (i:=0) rfl);have M:=T.ms _ (List.mem_of_getElem? (i:=3) rfl);⟨d37,_,_,fdd,_,_,rfl,by decide +kernel,(ux db37),F,T.mg,T.cl,λz=>absurd z (by decide +kernel),λ_=>⟨M.1,M.2.1,M.2.2.1⟩,F.binds λ_ _ _ _ _ _ us hl=>us1 (P:=λus=>bindArgs _ ⟨us,[]⟩=pure (List.zip _ us)) hl (by intros;first|kernel_rfl!|rfl)⟩) ?_
 trivial
theorem e_fl {K:Frag}{mg:Str→Option Value}(CS:∀ c∈css,CF K mg c):∀ p∈fns.fl,Cls K p.1∧NoAttr K p.1 p.2:=by
 have h:∀ p∈fns.fl,∃ c∈css,c.a=p.1∧p.2∈c.fl:=by nofun
 intro p hp
 obtain⟨c,hc,e,hf⟩:=h p hp
 have T:=CS c hc
 exact⟨e ▸ T.cl,e ▸ T.fl _ hf⟩
theorem law_fn (w:World)(K:Frag)(mg:Str→Option Value)(fa:Addr)(h:Heap)(A:AllIn K h)(D:∀ d∈recs,DIn K mg d)(CS:∀ c∈css,CF K mg c)(VS:∀ p∈vws,VF K p)(blt:∀ b∈bltNames,mg (Γe b)=none)(hm:mg (Γe "law")=some (.ref fa)) :
  ∃ fd:FuncData,(∀ (s:Shared)(u:Value),BindsTo s fd ⟨[u],[]⟩ [(Γe "_law_script",u)])∧∀ base:Heap,FnOk PySem.Challenge.pw_keepwhole_k40_rows_that_grow w K mg base CX0 15 fa fd [Γe "_law_script"] (spT K tb (callW tb 14) 33):=by
 obtain⟨fa2,fd,m,F⟩:=DIn.fn A (D (rc d33) (List.mem_of_getElem? (i:=33) rfl))
 have e:=hm.symm.trans m
 cases e
 have E:∀ (f:Nat)(x:Str),fns.f[f]?=some x→PD K mg f x:=λf x hx=>by
  have:=EachI.get (e1v A D) f x hx
  rwa [Nat.zero_add] at this
 have EM:∀ (k:Nat)(c:Str)(Ca:Addr)(m:Str),fns.ms[k]?=some (c,Ca,m)→PM K mg k (c,Ca,m):=λk c Ca m hx=>by
  have:=EachI.get (e_ms CS VS) k _ hx
  rwa [Nat.zero_add] at this
 have FL:=e_fl CS
 refine⟨fd,?_,λbase=>?_⟩
 ·obtain⟨oc,od,kV,doc,pm,an,cdv,ct,osl,rfl,lk,hcd⟩:=F.ex
  exact λs v=>.of_eq rfl
 ·have T:=CS _ (List.mem_of_getElem? (i:=0) rfl)
  have tf:TryF K mg 37 "KeepError" "NoMake" "ValueError" "BadRow" "Loop" "ValueError":=TryF.of T.x
  obtain⟨fdd,FR⟩:=VS _ (List.mem_of_getElem? (i:=2) rfl)
  have M:=T.ms _ (List.mem_of_getElem? (i:=2) rfl)
  have hP:∀ N qu sc f cd A outer s H E,PXt (b6c CX0 PySem.Challenge.pw_keepwhole_k40_rows_that_grow w K mg base N qu sc f cd A outer s H E):=λN qu sc f cd A outer s H E=>⟨⟨rfl,rfl⟩,tf,_,fdd,d36.ps,T.cl,⟨M.1,M.2.1,M.2.2.1⟩,FR.binds λ_ _ _ _ _ _ us hl=>us1 (P:=λus=>bindArgs _ ⟨us,[]⟩=pure (List.zip _ us)) hl (by intros;first|kernel_rfl!|rfl),c2a (Cn:=37) FR (Df.sc (d:=d36) (np:=fd36.np) (ns:=fd36.ns) (io:=fd36.io) (by decide +kernel)).1 (by decide +kernel) (by decide +kernel) rfl (by decide +kernel) (by decide +kernel) (by decide +kernel) tf.a tf.e T.cl (T.fl _ (by decide +kernel))⟩
  obtain⟨R1,R2⟩:=b4p (P:=PySem.Challenge.pw_keepwhole_k40_rows_that_grow) (w:=w) (base:=base) hP blt FL E EM 13
  exact a9q (df:=d33) hP F rfl (by nofun) (ux db33) R1 blt R2 FL
end Kq
end
set_option maxHeartbeats 0
section
open PySem PySem.W PyProof.Rows
theorem Kq.said : PySem.Challenge.rw_keepwhole_k40_rows_that_grow.wellSaid = true := by nofun



theorem Kq.freeAll : (Kq.bltNames.all fun b => Kq.freeIn Kq.view (looseW Kq.view []) (Str.ofString b)) = true := by nofun
theorem Kq.hdef : defOf Kq.view PySem.Challenge.rw_keepwhole_k40_rows_that_grow.name = some (Kq.rc Kq.d33, []) := by kernel_rfl!
theorem Kq.hp : PySem.Challenge.rw_keepwhole_k40_rows_that_grow.prog.theDef PySem.Challenge.rw_keepwhole_k40_rows_that_grow.name = some ((Kq.rc Kq.d33).params, (Kq.rc Kq.d33).body, (Kq.rc Kq.d33).scope) := by kernel_rfl!
theorem Kq.okq : (chainsOk Kq.view && opensWell PySem.Challenge.rw_keepwhole_k40_rows_that_grow.prog && (frees PySem.Challenge.rw_keepwhole_k40_rows_that_grow.row.toRowW && PySem.Challenge.rw_keepwhole_k40_rows_that_grow.row.within.isEmpty)) = true := by nofun
theorem Kq.prom : PySem.Challenge.rw_keepwhole_k40_rows_that_grow.row.toRowW.promised := ⟨[.list []], by nofun, by nofun⟩
theorem PySem.Challenge.cw_keepwhole_k40_rows_that_grow_holds : PySem.Challenge.rw_keepwhole_k40_rows_that_grow.Holds :=
  Kq.row_holdsC Kq.said Kq.left Kq.hdef Kq.hp rfl rfl Kq.okq ⟨rfl, rfl, rfl, rfl, rfl, by nofun⟩ Kq.prom (Kq.walkC (n := 63) (k := 15) (ds := Kq.recs) (x := Str.ofString "_law_script") (sp := fun K => Kq.spT K Kq.tb (Kq.callW Kq.tb 14) 33) rfl (by decide) rfl ⟨rfl, by decide, by decide, rfl⟩ Kq.recs_eq Kq.freeAll (by nofun) Kq.law_fn fun _ _ a ns hl hO hS => Kq.law_sp rfl rfl rfl hO hS (Kq.law_val ns))
end
